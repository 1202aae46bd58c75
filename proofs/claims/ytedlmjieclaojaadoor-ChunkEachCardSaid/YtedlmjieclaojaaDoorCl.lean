/- Pack. -/
import Derived.Test.YtedlmjieclaojaaDoorCk
namespace Go.Proofs.YtedlmjieclaojaaDoor
open Go.RowKit

/-- Do the times rise? -/
def rsF : Trl → List Smp → Bool
  | _, [] => true
  | r, x :: l => (decide (r.n = 0) || decide (r.tm < x.t)) && rsF (nxt r x) l
def rsB (l : List Smp) : Bool := rsF t0 l
theorem rsF_app (l m : List Smp) : ∀ r, rsF r (l ++ m) = (rsF r l && rsF (fin r l) m) := by
  induction l with
  | nil => intro r; simp [rsF, fin]
  | cons x l ih =>
    intro r
    show ((decide (r.n = 0) || decide (r.tm < x.t)) && rsF (nxt r x) (l ++ m)) = (((decide (r.n = 0) || decide (r.tm < x.t)) && rsF (nxt r x) l) && rsF (fin (nxt r x) l) m)
    rw [ih, Bool.and_assoc]
theorem rsB_snoc (l : List Smp) (x : Smp) : rsB (l ++ [x]) = (rsB l && (decide (l.length = 0) || decide ((fin t0 l).tm < x.t))) := by
  unfold rsB
  rw [rsF_app]
  simp [rsF, fin_len]
theorem rsB_take (l : List Smp) (k : Nat) (h : rsB l = true) : rsB (l.take k) = true := by
  unfold rsB at *
  rw [← List.take_append_drop k l, rsF_app] at h
  exact (Bool.and_eq_true_iff.1 h).1
theorem fin_tm (l : List Smp) (x : Smp) : (fin t0 (l ++ [x])).tm = x.t := by rw [fin_snoc]; rfl
def pkE (l : List Smp) : Int := if 100000 < l.length then 1 else if rsB l = true then 0 else 170
def pkB (l : List Smp) : List Int := if pkE l = 0 then pk (frm l) else []
/-- Samples in memory. -/
def Sm (w : World) (a : Option Addr) (l : List Smp) : Prop := l = [] ∨ ∃ g o, a = some ⟨g, o, none⟩ ∧ g < w.heap.size ∧ ∀ j x, l[j]? = some x → w.cell? ⟨g, o + j * 3, none⟩ = some (.int .i64 x.t) ∧ w.cell? ⟨g, o + j * 3 + 1, none⟩ = some (.float .f64 x.v) ∧ w.cell? ⟨g, o + j * 3 + 2, none⟩ = some (.bool x.s)
theorem Sm.below {w w' : World} {a : Option Addr} {l : List Smp} (h : Sm w a l) (hb : Below w.heap.size w w') : Sm w' a l := by
  rcases h with h | ⟨g, o, rfl, hg, h⟩
  · exact .inl h
  · refine .inr ⟨g, o, rfl, Nat.lt_of_lt_of_le hg hb.size, fun j x hj => ?_⟩
    obtain ⟨h1, h2, h3⟩ := h j x hj
    exact ⟨bcell2 hb h1, bcell2 hb h2, bcell2 hb h3⟩
/-- What Pack answers. -/
def PkR (l : List Smp) (w : World) (e : Ending) (w' : World) : Prop := ∃ v, e = .returned (.tuple #[v, .int .i64 (pkE l)]) ∧ w'.ownsRow w.heap.size 5 1 v (pkB l).length (bc (pkB l)) ∧ Below w.heap.size w w'
theorem PkR.no {l : List Smp} {w w' : World} (b : Below w.heap.size w w') (h : pkE l ≠ 0) : PkR l w (.returned (.tuple #[.slice none 0 0, .int .i64 (pkE l)])) w' := by
  refine ⟨_, rfl, ?_, b⟩
  unfold pkB
  rw [if_neg h]
  exact World.ownsRow_nil _ _ _ _
theorem pk_base {S B : Nat} {v : Value} {l : List Smp} {w w1 w2 : World} (h : Hd S w1 B v l) (k : Kp (Mv B v) w1 w2) (hS : w.heap.size = S) (b : Below w.heap.size w w1) : Below w.heap.size w w2 := by
  refine b.trans (k.below b.size ?_)
  have := h.pk.SB
  rintro i hi (e | e)
  · omega
  · have := (h.pk.stm.base i e).1; omega
theorem run_store_float {P : Program} (a : Addr) (m : Mode) (x : Nat) (w : World) : (store a (.float .f64 x) m).run P w = stored P w a (.float .f64 x) m := run_store P w a _ m rfl
set_option maxHeartbeats 2000000 in
set_option maxRecDepth 100000 in
theorem pack_any (a : Option Addr) (c : Nat) (l : List Smp) (w : World) (hm : Sm w a l) (hok : ∀ x ∈ l, Sok x) (hs : Scl w) (ht : Tab w) (hc : l.length ≤ 140737488355328) :
    Calls Tryd.prog 11 #[.slice a l.length c] w (PkR l w) := by
  by_cases hbig : 100000 < l.length
  · have hb : (100000 : Int) < (l.length : Int) := by omega
    have he : pkE l = 1 := by unfold pkE; rw [if_pos hbig]
    have HR : Hid (PkR l w (.returned (.tuple #[.slice none 0 0, .int .i64 1])) w) := by
      have := PkR.no (l := l) (Below.refl w.heap.size w) (by rw [he]; decide)
      rw [he] at this
      exact this
    clear he hbig hm hok hs ht
    generalize l.length = n at *
    go_enter Tryd.func11, Tryd.ntmps11
    go_wp2
    go_ret2
    exact HR.out
  · have hb : ¬ (100000 : Int) < (l.length : Int) := by omega
    have k := new_any w (by have := ht.1; omega)
    have HM : Hid (Sm w a l) := hm
    have HOK : Hid (∀ x ∈ l, Sok x) := hok
    have HS : Hid (Scl w) := hs
    have HT : Hid (Tab w) := ht
    have HNO : Hid (∀ w', Below w.heap.size w w' → rsB l = false → PkR l w (.returned (.tuple #[.slice none 0 0, .int .i64 170])) w') := fun w' b h => by
      have he : pkE l = 170 := by unfold pkE; rw [if_neg hbig, if_neg (by rw [h]; decide)]
      have := PkR.no (l := l) b (by rw [he]; decide)
      rw [he] at this
      exact this
    have HYES : Hid (∀ (e : Ending) (w' : World), Below w.heap.size w w' → rsB l = true → (∃ g c, e = .returned (.slice (some ⟨g, 0, none⟩) (pk (frm l)).length c) ∧ w'.ownsRow w.heap.size 5 1 (.slice (some ⟨g, 0, none⟩) (pk (frm l)).length c) (pk (frm l)).length (bc (pk (frm l)))) → ∃ v, e = .returned v ∧ PkR l w (.returned (.tuple #[v, .int .i64 0])) w') := fun e w' b h h2 => by
      have he : pkE l = 0 := by unfold pkE; rw [if_neg hbig, if_pos h]
      have hB : pkB l = pk (frm l) := by unfold pkB; rw [if_pos he]
      obtain ⟨g, c, rfl, o⟩ := h2
      refine ⟨_, rfl, ⟨_, by rw [he], ?_, b⟩⟩
      rw [hB]; exact o
    clear hm hok hs ht
    obtain ⟨n, hn⟩ : ∃ n, n = l.length := ⟨_, rfl⟩
    have HN : Hid (n = l.length) := hn
    rw [← hn] at hb hbig hc ⊢
    clear hn
    go_enter Tryd.func11, Tryd.ntmps11
    go_wp2_with fail
    go_fit k
    rintro e w1 ⟨rfl, v1, hH, hb1⟩
    have HH : Hid (Hd w.heap.size w1 w.heap.size v1 []) := hH
    have HB1 : Hid (Below w.heap.size w w1) := hb1
    clear k hH hb1
    go_wp2_with fail
    go_loopw [14] (fun iv w' => ∃ i : Nat, i ≤ n ∧ iv = .int .i64 (i : Nat) ∧ Hid (∃ v, Hd w.heap.size w' w.heap.size v (l.take i)) ∧ Hid (rsB (l.take i) = true) ∧ Hid (Below w.heap.size w w')) (fun iv _ => n - (RowKit.intOf iv).toNat)
    case atStart => exact ⟨0, Nat.zero_le _, rfl, ⟨v1, HH.out⟩, rfl, HB1⟩
    case round =>
      obtain ⟨i, hi, rfl, hv, hr, hbw⟩ := hrel
      obtain ⟨v2, hH⟩ := hv.out
      clear hv HH HB1
      by_cases hlt : i < n
      · have hii : (i : Int) < (n : Int) := by omega
        obtain ⟨x, hx⟩ : ∃ x, l[i]? = some x := ⟨l[i]'(by have := HN.out; omega), List.getElem?_eq_getElem _⟩
        obtain ⟨g, o, rfl, hg, hcs⟩ : ∃ g o, a = some ⟨g, o, none⟩ ∧ g < w.heap.size ∧ _ := by
          rcases HM.out with h | h
          · have := HN.out; rw [h] at this; simp at this; omega
          · exact h
        obtain ⟨x0, x1, x2⟩ := hcs i x hx
        have y0 := (hbw.out.cell (p := ⟨g, o + i * 3, none⟩) hg).trans x0
        have y1 := (hbw.out.cell (p := ⟨g, o + i * 3 + 1, none⟩) hg).trans x1
        have y2 := (hbw.out.cell (p := ⟨g, o + i * 3 + 2, none⟩) hg).trans x2
        have hsx : Sok x := HOK.out x (List.mem_of_getElem? hx)
        have htk : l.take (i + 1) = l.take i ++ [x] := by rw [List.take_add_one, hx]; rfl
        have hli : (l.take i).length = i := by rw [List.length_take]; have := HN.out; omega
        have hba : Below wr.heap.size wr (wr.alloc (smX x)) := (Below.refl _ _).alloc (Nat.le_refl _) _
        have HBA : Hid (Below w.heap.size w (wr.alloc (smX x))) := hbw.out.trans (hba.mono hbw.out.size)
        have hH2 := hH.below hba
        have hs2 := HS.out.below HBA.out
        have ht2 := HT.out.below HBA.out
        by_cases hbad : 0 < i ∧ x.t ≤ (fin t0 (l.take i)).tm
        · have k := add_order w.heap.size w.heap.size v2 (l.take i) x _ hH2 (by omega) (by omega) hbad.2
          have HNR : Hid (rsB l = false) := by
            show _ = _
            rw [← Bool.not_eq_true]
            intro h
            have := rsB_take l (i + 1) h
            rw [htk, rsB_snoc, hli] at this
            simp at this
            omega
          obtain ⟨t, vv, st⟩ := x
          dsimp only at y0 y1 y2
          have hsf := @run_store_float Tryd.prog
          clear hbad hsx htk hli hH2 hs2 ht2 x0 x1 x2 hcs hx hr hH hba
          go_wp2_with fail
          go_fit k
          rintro e w3 ⟨rfl, b3⟩
          have HR : Hid _ := HNO.out w3 (HBA.out.trans (b3.mono HBA.out.size)) HNR.out
          clear k b3 HNO HYES
          go_wp2
          go_ret2
          exact HR.out
        · have k := add_ok w.heap.size w.heap.size v2 (l.take i) x _ hH2 hs2 ht2 hsx (by omega) (fun h => by rw [hli] at h; omega)
          have HR2 : Hid (rsB (l.take (i + 1)) = true) := by
            show _ = _
            rw [htk, rsB_snoc, hr.out, hli]
            simp
            omega
          have HTK : Hid (l.take (i + 1) = l.take i ++ [x]) := htk
          have HH2 : Hid _ := hH2
          obtain ⟨t, vv, st⟩ := x
          dsimp only at y0 y1 y2
          have hsf := @run_store_float Tryd.prog
          clear hbad hsx htk hli hH2 hs2 ht2 x0 x1 x2 hcs hx hr hH hba
          go_wp2_with fail
          go_fit k
          rintro e w3 ⟨rfl, v3, h3, s3, k3⟩
          have HA : Hid (∃ v, Hd w.heap.size w3 w.heap.size v (l.take (i + 1))) := ⟨v3, by rw [HTK.out]; exact h3⟩
          have HB3 : Hid (Below w.heap.size w w3) := pk_base HH2.out k3 rfl HBA.out
          clear k h3 s3 k3 HH2 HBA HTK y0 y1 y2
          go_wp2
          exact ⟨⟨i + 1, by omega, by go_num, HA, HR2, HB3⟩, by simp [RowKit.intOf]; omega⟩
      · have hii : ¬ (i : Int) < (n : Int) := by omega
        have htk : l.take i = l := List.take_of_length_le (by have := HN.out; omega)
        rw [htk] at hH hr
        have k := bytes_any w.heap.size w.heap.size v2 l wr hH
        clear htk hH
        go_wp2_with fail
        go_fit k
        rintro e w3 ⟨g, c', rfl, o3, b3⟩
        obtain ⟨v, hv, HR⟩ := HYES.out _ w3 (hbw.out.trans (b3.mono hbw.out.size)) hr.out ⟨g, c', rfl, o3.1, o3.2.imp id (fun ⟨g', cap, cur, h1, h2, h3⟩ => ⟨g', cap, cur, h1, Nat.le_trans hbw.out.size h2, h3⟩)⟩
        cases hv
        have HR' : Hid _ := HR
        clear k o3 b3 HR HYES HNO
        go_wp2
        go_ret2
        exact HR'.out
end Go.Proofs.YtedlmjieclaojaaDoor
