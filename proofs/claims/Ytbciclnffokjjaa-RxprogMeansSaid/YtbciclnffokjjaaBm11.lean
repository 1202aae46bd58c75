/- A bundle of texts. -/
import Derived.Test.YtbciclnffokjjaaBm10
/- Trees: length, Size. -/
namespace Go.Proofs.Ytbciclnffokjjaa
open Go.RowKit

theorem ret_int {k : IntKind} {a b : Int} (h : a = b) : Ending.returned (.int k a) = .returned (.int k b) := by rw [h]
theorem mul_bd {a b c d : Int} (h0 : 0 ≤ a) (h1 : a ≤ c) (h2 : 0 ≤ b) (h3 : b ≤ d) : 0 ≤ a * b ∧ a * b ≤ c * d := ⟨Int.mul_nonneg h0 h2, Int.mul_le_mul h1 h3 h2 (by omega)⟩

set_option maxHeartbeats 1000000 in
set_option maxRecDepth 100000 in
theorem repeatLength_any (d : Nd) (n : Int) (w : World) (hk : d.kind = 6) (hn : ndB d = true) (h0 : 0 ≤ n) (h1 : n ≤ 10001) :
    Calls Try.prog 65 #[ndV d, .int .i64 n] w fun e w' => e = .returned (.int .i64 (lenK d n)) ∧ Below w.heap.size w w' := by
  have hr := ndB_rep hn hk
  have HE : Hid (lenK d n = if d.mx = -1 then d.mn * n + n + 2 else d.mn * n + (d.mx - d.mn) * (n + 1)) := by unfold Hid lenK; rw [if_neg (by omega), if_neg (by omega), if_neg (by omega), if_pos hk]
  have HB : Hid (∀ o, Below w.heap.size w (w.alloc o)) := fun o => (Below.refl _ w).alloc (Nat.le_refl _) o
  clear hk hn
  obtain ⟨kind, r, ra, rn, rc, rf, mn, mx, lz, cp, nm, ka, kn, kc⟩ := d
  dsimp only at *
  obtain ⟨hr0, hr1, hr2, hr3⟩ := hr
  have m1 := mul_bd hr1 hr2 h0 h1
  obtain ⟨m1a, m1b⟩ := m1
  by_cases hm : mx = -1
  · have tm : (mx == -1) = true := by simpa using hm
    have HE' : Hid (lenK _ n = _) := HE.out.trans (if_pos hm)
    clear HE hm hr3 hr0
    go_enter Try.func65, Try.ntmps65
    go_wp2
    go_ret
    exact ⟨ret_int HE'.out.symm, HB.out _⟩
  · have tm : (mx == -1) = false := by simpa using hm
    have hx : 0 ≤ mx - mn ∧ mx - mn ≤ 1000 := by omega
    obtain ⟨x0, x1⟩ := hx
    have m2 := mul_bd x0 x1 (show 0 ≤ n + 1 by omega) (show n + 1 ≤ 10002 by omega)
    obtain ⟨m2a, m2b⟩ := m2
    have HE' : Hid (lenK _ n = _) := HE.out.trans (if_neg hm)
    have y0 : 0 ≤ mx := by omega
    have y1 : mx ≤ 1000 := by omega
    clear HE hm hr3 hr0
    go_enter Try.func65, Try.ntmps65
    go_wp2
    go_ret
    exact ⟨ret_int HE'.out.symm, HB.out _⟩

def LenOk (m : Nat) : Prop := ∀ (t : Tr) (w : World), WF m t → Tat w.heap.size w t → Calls Try.prog 42 #[ndV (t [])] w fun e w' => e = .returned (.int .i64 (lenF m t)) ∧ Below w.heap.size w w'
theorem lenF_succ (m : Nat) (t : Tr) : lenF (m + 1) t = min (lenK (t []) (sumN (fun j => lenF m (kid t j)) (t []).kn)) 10001 := rfl

set_option maxHeartbeats 4000000 in
set_option maxRecDepth 100000 in
theorem length_step (m : Nat) (hIH : LenOk m) : LenOk (m + 1) := by
  intro t w hw ht
  obtain ⟨⟨hnd, _⟩, hkn, hkids⟩ := hw
  have hb : Below w.heap.size w (w.alloc (ndX (t []))) := (Below.refl _ w).alloc (Nat.le_refl _) _
  have hc := ndX_cells (w := w) (t []) (Below.refl _ _)
  have HF : Hid (∀ j, j < (t []).kn → 0 ≤ lenF m (kid t j) ∧ lenF m (kid t j) ≤ 10001) := fun j hj => lenF_bd m _ (hkids j hj)
  have HE : Hid (lenF (m + 1) t = _) := lenF_succ m t
  have IH : Hid (LenOk m) := hIH
  have HKD : Hid (∀ j, j < (t []).kn → WF m (kid t j)) := hkids
  have HND : Hid (ndB (t []) = true) := hnd
  obtain ⟨W, hW⟩ : ∃ W, W = w.alloc (ndX (t [])) := ⟨_, rfl⟩
  have HW : Hid (W = w.alloc (ndX (t []))) := hW
  rw [← hW] at hb hc
  have HB : Hid (Below w.heap.size w W) := hb
  have HT : Hid (Tat w.heap.size W t) := ht.below hb
  have HSZ : Hid (w.heap.size ≤ W.heap.size) := hb.size
  have HC : Hid (Cs W w.heap.size 0 (t [])) := hc
  obtain ⟨G, hG⟩ : ∃ G, G = w.heap.size := ⟨_, rfl⟩
  have HG : Hid (G = w.heap.size) := hG
  have HGL : Hid (G < W.heap.size) := by rw [hG]; exact World.block_lt_of_cell? W _ hc.c0
  rw [← hG] at HC HT HB HSZ
  obtain ⟨d, hd⟩ : ∃ d, t [] = d := ⟨_, rfl⟩
  have HD : Hid (t [] = d) := hd
  rw [hd] at HC HW HF HND HE hkn HKD
  rw [hd]
  have e8 := HC.out.c8
  simp only [Nat.zero_add] at e8
  have hknI : (d.kn : Int) ≤ 8194 := by omega
  clear hnd hkids hb hc hW ht hIH hd hG
  obtain ⟨F, hF⟩ : ∃ F : Nat → Int, F = fun j => lenF m (kid t j) := ⟨_, rfl⟩
  have HFJ : Hid (∀ j, lenF m (kid t j) = F j) := fun j => by rw [hF]
  rw [← hF] at HE
  have HFB : Hid (∀ i, i ≤ d.kn → 0 ≤ sumN F i ∧ sumN F i ≤ 100000000) := fun i hi => by
    have := sumN_bd (f := F) (b := 10001) (by omega) i (fun j hj => by rw [← HFJ.out]; exact HF.out j (by omega))
    have h2 : (i : Int) * 10001 ≤ 8194 * 10001 := Int.mul_le_mul_of_nonneg_right (by omega) (by omega)
    omega
  clear hF
  go_enter Try.func42, Try.ntmps42
  go_upto_region 1 with fail
  rw [← HW.out, ← HG.out]
  go_wp2_with fail
  go_loopw [3, 9] (fun nv ivv w' => ∃ i : Nat, ivv = .int .i64 (i : Int) ∧ i ≤ d.kn ∧ nv = .int .i64 (sumN F i) ∧ Hid (Below W.heap.size W w')) (fun _ ivv _ => d.kn - (RowKit.intOf ivv).toNat)
  case atStart => exact ⟨0, rfl, by omega, rfl, Below.refl _ _⟩
  case round =>
    obtain ⟨i, rfl, hi, rfl, hbw⟩ := hrel
    have sb := HFB.out i hi
    obtain ⟨sb0, sb1⟩ := sb
    by_cases hlt : i < d.kn
    · have hii : (i : Int) < d.kn := by omega
      have htr := HT.out.below (hbw.out.mono HSZ.out)
      have hlt' : i < (t []).kn := by rw [HD.out]; exact hlt
      obtain ⟨g1, o1, hka, hg1, hcs⟩ := htr.kids.at i hlt'
      rw [HD.out] at hka
      have hal : Below wr.heap.size wr (wr.alloc (ndX (t [i]))) := (Below.refl _ wr).alloc (Nat.le_refl _) _
      have hz : G ≤ wr.heap.size := Nat.le_trans HSZ.out hbw.out.size
      have kN := IH.out (kid t i) (wr.alloc (ndX (t [i]))) (HKD.out i hlt) (((htr.kid i hlt').below (hal.mono hz)).mono (Nat.le_trans hz hal.size))
      change Calls Try.prog 42 #[ndV (t [i])] (wr.alloc (ndX (t [i]))) _ at kN
      have fb := HF.out i hlt
      rw [HFJ.out] at kN fb
      obtain ⟨fb0, fb1⟩ := fb
      have HSS : Hid (sumN F (i + 1) = sumN F i + F i) := rfl
      have HR : Hid (∀ w2, Below (wr.alloc (ndX (t [i]))).heap.size (wr.alloc (ndX (t [i]))) w2 → Below W.heap.size W w2) := fun w2 b => hbw.out.trans ((hal.trans (b.mono hal.size)).mono hbw.out.size)
      obtain ⟨p0, p1, p2, p3, p4, p5, p6, p7, p8⟩ := hcs
      rw [hka] at *
      generalize t [i] = dk at *
      generalize F i = X at *
      generalize sumN F i = Y at *
      clear htr hal hlt' hka
      go_wp2_with fail
      go_fit kN
      rintro e w5 ⟨rfl, b5⟩
      have B5 : Hid _ := HR.out _ b5
      clear b5
      go_wp2
      exact ⟨⟨i + 1, by go_num, by omega, by rw [HSS.out], B5.out⟩, by simp [RowKit.intOf]; omega⟩
    · have hii : ¬ (i : Int) < d.kn := by omega
      obtain rfl : i = d.kn := by omega
      have hcs := HC.out.kp (M := fun _ => False) (Kp.of hbw.out) id
      obtain ⟨f0, f1, f2, f3, f4, f5, f6, f7, f8⟩ := hcs
      simp only [Nat.zero_add] at f0 f1 f2 f3 f4 f5 f6 f7 f8
      have HBW : Hid (Below w.heap.size w wr) := by rw [← HG.out]; exact HB.out.trans (hbw.out.mono HSZ.out)
      have HY0 : Hid (sumN F d.kn = sumN F d.kn) := rfl
      generalize hY : sumN F d.kn = Y at *
      have HY : Hid (sumN F d.kn = Y) := hY
      have kb := ndB_kind HND.out
      clear hY HY0 e8 hlt hii hi
      by_cases h1 : d.kind = 1
      · have t1 : (d.kind == 1) = true := by simpa using h1
        have HL : Hid (lenK d Y = Y) := by unfold Hid lenK; rw [if_pos (.inl h1)]
        clear h1 kb
        go_wp2
        all_goals go_ret
        all_goals exact ⟨ret_int (by rw [HE.out, HL.out]; omega), HBW.out⟩
      have t1 : (d.kind == 1) = false := by simpa using h1
      by_cases h4 : d.kind = 4
      · have t4 : (d.kind == 4) = true := by simpa using h4
        have HL : Hid (lenK d Y = Y) := by unfold Hid lenK; rw [if_pos (.inr h4)]
        clear h1 h4 kb
        go_wp2
        all_goals go_ret
        all_goals exact ⟨ret_int (by rw [HE.out, HL.out]; omega), HBW.out⟩
      have t4 : (d.kind == 4) = false := by simpa using h4
      by_cases h5 : d.kind = 5
      · have t5 : (d.kind == 5) = true := by simpa using h5
        have HL : Hid (lenK d Y = Y + 2 * ((d.kn : Int) - 1)) := by unfold Hid lenK; rw [if_neg (by omega), if_pos h5]
        have h2 := ndB_row HND.out (.inr h5)
        have h2' : 2 ≤ (d.kn : Int) := by omega
        clear h1 h4 h5 kb h2
        go_wp2
        all_goals go_ret
        all_goals exact ⟨ret_int (by rw [HE.out, HL.out]; omega), HBW.out⟩
      have t5 : (d.kind == 5) = false := by simpa using h5
      by_cases h7 : d.kind = 7
      · have t7 : (d.kind == 7) = true := by simpa using h7
        have HL : Hid (lenK d Y = Y + 2) := by unfold Hid lenK; rw [if_neg (by omega), if_neg h5, if_pos h7]
        clear h1 h4 h5 h7 kb
        go_wp2
        all_goals go_ret
        all_goals exact ⟨ret_int (by rw [HE.out, HL.out]; omega), HBW.out⟩
      have t7 : (d.kind == 7) = false := by simpa using h7
      by_cases h6 : d.kind = 6
      · have t6 : (d.kind == 6) = true := by simpa using h6
        have hY1 : Y ≤ 10001 := by
          have h61 := (ndB_rep HND.out h6).1
          rw [← HY.out, h61, sumN_one, ← HFJ.out]
          exact (HF.out 0 (by omega)).2
        have kR := repeatLength_any d Y wr h6 HND.out sb0 hY1
        clear h1 h4 h5 h7 h6 kb
        go_wp2_with fail
        go_fit kR
        rintro e w6 ⟨rfl, b6⟩
        have HBW : Hid (Below w.heap.size w w6) := HBW.out.trans (b6.mono HBW.out.size)
        clear b6
        generalize lenK d Y = Z at *
        go_wp2
        all_goals go_ret
        all_goals exact ⟨ret_int (by rw [HE.out]; omega), HBW.out⟩
      have t6 : (d.kind == 6) = false := by simpa using h6
      have HL : Hid (lenK d Y = 1) := by unfold Hid lenK; rw [if_neg (by omega), if_neg h5, if_neg h7, if_neg h6]
      clear h1 h4 h5 h7 h6 kb
      go_wp2
      all_goals go_ret
      all_goals exact ⟨ret_int (by rw [HE.out, HL.out]; omega), HBW.out⟩
theorem length_any : ∀ m, LenOk m
  | 0 => fun _ _ h => by cases h
  | m + 1 => length_step m (length_any m)

/-- How many instructions a tree's program has; 0: it isn't valid. -/
def sizF (t : Tr) : Int := if okT t = true then min (lenF 8195 t + 1) 10001 else 0
set_option maxHeartbeats 1000000 in
set_option maxRecDepth 100000 in
theorem size_any (t : Tr) (w : World) (ht : Tat w.heap.size w t) : Calls Try.prog 25 #[ndV (t [])] w fun e w' => e = .returned (.int .i64 (sizF t)) ∧ Below w.heap.size w w' := by
  have hb : Below w.heap.size w (w.alloc (ndX (t []))) := (Below.refl _ w).alloc (Nat.le_refl _) _
  have ht1 : Tat (w.alloc (ndX (t []))).heap.size (w.alloc (ndX (t []))) t := (ht.below hb).mono hb.size
  have kV := valid_any t _ ht1
  have HB : Hid _ := hb
  have hc := ndX_cells (w := w) (t []) (Below.refl _ _)
  cases ho : okT t
  · rw [ho] at kV
    have HE : Hid (sizF t = 0) := by unfold Hid sizF; rw [ho]; rfl
    clear ht ht1 ho hb hc
    generalize t [] = d at *
    go_enter Try.func25, Try.ntmps25
    go_wp2_with fail
    go_fit kV
    rintro e w1 ⟨rfl, b1⟩
    have B1 : Hid _ := HB.out.trans (b1.mono HB.out.size)
    clear b1
    go_wp2
    go_ret
    exact ⟨ret_int HE.out.symm, B1.out⟩
  · rw [ho] at kV
    have hwf := WF_ok ho
    have hl := lenF_bd 8195 t hwf
    have HE : Hid (sizF t = min (lenF 8195 t + 1) 10001) := by unfold Hid sizF; rw [ho]; rfl
    have HL : Hid (∀ w1, Below (w.alloc (ndX (t []))).heap.size (w.alloc (ndX (t []))) w1 → Calls Try.prog 42 #[ndV (t [])] w1 fun e w' => e = .returned (.int .i64 (lenF 8195 t)) ∧ Below w1.heap.size w1 w') := fun w1 b => length_any 8195 t w1 hwf ((ht1.below b).mono b.size)
    have HC : Hid (∀ w1, Below (w.alloc (ndX (t []))).heap.size (w.alloc (ndX (t []))) w1 → Cs w1 w.heap.size 0 (t [])) := fun w1 b => ndX_cells (t []) b
    obtain ⟨hl0, hl1⟩ := hl
    generalize lenF 8195 t = L at *
    clear ht ht1 ho hb hc hwf
    generalize t [] = d at *
    go_enter Try.func25, Try.ntmps25
    go_wp2_with fail
    go_fit kV
    rintro e w1 ⟨rfl, b1⟩
    have B1 : Hid _ := HB.out.trans (b1.mono HB.out.size)
    have kL := HL.out w1 b1
    obtain ⟨f0, f1, f2, f3, f4, f5, f6, f7, f8⟩ := HC.out w1 b1
    simp only [Nat.zero_add] at f0 f1 f2 f3 f4 f5 f6 f7 f8
    clear b1 kV
    go_wp2_with fail
    go_fit kL
    rintro e w2 ⟨rfl, b2⟩
    have B2 : Hid _ := B1.out.trans (b2.mono B1.out.size)
    clear b2 f0 f1 f2 f3 f4 f5 f6 f7 f8
    go_wp2
    all_goals go_ret
    all_goals exact ⟨ret_int (by rw [HE.out]; omega), B2.out⟩
end Go.Proofs.Ytbciclnffokjjaa
/- Code: a coder in memory; put. -/
namespace Go.Proofs.Ytbciclnffokjjaa
open Go.RowKit

/-- An instruction, its ranges told. -/
structure Ia where
  op : Int
  out : Int
  alt : Int
  arg : Int
  rs : List Rg
/-- Ranges that a slice shows in a block that M leaves alone. -/
def Ro (w : World) (M : Nat → Prop) (a : Option Addr) (n : Nat) (rs : List Rg) : Prop := n = rs.length ∧ (n = 0 ∨ ∃ g o, a = some ⟨g, o, none⟩ ∧ g < w.heap.size ∧ ¬ M g ∧ ∀ j x, rs[j]? = some x → w.cell? ⟨g, o + j * 2, none⟩ = some (.int .i32 x.1) ∧ w.cell? ⟨g, o + j * 2 + 1, none⟩ = some (.int .i32 x.2))
theorem Ro.kp {w w' : World} {M N : Nat → Prop} {a : Option Addr} {n : Nat} {rs : List Rg} (h : Ro w M a n rs) (k : Kp M w w') (hN : ∀ i, i < w.heap.size → N i → M i) : Ro w' N a n rs := by
  refine ⟨h.1, ?_⟩
  rcases h.2 with h0 | ⟨g, o, e, hg, hm, hc⟩
  · exact .inl h0
  · exact .inr ⟨g, o, e, Nat.lt_of_lt_of_le hg k.size, fun x => hm (hN g hg x), fun j x hx => ⟨k.cell (hc j x hx).1 hm, k.cell (hc j x hx).2 hm⟩⟩
/-- An instruction in memory is that one. -/
def Ism (w : World) (M : Nat → Prop) (x : In) (i : Ia) : Prop := x.op = i.op ∧ x.out = i.out ∧ x.alt = i.alt ∧ x.arg = i.arg ∧ Ro w M x.ra x.rn i.rs
theorem Ism.kp {w w' : World} {M N : Nat → Prop} {x : In} {i : Ia} (h : Ism w M x i) (k : Kp M w w') (hN : ∀ i, i < w.heap.size → N i → M i) : Ism w' N x i := ⟨h.1, h.2.1, h.2.2.1, h.2.2.2.1, h.2.2.2.2.kp k hN⟩

/-- The blocks of a coder, and those that are another's. -/
def MZ (Z : Nat → Prop) (B : Nat) (v : Value) (k : Nat) : Prop := Mv B v k ∨ Z k
/-- A coder in the block B, its code in a row of its own. -/
structure Cd (Z : Nat → Prop) (S : Nat) (w : World) (B : Nat) (v : Value) (f : Nat → In) (c : List Ia) : Prop where
  c0 : w.cell? ⟨B, 0, none⟩ = some v
  fz : w.frozen? ⟨B, 0, none⟩ = false
  row : w.ownsRow S 29 5 v c.length (n5 f c.length)
  gb : v.ownBlock ≠ some B
  SB : S ≤ B
  rg : ∀ j i, c[j]? = some i → Ism w (MZ Z B v) (f j) i
namespace Cd
variable {Z : Nat → Prop} {S B : Nat} {w w' : World} {v : Value} {f : Nat → In} {c : List Ia}
theorem lt (h : Cd Z S w B v f c) : B < w.heap.size := World.block_lt_of_cell? w _ h.c0
theorem base (h : Cd Z S w B v f c) : ∀ k, Mv B v k → S ≤ k ∧ k < w.heap.size := by
  intro k hk
  rcases hk with rfl | hk
  · exact ⟨h.SB, h.lt⟩
  · rcases h.row.2 with ⟨e', _⟩ | ⟨G, _, _, e', hG, hh, _⟩
    · rw [e'] at hk; cases hk
    · rw [e'] at hk
      have : G = k := Option.some.inj hk
      subst this
      exact ⟨hG, (Array.getElem?_eq_some_iff.1 hh).1⟩
theorem low (h : Cd Z S w B v f c) (hS : S ≤ w.heap.size) (k : Kp (Mv B v) w w') : Below S w w' := k.below hS (fun i hi e => by have := (h.base i e).1; omega)
theorem below (h : Cd Z S w B v f c) (k : Below w.heap.size w w') : Cd Z S w' B v f c := by
  have kk : Kp (fun _ => False) w w' := Kp.of k
  refine ⟨kk.cell h.c0 id, kk.frozen h.c0 h.fz id, kk.row h.row (fun _ _ => id), h.gb, h.SB, fun j i hj => ?_⟩
  exact (h.rg j i hj).kp (Kp.of k) (fun _ _ e => e)
theorem form (h : Cd Z S w B v f c) : ∃ a cc, v = .slice a c.length cc := by
  rcases h.row.2 with ⟨e, e2⟩ | ⟨g, cc, cur, e, _⟩
  · exact ⟨none, 0, by rw [e, e2]⟩
  · exact ⟨_, cc, e⟩
end Cd
abbrev iX (op out alt arg : Int) (a : Option Addr) (n cc : Nat) : Obj := .cells #[.int .i64 op, .int .i64 out, .int .i64 alt, .int .i64 arg, .slice a n cc] 29
theorem n5_push (f : Nat → In) (n : Nat) (x : In) : n5 (up f n x) (n + 1) = n5 f n ++ i5 x := by
  rw [n5_succ, up_same]
  congr 1
  exact n5_congr _ _ n (fun j hj => up_other _ _ _ _ (by omega))
/-- One instruction more. -/
theorem append_n (w : World) (S : Nat) (v : Value) (n : Nat) (f : Nat → In) (x : In) (hS : S ≤ w.heap.size) (hn : (n + 1) * 56 ≤ 140737488355328) (o : w.ownsRow S 29 5 v n (n5 f n)) :
    ∃ g c w', (Builtin.append_ #[22, 22] 22 #[v, .slice (some ⟨w.heap.size, 0, none⟩) 1 1]).run Try.prog (w.alloc (iX x.op x.out x.alt x.arg x.ra x.rn x.rc)) = .ok (.slice (some ⟨g, 0, none⟩) (n + 1) c) w' ∧ w'.ownsRow S 29 5 (.slice (some ⟨g, 0, none⟩) (n + 1) c) (n + 1) (n5 (up f n x) (n + 1)) ∧ Kp (fun k => v.ownBlock = some k) w w' ∧ (v.ownBlock = some g ∨ w.heap.size ≤ g) := by
  obtain ⟨i0, hi, hz0, hz1, hz2⟩ := info_parts infN
  have o0 := World.ownsRow.alloc o (iX x.op x.out x.alt x.arg x.ra x.rn x.rc)
  have e : (w.alloc (iX x.op x.out x.alt x.arg x.ra x.rn x.rc)).heap[w.heap.size]? = some (iX x.op x.out x.alt x.arg x.ra x.rn x.rc) := heap_alloc_new w _
  obtain ⟨v', w', r, o', g, _, h5⟩ := run_append_own_at (P := Try.prog) (w.alloc (iX x.op x.out x.alt x.arg x.ra x.rn x.rc)) S 22 22 29 i0 _ 5 56 Try.underlying22 hi hz0 hz1 hz2 rfl (by decide) _ n (n5 f n) o0 ⟨w.heap.size, 0, none⟩ 1 1 (i5 x) (by rfl)
    (fun j u hj => by
      rw [Go.WideShapes.add_plain, Nat.zero_add]
      unfold World.cell?
      rw [e]
      simpa [i5] using hj) (by intro u hu; simp [i5] at hu; rcases hu with rfl | rfl | rfl | rfl | rfl <;> rfl) (by unfold maxLen; omega) hn (by simp; omega)
  rw [← n5_push] at o'
  rcases o'.2 with ⟨_, h0⟩ | ⟨G, C, cur, rfl, _⟩
  · omega
  · refine ⟨G, C, w', r, o', ((Kp.refl _ w).alloc _).grown g (fun k hk _ => hk), ?_⟩
    rcases h5 with h5 | h5
    · exact .inl (h5.symm.trans rfl)
    · have h6 : G = (w.alloc (iX x.op x.out x.alt x.arg x.ra x.rn x.rc)).heap.size := Option.some.inj h5
      rw [World.size_alloc] at h6
      exact .inr (by omega)
theorem Cd.push {Z : Nat → Prop} {S B g cc : Nat} {w w1 : World} {v : Value} {f : Nat → In} {c : List Ia} {x : In} {i : Ia} (h : Cd Z S w B v f c) (hx : Ism w (MZ Z B v) x i) (o : w1.ownsRow S 29 5 (.slice (some ⟨g, 0, none⟩) (c.length + 1) cc) (c.length + 1) (n5 (up f c.length x) (c.length + 1))) (k : Kp (fun k => v.ownBlock = some k) w w1) (hg : v.ownBlock = some g ∨ w.heap.size ≤ g) :
    Cd Z S (w1.setCell ⟨B, 0, none⟩ (.slice (some ⟨g, 0, none⟩) (c.length + 1) cc)) B (.slice (some ⟨g, 0, none⟩) (c.length + 1) cc) (up f c.length x) (c ++ [i]) ∧ Sub w v (.slice (some ⟨g, 0, none⟩) (c.length + 1) cc) ∧ Kp (Mv B v) w (w1.setCell ⟨B, 0, none⟩ (.slice (some ⟨g, 0, none⟩) (c.length + 1) cc)) := by
  have hgb : g ≠ B := fun e => by
    rcases hg with hg | hg
    · exact h.gb (by rw [hg, e])
    · have := h.lt; omega
  have hsub : Sub w v (.slice (some ⟨g, 0, none⟩) (c.length + 1) cc) := by
    intro i e hi
    have e' : g = i := Option.some.inj e
    subst e'
    rcases hg with hg | hg
    · exact hg
    · omega
  have hK : Kp (Mv B v) w (w1.setCell ⟨B, 0, none⟩ (.slice (some ⟨g, 0, none⟩) (c.length + 1) cc)) := (k.mono (fun i _ e => .inr e)).setCell (p := ⟨B, 0, none⟩) (.inl rfl) _
  have hN : ∀ j, j < w.heap.size → MZ Z B (.slice (some ⟨g, 0, none⟩) (c.length + 1) cc) j → MZ Z B v j := fun j hj e => e.imp (fun e => e.imp id (fun e => hsub j e hj)) id
  have hK' : Kp (MZ Z B v) w (w1.setCell ⟨B, 0, none⟩ (.slice (some ⟨g, 0, none⟩) (c.length + 1) cc)) := hK.mono (fun _ _ e => .inl e)
  have q0 := k.cell h.c0 (fun e => h.gb e)
  have kk : Kp (· = B) w1 (w1.setCell ⟨B, 0, none⟩ (.slice (some ⟨g, 0, none⟩) (c.length + 1) cc)) := (Kp.refl (· = B) w1).setCell (p := ⟨B, 0, none⟩) rfl _
  have hl : (c ++ [i]).length = c.length + 1 := by simp
  refine ⟨⟨?_, ?_, ?_, fun e => hgb (Option.some.inj e), h.SB, fun j y hj => ?_⟩, hsub, hK⟩
  · exact World.cell?_setCell_same' _ _ _ (by rw [q0]; rfl)
  · rw [World.frozen?_setCell]
    exact k.frozen h.c0 h.fz (fun e => h.gb e)
  · rw [hl]
    exact kk.row o (fun k e => by cases e; exact fun e => hgb e)
  · by_cases hjl : j < c.length
    · rw [List.getElem?_append_left hjl] at hj
      rw [up_other _ _ _ _ (by omega)]
      exact (h.rg j y hj).kp hK' hN
    · have hj2 : j = c.length := by
        have := (List.getElem?_eq_some_iff.1 hj).1
        simp at this
        omega
      subst hj2
      simp at hj
      subst hj
      rw [up_same]
      exact hx.kp hK' hN

/-- How a coder's call ends: the code is longer by l. -/
def Cp (Z : Nat → Prop) (S B : Nat) (v : Value) (c l : List Ia) (w : World) (e : Ending) (w' : World) : Prop := e = .returned (.tuple #[]) ∧ (∃ v' f', Cd Z S w' B v' f' (c ++ l) ∧ Sub w v v') ∧ Kp (Mv B v) w w'

set_option maxHeartbeats 2000000 in
set_option maxRecDepth 100000 in
theorem put_any (Z : Nat → Prop) (S B : Nat) (v : Value) (f : Nat → In) (c : List Ia) (op out alt arg : Int) (a : Option Addr) (n cc : Nat) (rs : List Rg) (w : World) (hv : Cd Z S w B v f c) (hS : S ≤ w.heap.size) (hn : (c.length + 1) * 56 ≤ 140737488355328) (hr : Ro w (MZ Z B v) a n rs) :
    Calls Try.prog 48 #[.pointer (some ⟨B, 0, none⟩), inV op out alt arg a n cc] w (Cp Z S B v c [⟨op, out, alt, arg, rs⟩] w) := by
  have hb0 : Below w.heap.size w (w.alloc (iX op out alt arg a n cc)).drew := ((Below.refl _ w).alloc (Nat.le_refl _) _).drew
  have hv1 := hv.below hb0
  have hS1 : S ≤ (w.alloc (iX op out alt arg a n cc)).drew.heap.size := Nat.le_trans hS hb0.size
  obtain ⟨g, c2, w2, r2, o2, k2, hg⟩ := append_n (w.alloc (iX op out alt arg a n cc)).drew S v c.length f ⟨op, out, alt, arg, a, n, cc, fun _ => (0, 0)⟩ hS1 hn hv1.row
  have hx : Ism (w.alloc (iX op out alt arg a n cc)).drew (MZ Z B v) ⟨op, out, alt, arg, a, n, cc, fun _ => (0, 0)⟩ ⟨op, out, alt, arg, rs⟩ := ⟨rfl, rfl, rfl, rfl, hr.kp (Kp.of hb0) (fun _ _ e => e)⟩
  have HP : Hid _ := hv1.push hx o2 k2 hg
  have HK0 : Hid (∀ M, Kp M w (w.alloc (iX op out alt arg a n cc)).drew) := fun M => Kp.of hb0
  have HZ : Hid (w.heap.size ≤ (w.alloc (iX op out alt arg a n cc)).drew.heap.size) := hb0.size
  obtain ⟨va, vc, rfl⟩ := hv.form
  have c0 : (w.alloc (iX op out alt arg a n cc)).cell? ⟨B, 0, none⟩ = some (.slice va c.length vc) := hv1.c0
  have c0' : ((w.alloc (iX op out alt arg a n cc)).alloc (iX op out alt arg a n cc)).cell? ⟨B, 0, none⟩ = some (.slice va c.length vc) := (hv.below (two_below _ _)).c0
  have q1 := k2.cell (p := ⟨B, 0, none⟩) hv1.c0 (fun e => hv1.gb e)
  have q2 := k2.frozen (p := ⟨B, 0, none⟩) hv1.c0 hv1.fz (fun e => hv1.gb e)
  have r' : (Builtin.append_ #[22, 22] 22 #[.slice va c.length vc, .slice (some ⟨w.heap.size + 1, 0, none⟩) 1 1]).run Try.prog ((w.alloc (.cells #[.int .i64 op, .int .i64 out, .int .i64 alt, .int .i64 arg, .slice a n cc] 29)).alloc (.cells #[.int .i64 op, .int .i64 out, .int .i64 alt, .int .i64 arg, .slice a n cc] 29)).drew = .ok (.slice (some ⟨g, 0, none⟩) (c.length + 1) c2) w2 := by
    have := r2
    rw [show (w.alloc (iX op out alt arg a n cc)).drew.heap.size = w.heap.size + 1 by simp] at this
    exact this
  have hl : ((c.length : Nat) : Int) < 140737488355328 := by omega
  clear hv hv1 r2 o2 k2 hg hx hb0 hS1 hS hr hn
  go_enter Try.func48, Try.ntmps48
  go_wp2_with fail
  go_region_law (refine step_append_run rfl (.tmp 8) (.tmp 10) 22 22 rfl _ _ rfl rfl r' ?_)
  all_goals go_wp2
  all_goals go_end0
  all_goals exact ⟨rfl, ⟨_, _, HP.out.1, fun i e hi => HP.out.2.1 i e (Nat.lt_of_lt_of_le hi HZ.out)⟩, (HK0.out _).trans HP.out.2.2⟩
end Go.Proofs.Ytbciclnffokjjaa
