/- LabelsKeys: what its calls do. -/
import Derived.Test.YtjmninjaoemhjabDoorKk
namespace Go.Proofs.YtjmninjaoemhjabDoor
open Go.RowKit Go.Lib

attribute [local go_sem] Oper.semAt_some

theorem inf25 : (Tryd.prog.info? 25).map (fun i => (i.zero, i.size, i.bytes)) = some (some (.slice none 0 0), 1, 24) := by kernel_rfl
theorem made_1 (z : Value) (k : Nat) : (madeCells #[z] (k * 1)).toList = (List.range k).map fun _ => z := by
  apply List.ext_getElem?
  intro j
  by_cases hj : j < k
  · simp [madeCells, hj, Nat.mod_one]
  · rw [List.getElem?_eq_none (by simp [madeCells]; omega), List.getElem?_eq_none (by simp; omega)]
theorem make_s (w : World) (S k : Nat) (hS : S ≤ w.heap.size) (hk : k * 16 ≤ 281474976710656) : ∃ w', (Instr.makeSlice 27 (.int .i64 (k : Int)) (.int .i64 (k : Int))).run Tryd.prog w = .ok (.slice (some ⟨w.heap.size, 0, none⟩) k k) w' ∧ w'.ownsRow S 9 1 (.slice (some ⟨w.heap.size, 0, none⟩) k k) k (ss (lf (fun _ => ⟨#[]⟩) k)) ∧ Below w.heap.size w w' ∧ w.heap.size < w'.heap.size := by
  obtain ⟨i0, hi, hz0, hz1, hz2⟩ := info_parts info9
  obtain ⟨w1, r, o, g⟩ := run_make_full (P := Tryd.prog) w S 27 9 i0 (.string ⟨#[]⟩) 1 Tryd.underlying27 hi hz0 hz1 .i64 .i64 k (by rw [hz2]; omega) (by unfold maxLen; omega) hS
  have e : ss (lf (fun _ => (⟨#[]⟩ : ByteArray)) k) = (madeCells #[.string ⟨#[]⟩] (k * 1)).toList := by rw [made_1]; simp [ss, lf]
  refine ⟨w1, r, ?_, (Below.refl _ w).grown g (Nat.le_refl _) (fun k hk => by cases hk), (own_bd o _ rfl).2⟩
  rw [e]
  exact o
theorem make_v (w : World) (S k : Nat) (hS : S ≤ w.heap.size) (hk : k * 24 ≤ 281474976710656) : ∃ w', (Instr.makeSlice 28 (.int .i64 (k : Int)) (.int .i64 (k : Int))).run Tryd.prog w = .ok (.slice (some ⟨w.heap.size, 0, none⟩) k k) w' ∧ w'.ownsRow S 25 1 (.slice (some ⟨w.heap.size, 0, none⟩) k k) k ((List.range k).map fun _ => .slice none 0 0) ∧ Below w.heap.size w w' ∧ w.heap.size < w'.heap.size := by
  obtain ⟨i0, hi, hz0, hz1, hz2⟩ := info_parts inf25
  obtain ⟨w1, r, o, g⟩ := run_make_full (P := Tryd.prog) w S 28 25 i0 (.slice none 0 0) 1 Tryd.underlying28 hi hz0 hz1 .i64 .i64 k (by rw [hz2]; omega) (by unfold maxLen; omega) hS
  refine ⟨w1, r, ?_, (Below.refl _ w).grown g (Nat.le_refl _) (fun k hk => by cases hk), (own_bd o _ rfl).2⟩
  rw [← made_1]
  exact o
theorem key_k (a na : Option Addr) (f : Nat → Lb) (nf : Nat → ByteArray) (n c N nc : Nat) (wo : Bool) (w : World) (hn : n ≤ 8796093022208) (hN : N ≤ 8796093022208) (hs : szF f n ≤ 140737488355328) (hw : 0 < w.heap.size) (hL : Lm w a f n) (hR : Smb w.heap.size w na nf N) (ht : TbI w) :
    Calls Tryd.prog 4 #[.slice a n c, .slice na N nc, .bool wo] w fun e w' => e = .returned (.string (kyB (keptL f (lf nf N) wo n))) ∧ Below w.heap.size w w' := by
  refine (key_any a na f nf n c N nc wo w hn hN hs hw hL hR ht).mono ?_
  rintro e w' ⟨rfl, hb⟩
  refine ⟨?_, hb⟩
  rw [keyF_eq]
  rfl
abbrev lA1 : Lb := (⟨#[97]⟩, ⟨#[49]⟩)
theorem kp_a1 (nf : Nat → ByteArray) : keptL (fun _ => lA1) (lf nf 0) true 1 = [lA1] := by
  have h : stay (lf nf 0) true lA1.1 = true := by
    unfold stay mb
    rw [Lib.toList_data]
    rfl
  unfold keptL
  rw [show ll (fun _ => lA1) 1 = [lA1] from rfl, List.filter_cons, if_pos h]
  rfl
theorem kp_a2 (nf : Nat → ByteArray) : keptL (fun _ => lA1) (lf nf 0) false 1 = [] := by
  have h : stay (lf nf 0) false lA1.1 = false := rfl
  unfold keptL
  rw [show ll (fun _ => lA1) 1 = [lA1] from rfl, List.filter_cons, if_neg (by rw [h]; decide)]
  rfl
/-- Between two rounds. -/
structure Rz (w : World) (n Gk Gp : Nat) (q : Nat → Ak) (W : World) (V : Nat → Value) (I : Nat) : Prop where
  hS : w.heap.size ≤ Gk
  hS2 : Gk < Gp
  hp : Gp < W.heap.size
  keys : ∃ kF, (∀ j, j < I → kF j = kyB (kO (q j))) ∧ W.ownsRow w.heap.size 9 1 (.slice (some ⟨Gk, 0, none⟩) n n) n (ss (lf kF n))
  kept : W.ownsRow w.heap.size 25 1 (.slice (some ⟨Gp, 0, none⟩) n n) n ((List.range n).map V)
  each : ∀ j, j < I → W.ownsRow (Gp + 1) 24 2 (V j) (kO (q j)).length (lcL (kO (q j)))
  low : Below w.heap.size w W
/-- A round begins. -/
theorem Rz.rn {w : World} {n Gk Gp : Nat} {q : Nat → Ak} {W W2 : World} {V : Nat → Value} {i : Nat} {ff : Nat → Lb} (h : Rz w n Gk Gp q W V i) (hb : Below (W.alloc (akX (q i))).heap.size (W.alloc (akX (q i))) W2)
    (hf : W2.ownsRow (W.heap.size + 1) 24 2 (.slice (some ⟨W.heap.size + 1, 0, none⟩) ((q i).ln + 40) ((q i).ln + 40)) ((q i).ln + 40) (lc ff ((q i).ln + 40))) :
    ∃ kF, (∀ j, j < i → kF j = kyB (kO (q j))) ∧ Rn w n Gk Gp (W.heap.size + 1) W.heap.size q i W2 kF V i ff := by
  obtain ⟨kF, hk, hkr⟩ := h.keys
  have ha : Below W.heap.size W (W.alloc (akX (q i))) := (Below.refl _ W).alloc (Nat.le_refl _) _
  have hb' : Below W.heap.size W W2 := ha.trans (hb.mono ha.size)
  have k : Kp (fun _ => False) W W2 := Kp.of hb'
  have hp := h.hp
  refine ⟨kF, hk, { hS := h.hS, hS2 := h.hS2, hB := hp, hG := by omega, hBG := by omega, keys := k.row hkr (fun _ _ => id), kept := k.row h.kept (fun _ _ => id), each := fun j hj => ⟨k.row (h.each j hj) (fun _ _ => id), fun x e => by have := (own_bd (h.each j hj) x e).2; omega⟩, low := h.low.trans (hb'.mono h.low.size), box := ?_, full := hf.mono (by omega) }⟩
  exact (hb.block W.heap.size (by simp)).trans (World.alloc_heap_new W _)
theorem Rn.rz {w : World} {n Gk Gp G B : Nat} {q : Nat → Ak} {i I : Nat} {W : World} {kF : Nat → ByteArray} {V : Nat → Value} {ff : Nat → Lb} (h : Rn w n Gk Gp G B q i W kF V I ff) (hk : ∀ j, j < I → kF j = kyB (kO (q j))) : Rz w n Gk Gp q W V I :=
  { hS := h.hS, hS2 := h.hS2, hp := (own_bd h.kept Gp rfl).2, keys := ⟨kF, hk, h.keys⟩, kept := h.kept, each := fun j hj => (h.each j hj).1, low := h.low }
theorem Lm.cut {w : World} {a : Option Addr} {g f : Nat → Lb} {m k : Nat} (h : Lm w a g m) (hk : k ≤ m) (e : ∀ j, j < k → g j = f j) : Lm w a f k := by
  rcases h with h | ⟨G, o, e1, hg, hc⟩
  · exact .inl (by omega)
  · exact .inr ⟨G, o, e1, hg, fun j hj => by rw [← e j hj]; exact hc j (by omega)⟩
theorem rkeep_k (a na : Option Addr) (f : Nat → Lb) (nf : Nat → ByteArray) (n c N nc : Nat) (wo : Bool) (w : World) (hn : n ≤ 4398046511104) (hN : N ≤ 8796093022208) (hL : Lm w a f n) (hR : Smb w.heap.size w na nf N) :
    Calls Tryd.prog 6 #[.slice a n c, .slice na N nc, .bool wo] w fun e w' => ∃ a2 c2, e = .returned (.slice a2 (keptL f (lf nf N) wo n).length c2) ∧ w'.ownsRow w.heap.size 24 2 (.slice a2 (keptL f (lf nf N) wo n).length c2) (keptL f (lf nf N) wo n).length (lcL (keptL f (lf nf N) wo n)) ∧ Below w.heap.size w w' := by
  refine (rkeep_any a na f nf n c N nc wo w hn hN hL hR).mono ?_
  rintro e w' ⟨v, rfl, ho, hb⟩
  rcases ho.2 with ⟨rfl, h0⟩ | ⟨g, cap, cur, rfl, _⟩
  · exact ⟨none, 0, by rw [h0], by rw [h0] at ho ⊢; exact ho, hb⟩
  · exact ⟨_, _, rfl, ho, hb⟩
theorem row_lm {W : World} {S c : Nat} {a : Option Addr} {ks : List Lb} (h : W.ownsRow S 24 2 (.slice a ks.length c) ks.length (lcL ks)) : Lm W a (gL ks) ks.length := by
  rw [lcL_lc] at h
  exact Lm.of_row h
theorem Rn.bx {w : World} {n Gk Gp G B : Nat} {q : Nat → Ak} {i I : Nat} {W : World} {kF : Nat → ByteArray} {V : Nat → Value} {ff : Nat → Lb} (h : Rn w n Gk Gp G B q i W kF V I ff) : W.cell? ⟨B, 0, none⟩ = some (.slice (q i).la (q i).ln (q i).lc) ∧ W.cell? ⟨B, 3, none⟩ = some (.slice (q i).na (q i).nn (q i).nc) ∧ W.cell? ⟨B, 4, none⟩ = some (.bool (q i).wo) := by
  refine ⟨?_, ?_, ?_⟩ <;> (unfold World.cell?; rw [h.box]; rfl)
def catx (s : ByteArray) : ByteArray := s ++ ⟨#[120]⟩
def fx (f : Nat → Lb) (n j k : Nat) : Lb := if k < j then ((f k).1, catx (f k).2) else pf f n k
theorem fx_zero (f : Nat → Lb) (n : Nat) : fx f n 0 = pf f n := rfl
theorem fx_at (f : Nat → Lb) (n j : Nat) (h : j < n) : fx f n j j = f j := by
  unfold fx
  rw [if_neg (by omega)]
  exact if_pos h
theorem fx_succ (f : Nat → Lb) (n j : Nat) (h : j < n) : up (fx f n j) j ((fx f n j j).1, catx (f j).2) = fx f n (j + 1) := by
  funext k
  rw [fx_at f n j h]
  by_cases e : k = j
  · subst e
    rw [up_same]
    exact (if_pos (by omega)).symm
  · rw [up_other _ _ _ _ e]
    unfold fx
    by_cases h1 : k < j
    · rw [if_pos h1, if_pos (by omega)]
    · rw [if_neg h1, if_neg (by omega)]
theorem catx_size (s : ByteArray) : (catx s).size = s.size + 1 := by
  unfold catx
  rw [ByteArray.size_append]
  rfl
theorem szF_fx (f : Nat → Lb) (n : Nat) : ∀ i, i ≤ n → szF (fx f n n) i = szF f i + i
  | 0, _ => rfl
  | i + 1, h => by
    show szF (fx f n n) i + _ = szF f i + _ + (i + 1)
    rw [szF_fx f n i (by omega)]
    have e : fx f n n i = ((f i).1, catx (f i).2) := if_pos (by omega)
    rw [e]
    dsimp only
    rw [catx_size]
    omega
theorem szF_two (f : Nat → Lb) (n j : Nat) (h : j < n) : (f j).2.size ≤ szF f n := by
  have h1 := szF_mono f (show j + 1 ≤ n from h)
  have h2 : szF f (j + 1) = szF f j + ((f j).1.size + (f j).2.size + 44) := rfl
  omega
theorem pf_lo (f : Nat → Lb) (n j : Nat) (h : j < n) : pf f n j = f j := if_pos h
end Go.Proofs.YtjmninjaoemhjabDoor
