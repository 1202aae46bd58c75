/- piles. -/
import Derived.Test.YtcgpjmpppajfdaaPa
namespace Go.Proofs.Ytcgpjmpppajfdaa
open Go.RowKit

theorem infP : (Try.prog.info? 28).map (fun i => (i.zero, i.size, i.bytes)) = some (some (.pointer none), 1, 8) := by kernel_rfl
abbrev f00 : Nat → Rk := fun _ => ((0, 0), 0)
/-- The piles that stand so far. -/
structure PI (i N G Pb : Nat) (w : World) (col : Nat → Nat) (W : World) (bb xx : Nat → Nat) (cs : List Value) : Prop where
  pl : ∀ k, k < i → Pl W (bb k) (xx k) (lvF (fl k)) (.slice none 0 0) 0 f00 0
  c1 : ∀ k, k < i → col (bb k) = k ∧ col (xx k) = k
  row : W.ownsRow 0 28 1 (.slice (some ⟨Pb, 0, none⟩) N N) N cs
  cs : ∀ k, k < i → cs[k]? = some (.pointer (some ⟨bb k, 0, none⟩))
  cP : col Pb = 8
  old : ∀ j, j < G → col j = 99
  below : Below G w W
  gw : G ≤ W.heap.size
theorem PI.step {i N G Pb : Nat} {w W W' : World} {col : Nat → Nat} {bb xx : Nat → Nat} {cs : List Value} (h : PI i N G Pb w col W bb xx cs) (hi : i < N) (hN : N ≤ 5) (b : Below W.heap.size W W') (p : Pl W' (W.heap.size + 1) W.heap.size (lvF (fl i)) (.slice none 0 0) 0 f00 0) :
    W'.cell? ⟨Pb, i, none⟩ = cs[i]? ∧ W'.frozen? ⟨Pb, i, none⟩ = false ∧ PI (i + 1) N G Pb w (fun j => if j < W.heap.size then col j else i) (W'.setCell ⟨Pb, i, none⟩ (.pointer (some ⟨W.heap.size + 1, 0, none⟩))) (up bb i (W.heap.size + 1)) (up xx i W.heap.size) (cs.set i (.pointer (some ⟨W.heap.size + 1, 0, none⟩))) := by
  have hlt : Pb < W.heap.size := (World.ownsRow.lt h.row Pb rfl).2
  have k : Kp (fun _ => False) W W' := Kp.of b
  have r' := k.row h.row (fun _ _ => id)
  have k2 : Kp (· = Pb) W' (W'.setCell ⟨Pb, i, none⟩ (.pointer (some ⟨W.heap.size + 1, 0, none⟩))) := (Kp.refl (· = Pb) W').setCell (p := ⟨Pb, i, none⟩) rfl _
  have hcl : cs.length = N := by simpa using h.row.1
  refine ⟨World.ownsRow.cellAt r' i (by omega), World.ownsRow.frozenAt r' i, fun j hj => ?_, fun j hj => ?_, (World.ownsRow.stored r' i _).1, fun j hj => ?_, by rw [if_pos hlt]; exact h.cP, fun j hj => by have := h.gw; rw [if_pos (by omega)]; exact h.old j hj, ?_, ?_⟩
  · by_cases hji : j = i
    · subst hji
      rw [up_same, up_same]
      exact p.kp k2 (fun (e : W.heap.size + 1 = Pb) => by omega) (fun (e : W.heap.size = Pb) => by omega) (fun g e => by cases e)
    · rw [up_other _ _ _ _ hji, up_other _ _ _ _ hji]
      have hc := h.c1 j (by omega)
      have hP := h.cP
      exact ((h.pl j (by omega)).below b).kp k2 (fun (e : bb j = Pb) => by rw [e] at hc; omega) (fun (e : xx j = Pb) => by rw [e] at hc; omega) (fun g e => by cases e)
  · by_cases hji : j = i
    · subst hji
      rw [up_same, up_same, if_neg (by omega), if_neg (by omega)]
      exact ⟨rfl, rfl⟩
    · rw [up_other _ _ _ _ hji, up_other _ _ _ _ hji]
      have h1 : bb j < W.heap.size := World.block_lt_of_cell? W _ (h.pl j (by omega)).cm
      have h2 : xx j < W.heap.size := World.block_lt_of_cell? W _ (h.pl j (by omega)).hp.bxc
      rw [if_pos h1, if_pos h2]
      exact h.c1 j (by omega)
  · by_cases hji : j = i
    · subst hji
      rw [up_same, List.getElem?_set_self (by omega)]
    · rw [up_other _ _ _ _ hji, List.getElem?_set_ne (fun e => hji e.symm)]
      exact h.cs j (by omega)
  · refine (h.below.trans (b.mono h.gw)).setCell (p := ⟨Pb, i, none⟩) ?_ _
    rcases Nat.lt_or_ge Pb G with x | x
    · have := h.old Pb x; have := h.cP; omega
    · exact x
  · exact Nat.le_trans (Nat.le_trans h.gw b.size) (by simp [World.setCell])

set_option maxHeartbeats 2000000 in
set_option maxRecDepth 100000 in
theorem piles_any (N : Nat) (hN : N ≤ 5) (w : World) :
    Calls Try.prog 28 #[.int .i64 (N : Int)] w fun r w' => r = .returned (.slice (some ⟨w.heap.size, 0, none⟩) N N) ∧ ∃ col bb xx cs, PI N N w.heap.size w.heap.size w col w' bb xx cs := by
  obtain ⟨i0, hi, hz0, hz1, hz2⟩ := info_parts infP
  obtain ⟨w1, r, o, g⟩ := run_make_full (P := Try.prog) w 0 51 28 i0 (.pointer none) 1 Try.underlying51 hi hz0 hz1 .i64 .i64 N (by rw [hz2]; omega) (by unfold maxLen; omega) (Nat.zero_le _)
  have b1 : Below w.heap.size w w1 := (Below.refl _ w).grown g (Nat.le_refl _) (fun k hk => by cases hk)
  obtain ⟨G, hG⟩ : ∃ G, G = w.heap.size := ⟨_, rfl⟩
  have HG : Hid (G = w.heap.size) := hG
  have P0 : Hid (∃ col bb xx cs, PI 0 N G G w col w1 bb xx cs) := by
    rw [hG]
    exact ⟨fun j => if j < w.heap.size then 99 else 8, fun _ => 0, fun _ => 0, _, fun k hk => by omega, fun k hk => by omega, o, fun k hk => by omega, if_neg (by omega), fun j hj => if_pos hj, b1, b1.size⟩
  rw [← hG] at r ⊢
  clear hG o b1 g
  have hsp : ∀ a m w (p : Option Addr), (store a (.pointer p) m).run Try.prog w = stored Try.prog w a (.pointer p) m := fun a m w p => run_store Try.prog w a _ m rfl
  go_enter Try.func28, Try.ntmps28
  go_wp2
  go_loopw [9, 4] (fun ivv _ w' => ∃ (i : Nat), ivv = .int .i64 (i : Int) ∧ i ≤ N ∧ Hid (∃ col bb xx cs, PI i N G G w col w' bb xx cs)) (fun ivv _ _ => N - (RowKit.intOf ivv).toNat)
  case atStart => exact ⟨0, rfl, by omega, P0⟩
  case round =>
    obtain ⟨i, rfl, hi', hp⟩ := hrel
    by_cases hlt : i < N
    · have hii : (i : Int) < N := by omega
      have HI : Hid (i + 1 ≤ N) := hlt
      have HL : Hid (∀ W', Below wr.heap.size wr W' → Pl W' (wr.heap.size + 1) wr.heap.size (lvF (fl i)) (.slice none 0 0) 0 f00 0 → ∃ u, W'.cell? ⟨G, i, none⟩ = some u ∧ W'.frozen? ⟨G, i, none⟩ = false ∧ ∃ col bb xx cs, PI (i + 1) N G G w col (W'.setCell ⟨G, i, none⟩ (.pointer (some ⟨wr.heap.size + 1, 0, none⟩))) bb xx cs) := fun W' b p => by
        obtain ⟨col, bb, xx, cs, h⟩ := hp.out
        obtain ⟨c1, c2, h2⟩ := h.step hlt hN b p
        have hcl : cs.length = N := by simpa using h.row.1
        exact ⟨cs[i], by rw [c1]; simp [hcl, hlt], c2, _, _, _, _, h2⟩
      have hfl : ((i : Int).tmod 3 == 2) = fl i := by
        rw [Int.tmod_eq_emod_of_nonneg (by omega)]
        unfold fl
        by_cases hx : i % 3 = 2
        · rw [decide_eq_true hx, beq_iff_eq]; omega
        · rw [decide_eq_false hx, beq_eq_false_iff_ne]; omega
      clear hp
      cases hf : fl i with
      | true =>
        have h2 : ((i : Int).tmod 3 == 2) = true := hfl.trans hf
        rw [Int.tmod_eq_emod_of_nonneg (by omega)] at h2
        rw [hf] at HL
        have kN := new_nil f00 wr
        clear hfl hf
        go_wp2_with fail
        refine kN.mono ?_
        rintro r2 w2 ⟨rfl, p2, b2⟩
        obtain ⟨u, c1, c2, h3⟩ := HL.out w2 b2 p2
        have H3 : Hid _ := h3
        clear p2 b2 h3 kN HL
        go_wp2
        exact ⟨⟨i + 1, by go_num, HI.out, H3⟩, by simp [RowKit.intOf]; omega⟩
      | false =>
        have h2 : ((i : Int).tmod 3 == 2) = false := hfl.trans hf
        rw [Int.tmod_eq_emod_of_nonneg (by omega)] at h2
        rw [hf] at HL
        have kN := new_some 33 f00 wr
        clear hfl hf
        go_wp2_with fail
        refine kN.mono ?_
        rintro r2 w2 ⟨rfl, p2, b2⟩
        obtain ⟨u, c1, c2, h3⟩ := HL.out w2 b2 p2
        have H3 : Hid _ := h3
        clear p2 b2 h3 kN HL
        go_wp2
        exact ⟨⟨i + 1, by go_num, HI.out, H3⟩, by simp [RowKit.intOf]; omega⟩
    · have hii : ¬ (i : Int) < N := by omega
      obtain rfl : i = N := by omega
      go_wp2
      go_ret
      exact ⟨rfl, hp.out⟩
end Go.Proofs.Ytcgpjmpppajfdaa
