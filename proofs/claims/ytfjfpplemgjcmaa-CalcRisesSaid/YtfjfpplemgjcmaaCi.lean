/- atRank. -/
import Derived.Test.YtfjfpplemgjcmaaCh
namespace Go.Proofs.Ytfjfpplemgjcmaa
open Go.RowKit

theorem fstI_bd (P : Nat → Bool) : ∀ k i, fstI P k i = -1 ∨ ((i : Int) ≤ fstI P k i ∧ fstI P k i < ((i + k : Nat) : Int))
  | 0, _ => .inl rfl
  | k + 1, i => by
    unfold fstI
    split
    · right; omega
    · rcases fstI_bd P k (i + 1) with h | h
      · exact .inl h
      · right; omega
/-- Along a straight line. -/
def lnK (u c rk pu pc : Option Nat) : Option Nat := fb .add pu (fb .mul (fb .sub u pu) (fb .quo (fb .sub rk pc) (fb .sub c pc)))
/-- The value up to which rank things lie. -/
def anC (Z : Nat → Ab) (m : Nat) (rk : Option Nat) : Option Nat :=
  match fstI (fun j => nbB (Z j).2 rk) (m - 1) 0 with
  | .negSucc _ => cl (Z (m - 2)).1
  | .ofNat 0 => if fo (cl (Z 0).1) (some 0) = some .lt ∨ fo (cl (Z 0).1) (some 0) = some .eq then cl (Z 0).1 else lnK (cl (Z 0).1) (Z 0).2 rk (some 0) (some 0)
  | .ofNat (k + 1) => lnK (cl (Z (k + 1)).1) (Z (k + 1)).2 rk (cl (Z k).1) (Z k).2
set_option maxHeartbeats 4000000 in
set_option maxRecDepth 100000 in
theorem atRank_any (g c L : Nat) (f : Nat → Bk) (rk : Nat) (w : World) (hg : g < w.heap.size) (hf : BAt w g 0 f (L + 1)) (hw : BW f (L + 1)) (hL : 1 ≤ L) (hc : L + 1 ≤ c) (hl : L ≤ 1152921504606846976) :
    Calls Try.prog 40 #[.slice (some ⟨g, 0, none⟩) ((L + 1 : Nat)) c, .float .f64 rk] w (RB w (anC (fun j => ab' (f j)) (L + 1) (cl rk))) := by
  have hsf := @run_store_float Try.prog
  have hb1 : Below w.heap.size w (w.alloc (.cells #[.float .f64 rk] 23)) := (Below.refl _ _).alloc (Nat.le_refl _) _
  have hB : (w.alloc (.cells #[.float .f64 rk] 23)).cell? ⟨w.heap.size, 0, none⟩ = some (.float .f64 rk) := by
    unfold World.cell?
    rw [show (w.alloc (.cells #[.float .f64 rk] 23)).heap[w.heap.size]? = some (.cells #[.float .f64 rk] 23) from heap_alloc_new w _]
    rfl
  have hsz : (w.alloc (.cells #[.float .f64 rk] 23)).heap.size = w.heap.size + 1 := by simp
  have HSZ : Hid ((w.alloc (.cells #[.float .f64 rk] 23)).heap.size = w.heap.size + 1) := hsz
  have k1 := idx_any (some ⟨g, 0, none⟩) c L f w.heap.size rk (w.alloc (.cells #[.float .f64 rk] 23)) (.inr ⟨g, 0, rfl, by omega, fun j hj => by
    obtain ⟨h1, h2⟩ := hf j (by omega)
    exact ⟨(hb1.cell (p := ⟨g, 0 + j * 2, none⟩) hg).trans h1, (hb1.cell (p := ⟨g, 0 + j * 2 + 1, none⟩) hg).trans h2⟩⟩) hB (by omega) (by omega)
  have HF : Hid (∀ j, j < L + 1 → w.cell? ⟨g, j * 2, none⟩ = some (.float .f64 (f j).1) ∧ w.cell? ⟨g, j * 2 + 1, none⟩ = some (.float .f64 (f j).2)) := fun j hj => by
    have := hf j hj
    rw [Nat.zero_add] at this
    exact this
  have HW : Hid (BW f (L + 1)) := hw
  have hbd := fstI_bd (fun j => nbB (cl (f j).2) (cl rk)) L 0
  have HAN : Hid (anC (fun j => ab' (f j)) (L + 1) (cl rk) = anC (fun j => ab' (f j)) (L + 1) (cl rk)) := rfl
  generalize hR : anC (fun j => ab' (f j)) (L + 1) (cl rk) = R
  have HR : Hid (anC (fun j => ab' (f j)) (L + 1) (cl rk) = R) := hR
  clear hR HAN hf hw
  unfold anC at HR
  dsimp only at HR
  rw [show L + 1 - 1 = L from rfl, show L + 1 - 2 = L - 1 by omega] at HR
  have hP : (fun j => nbB (ab' (f j)).2 (cl rk)) = fun j => nbB (cl (f j).2) (cl rk) := rfl
  rw [hP] at HR
  generalize fstI (fun j => nbB (cl (f j).2) (cl rk)) L 0 = X at *
  clear hP
  have hlast : ((L + 1 : Nat) : Int) - 1 = (L : Int) := by omega
  have hwl : IntKind.i64.wrap (L : Int) = (L : Int) := by rw [IntKind.wrap_i64]; omega
  obtain ⟨G, hG⟩ : ∃ G, G = w.heap.size := ⟨_, rfl⟩
  have HG : Hid (G = w.heap.size) := hG
  obtain ⟨M, hM⟩ : ∃ M, L + 1 = M := ⟨_, rfl⟩
  rw [hM] at hlast HF HW hc ⊢
  have HM : Hid (L + 1 = M) := hM
  have hLc : (L : Int) ≤ (c : Int) := by omega
  have hL0 : (0 : Int) ≤ (L : Int) := by omega
  clear hM hG
  go_enter Try.func40, Try.ntmps40
  go_wp2_with fail
  go_fit k1
  rintro r w2 ⟨rfl, hb2⟩
  have B2 := hb1.trans (hb2.mono (by have h2 := HSZ.out; omega))
  have hrk := (hb2.cell (p := ⟨w.heap.size, 0, none⟩) (by have h2 := HSZ.out; show w.heap.size < _; omega)).trans hB
  have HC : Hid (∀ j, j < M → w2.cell? ⟨g, j * 2, none⟩ = some (.float .f64 (f j).1) ∧ w2.cell? ⟨g, j * 2 + 1, none⟩ = some (.float .f64 (f j).2)) := fun j hj => by
    obtain ⟨h1, h2⟩ := HF.out j hj
    exact ⟨(B2.cell (p := ⟨g, j * 2, none⟩) hg).trans h1, (B2.cell (p := ⟨g, j * 2 + 1, none⟩) hg).trans h2⟩
  have hsz2 : w.heap.size + 1 ≤ w2.heap.size := by have := hb2.size; have h2 := HSZ.out; omega
  clear hb2 hB hsz HSZ k1 HF hb1
  obtain ⟨K, hK⟩ : ∃ K, L = K + 1 := ⟨L - 1, by omega⟩
  rcases hbd with hX | ⟨hX1, hX2⟩
  · subst hX
    have HR2 : Hid (cl (f K).1 = R) := by
      have := HR.out
      rw [show L - 1 = K by omega] at this
      exact this
    obtain ⟨c1, _⟩ := HC.out K (by have := HM.out; omega)
    have hul := (HW.out K (by have := HM.out; omega)).1
    have hKi : (L : Int) - 1 = (K : Int) := by omega
    have hKM : K < M := by have := HM.out; omega
    clear HR HC hK
    generalize (f K).1 = ku at *
    go_wp2
    go_ret
    exact ⟨_, rfl, B2, hul, HR2.out⟩
  · obtain ⟨k, rfl⟩ : ∃ k : Nat, X = k := ⟨X.toNat, by omega⟩
    have hkM : k < M := by have := HM.out; omega
    cases k with
    | zero =>
      obtain ⟨c1, c2⟩ := HC.out 0 hkM
      rw [Nat.zero_mul] at c1 c2
      rw [Nat.zero_add] at c2
      have hul := (HW.out 0 hkM).1
      have HR2 : Hid ((if fo (cl (f 0).1) (some 0) = some .lt ∨ fo (cl (f 0).1) (some 0) = some .eq then cl (f 0).1 else lnK (cl (f 0).1) (cl (f 0).2) (cl rk) (some 0) (some 0)) = R) := HR.out
      have hoo : FloatKind.f64.format.order (f 0).1 0 = fo (cl (f 0).1) (some 0) := by rw [fo_cl, cl_lit 0 (by decide)]
      rw [← hoo] at HR2
      clear HR HC hoo
      generalize (f 0).1 = ku at *
      generalize (f 0).2 = kc at *
      have hz0 : ((0 : Nat) : Int) = 0 := rfl
      rw [hz0]
      by_cases ho : FloatKind.f64.format.order ku 0 = some .lt ∨ FloatKind.f64.format.order ku 0 = some .eq
      · rw [if_pos ho] at HR2
        rcases ho with ho | ho
        · go_wp2
          go_ret
          exact ⟨_, rfl, B2, hul, HR2.out⟩
        · go_wp2
          go_ret
          exact ⟨_, rfl, B2, hul, HR2.out⟩
      · rw [if_neg ho] at HR2
        have ho1 : (FloatKind.f64.format.order ku 0 == some .lt) = false := beq_eq_false_iff_ne.2 fun h => ho (.inl h)
        have ho2 : (FloatKind.f64.format.order ku 0 == some .eq) = false := beq_eq_false_iff_ne.2 fun h => ho (.inr h)
        clear ho
        have hA : Below w2.heap.size w2 (w2.alloc (.cells #[.float .f64 0, .float .f64 0] 34)) := (Below.refl _ _).alloc (Nat.le_refl _) _
        have B3 := B2.trans (hA.mono (by omega))
        have hg2 : g < w2.heap.size := by omega
        have d1 := (hA.cell (p := ⟨g, 0, none⟩) hg2).trans c1
        have d2 := (hA.cell (p := ⟨g, 1, none⟩) hg2).trans c2
        have d3 := (hA.cell (p := ⟨w.heap.size, 0, none⟩) (by show w.heap.size < _; omega)).trans hrk
        have n0 := bk_cell w2 (0, 0) 0 (.float .f64 0) rfl
        have n1 := bk_cell w2 (0, 0) 1 (.float .f64 0) rfl
        dsimp only at n0 n1
        have hLK : (K : Int) + 1 = (L : Int) := by omega
        clear hLK hK
        go_wp2_with fail
        refine wp_region_loose (by kernel_rfl) (by kernel_rfl) ?_
        iterate 7 (refine wpLoose_quiet rfl rfl ?_; intro K hK; go_big_quiet_op; go_big_quiet_on)
        refine wpLoose_float .sub (.inr (.inl rfl)) 23 23 _ _ rfl rfl _ _ rfl rfl (by rintro _ k' ⟨n', rfl⟩; first | exact ⟨n' + k', World.drewN_drewN _ _ _⟩ | exact ⟨n' + k', by simp [Nat.add_assoc]⟩) ?_
        intro zc zcl zch
        go_simp
        iterate 1 (refine wpLoose_quiet rfl rfl ?_; intro K hK; go_big_quiet_op; go_big_quiet_on)
        refine wpLoose_nil ?_
        intro n1
        have ZC : Hid _ := zch
        clear zch
        go_wp2_with fail
        refine wp_region_loose (by kernel_rfl) (by kernel_rfl) ?_
        iterate 9 (refine wpLoose_quiet rfl rfl ?_; intro K hK; go_big_quiet_op; go_big_quiet_on)
        refine wpLoose_float .sub (.inr (.inl rfl)) 23 23 _ _ rfl rfl _ _ rfl rfl (by rintro _ k' ⟨n', rfl⟩; first | exact ⟨n' + k', World.drewN_drewN _ _ _⟩ | exact ⟨n' + k', by simp [Nat.add_assoc]⟩) ?_
        intro z1 z1l z1h
        go_simp
        have Z1 : Hid _ := z1h
        clear z1h
        iterate 3 (refine wpLoose_quiet rfl rfl ?_; intro K hK; go_big_quiet_op; go_big_quiet_on)
        refine wpLoose_float .sub (.inr (.inl rfl)) 23 23 _ _ rfl rfl _ _ rfl rfl (by rintro _ k' ⟨n', rfl⟩; first | exact ⟨n' + k', World.drewN_drewN _ _ _⟩ | exact ⟨n' + k', by simp [Nat.add_assoc]⟩) ?_
        intro z2 z2l z2h
        go_simp
        have Z2 : Hid _ := z2h
        clear z2h
        iterate 1 (refine wpLoose_quiet rfl rfl ?_; intro K hK; go_big_quiet_op; go_big_quiet_on)
        refine wpLoose_float .quo (.inr (.inr (.inr rfl))) 23 23 _ _ rfl rfl _ _ rfl rfl (by rintro _ k' ⟨n', rfl⟩; first | exact ⟨n' + k', World.drewN_drewN _ _ _⟩ | exact ⟨n' + k', by simp [Nat.add_assoc]⟩) ?_
        intro z3 z3l z3h
        go_simp
        have Z3 : Hid _ := z3h
        clear z3h
        refine wpLoose_float .mul (.inr (.inr (.inl rfl))) 23 23 _ _ rfl rfl _ _ rfl rfl (by rintro _ k' ⟨n', rfl⟩; first | exact ⟨n' + k', World.drewN_drewN _ _ _⟩ | exact ⟨n' + k', by simp [Nat.add_assoc]⟩) ?_
        intro z4 z4l z4h
        go_simp
        have Z4 : Hid _ := z4h
        clear z4h
        refine wpLoose_float .add (.inl rfl) 23 23 _ _ rfl rfl _ _ rfl rfl (by rintro _ k' ⟨n', rfl⟩; first | exact ⟨n' + k', World.drewN_drewN _ _ _⟩ | exact ⟨n' + k', by simp [Nat.add_assoc]⟩) ?_
        intro z5 z5l z5h
        go_simp
        have Z5 : Hid _ := z5h
        clear z5h
        iterate 1 (refine wpLoose_quiet rfl rfl ?_; intro K hK; go_big_quiet_op; go_big_quiet_on)
        refine wpLoose_nil ?_
        intro n2
        go_wp2
        go_ret
        refine ⟨_, rfl, below_drewN B3 _, z5l, ?_⟩
        rw [Z5.out, Z4.out, Z3.out, Z2.out, Z1.out, ZC.out, cl_lit 0 (by decide)]
        exact HR2.out
    | succ k =>
      obtain ⟨c1, c2⟩ := HC.out (k + 1) hkM
      obtain ⟨c3, c4⟩ := HC.out k (by omega)
      have HR2 : Hid (lnK (cl (f (k + 1)).1) (cl (f (k + 1)).2) (cl rk) (cl (f k).1) (cl (f k).2) = R) := HR.out
      clear HR HC
      obtain ⟨j, hj⟩ : ∃ j, k + 1 = j := ⟨_, rfl⟩
      rw [hj] at c1 c2 HR2 hkM ⊢
      have hjk : (j : Int) - 1 = (k : Int) := by omega
      have hj0 : ¬ (j : Int) < 0 := by omega
      have hj1 : ((j : Int) == 0) = false := beq_eq_false_iff_ne.2 (by omega)
      have hj2 : (0 : Int) < (j : Int) := by omega
      have hkM2 : k < M := by omega
      have HJ : Hid (k + 1 = j) := hj
      generalize (f j).1 = ku at *
      generalize (f j).2 = kc at *
      generalize (f k).1 = pu at *
      generalize (f k).2 = pc at *
      clear hj
      have hA : Below w2.heap.size w2 (w2.alloc (.cells #[.float .f64 0, .float .f64 0] 34)) := (Below.refl _ _).alloc (Nat.le_refl _) _
      have hg2 : g < w2.heap.size := by omega
      have d3 := (hA.cell (p := ⟨g, k * 2, none⟩) hg2).trans c3
      have d4 := (hA.cell (p := ⟨g, k * 2 + 1, none⟩) hg2).trans c4
      have hA2 : Below w2.heap.size w2 (w2.alloc (.cells #[.float .f64 pu, .float .f64 pc] 34)) := (Below.refl _ _).alloc (Nat.le_refl _) _
      have B3 := B2.trans (hA2.mono (by omega))
      have e1 := (hA2.cell (p := ⟨g, j * 2, none⟩) hg2).trans c1
      have e2 := (hA2.cell (p := ⟨g, j * 2 + 1, none⟩) hg2).trans c2
      have e3 := (hA2.cell (p := ⟨w.heap.size, 0, none⟩) (by show w.heap.size < _; omega)).trans hrk
      have n0 := bk_cell w2 (pu, pc) 0 (.float .f64 pu) rfl
      have n1 := bk_cell w2 (pu, pc) 1 (.float .f64 pc) rfl
      dsimp only at n0 n1
      clear hK
      go_wp2_with fail
      refine wp_region_loose (by kernel_rfl) (by kernel_rfl) ?_
      iterate 7 (refine wpLoose_quiet rfl rfl ?_; intro K hK; go_big_quiet_op; go_big_quiet_on)
      refine wpLoose_float .sub (.inr (.inl rfl)) 23 23 _ _ rfl rfl _ _ rfl rfl (by rintro _ k' ⟨n', rfl⟩; first | exact ⟨n' + k', World.drewN_drewN _ _ _⟩ | exact ⟨n' + k', by simp [Nat.add_assoc]⟩) ?_
      intro zc zcl zch
      go_simp
      iterate 1 (refine wpLoose_quiet rfl rfl ?_; intro K hK; go_big_quiet_op; go_big_quiet_on)
      refine wpLoose_nil ?_
      intro n1
      have ZC : Hid _ := zch
      clear zch
      go_wp2_with fail
      refine wp_region_loose (by kernel_rfl) (by kernel_rfl) ?_
      iterate 9 (refine wpLoose_quiet rfl rfl ?_; intro K hK; go_big_quiet_op; go_big_quiet_on)
      refine wpLoose_float .sub (.inr (.inl rfl)) 23 23 _ _ rfl rfl _ _ rfl rfl (by rintro _ k' ⟨n', rfl⟩; first | exact ⟨n' + k', World.drewN_drewN _ _ _⟩ | exact ⟨n' + k', by simp [Nat.add_assoc]⟩) ?_
      intro z1 z1l z1h
      go_simp
      have Z1 : Hid _ := z1h
      clear z1h
      iterate 3 (refine wpLoose_quiet rfl rfl ?_; intro K hK; go_big_quiet_op; go_big_quiet_on)
      refine wpLoose_float .sub (.inr (.inl rfl)) 23 23 _ _ rfl rfl _ _ rfl rfl (by rintro _ k' ⟨n', rfl⟩; first | exact ⟨n' + k', World.drewN_drewN _ _ _⟩ | exact ⟨n' + k', by simp [Nat.add_assoc]⟩) ?_
      intro z2 z2l z2h
      go_simp
      have Z2 : Hid _ := z2h
      clear z2h
      iterate 1 (refine wpLoose_quiet rfl rfl ?_; intro K hK; go_big_quiet_op; go_big_quiet_on)
      refine wpLoose_float .quo (.inr (.inr (.inr rfl))) 23 23 _ _ rfl rfl _ _ rfl rfl (by rintro _ k' ⟨n', rfl⟩; first | exact ⟨n' + k', World.drewN_drewN _ _ _⟩ | exact ⟨n' + k', by simp [Nat.add_assoc]⟩) ?_
      intro z3 z3l z3h
      go_simp
      have Z3 : Hid _ := z3h
      clear z3h
      refine wpLoose_float .mul (.inr (.inr (.inl rfl))) 23 23 _ _ rfl rfl _ _ rfl rfl (by rintro _ k' ⟨n', rfl⟩; first | exact ⟨n' + k', World.drewN_drewN _ _ _⟩ | exact ⟨n' + k', by simp [Nat.add_assoc]⟩) ?_
      intro z4 z4l z4h
      go_simp
      have Z4 : Hid _ := z4h
      clear z4h
      refine wpLoose_float .add (.inl rfl) 23 23 _ _ rfl rfl _ _ rfl rfl (by rintro _ k' ⟨n', rfl⟩; first | exact ⟨n' + k', World.drewN_drewN _ _ _⟩ | exact ⟨n' + k', by simp [Nat.add_assoc]⟩) ?_
      intro z5 z5l z5h
      go_simp
      have Z5 : Hid _ := z5h
      clear z5h
      iterate 1 (refine wpLoose_quiet rfl rfl ?_; intro K hK; go_big_quiet_op; go_big_quiet_on)
      refine wpLoose_nil ?_
      intro n2
      go_wp2
      go_ret
      refine ⟨_, rfl, below_drewN B3 _, z5l, ?_⟩
      rw [Z5.out, Z4.out, Z3.out, Z2.out, Z1.out, ZC.out]
      exact HR2.out
end Go.Proofs.Ytfjfpplemgjcmaa
