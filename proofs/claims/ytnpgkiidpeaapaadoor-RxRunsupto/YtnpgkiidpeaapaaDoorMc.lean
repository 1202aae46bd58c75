/- add. -/
import Derived.Test.YtnpgkiidpeaapaaDoorMb
import Derived.Deep.DeepFit
namespace Go.Proofs.YtnpgkiidpeaapaaDoor
open Go.RowKit

/-- Is a number marked? -/
def mkB (wd : Nat → Nat → Nat) (n : Nat) : Bool := (wd (n / 65536) (n % 65536 / 64)).testBit (n % 64)
def orW (wd : Nat → Nat → Nat) (n : Nat) : Nat → Nat → Nat := fun k j => if k = n / 65536 ∧ j = n % 65536 / 64 then wd k j ||| 2 ^ (n % 64) else wd k j
theorem mkB_or (wd : Nat → Nat → Nat) (n m : Nat) : mkB (orW wd n) m = (mkB wd m || decide (m = n)) := by
  unfold mkB orW
  by_cases h : m / 65536 = n / 65536 ∧ m % 65536 / 64 = n % 65536 / 64
  · rw [if_pos h, Nat.testBit_or, Nat.testBit_two_pow]
    congr 1
    rw [decide_eq_decide]
    omega
  · rw [if_neg h]
    have : ¬ m = n := fun e => h ⟨by rw [e], by rw [e]⟩
    simp [this]
theorem bit_none (W I : Nat) : (!W.testBit I) = decide (W &&& 2 ^ I = 0) := by
  cases h : W.testBit I with
  | true =>
    have : W &&& 2 ^ I ≠ 0 := fun e => by
      have h2 : (W &&& 2 ^ I).testBit I = true := by rw [Nat.testBit_and, h, Nat.testBit_two_pow_self]; rfl
      rw [e, Nat.zero_testBit] at h2
      cases h2
    simp [this]
  | false =>
    have : W &&& 2 ^ I = 0 := by
      apply Nat.eq_of_testBit_eq
      intro j
      rw [Nat.testBit_and, Nat.testBit_two_pow, Nat.zero_testBit]
      by_cases e : I = j
      · subst e; rw [h]; rfl
      · simp [e]
    simp [this]
theorem orW_small (wd : Nat → Nat → Nat) (n : Nat) (h : ∀ k j, wd k j < 18446744073709551616) (k j : Nat) : orW wd n k j < 18446744073709551616 := by
  unfold orW
  split
  · rw [show (18446744073709551616 : Nat) = 2 ^ 64 by decide]
    refine Nat.or_lt_two_pow ?_ ?_
    · exact h k j
    · exact Nat.pow_lt_pow_right (by decide) (Nat.mod_lt _ (by decide))
  · exact h k j
theorem u64_wrap_nat (x : Nat) (h : x < 18446744073709551616) : IntKind.u64.wrap (x : Int) = (x : Int) := by
  rw [IntKind.wrap_u64]
  omega
section
variable {w : World} {S b : Nat} {L : Nat → Prop} {size : Nat} {wd : Nat → Nat → Nat} {np nw : Nat} {pv : Value} {ps : Nat → Value}
theorem Mk.word {g c : Nat} (h : Mk w S b L size wd np nw pv ps) (n : Nat) (hn : n < size) (hv : ps (n / 65536) = .slice (some ⟨g, 0, none⟩) nw c) :
    n / 65536 < np ∧ n % 65536 / 64 < nw ∧ w.cell? ⟨g, n % 65536 / 64, none⟩ = some (.int .u64 ((wd (n / 65536) (n % 65536 / 64) : Nat) : Int)) ∧ w.frozen? ⟨g, n % 65536 / 64, none⟩ = false ∧
      Mk (w.setCell ⟨g, n % 65536 / 64, none⟩ (.int .u64 ((orW wd n (n / 65536) (n % 65536 / 64) : Nat) : Int))) S b L size (orW wd n) np nw pv ps ∧ Kp (fun i => L i) w (w.setCell ⟨g, n % 65536 / 64, none⟩ (.int .u64 ((orW wd n (n / 65536) (n % 65536 / 64) : Nat) : Int))) ∧ FldM b w (w.setCell ⟨g, n % 65536 / 64, none⟩ (.int .u64 ((orW wd n (n / 65536) (n % 65536 / 64) : Nat) : Int))) := by
  have hk : n / 65536 < np := by rw [h.enp]; omega
  have hj : n % 65536 / 64 < nw := by rw [h.enw]; omega
  obtain ⟨g', c', e', o⟩ : ∃ g c, ps (n / 65536) = .slice (some ⟨g, 0, none⟩) nw c ∧ w.ownsRow S 82 1 (ps (n / 65536)) nw (sc (wc wd (n / 65536)) nw) := by
    rcases h.each _ hk with ⟨e, _⟩ | o
    · rw [hv] at e; cases e
    · exact o
  rw [hv] at o
  have hl := h.inL (n / 65536 + 1) g (by show (if _ < np then _ else _) = _; rw [if_pos hk, hv]; rfl)
  have hc : w.cell? ⟨g, n % 65536 / 64, none⟩ = some (.int .u64 ((wd (n / 65536) (n % 65536 / 64) : Nat) : Int)) := by
    have := World.ownsRow.cellAt o (n % 65536 / 64) (by omega)
    rw [sc_get _ nw _ hj] at this
    exact this
  have kk : Kp (· = g) w (w.setCell ⟨g, n % 65536 / 64, none⟩ (.int .u64 ((orW wd n (n / 65536) (n % 65536 / 64) : Nat) : Int))) := (Kp.refl (· = g) w).setCell (p := ⟨g, n % 65536 / 64, none⟩) rfl _
  have e7 : (w.setCell ⟨g, n % 65536 / 64, none⟩ (.int .u64 ((orW wd n (n / 65536) (n % 65536 / 64) : Nat) : Int))).heap.size = w.heap.size := by simp [World.setCell]
  refine ⟨hk, hj, hc, World.ownsRow.frozenAt o _, ⟨h.enp, h.enw, h.hsz, kk.cell h.c3 (fun e => hl.2 e.symm), kk.cell h.c4 (fun e => hl.2 e.symm), kk.frozen h.c4 h.z4 (fun e => hl.2 e.symm), ?_, fun k hk2 => ?_, orW_small wd n h.small, h.apart, h.inL, fun k hk2 => by rw [e7]; exact h.lt k hk2⟩, kk.mono (fun i _ (e : i = g) => by rw [e]; exact hl.1), FldM.kp kk (fun e => hl.2 e.symm)⟩
  · rcases h.pages with op | op
    · refine .inl (kk.row op (fun i e (x : i = g) => ?_))
      have := h.apart 0 (n / 65536 + 1) g (by rw [← x]; exact e) (by show (if _ < np then _ else _) = _; rw [if_pos hk, hv]; rfl)
      omega
    · have := op.2 (n / 65536)
      rw [hv] at this; cases this
  · by_cases e : k = n / 65536
    · subst e
      refine .inr ⟨g, c, hv, ?_⟩
      rw [hv]
      have := (World.ownsRow.stored o (n % 65536 / 64) (.int .u64 ((orW wd n (n / 65536) (n % 65536 / 64) : Nat) : Int))).1
      rw [sc_set _ _ _ _ hj] at this
      have es : sc (up (wc wd (n / 65536)) (n % 65536 / 64) (.int .u64 ((orW wd n (n / 65536) (n % 65536 / 64) : Nat) : Int))) nw = sc (wc (orW wd n) (n / 65536)) nw := sc_congr _ _ _ fun i _ => by
        unfold up wc
        by_cases ei : i = n % 65536 / 64
        · rw [if_pos ei, ei]
        · rw [if_neg ei]
          unfold orW
          rw [if_neg (fun x => ei x.2)]
      rw [es] at this
      exact this
    · have ew : ∀ j, orW wd n k j = wd k j := fun j => by unfold orW; rw [if_neg (fun x => e x.1)]
      rcases h.each k hk2 with ⟨o1, o2⟩ | ⟨g2, c2, o1, o2⟩
      · exact .inl ⟨o1, fun j => by rw [ew j]; exact o2 j⟩
      · refine .inr ⟨g2, c2, o1, ?_⟩
        have es : sc (wc wd k) nw = sc (wc (orW wd n) k) nw := sc_congr _ _ _ fun i _ => by unfold wc; rw [ew i]
        rw [← es]
        refine kk.row o2 (fun i e2 (x : i = g) => ?_)
        have := h.apart (k + 1) (n / 65536 + 1) g (by show (if _ < np then _ else _) = _; rw [if_pos hk2, ← x]; exact e2) (by show (if _ < np then _ else _) = _; rw [if_pos hk, hv]; rfl)
        omega
end

set_option maxHeartbeats 2000000 in
set_option maxRecDepth 100000 in
theorem add_any (w : World) (S b n : Nat) (L : Nat → Prop) (size : Nat) (wd : Nat → Nat → Nat) (h : Ms w S b L size wd) (hn : n < size) (hS : S ≤ w.heap.size) :
    Calls Tryd.prog 41 #[.pointer (some ⟨b, 3, none⟩), .int .i64 (n : Int)] w fun r w' => r = .returned (.bool (!mkB wd n)) ∧ AftM w w' S b L size (orW wd n) := by
  have kP := page_any w S b (n / 65536) L size wd h (by omega) hS
  have hsz : n ≤ 281474976710656 := by obtain ⟨_, _, _, _, h⟩ := h; have := h.hsz; omega
  obtain ⟨K, hK⟩ : ∃ K, K = n / 65536 := ⟨_, rfl⟩
  obtain ⟨J, hJ⟩ : ∃ J, J = n % 65536 / 64 := ⟨_, rfl⟩
  obtain ⟨I, hI⟩ : ∃ I, I = n % 64 := ⟨_, rfl⟩
  have e1 : (n : Int) / 65536 = (K : Int) := by omega
  have e2 : (n : Int) % 65536 / 64 = (J : Int) := by omega
  have e3 : (n : Int) % 64 = (I : Int) := by omega
  rw [← hK] at kP
  have HK : Hid (K = n / 65536) := hK
  have HJ : Hid (J = n % 65536 / 64) := hJ
  have HI : Hid (I = n % 64) := hI
  have hI64 : (I : Int) < 64 := by omega
  clear h hK hJ hI
  have HT : (!mkB wd n) = decide (wd K J &&& 2 ^ I = 0) := by
    unfold mkB
    rw [← HK.out, ← HJ.out, ← HI.out]
    exact bit_none (wd K J) I
  obtain ⟨W, hWe⟩ : ∃ W, W = wd K J := ⟨_, rfl⟩
  rw [HT, ← hWe]
  clear HT
  go_enter Tryd.func41, Tryd.ntmps41
  go_wp2_with fail
  go_fit kP
  rintro r w1 ⟨v, rfl, L', np, nw, pg, cp, ps, hM, hv, hne, hkn, k1, fl1, hL1⟩
  obtain ⟨g, c, rfl⟩ : ∃ g c, v = .slice (some ⟨g, 0, none⟩) nw c := by
    rcases hM.each K hkn with ⟨e, _⟩ | ⟨g, c, e, _⟩
    · exact absurd (hv.symm.trans e) hne
    · exact ⟨g, c, hv.symm.trans e⟩
  obtain ⟨a1, a2, a3, a4, s2, k2, f2⟩ := hM.word n hn (by rw [← HK.out]; exact hv)
  rw [← HK.out, ← HJ.out] at a3 s2 k2 f2
  rw [← HJ.out] at a2 a4
  have hW := hM.small K J
  have hor : orW wd n K J = wd K J ||| 2 ^ I := by
    unfold orW
    rw [if_pos ⟨HK.out, HJ.out⟩, ← HI.out]
  rw [hor] at s2 k2 f2
  have AF : Hid (AftM w (w1.setCell ⟨g, J, none⟩ (.int .u64 ((wd K J ||| 2 ^ I : Nat) : Int))) S b L size (orW wd n)) := ⟨L', ⟨_, _, _, _, s2⟩, k1.trans' k2 (fun i hi e => by
    rcases hL1 i e with e | e
    · exact .inr e
    · omega), fl1.trans f2, hL1⟩
  have hJn : (J : Int) < (nw : Int) := by omega
  rw [← hWe] at a3 hW AF
  have hI2 : 2 ^ I < 18446744073709551616 := by
    rw [show (18446744073709551616 : Nat) = 2 ^ 64 by decide]
    exact Nat.pow_lt_pow_right (by decide) (by omega)
  have hsh : IntKind.u64.wrap (2 ^ I) = ((2 ^ I : Nat) : Int) := by
    rw [show ((2 : Int) ^ I) = ((2 ^ I : Nat) : Int) by rw [Int.natCast_pow]; rfl]
    exact u64_wrap_nat _ hI2
  have hA : bits .and .u64 (W : Int) ((2 ^ I : Nat) : Int) = ((W &&& 2 ^ I : Nat) : Int) := u64_and_nat W _ hW hI2
  have hO : bits .or .u64 (W : Int) ((2 ^ I : Nat) : Int) = ((W ||| 2 ^ I : Nat) : Int) := u64_or_nat W _ hW hI2
  have HSH : Hid _ := hsh
  have HA : Hid _ := hA
  have HO : Hid _ := hO
  clear hM hv hne hkn k1 fl1 hL1 a1 s2 k2 f2 hor kP hn hS hWe hsh hA hO hI2
  go_wp2
  rw [HSH.out, HA.out, HO.out]
  go_ret
  refine ⟨?_, AF.out⟩
  rw [show ((((W &&& 2 ^ I : Nat) : Int)) == 0) = decide (W &&& 2 ^ I = 0) by
    rw [Bool.eq_iff_iff, beq_iff_eq, decide_eq_true_iff]
    omega]
  rfl
end Go.Proofs.YtnpgkiidpeaapaaDoor
