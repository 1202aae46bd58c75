/- Buckets. -/
import Derived.Test.YtfjfpplemgjcmaaCi
import Derived.Test.YtfjfpplemgjcmaaQk
namespace Go.Proofs.Ytfjfpplemgjcmaa
open Go.RowKit

/-- Without an end? -/
def upB (x : Nat) : Bool := FloatKind.f64.format.order x 9218868437227405311 == some .gt
set_option maxHeartbeats 400000 in
theorem isInf1_any (x : Nat) (w : World) : Calls Try.prog 30 #[.float .f64 x, .int .i64 1] w fun r w' => r = .returned (.bool (upB x)) ∧ w' = w := by
  unfold upB
  generalize hX : (FloatKind.f64.format.order x 9218868437227405311 == some .gt) = X
  go_enter Try.func30, Try.ntmps30
  go_wp2
  go_ret
  exact ⟨rfl, rfl⟩
theorem rsg_getD (f : Nat → Bk) (m : Nat) : ∀ j, j < m → (rsg f m).getD (m - 1 - j) (0, none) = ab' (f j) := by
  induction m with
  | zero => intro j hj; omega
  | succ m ih =>
    intro j hj
    rw [rsg]
    by_cases e : j = m
    · subst e
      rw [show j + 1 - 1 - j = 0 by omega]; rfl
    · rw [show m + 1 - 1 - j = (m - 1 - j) + 1 by omega]
      exact ih j (by omega)
theorem tpI_congr (A B : Nat → Ab) (m : Nat) (h : ∀ j, j < m → A j = B j) : ∀ i, i < m → tpI A i = tpI B i
  | 0, hi => by rw [tpI, tpI, h 0 hi]
  | i + 1, hi => by rw [tpI, tpI, tpI_congr A B m h i (by omega), h i (by omega)]
theorem rzI_congr (A B : Nat → Ab) (m : Nat) (h : ∀ j, j < m → A j = B j) (i : Nat) (hi : i < m) : rzI A i = rzI B i := by
  unfold rzI
  rw [tpI_congr A B m h i hi, h i hi]
theorem fstI_congr (P Q : Nat → Bool) : ∀ k i, (∀ j, i ≤ j → j < i + k → P j = Q j) → fstI P k i = fstI Q k i
  | 0, _, _ => rfl
  | k + 1, i, h => by
    unfold fstI
    rw [h i (Nat.le_refl _) (by omega), fstI_congr P Q k (i + 1) fun j h1 h2 => h j (by omega) (by omega)]
theorem anC_congr (Z Y : Nat → Ab) (m : Nat) (rk : Option Nat) (hm : 2 ≤ m) (h : ∀ j, j < m → Z j = Y j) : anC Z m rk = anC Y m rk := by
  unfold anC
  have e := fstI_congr (fun j => nbB (Z j).2 rk) (fun j => nbB (Y j).2 rk) (m - 1) 0 fun j _ hj => by
    show nbB (Z j).2 rk = nbB (Y j).2 rk
    rw [h j (by omega)]
  have hb := fstI_bd (fun j => nbB (Y j).2 rk) (m - 1) 0
  rw [e]
  generalize fstI (fun j => nbB (Y j).2 rk) (m - 1) 0 = X at *
  cases X with
  | negSucc k =>
    dsimp only
    rw [h (m - 2) (by omega)]
  | ofNat k =>
    cases k with
    | zero =>
      dsimp only
      rw [h 0 (by omega)]
    | succ k =>
      have hk : k + 1 < m := by
        rcases hb with hb | hb
        · cases hb
        · have := hb.2
          have e2 : Int.ofNat (k + 1) = ((k + 1 : Nat) : Int) := rfl
          rw [e2] at this
          omega
      dsimp only
      rw [h (k + 1) hk, h k (by omega)]
/-- The row out of the list. -/
def atX (X : List Ab) (j : Nat) : Ab := X.getD (X.length - 1 - j) (0, none)
/-- The quantile's class, of the buckets joined. -/
def buC (q : Option Nat) (X : List Ab) : Option Nat :=
  if X.length < 2 ∨ upB (atX X (X.length - 1)).1 = false then none
  else if fo (rzI (atX X) (X.length - 1)).2 (some 0) = some .gt then anC (rzI (atX X)) X.length (fb .mul q (rzI (atX X) (X.length - 1)).2) else none
/-- .. of the buckets as they stand. -/
def BuV (bs : Nat → Bk) (n : Nat) (q c : Option Nat) : Prop := ∃ k f, Sim kb ((seg bs 0 n).filter nn) (seg f 0 k) ∧ Up kb (seg f 0 k) ∧ c = buC q (jnI (fun j => ab' (f j)) k)
theorem seg_at {E : Type} (f g : Nat → E) : ∀ n m a, seg f a n = seg g a m → n = m ∧ ∀ j, j < n → f (a + j) = g (a + j)
  | 0, 0, _, _ => ⟨rfl, fun j hj => by omega⟩
  | 0, m + 1, _, h => by cases h
  | n + 1, 0, _, h => by cases h
  | n + 1, m + 1, a, h => by
    rw [seg, seg] at h
    injection h with h1 h2
    obtain ⟨e, hj⟩ := seg_at f g n m (a + 1) h2
    subst e
    refine ⟨rfl, fun j hjn => ?_⟩
    cases j with
    | zero => exact h1
    | succ j =>
      have := hj j (by omega)
      rw [show a + 1 + j = a + (j + 1) by omega] at this
      exact this
theorem BuV.one {bs : Nat → Bk} {n : Nat} {q c d : Option Nat} (h : BuV bs n q c) (h' : BuV bs n q d) : c = d := by
  obtain ⟨k, f, s1, u1, rfl⟩ := h
  obtain ⟨k', f', s2, u2, rfl⟩ := h'
  have e := sim_one (s1.symm.trans s2) u1 u2
  obtain ⟨rfl, hj⟩ := seg_at f f' k k' 0 e
  congr 1
  refine jnI_congr _ _ _ fun j hjk => ?_
  have := hj j hjk
  rw [Nat.zero_add] at this
  rw [this]
theorem at_rsg (f : Nat → Bk) (m j : Nat) (hj : j < m) : atX (rsg f m) j = ab' (f j) := by
  unfold atX
  rw [rsg_len]
  exact rsg_getD f m j hj
theorem buC_lt (q : Option Nat) (f : Nat → Bk) (m : Nat) (h : m < 2) : buC q (rsg f m) = none := by
  unfold buC
  rw [rsg_len, if_pos (.inl h)]
theorem buC_fin (q : Option Nat) (f : Nat → Bk) (L : Nat) (h : upB (f L).1 = false) : buC q (rsg f (L + 1)) = none := by
  unfold buC
  rw [rsg_len, if_pos]
  right
  rw [show L + 1 - 1 = L from rfl, at_rsg f (L + 1) L (by omega)]
  exact h
theorem buC_val (q : Option Nat) (f : Nat → Bk) (L : Nat) (hL : 1 ≤ L) (h : upB (f L).1 = true) :
    buC q (rsg f (L + 1)) = if fo (rzI (fun j => ab' (f j)) L).2 (some 0) = some .gt then anC (rzI (fun j => ab' (f j))) (L + 1) (fb .mul q (rzI (fun j => ab' (f j)) L).2) else none := by
  have hz : ∀ j, j < L + 1 → rzI (atX (rsg f (L + 1))) j = rzI (fun j => ab' (f j)) j := fun j hj => rzI_congr _ _ (L + 1) (fun i hi => at_rsg f (L + 1) i hi) j hj
  unfold buC
  rw [rsg_len, if_neg, show L + 1 - 1 = L from rfl, hz L (by omega), anC_congr _ _ (L + 1) _ (by omega) hz]
  rintro (h1 | h1)
  · omega
  · rw [show L + 1 - 1 = L from rfl, at_rsg f (L + 1) L (by omega)] at h1
    have h2 : upB (f L).1 = false := h1
    rw [h] at h2
    cases h2
set_option maxHeartbeats 4000000 in
set_option maxRecDepth 100000 in
theorem buckets_part (q : Nat) (hq : Pt q) (a : Option Addr) (c n : Nat) (bs : Nat → Bk) (w : World) (hf : Bml w a bs n) (hw : BW bs n) (hl : 16 * n ≤ 140737488355328) :
    Calls Try.prog 14 #[.float .f64 q, .slice a n c] w fun r w' => ∃ d, BuV bs n (cl q) d ∧ RB w d r w' := by
  have kP := isPart_yes q hq
  have kN := nan_any
  have hm := @run_fmul Try.prog
  have kI := inOrder_any a c n bs w hf hl
  have HW : Hid (BW bs n) := hw
  clear hf hw
  go_enter Try.func14, Try.ntmps14
  go_wp2_with fail
  go_fit (kP _)
  rintro r w ⟨rfl, rfl⟩
  go_wp2_with fail
  go_fit kI
  rintro r w1 ⟨v, k, f, rfl, o1, hk, hs, hu, hb1⟩
  obtain ⟨a1, c1, rfl, m1, hc1⟩ := o1.bml
  have hbw1 : BW f k := fun j hj => by
    have hmem : f j ∈ seg f 0 k := (mem_seg _ _ _ _).2 ⟨j, Nat.zero_le _, by omega, rfl⟩
    have h2 := (hs.symm.mem _ hmem)
    obtain ⟨i, _, hi, e⟩ := (mem_seg _ _ _ _).1 (List.mem_filter.1 h2).1
    rw [e]
    exact HW.out i (by omega)
  have kJ := joined_any a1 c1 k f w1 m1 hbw1 (by omega)
  have HS : Hid (∀ d, d = buC (cl q) (jnI (fun j => ab' (f j)) k) → BuV bs n (cl q) d) := fun d hd => ⟨k, f, hs, hu, hd⟩
  clear o1 m1 hc1 hbw1 hs hu kI
  go_wp2_with fail
  go_fit kJ
  rintro r w2 ⟨v, m, f2, rfl, o2, hbw2, hmk, hX, hb2⟩
  have B2 := hb1.trans (hb2.mono hb1.size)
  clear kJ hb2
  rw [← hX] at HS
  clear hX
  by_cases hm2 : m < 2
  · have HD : Hid (BuV bs n (cl q) none) := HS.out none (buC_lt _ _ _ hm2).symm
    have hmi : (m : Int) < 2 := by omega
    have hdt : decide ((m : Int) < 2) = true := decide_eq_true hmi
    obtain ⟨a2, c2, rfl, _, _⟩ := o2.bml
    clear o2 hbw2 HS
    go_wp2_with fail
    go_fit (kN _)
    rintro r w ⟨rfl, rfl⟩
    go_wp2
    go_ret
    exact ⟨none, HD.out, _, rfl, B2, by decide, cl_theNaN⟩
  · obtain ⟨L, rfl⟩ : ∃ L, m = L + 1 := ⟨m - 1, by omega⟩
    have hL : 1 ≤ L := by omega
    rcases o2.parts with ⟨hv, h0⟩ | ⟨g2, c2, hv, hr, hc⟩
    · omega
    cases hv
    have hmi : ¬ ((L + 1 : Nat) : Int) < 2 := by omega
    have hdf : decide (((L + 1 : Nat) : Int) < 2) = false := decide_eq_false hmi
    have hlast : ((L + 1 : Nat) : Int) - 1 = (L : Int) := by omega
    have cu := hr.cellU L (by omega)
    have kF := isInf1_any (f2 L).1
    have hLL : L < L + 1 := by omega
    cases hup : upB (f2 L).1
    · have HD : Hid (BuV bs n (cl q) none) := HS.out none (buC_fin _ _ _ hup).symm
      rw [hup] at kF
      clear o2 hbw2 HS hr hup
      generalize (f2 L).1 = lu at *
      obtain ⟨M, hM⟩ : ∃ M, L + 1 = M := ⟨_, rfl⟩
      rw [hM] at hmi hdf hlast hLL hc ⊢
      clear hM
      go_wp2_with fail
      go_fit (kF _)
      rintro r w ⟨rfl, rfl⟩
      go_wp2_with fail
      go_fit (kN _)
      rintro r w ⟨rfl, rfl⟩
      go_wp2
      go_ret
      exact ⟨none, HD.out, _, rfl, B2, by decide, cl_theNaN⟩
    · rw [hup] at kF
      have kR := raise_any w1.heap.size g2 c2 (L + 1) f2 w2 hr hbw2 (by omega) (by omega)
      have HV : Hid (∀ d, d = (if fo (rzI (fun j => ab' (f2 j)) L).2 (some 0) = some .gt then anC (rzI (fun j => ab' (f2 j))) (L + 1) (fb .mul (cl q) (rzI (fun j => ab' (f2 j)) L).2) else none) → BuV bs n (cl q) d) := fun d hd => HS.out d (by rw [buC_val _ _ _ hL hup]; exact hd)
      clear o2 hbw2 HS hr hup
      generalize (f2 L).1 = lu at *
      obtain ⟨M, hM⟩ : ∃ M, L + 1 = M := ⟨_, rfl⟩
      have HM : Hid (L + 1 = M) := hM
      rw [hM] at hmi hdf hlast hLL hc kR ⊢
      clear hM
      go_wp2_with fail
      go_fit (kF _)
      rintro r w ⟨rfl, rfl⟩
      go_wp2_with fail
      go_fit kR
      rintro r w3 ⟨rfl, ⟨f3, hr3, hbw3, hz3⟩, hb3⟩
      have B3 := B2.trans (hb3.mono hb1.size)
      clear kR hb3
      have cc := hr3.cellC L hLL
      have hal : cl (f3 L).2 = (rzI (fun j => ab' (f2 j)) L).2 := congrArg Prod.snd (hz3 L hLL)
      have HAN : Hid (∀ rk, anC (fun j => ab' (f3 j)) (L + 1) rk = anC (rzI (fun j => ab' (f2 j))) (L + 1) rk) := fun rk => anC_congr _ _ (L + 1) rk (by omega) fun j hj => hz3 j (by rw [← HM.out]; exact hj)
      have hoz : FloatKind.f64.format.order (f3 L).2 0 = fo (rzI (fun j => ab' (f2 j)) L).2 (some 0) := by rw [fo_cl, hal, cl_lit 0 (by decide)]
      rw [← hoz, ← hal] at HV
      have kA := atRank_any g2 c2 L f3 (fz .mul q (f3 L).2 w3) (w3.drewN (fk .mul q (f3 L).2)) hr3.lt (fun j hj => by
        rw [HM.out] at hj
        rw [Nat.zero_add]
        exact ⟨hr3.cellU j hj, hr3.cellC j hj⟩) (by rw [HM.out]; exact hbw3) hL (by rw [HM.out]; exact hc) (by omega)
      rw [HM.out] at kA
      generalize (f3 L).2 = al at *
      clear hoz hal
      by_cases hgt : FloatKind.f64.format.order al 0 = some .gt
      · rw [if_pos hgt, ← HAN.out, HM.out] at HV
        have HD : Hid (BuV bs n (cl q) (anC (fun j => ab' (f3 j)) M (fb .mul (cl q) (cl al)))) := HV.out _ rfl
        rw [cl_fz] at kA
        generalize anC (fun j => ab' (f3 j)) M (fb .mul (cl q) (cl al)) = R at *
        clear HV HAN hr3 hbw3 hz3
        go_wp2_with fail
        go_fit kA
        rintro r w4 ⟨z, rfl, hb4, hzl, hzc⟩
        have B4 := (below_drewN B3 (fk .mul q al)).trans (hb4.mono B3.size)
        have HZ : Hid (cl z = R) := hzc
        clear hb4 hzc kA
        go_wp2
        go_ret
        exact ⟨R, HD.out, _, rfl, B4, hzl, HZ.out⟩
      · have hgf : (FloatKind.f64.format.order al 0 == some .gt) = false := beq_eq_false_iff_ne.2 hgt
        rw [if_neg hgt] at HV
        have HD : Hid (BuV bs n (cl q) none) := HV.out _ rfl
        clear HV HAN hr3 hbw3 hz3 hgt kA
        go_wp2_with fail
        go_fit (kN _)
        rintro r w ⟨rfl, rfl⟩
        go_wp2
        go_ret
        exact ⟨none, HD.out, _, rfl, B3, by decide, cl_theNaN⟩
set_option maxHeartbeats 1000000 in
theorem buckets_beyond (q : Nat) (d : Option Nat) (hq : byP q d) (v : Value) (w : World) : Calls Try.prog 14 #[.float .f64 q, v] w (RF w d) := by
  have k1 := isPart_no q d hq
  have k2 := beyond_any q d hq
  go_enter Try.func14, Try.ntmps14
  go_wp2_with fail
  go_fit (k1 _)
  rintro r w ⟨rfl, rfl⟩
  go_wp2_with fail
  go_fit (k2 _)
  rintro r w2 ⟨z, k, rfl, rfl, hzl, hzc⟩
  have HZ : Hid (cl z = d) := hzc
  clear hzc
  go_wp2
  go_ret
  exact ⟨_, _, rfl, rfl, hzl, HZ.out⟩
end Go.Proofs.Ytfjfpplemgjcmaa
