/- The reference: less, First, Without; place. -/
import Derived.Test.YtcgpjmpppajfdaaRl
namespace Go.Proofs.Ytcgpjmpppajfdaa
open Go.RowKit

/-- The key: none, if flat. -/
def Kf (flat : Bool) (x : It) : Int := if flat = true then 0 else x.1
theorem rless_any (x y : It) (flat : Bool) (w : World) : Calls Try.prog 55 #[.agg #[.int .i64 x.1, .int .i64 x.2], .agg #[.int .i64 y.1, .int .i64 y.2], .bool flat] w fun r w' => r = .returned (.bool (decide (Kf flat x < Kf flat y))) ∧ Below w.heap.size w w' := by
  obtain ⟨xk, xi⟩ := x
  obtain ⟨yk, yi⟩ := y
  unfold Kf
  dsimp only
  have HB : Hid (Below w.heap.size w ((w.alloc (.cells #[.int .i64 xk, .int .i64 xi] 24)).alloc (.cells #[.int .i64 yk, .int .i64 yi] 24))) := ((Below.refl _ w).alloc (Nat.le_refl _) _).alloc (by simp) _
  cases flat with
  | true =>
    go_enter Try.func55, Try.ntmps55
    go_wp2
    go_ret
    exact ⟨by simp, HB.out⟩
  | false =>
    go_enter Try.func55, Try.ntmps55
    go_wp2
    go_ret
    exact ⟨by simp, HB.out⟩

/-- First, step by step. -/
def frs (K : It → Int) (xs : Nat → It) : Nat → Int
  | 0 => -1
  | n + 1 => if frs K xs n < 0 ∨ K (xs n) < K (xs (frs K xs n).toNat) then (n : Int) else frs K xs n
theorem frs_spec (K : It → Int) (xs : Nat → It) : ∀ n, (n = 0 ∧ frs K xs n = -1) ∨ ∃ b : Nat, b < n ∧ frs K xs n = (b : Int) ∧ (∀ j, j < n → ¬ K (xs j) < K (xs b)) ∧ ∀ j, j < b → K (xs b) < K (xs j)
  | 0 => .inl ⟨rfl, rfl⟩
  | n + 1 => by
    right
    rcases frs_spec K xs n with ⟨h0, e⟩ | ⟨b, hb, e, h1, h2⟩
    · subst h0
      refine ⟨0, by omega, by rw [frs, e, if_pos (.inl (by omega))], fun j hj => ?_, fun j hj => by omega⟩
      obtain rfl : j = 0 := by omega
      omega
    · by_cases hk : K (xs n) < K (xs b)
      · refine ⟨n, by omega, by rw [frs, e, if_pos (.inr (by simpa using hk))], fun j hj => ?_, fun j hj => ?_⟩
        · by_cases hjn : j = n
          · subst hjn; omega
          · have := h1 j (by omega); omega
        · have := h1 j (by omega); omega
      · have hno : ¬ ((b : Int) < 0 ∨ K (xs n) < K (xs ((b : Int)).toNat)) := by
          rintro (x | x)
          · omega
          · exact hk (by simpa using x)
        refine ⟨b, by omega, by rw [frs, e, if_neg hno], fun j hj => ?_, h2⟩
        by_cases hjn : j = n
        · subst hjn; exact hk
        · exact h1 j (by omega)

set_option maxHeartbeats 4000000 in
set_option maxRecDepth 100000 in
theorem rfirst_any (a : Option Addr) (c n : Nat) (xs : Nat → It) (flat : Bool) (w : World) (hf : Iml w a xs n) (hl : n ≤ 1152921504606846976) :
    Calls Try.prog 29 #[.slice a n c, .bool flat] w fun r w' => r = .returned (.int .i64 (frs (Kf flat) xs n)) ∧ Below w.heap.size w w' := by
  have HF : Hid (Iml w a xs n) := hf
  obtain ⟨G, hG⟩ : ∃ G, G = w.heap.size := ⟨_, rfl⟩
  have HG : Hid (G = w.heap.size) := hG
  rw [← hG]
  clear hf hG
  go_enter Try.func29, Try.ntmps29
  go_wp2
  go_loopw [5, 6] (fun bv ivv w' => ∃ (i : Nat), ivv = .int .i64 (i : Int) ∧ i ≤ n ∧ bv = .int .i64 (frs (Kf flat) xs i) ∧ Hid (Below G w w')) (fun _ ivv _ => n - (RowKit.intOf ivv).toNat)
  case atStart => exact ⟨0, rfl, by omega, rfl, by rw [HG.out]; exact Below.refl _ _⟩
  case round =>
    obtain ⟨i, rfl, hi, rfl, hb⟩ := hrel
    by_cases hlt : i < n
    · have hii : (i : Int) < n := by omega
      have hGw : G ≤ wr.heap.size := by rw [HG.out]; exact (HG.out ▸ hb.out).size
      rcases id HF.out with h0 | ⟨g, o, rfl, hg, hat⟩
      · omega
      rw [← HG.out] at hg
      have HI : Hid (i + 1 ≤ n) := hlt
      rcases frs_spec (Kf flat) xs i with ⟨h0, e⟩ | ⟨b, hbi, e, h1, h2⟩
      · have HE : Hid (frs (Kf flat) xs (i + 1) = (i : Int)) := by show _ = _; rw [frs, e, if_pos (.inl (by omega))]
        rw [e]
        clear e hat
        go_wp2_with fail
        go_big_quiet (fail)
        have B2 : Hid (Below G w (wr.drewN nq)) := below_drewN hb.out nq
        clear hb
        generalize wr.drewN nq = W2 at *
        go_wp2
        exact ⟨⟨i + 1, by go_num, HI.out, by rw [HE.out], B2⟩, by simp [RowKit.intOf]; omega⟩
      · have c0 := (hb.out.cell (p := ⟨g, o + i * 2, none⟩) hg).trans (hat i hlt).1
        have c1 := (hb.out.cell (p := ⟨g, o + i * 2 + 1, none⟩) hg).trans (hat i hlt).2
        have d0 := (hb.out.cell (p := ⟨g, o + b * 2, none⟩) hg).trans (hat b (by omega)).1
        have d1 := (hb.out.cell (p := ⟨g, o + b * 2 + 1, none⟩) hg).trans (hat b (by omega)).2
        have kO := fun W => rless_any (xs i) (xs b) flat W
        have HE1 : Hid (decide (Kf flat (xs i) < Kf flat (xs b)) = true → frs (Kf flat) xs (i + 1) = (i : Int)) := fun h => by rw [frs, e, if_pos (.inr (by simpa using h))]
        have HE2 : Hid (decide (Kf flat (xs i) < Kf flat (xs b)) = false → frs (Kf flat) xs (i + 1) = (b : Int)) := fun h => by
          rw [frs, e, if_neg]
          rintro (x | x)
          · omega
          · simp at h x; omega
        rw [e]
        generalize decide (Kf flat (xs i) < Kf flat (xs b)) = D at *
        generalize (xs i).1 = xk at *
        generalize (xs i).2 = xi at *
        generalize (xs b).1 = yk at *
        generalize (xs b).2 = yi at *
        have e0 := fun d os => cell_regrown c0 d os
        have e1 := fun d os => cell_regrown c1 d os
        have g0 := fun d os => cell_regrown d0 d os
        have g1 := fun d os => cell_regrown d1 d os
        have cO := fun d os => Calls.regrown_of (kO (Go.Sort.grow (redrawn wr d) os))
        have hbn : b < n := by omega
        have hbi' : (b : Int) < n := by omega
        clear e hat h1 h2
        go_wp2_with fail
        have hbz : decide ((b : Int) < 0) = false := decide_eq_false (by omega)
        refine wp_region_quiet_below (by kernel_rfl) (by kernel_rfl) ?_
        repeat (first | quiet_step (fail) | quiet_step (exact cO _ _))
        refine wpQuiet_nil ?_
        intro _ hw'
        obtain ⟨⟨dq, osq⟩, hw''⟩ := hw'
        subst hw''
        have B2 : Hid (Below G w (Go.Sort.grow (redrawn wr dq) osq)) := hb.out.trans ((below_regrown wr dq osq).mono hGw)
        clear c0 c1 d0 d1 e0 e1 g0 g1 cO kO hb
        generalize Go.Sort.grow (redrawn wr dq) osq = W2 at *
        cases D with
        | true =>
          have HE := HE1.out rfl
          have HE : Hid _ := HE
          clear HE1 HE2
          go_wp2
          exact ⟨⟨i + 1, by go_num, HI.out, by rw [HE.out], B2⟩, by simp [RowKit.intOf]; omega⟩
        | false =>
          have HE := HE2.out rfl
          have HE : Hid _ := HE
          clear HE1 HE2
          go_wp2
          exact ⟨⟨i + 1, by go_num, HI.out, by rw [HE.out], B2⟩, by simp [RowKit.intOf]; omega⟩
    · have hii : ¬ (i : Int) < n := by omega
      obtain rfl : i = n := by omega
      go_wp2
      go_ret
      exact ⟨rfl, hb.out⟩

/-- A list without a thing. -/
def wo (xs : Nat → It) (at_ : Nat) (j : Nat) : It := if j < at_ then xs j else xs (j + 1)
def wn (at_ i : Nat) : Nat := if i ≤ at_ then i else i - 1
set_option maxHeartbeats 2000000 in
set_option maxRecDepth 100000 in
theorem rwithout_any (a : Option Addr) (c n at_ : Nat) (xs : Nat → It) (w : World) (hf : Iml w a xs n) (hl : n * 16 ≤ 140737488355328) (hat_ : at_ < n) :
    Calls Try.prog 30 #[.slice a n c, .int .i64 (at_ : Int)] w fun r w' => ∃ v, r = .returned v ∧ Ir w' w.heap.size v (n - 1) (wo xs at_) ∧ Below w.heap.size w w' := by
  have HF : Hid (Iml w a xs n) := hf
  obtain ⟨G, hG⟩ : ∃ G, G = w.heap.size := ⟨_, rfl⟩
  have HG : Hid (G = w.heap.size) := hG
  rw [← hG]
  have hnb : n ≤ 1152921504606846976 := by omega
  have HL : Hid (n * 16 ≤ 140737488355328) := hl
  clear hf hG hl
  go_enter Try.func30, Try.ntmps30
  go_wp2
  go_loopw [5, 6] (fun lv ivv w' => ∃ (i : Nat) (A : Option Addr) (C : Nat), ivv = .int .i64 (i : Int) ∧ i ≤ n ∧ lv = .slice A (wn at_ i) C ∧ Hid (Ir w' G (.slice A (wn at_ i) C) (wn at_ i) (wo xs at_)) ∧ Hid (Below G w w')) (fun _ ivv _ => n - (RowKit.intOf ivv).toNat)
  case atStart => exact ⟨0, none, 0, rfl, by omega, rfl, World.ownsRow_nil _ _ _ _, by rw [HG.out]; exact Below.refl _ _⟩
  case round =>
    obtain ⟨i, A, C, rfl, hi, rfl, o, hb⟩ := hrel
    by_cases hlt : i < n
    · have hii : (i : Int) < n := by omega
      have hGw : G ≤ wr.heap.size := by rw [HG.out]; exact (HG.out ▸ hb.out).size
      have HI : Hid (i + 1 ≤ n) := hlt
      by_cases hia : i = at_
      · have hw : wn at_ (i + 1) = wn at_ i := by unfold wn; split <;> split <;> omega
        have O2 : Hid (Ir wr G (.slice A (wn at_ (i + 1)) C) (wn at_ (i + 1)) (wo xs at_)) := by rw [hw]; exact o
        have HW : Hid (wn at_ (i + 1) = wn at_ i) := hw
        have hne : ((i : Int) == (at_ : Int)) = true := by simp [hia]
        have HIA : Hid (i = at_) := hia
        clear hw hia o
        generalize wn at_ i = L at *
        go_wp2
        exact ⟨⟨i + 1, A, C, by go_num, HI.out, by rw [HW.out], O2, hb⟩, by simp [RowKit.intOf]; omega⟩
      · rcases id HF.out with h0 | ⟨g, of_, rfl, hg, hat⟩
        · omega
        rw [← HG.out] at hg
        have q1 := (hb.out.cell (p := ⟨g, of_ + i * 2, none⟩) hg).trans (hat i hlt).1
        have q2 := (hb.out.cell (p := ⟨g, of_ + i * 2 + 1, none⟩) hg).trans (hat i hlt).2
        have hw : wn at_ (i + 1) = wn at_ i + 1 := by unfold wn; split <;> split <;> omega
        have hwx : wo xs at_ (wn at_ i) = xs i := by
          unfold wo wn
          split
          · rw [if_pos (by omega)]
          · rw [if_neg (by omega)]
            congr 1
            omega
        have hwl : wn at_ i ≤ i := by unfold wn; split <;> omega
        obtain ⟨g', c', w', r, o', k', _⟩ := append_i wr G (.slice A (wn at_ i) C) (wn at_ i) (wo xs at_) (xs i) hGw (by have := HL.out; omega) o.out
        have O2 : Hid (Ir w' G (.slice (some ⟨g', 0, none⟩) (wn at_ (i + 1)) c') (wn at_ (i + 1)) (wo xs at_)) := by
          rw [hw]
          refine Ir.congr o' fun j hj => ?_
          by_cases hjw : j = wn at_ i
          · rw [hjw, up_same, hwx]
          · exact up_other _ _ _ _ hjw
        have nb : ∀ k, (Value.slice A (wn at_ i) C).ownBlock = some k → G ≤ k := fun k e => (World.ownsRow.lt o.out k e).1
        have B2 : Hid (Below G w w') := hb.out.trans (k'.below hGw (fun k hk e => by have := nb k e; omega))
        have HW : Hid (wn at_ (i + 1) = wn at_ i + 1) := hw
        have hne : ((i : Int) == (at_ : Int)) = false := by simp; omega
        have HIA : Hid (¬ i = at_) := hia
        obtain ⟨⟨xk, xi⟩, hx⟩ : ∃ x, xs i = x := ⟨_, rfl⟩
        rw [hx] at q1 q2 r
        dsimp only at q1 q2
        clear hw hwx hwl hia o o' k' nb hb hat hx
        generalize wn at_ i = L at *
        go_wp2_with (at_builtin; refine wpList_append_run rfl (.tmp 16) (.tmp 21) 22 22 rfl _ _ rfl rfl r ?_)
        exact ⟨⟨i + 1, some ⟨g', 0, none⟩, c', by go_num, HI.out, by rw [HW.out], O2, B2⟩, by simp [RowKit.intOf]; omega⟩
    · have hii : ¬ (i : Int) < n := by omega
      obtain rfl : i = n := by omega
      have hw : wn at_ i = i - 1 := by unfold wn; rw [if_neg (by omega)]
      rw [hw] at o ⊢
      clear hw
      go_wp2
      go_ret
      exact ⟨_, rfl, o.out, hb.out⟩
/-- place -/
def plc (i : Int) (n : Nat) : Nat := ((if i < 0 then -(i + 1) else i).tmod n).toNat
theorem plc_lt (i : Int) (n : Nat) (h : 0 < n) : plc i n < n := by
  unfold plc
  have : 0 ≤ (if i < 0 then -(i + 1) else i) := by split <;> omega
  generalize (if i < 0 then -(i + 1) else i) = z at *
  rw [Int.tmod_eq_emod_of_nonneg this]
  have h1 := Int.emod_lt_of_pos z (show (0 : Int) < n by omega)
  have h2 := Int.emod_nonneg z (show (n : Int) ≠ 0 by omega)
  omega
theorem place_any (i : Int) (n : Nat) (w : World) (h1 : -9223372036854775808 ≤ i) (h2 : i ≤ 9223372036854775807) (hn : 0 < n) (hn2 : n ≤ 1048576) :
    Calls Try.prog 26 #[.int .i64 i, .int .i64 (n : Int)] w fun r w' => r = .returned (.int .i64 (plc i n : Nat)) ∧ w' = w := by
  have hz : ((plc i n : Nat) : Int) = (if i < 0 then -(i + 1) else i).tmod n := by
    unfold plc
    have : 0 ≤ (if i < 0 then -(i + 1) else i) := by split <;> omega
    generalize (if i < 0 then -(i + 1) else i) = z at *
    rw [Int.tmod_eq_emod_of_nonneg this]
    have h2 := Int.emod_nonneg z (show (n : Int) ≠ 0 by omega)
    omega
  rw [hz]
  have hni : (0 : Int) < n := by omega
  by_cases hlt : i < 0
  · rw [if_pos hlt]
    clear hz
    go_enter Try.func26, Try.ntmps26
    go_wp2
    go_ret
    exact ⟨by rw [Int.neg_tmod]; rfl, rfl⟩
  · rw [if_neg hlt]
    clear hz
    go_enter Try.func26, Try.ntmps26
    go_wp2
    go_ret
    exact ⟨by rw [Int.tmod_eq_emod_of_nonneg (by omega)]; rfl, rfl⟩
end Go.Proofs.Ytcgpjmpppajfdaa
