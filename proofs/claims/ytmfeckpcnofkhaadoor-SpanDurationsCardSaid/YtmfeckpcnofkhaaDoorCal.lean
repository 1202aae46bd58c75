/- The calendar, as plain arithmetic. -/
namespace Go.Proofs.YtmfeckpcnofkhaaDoor

/-- A leap year. -/
abbrev lp (y : Int) : Prop := y % 4 = 0 ∧ y % 100 ≠ 0 ∨ y % 400 = 0
/-- One day more in a leap year. -/
def lpN (y : Int) : Int := if lp y then 1 else 0
theorem lpN_or (y : Int) : lpN y = 0 ∨ lpN y = 1 := by unfold lpN; split <;> omega
theorem lpN_pos {y : Int} (h : lp y) : lpN y = 1 := if_pos h
theorem lpN_neg {y : Int} (h : ¬ lp y) : lpN y = 0 := if_neg h
/-- The days ahead of a year, from year 0 on. -/
def dB (y : Int) : Int := 365 * y + (y + 3) / 4 - (y + 99) / 100 + (y + 399) / 400
theorem dB_succ (y : Int) : dB (y + 1) = dB y + 365 + lpN y := by
  by_cases h : lp y
  · rw [lpN_pos h]; unfold lp at h; unfold dB; omega
  · rw [lpN_neg h]; unfold lp at h; unfold dB; omega
theorem dB_mono (y z : Int) (h : y ≤ z) : dB y ≤ dB z := by unfold dB; omega
theorem dB_ge (y : Int) (h : 0 ≤ y) : 365 * y ≤ dB y := by unfold dB; omega
theorem dB_le (y : Int) (h : 0 ≤ y) : dB y ≤ 366 * y := by unfold dB; omega
theorem dB_zero : dB 0 = 0 := by decide
theorem dB_400 : dB 400 = 146097 := by decide
theorem dB_uniq (y z d : Int) (h1 : dB y ≤ d) (h2 : d < dB (y + 1)) (h3 : dB z ≤ d) (h4 : d < dB (z + 1)) : y = z := by
  by_cases a : y + 1 ≤ z
  · have := dB_mono _ _ a; omega
  · by_cases b : z + 1 ≤ y
    · have := dB_mono _ _ b; omega
    · omega
theorem year_ex (d : Int) (h0 : 0 ≤ d) : ∀ n : Nat, d < dB n → ∃ y : Int, 0 ≤ y ∧ y < n ∧ dB y ≤ d ∧ d < dB (y + 1)
  | 0, h => by simp [dB_zero] at h; omega
  | n + 1, h => by
    by_cases a : d < dB n
    · obtain ⟨y, h1, h2, h3, h4⟩ := year_ex d h0 n a
      exact ⟨y, h1, by omega, h3, h4⟩
    · exact ⟨n, by omega, by omega, by omega, by simpa using h⟩

/-- How many days a month has. -/
def md (y m : Int) : Int := if m = 2 then 28 + lpN y else if m = 4 ∨ m = 6 ∨ m = 9 ∨ m = 11 then 30 else 31
theorem md_bd (y m : Int) : 28 ≤ md y m ∧ md y m ≤ 31 := by
  have := lpN_or y
  unfold md; repeat' split
  all_goals omega
/-- The days ahead of a month, in its year. -/
def cum (y m : Int) : Int := if m ≤ 1 then 0 else if m = 2 then 31 else lpN y + (if m = 3 then 59 else if m = 4 then 90 else if m = 5 then 120 else if m = 6 then 151 else if m = 7 then 181 else if m = 8 then 212 else if m = 9 then 243 else if m = 10 then 273 else if m = 11 then 304 else if m = 12 then 334 else 365)
theorem cum_one (y : Int) : cum y 1 = 0 := rfl
theorem cum_13 (y : Int) : cum y 13 = 365 + lpN y := by unfold cum; simp; omega
theorem cum_succ (y m : Int) (h1 : 1 ≤ m) (h2 : m ≤ 12) : cum y (m + 1) = cum y m + md y m := by
  have : m = 1 ∨ m = 2 ∨ m = 3 ∨ m = 4 ∨ m = 5 ∨ m = 6 ∨ m = 7 ∨ m = 8 ∨ m = 9 ∨ m = 10 ∨ m = 11 ∨ m = 12 := by omega
  rcases this with rfl | rfl | rfl | rfl | rfl | rfl | rfl | rfl | rfl | rfl | rfl | rfl <;> simp [cum, md] <;> omega
theorem cum_bd (y m : Int) (h1 : 1 ≤ m) (h2 : m ≤ 13) : 0 ≤ cum y m ∧ cum y m ≤ 366 := by
  have := lpN_or y
  have : m = 1 ∨ m = 2 ∨ m = 3 ∨ m = 4 ∨ m = 5 ∨ m = 6 ∨ m = 7 ∨ m = 8 ∨ m = 9 ∨ m = 10 ∨ m = 11 ∨ m = 12 ∨ m = 13 := by omega
  rcases this with rfl | rfl | rfl | rfl | rfl | rfl | rfl | rfl | rfl | rfl | rfl | rfl | rfl <;> simp [cum] <;> omega
theorem cum_mono (y a b : Int) (h1 : 1 ≤ a) (h2 : a ≤ b) (h3 : b ≤ 13) : cum y a ≤ cum y b := by
  have k : ∀ n : Nat, a + n ≤ 13 → cum y a ≤ cum y (a + n) := by
    intro n
    induction n with
    | zero => intro _; simp
    | succ n ih =>
      intro hn
      have h4 := ih (by omega)
      have h5 := cum_succ y (a + n) (by omega) (by omega)
      have h6 := md_bd y (a + n)
      rw [show a + ((n + 1 : Nat) : Int) = a + n + 1 by omega]
      omega
  have := k (b - a).toNat (by omega)
  rwa [show a + ((b - a).toNat : Int) = b by omega] at this
theorem month_ex (y d : Int) (h0 : 0 ≤ d) (h1 : d < 365 + lpN y) : ∃ m : Int, 1 ≤ m ∧ m ≤ 12 ∧ cum y m ≤ d ∧ d < cum y (m + 1) := by
  have k : ∀ n : Nat, n ≤ 12 → d < cum y (n + 1) → ∃ m : Int, 1 ≤ m ∧ m ≤ 12 ∧ cum y m ≤ d ∧ d < cum y (m + 1) := by
    intro n
    induction n with
    | zero => intro _ h; simp [cum] at h; omega
    | succ n ih =>
      intro hn h
      by_cases a : d < cum y (n + 1)
      · exact ih (by omega) a
      · exact ⟨n + 1, by omega, by omega, by omega, by simpa using h⟩
  exact k 12 (by omega) (by have := cum_13 y; show d < cum y 13; omega)
theorem cum_ge (y m d : Int) (h1 : 1 ≤ m) (h2 : cum y m ≤ d) (h : m ≤ 13) : 28 * (m - 1) ≤ d := by
  have := lpN_or y
  have : m = 1 ∨ m = 2 ∨ m = 3 ∨ m = 4 ∨ m = 5 ∨ m = 6 ∨ m = 7 ∨ m = 8 ∨ m = 9 ∨ m = 10 ∨ m = 11 ∨ m = 12 ∨ m = 13 := by omega
  rcases this with rfl | rfl | rfl | rfl | rfl | rfl | rfl | rfl | rfl | rfl | rfl | rfl | rfl <;> simp [cum] at h2 ⊢ <;> omega

/-- What a moment's parts are: the day, the time in it, the cycle of 400 years, the day in it, the year in it, the month. -/
structure CivR (ms days rest cyc inC y m : Int) : Prop where
  e1 : ms = days * 86400000 + rest
  r0 : 0 ≤ rest
  r1 : rest < 86400000
  e2 : days + 719528 = cyc * 146097 + inC
  c0 : 0 ≤ inC
  c1 : inC < 146097
  y0 : 0 ≤ y
  y1 : y ≤ 399
  b0 : dB y ≤ inC
  b1 : inC < dB (y + 1)
  m0 : 1 ≤ m
  m1 : m ≤ 12
  q0 : cum y m ≤ inC - dB y
  q1 : inC - dB y < cum y (m + 1)
theorem civR_ex (ms : Int) : ∃ days rest cyc inC y m, CivR ms days rest cyc inC y m := by
  obtain ⟨y, h1, h2, h3, h4⟩ := year_ex ((ms / 86400000 + 719528) % 146097) (by omega) 400 (by show _ < dB 400; rw [dB_400]; omega)
  have hs := dB_succ y
  obtain ⟨m, h5, h6, h7, h8⟩ := month_ex y ((ms / 86400000 + 719528) % 146097 - dB y) (by omega) (by omega)
  exact ⟨ms / 86400000, ms % 86400000, (ms / 86400000 + 719528) / 146097, (ms / 86400000 + 719528) % 146097, y, m, ⟨by omega, by omega, by omega, by omega, by omega, by omega, h1, by omega, h3, h4, h5, h6, h7, h8⟩⟩
/-- A day later. -/
theorem civR_next {ms days rest cyc inC y m : Int} (h : CivR ms days rest cyc inC y m) :
    inC - dB y - cum y m + 1 < md y m ∧ CivR (ms + 86400000) (days + 1) rest cyc (inC + 1) y m ∨
    inC - dB y - cum y m + 1 = md y m ∧ m < 12 ∧ CivR (ms + 86400000) (days + 1) rest cyc (inC + 1) y (m + 1) ∨
    inC - dB y - cum y m + 1 = md y m ∧ m = 12 ∧ inC - dB y + 1 = 365 + lpN y ∧ ∃ cyc' y', cyc' * 400 + y' = cyc * 400 + y + 1 ∧ CivR (ms + 86400000) (days + 1) rest cyc' (dB y') y' 1 := by
  obtain ⟨e1, r0, r1, e2, c0, c1, y0, y1, b0, b1, m0, m1, q0, q1⟩ := h
  have hc := cum_succ y m m0 m1
  have hs := dB_succ y
  have h13 := cum_13 y
  by_cases a : inC - dB y - cum y m + 1 < md y m
  · refine .inl ⟨a, ⟨by omega, r0, r1, by omega, by omega, ?_, y0, y1, by omega, ?_, m0, m1, by omega, by omega⟩⟩
    · by_cases l : inC + 1 < dB (y + 1)
      · have := dB_mono (y + 1) 400 (by omega); rw [dB_400] at this; omega
      · exfalso
        have hm := cum_bd y (m + 1) (by omega) (by omega)
        have : cum y (m + 1) ≤ cum y 13 := by
          have := lpN_or y
          have : m = 1 ∨ m = 2 ∨ m = 3 ∨ m = 4 ∨ m = 5 ∨ m = 6 ∨ m = 7 ∨ m = 8 ∨ m = 9 ∨ m = 10 ∨ m = 11 ∨ m = 12 := by omega
          rcases this with rfl | rfl | rfl | rfl | rfl | rfl | rfl | rfl | rfl | rfl | rfl | rfl <;> simp [cum] <;> omega
        omega
    · have : cum y (m + 1) ≤ cum y 13 := by
        have := lpN_or y
        have : m = 1 ∨ m = 2 ∨ m = 3 ∨ m = 4 ∨ m = 5 ∨ m = 6 ∨ m = 7 ∨ m = 8 ∨ m = 9 ∨ m = 10 ∨ m = 11 ∨ m = 12 := by omega
        rcases this with rfl | rfl | rfl | rfl | rfl | rfl | rfl | rfl | rfl | rfl | rfl | rfl <;> simp [cum] <;> omega
      omega
  · have a' : inC - dB y - cum y m + 1 = md y m := by omega
    by_cases k : m < 12
    · have hc2 := cum_succ y (m + 1) (by omega) (by omega)
      have hb := md_bd y (m + 1)
      have hle : cum y (m + 1 + 1) ≤ cum y 13 := by
        have := lpN_or y
        have : m = 1 ∨ m = 2 ∨ m = 3 ∨ m = 4 ∨ m = 5 ∨ m = 6 ∨ m = 7 ∨ m = 8 ∨ m = 9 ∨ m = 10 ∨ m = 11 := by omega
        rcases this with rfl | rfl | rfl | rfl | rfl | rfl | rfl | rfl | rfl | rfl | rfl <;> simp [cum] <;> omega
      have := dB_mono (y + 1) 400 (by omega)
      rw [dB_400] at this
      exact .inr (.inl ⟨a', k, ⟨by omega, r0, r1, by omega, by omega, by omega, y0, y1, by omega, by omega, by omega, by omega, by omega, by omega⟩⟩)
    · obtain rfl : m = 12 := by omega
      have hc' : cum y (12 + 1) = cum y 13 := rfl
      refine .inr (.inr ⟨a', rfl, by omega, ?_⟩)
      by_cases l : y < 399
      · have hb := dB_succ (y + 1)
        have hl := lpN_or (y + 1)
        have := dB_mono (y + 1 + 1) 400 (by omega)
        rw [dB_400] at this
        refine ⟨cyc, y + 1, by omega, ⟨by omega, r0, r1, by omega, ?_, by omega, by omega, by omega, Int.le_refl _, by omega, by omega, by omega, ?_, ?_⟩⟩
        · have := dB_ge (y + 1) (by omega); omega
        · simp [cum]
        · have : cum (y + 1) (1 + 1) = 31 := rfl
          omega
      · obtain rfl : y = 399 := by omega
        have : dB (399 + 1) = 146097 := dB_400
        exact ⟨cyc + 1, 0, by omega, ⟨by omega, r0, r1, by rw [dB_zero]; omega, by decide, by decide, by omega, by omega, Int.le_refl _, by decide, by omega, by omega, by decide, by decide⟩⟩
theorem lp_cyc (c y : Int) : lp (c * 400 + y) ↔ lp y := by unfold lp; omega
end Go.Proofs.YtmfeckpcnofkhaaDoor
