/- A bundle of texts. -/
import Derived.Test.YtbciclnffokjjaaBk01
/- RxprogSounds: the reference's sound. -/
namespace Go.Proofs.Ytbciclnffokjjaa
open Go.RowKit

theorem sdB_iff (op out alt arg : Int) (n : Nat) (f : Nat → Rg) (m g : Int) : sdB op out alt arg n f m g = true ↔ (1 ≤ op ∧ op ≤ 11) ∧ (op = 1 ∨ op = 11 → out = 0) ∧ (¬ (op = 1 ∨ op = 11) → 0 ≤ out ∧ out < m) ∧ (op = 3 → 0 ≤ alt ∧ alt < m) ∧ (op ≠ 3 → alt = 0) ∧ (op = 4 → 2 ≤ arg ∧ arg ≤ 2 * g + 1) ∧ (op = 9 → arg = 0 ∨ arg = 1) ∧ (op ≠ 4 → op ≠ 9 → arg = 0) ∧ (op = 2 ↔ 0 < n) ∧ rgB f n = true := by
  unfold sdB spB saB srB plB
  by_cases h1 : op = 1 ∨ op = 11
  · have h2 : op ≠ 2 := by omega
    have h3 : op ≠ 3 := by omega
    have h4 : op ≠ 4 := by omega
    have h9 : op ≠ 9 := by omega
    rw [if_pos h1, if_neg h4, if_neg h9, if_neg h2]
    simp only [Bool.and_eq_true, decide_eq_true_iff]
    constructor
    · rintro ⟨⟨⟨a, b⟩, d⟩, e⟩
      subst e
      exact ⟨a, fun _ => b.1, fun h => (h h1).elim, fun h => by omega, fun _ => b.2, fun h => by omega, fun h => by omega, fun _ _ => d, by omega, rfl⟩
    · rintro ⟨a, b, _, _, d, _, _, e, h, _⟩
      exact ⟨⟨⟨a, b h1, d h3⟩, e h4 h9⟩, by omega⟩
  · rw [if_neg h1]
    by_cases h3 : op = 3
    · subst h3
      simp
      constructor
      · rintro ⟨⟨⟨a, b⟩, d⟩, e⟩
        subst e
        exact ⟨a, b, d, rfl, rfl⟩
      · rintro ⟨a, b, d, e, _⟩
        exact ⟨⟨⟨a, b⟩, d⟩, e⟩
    · rw [if_neg h3]
      by_cases h2 : op = 2
      · subst h2
        simp
        constructor
        · rintro ⟨⟨⟨a, b⟩, d⟩, e, h⟩
          exact ⟨a, b, d, h, e⟩
        · rintro ⟨a, b, d, h, e⟩
          exact ⟨⟨⟨a, b⟩, d⟩, e, h⟩
      · rw [if_neg h2]
        simp only [Bool.and_eq_true, decide_eq_true_iff]
        have hk : (if op = 4 then decide (2 ≤ arg ∧ arg ≤ 2 * g + 1) else if op = 9 then decide (arg = 0 ∨ arg = 1) else decide (arg = 0)) = true ↔ ((op = 4 → 2 ≤ arg ∧ arg ≤ 2 * g + 1) ∧ (op = 9 → arg = 0 ∨ arg = 1) ∧ (op ≠ 4 → op ≠ 9 → arg = 0)) := by
          by_cases h4 : op = 4
          · rw [if_pos h4, decide_eq_true_iff]; omega
          · rw [if_neg h4]
            by_cases h9 : op = 9
            · rw [if_pos h9, decide_eq_true_iff]; omega
            · rw [if_neg h9, decide_eq_true_iff]; omega
        rw [hk]
        constructor
        · rintro ⟨⟨⟨a, b, b'⟩, d1, d2, d3⟩, e⟩
          subst e
          exact ⟨a, fun h => (h1 h).elim, fun _ => b, fun h => (h3 h).elim, fun _ => b', d1, d2, d3, by omega, rfl⟩
        · rintro ⟨a, _, b, _, b', d1, d2, d3, e, _⟩
          exact ⟨⟨⟨a, b h1, b' h3⟩, d1, d2, d3⟩, by omega⟩
theorem sdB_no {op out alt arg : Int} {n : Nat} {f : Nat → Rg} {m g : Int} (h : ¬ ((1 ≤ op ∧ op ≤ 11) ∧ (op = 1 ∨ op = 11 → out = 0) ∧ (¬ (op = 1 ∨ op = 11) → 0 ≤ out ∧ out < m) ∧ (op = 3 → 0 ≤ alt ∧ alt < m) ∧ (op ≠ 3 → alt = 0) ∧ (op = 4 → 2 ≤ arg ∧ arg ≤ 2 * g + 1) ∧ (op = 9 → arg = 0 ∨ arg = 1) ∧ (op ≠ 4 → op ≠ 9 → arg = 0) ∧ (op = 2 ↔ 0 < n))) : sdB op out alt arg n f m g = false := by
  rw [Bool.eq_false_iff]
  intro e
  obtain ⟨a1, a2, a3, a4, a5, a6, a7, a8, a9, _⟩ := (sdB_iff op out alt arg n f m g).1 e
  exact h ⟨a1, a2, a3, a4, a5, a6, a7, a8, a9⟩
theorem sdB_rg {op out alt arg : Int} {n : Nat} {f : Nat → Rg} {m g : Int} (h : rgB f n = false) : sdB op out alt arg n f m g = false := by
  rw [Bool.eq_false_iff]
  intro e
  have := ((sdB_iff op out alt arg n f m g).1 e).2.2.2.2.2.2.2.2.2
  rw [h] at this
  cases this

set_option maxHeartbeats 4000000 in
set_option maxRecDepth 100000 in
theorem rsound_a (op out alt arg : Int) (a : Option Addr) (n c : Nat) (f : Nat → Rg) (m g : Int) (w : World) (hop : op = 1) (hn : n ≤ 1152921504606846976) (_hg0 : 0 ≤ g) (_hg1 : g ≤ 100) :
    Calls Try.prog 24 #[inV op out alt arg a n c, .int .i64 m, .int .i64 g] w fun r w' => r = .returned (.bool (sdB op out alt arg n f m g)) ∧ Below w.heap.size w w' := by
  have HB : Hid (Below w.heap.size w (w.alloc (inX op out alt arg a n c))) := (Below.refl _ w).alloc (Nat.le_refl _) _
  by_cases tout : out = 0
  rotate_left
  · have HX : Hid (sdB op out alt arg n f m g = false) := sdB_no (by omega)
    have btout : (out != 0) = true := by simp [tout]
    clear tout
    subst hop
    go_enter Try.func24, Try.ntmps24
    go_wp2
    go_ret
    exact ⟨ret_bool (by rw [HX.out]), HB.out⟩
  · skip
    by_cases talt : alt = 0
    rotate_left
    · have HX : Hid (sdB op out alt arg n f m g = false) := sdB_no (by omega)
      have btout : (out != 0) = false := by simp [tout]
      clear tout
      have btalt : (alt != 0) = true := by simp [talt]
      clear talt
      subst hop
      go_enter Try.func24, Try.ntmps24
      go_wp2
      go_ret
      exact ⟨ret_bool (by rw [HX.out]), HB.out⟩
    · skip
      by_cases targ : arg = 0
      rotate_left
      · have HX : Hid (sdB op out alt arg n f m g = false) := sdB_no (by omega)
        have btout : (out != 0) = false := by simp [tout]
        clear tout
        have btalt : (alt != 0) = false := by simp [talt]
        clear talt
        have btarg : (arg != 0) = true := by simp [targ]
        clear targ
        subst hop
        go_enter Try.func24, Try.ntmps24
        go_wp2
        go_ret
        exact ⟨ret_bool (by rw [HX.out]), HB.out⟩
      · skip
        by_cases tn : 0 < (n : Int)
        · have HX : Hid (sdB op out alt arg n f m g = false) := sdB_no (by omega)
          have btout : (out != 0) = false := by simp [tout]
          clear tout
          have btalt : (alt != 0) = false := by simp [talt]
          clear talt
          have btarg : (arg != 0) = false := by simp [targ]
          clear targ
          subst hop
          go_enter Try.func24, Try.ntmps24
          go_wp2
          go_ret
          exact ⟨ret_bool (by rw [HX.out]), HB.out⟩
        · skip
          have HG : Hid (n = 0) := by unfold Hid; omega
          have HX : Hid (sdB op out alt arg n f m g = true) := (sdB_iff op out alt arg n f m g).2 ⟨by omega, by omega, by omega, by omega, by omega, by omega, by omega, by omega, by omega, by rw [HG.out]; rfl⟩
          have btout : (out != 0) = false := by simp [tout]
          clear tout
          have btalt : (alt != 0) = false := by simp [talt]
          clear talt
          have btarg : (arg != 0) = false := by simp [targ]
          clear targ
          obtain ⟨W, hW⟩ : ∃ W, W = w.alloc (inX op out alt arg a n c) := ⟨_, rfl⟩
          obtain ⟨c0, c1, c2, c3, c4⟩ := inX_cells op out alt arg a n c (Below.refl _ (w.alloc (inX op out alt arg a n c)))
          rw [← hW] at c0 c1 c2 c3 c4 HB
          have HW : Hid (W = w.alloc (inX op out alt arg a n c)) := hW
          clear hW
          subst hop
          go_enter Try.func24, Try.ntmps24
          go_wp2_with fail
          rw [← HW.out]
          go_loopw [8] (fun ivv w' => ∃ i : Nat, ivv = .int .i64 (i : Int) ∧ i ≤ n ∧ w' = W) (fun ivv _ => n - (RowKit.intOf ivv).toNat)
          case atStart => exact ⟨0, rfl, by omega, rfl⟩
          case round =>
            obtain ⟨i, rfl, hi, rfl⟩ := hrel
            have hii : ¬ (i : Int) < n := by omega
            go_wp2
            go_ret
            exact ⟨ret_bool (by rw [HX.out]), HB.out⟩

set_option maxHeartbeats 4000000 in
set_option maxRecDepth 100000 in
theorem rsound_b (op out alt arg : Int) (a : Option Addr) (n c : Nat) (f : Nat → Rg) (m g : Int) (w : World) (hop : op = 11) (hn : n ≤ 1152921504606846976) (_hg0 : 0 ≤ g) (_hg1 : g ≤ 100) :
    Calls Try.prog 24 #[inV op out alt arg a n c, .int .i64 m, .int .i64 g] w fun r w' => r = .returned (.bool (sdB op out alt arg n f m g)) ∧ Below w.heap.size w w' := by
  have HB : Hid (Below w.heap.size w (w.alloc (inX op out alt arg a n c))) := (Below.refl _ w).alloc (Nat.le_refl _) _
  by_cases tout : out = 0
  rotate_left
  · have HX : Hid (sdB op out alt arg n f m g = false) := sdB_no (by omega)
    have btout : (out != 0) = true := by simp [tout]
    clear tout
    subst hop
    go_enter Try.func24, Try.ntmps24
    go_wp2
    go_ret
    exact ⟨ret_bool (by rw [HX.out]), HB.out⟩
  · skip
    by_cases talt : alt = 0
    rotate_left
    · have HX : Hid (sdB op out alt arg n f m g = false) := sdB_no (by omega)
      have btout : (out != 0) = false := by simp [tout]
      clear tout
      have btalt : (alt != 0) = true := by simp [talt]
      clear talt
      subst hop
      go_enter Try.func24, Try.ntmps24
      go_wp2
      go_ret
      exact ⟨ret_bool (by rw [HX.out]), HB.out⟩
    · skip
      by_cases targ : arg = 0
      rotate_left
      · have HX : Hid (sdB op out alt arg n f m g = false) := sdB_no (by omega)
        have btout : (out != 0) = false := by simp [tout]
        clear tout
        have btalt : (alt != 0) = false := by simp [talt]
        clear talt
        have btarg : (arg != 0) = true := by simp [targ]
        clear targ
        subst hop
        go_enter Try.func24, Try.ntmps24
        go_wp2
        go_ret
        exact ⟨ret_bool (by rw [HX.out]), HB.out⟩
      · skip
        by_cases tn : 0 < (n : Int)
        · have HX : Hid (sdB op out alt arg n f m g = false) := sdB_no (by omega)
          have btout : (out != 0) = false := by simp [tout]
          clear tout
          have btalt : (alt != 0) = false := by simp [talt]
          clear talt
          have btarg : (arg != 0) = false := by simp [targ]
          clear targ
          subst hop
          go_enter Try.func24, Try.ntmps24
          go_wp2
          go_ret
          exact ⟨ret_bool (by rw [HX.out]), HB.out⟩
        · skip
          have HG : Hid (n = 0) := by unfold Hid; omega
          have HX : Hid (sdB op out alt arg n f m g = true) := (sdB_iff op out alt arg n f m g).2 ⟨by omega, by omega, by omega, by omega, by omega, by omega, by omega, by omega, by omega, by rw [HG.out]; rfl⟩
          have btout : (out != 0) = false := by simp [tout]
          clear tout
          have btalt : (alt != 0) = false := by simp [talt]
          clear talt
          have btarg : (arg != 0) = false := by simp [targ]
          clear targ
          obtain ⟨W, hW⟩ : ∃ W, W = w.alloc (inX op out alt arg a n c) := ⟨_, rfl⟩
          obtain ⟨c0, c1, c2, c3, c4⟩ := inX_cells op out alt arg a n c (Below.refl _ (w.alloc (inX op out alt arg a n c)))
          rw [← hW] at c0 c1 c2 c3 c4 HB
          have HW : Hid (W = w.alloc (inX op out alt arg a n c)) := hW
          clear hW
          subst hop
          go_enter Try.func24, Try.ntmps24
          go_wp2_with fail
          rw [← HW.out]
          go_loopw [8] (fun ivv w' => ∃ i : Nat, ivv = .int .i64 (i : Int) ∧ i ≤ n ∧ w' = W) (fun ivv _ => n - (RowKit.intOf ivv).toNat)
          case atStart => exact ⟨0, rfl, by omega, rfl⟩
          case round =>
            obtain ⟨i, rfl, hi, rfl⟩ := hrel
            have hii : ¬ (i : Int) < n := by omega
            go_wp2
            go_ret
            exact ⟨ret_bool (by rw [HX.out]), HB.out⟩

set_option maxHeartbeats 4000000 in
set_option maxRecDepth 100000 in
theorem rsound_c (op out alt arg : Int) (a : Option Addr) (n c : Nat) (f : Nat → Rg) (m g : Int) (w : World) (hop : op = 3) (hn : n ≤ 1152921504606846976) (_hg0 : 0 ≤ g) (_hg1 : g ≤ 100) :
    Calls Try.prog 24 #[inV op out alt arg a n c, .int .i64 m, .int .i64 g] w fun r w' => r = .returned (.bool (sdB op out alt arg n f m g)) ∧ Below w.heap.size w w' := by
  have HB : Hid (Below w.heap.size w (w.alloc (inX op out alt arg a n c))) := (Below.refl _ w).alloc (Nat.le_refl _) _
  by_cases tout0 : out < 0
  · have HX : Hid (sdB op out alt arg n f m g = false) := sdB_no (by omega)
    subst hop
    go_enter Try.func24, Try.ntmps24
    go_wp2
    go_ret
    exact ⟨ret_bool (by rw [HX.out]), HB.out⟩
  · skip
    by_cases tout1 : m ≤ out
    · have HX : Hid (sdB op out alt arg n f m g = false) := sdB_no (by omega)
      subst hop
      go_enter Try.func24, Try.ntmps24
      go_wp2
      go_ret
      exact ⟨ret_bool (by rw [HX.out]), HB.out⟩
    · skip
      by_cases talt0 : alt < 0
      · have HX : Hid (sdB op out alt arg n f m g = false) := sdB_no (by omega)
        subst hop
        go_enter Try.func24, Try.ntmps24
        go_wp2
        go_ret
        exact ⟨ret_bool (by rw [HX.out]), HB.out⟩
      · skip
        by_cases talt1 : m ≤ alt
        · have HX : Hid (sdB op out alt arg n f m g = false) := sdB_no (by omega)
          subst hop
          go_enter Try.func24, Try.ntmps24
          go_wp2
          go_ret
          exact ⟨ret_bool (by rw [HX.out]), HB.out⟩
        · skip
          by_cases targ : arg = 0
          rotate_left
          · have HX : Hid (sdB op out alt arg n f m g = false) := sdB_no (by omega)
            have btarg : (arg != 0) = true := by simp [targ]
            clear targ
            subst hop
            go_enter Try.func24, Try.ntmps24
            go_wp2
            go_ret
            exact ⟨ret_bool (by rw [HX.out]), HB.out⟩
          · skip
            by_cases tn : 0 < (n : Int)
            · have HX : Hid (sdB op out alt arg n f m g = false) := sdB_no (by omega)
              have btarg : (arg != 0) = false := by simp [targ]
              clear targ
              subst hop
              go_enter Try.func24, Try.ntmps24
              go_wp2
              go_ret
              exact ⟨ret_bool (by rw [HX.out]), HB.out⟩
            · skip
              have HG : Hid (n = 0) := by unfold Hid; omega
              have HX : Hid (sdB op out alt arg n f m g = true) := (sdB_iff op out alt arg n f m g).2 ⟨by omega, by omega, by omega, by omega, by omega, by omega, by omega, by omega, by omega, by rw [HG.out]; rfl⟩
              have btarg : (arg != 0) = false := by simp [targ]
              clear targ
              obtain ⟨W, hW⟩ : ∃ W, W = w.alloc (inX op out alt arg a n c) := ⟨_, rfl⟩
              obtain ⟨c0, c1, c2, c3, c4⟩ := inX_cells op out alt arg a n c (Below.refl _ (w.alloc (inX op out alt arg a n c)))
              rw [← hW] at c0 c1 c2 c3 c4 HB
              have HW : Hid (W = w.alloc (inX op out alt arg a n c)) := hW
              clear hW
              subst hop
              go_enter Try.func24, Try.ntmps24
              go_wp2_with fail
              rw [← HW.out]
              go_loopw [8] (fun ivv w' => ∃ i : Nat, ivv = .int .i64 (i : Int) ∧ i ≤ n ∧ w' = W) (fun ivv _ => n - (RowKit.intOf ivv).toNat)
              case atStart => exact ⟨0, rfl, by omega, rfl⟩
              case round =>
                obtain ⟨i, rfl, hi, rfl⟩ := hrel
                have hii : ¬ (i : Int) < n := by omega
                go_wp2
                go_ret
                exact ⟨ret_bool (by rw [HX.out]), HB.out⟩

set_option maxHeartbeats 4000000 in
set_option maxRecDepth 100000 in
theorem rsound_d (op out alt arg : Int) (a : Option Addr) (n c : Nat) (f : Nat → Rg) (m g : Int) (w : World) (hop : op = 4) (hn : n ≤ 1152921504606846976) (hg0 : 0 ≤ g) (hg1 : g ≤ 100) :
    Calls Try.prog 24 #[inV op out alt arg a n c, .int .i64 m, .int .i64 g] w fun r w' => r = .returned (.bool (sdB op out alt arg n f m g)) ∧ Below w.heap.size w w' := by
  have HB : Hid (Below w.heap.size w (w.alloc (inX op out alt arg a n c))) := (Below.refl _ w).alloc (Nat.le_refl _) _
  by_cases tout0 : out < 0
  · have HX : Hid (sdB op out alt arg n f m g = false) := sdB_no (by omega)
    subst hop
    go_enter Try.func24, Try.ntmps24
    go_wp2
    go_ret
    exact ⟨ret_bool (by rw [HX.out]), HB.out⟩
  · skip
    by_cases tout1 : m ≤ out
    · have HX : Hid (sdB op out alt arg n f m g = false) := sdB_no (by omega)
      subst hop
      go_enter Try.func24, Try.ntmps24
      go_wp2
      go_ret
      exact ⟨ret_bool (by rw [HX.out]), HB.out⟩
    · skip
      by_cases talt : alt = 0
      rotate_left
      · have HX : Hid (sdB op out alt arg n f m g = false) := sdB_no (by omega)
        have btalt : (alt != 0) = true := by simp [talt]
        clear talt
        subst hop
        go_enter Try.func24, Try.ntmps24
        go_wp2
        go_ret
        exact ⟨ret_bool (by rw [HX.out]), HB.out⟩
      · skip
        by_cases tg0 : arg < 2
        · have HX : Hid (sdB op out alt arg n f m g = false) := sdB_no (by omega)
          have btalt : (alt != 0) = false := by simp [talt]
          clear talt
          subst hop
          go_enter Try.func24, Try.ntmps24
          go_wp2
          go_ret
          exact ⟨ret_bool (by rw [HX.out]), HB.out⟩
        · skip
          by_cases tg1 : 2 * g + 1 < arg
          · have HX : Hid (sdB op out alt arg n f m g = false) := sdB_no (by omega)
            have btalt : (alt != 0) = false := by simp [talt]
            clear talt
            subst hop
            go_enter Try.func24, Try.ntmps24
            go_wp2
            go_ret
            exact ⟨ret_bool (by rw [HX.out]), HB.out⟩
          · skip
            by_cases tn : 0 < (n : Int)
            · have HX : Hid (sdB op out alt arg n f m g = false) := sdB_no (by omega)
              have btalt : (alt != 0) = false := by simp [talt]
              clear talt
              subst hop
              go_enter Try.func24, Try.ntmps24
              go_wp2
              go_ret
              exact ⟨ret_bool (by rw [HX.out]), HB.out⟩
            · skip
              have HG : Hid (n = 0) := by unfold Hid; omega
              have HX : Hid (sdB op out alt arg n f m g = true) := (sdB_iff op out alt arg n f m g).2 ⟨by omega, by omega, by omega, by omega, by omega, by omega, by omega, by omega, by omega, by rw [HG.out]; rfl⟩
              have btalt : (alt != 0) = false := by simp [talt]
              clear talt
              obtain ⟨W, hW⟩ : ∃ W, W = w.alloc (inX op out alt arg a n c) := ⟨_, rfl⟩
              obtain ⟨c0, c1, c2, c3, c4⟩ := inX_cells op out alt arg a n c (Below.refl _ (w.alloc (inX op out alt arg a n c)))
              rw [← hW] at c0 c1 c2 c3 c4 HB
              have HW : Hid (W = w.alloc (inX op out alt arg a n c)) := hW
              clear hW
              subst hop
              go_enter Try.func24, Try.ntmps24
              go_wp2_with fail
              rw [← HW.out]
              go_loopw [8] (fun ivv w' => ∃ i : Nat, ivv = .int .i64 (i : Int) ∧ i ≤ n ∧ w' = W) (fun ivv _ => n - (RowKit.intOf ivv).toNat)
              case atStart => exact ⟨0, rfl, by omega, rfl⟩
              case round =>
                obtain ⟨i, rfl, hi, rfl⟩ := hrel
                have hii : ¬ (i : Int) < n := by omega
                go_wp2
                go_ret
                exact ⟨ret_bool (by rw [HX.out]), HB.out⟩

set_option maxHeartbeats 4000000 in
set_option maxRecDepth 100000 in
theorem rsound_e (op out alt arg : Int) (a : Option Addr) (n c : Nat) (f : Nat → Rg) (m g : Int) (w : World) (hop : op = 9) (hn : n ≤ 1152921504606846976) (_hg0 : 0 ≤ g) (_hg1 : g ≤ 100) :
    Calls Try.prog 24 #[inV op out alt arg a n c, .int .i64 m, .int .i64 g] w fun r w' => r = .returned (.bool (sdB op out alt arg n f m g)) ∧ Below w.heap.size w w' := by
  have HB : Hid (Below w.heap.size w (w.alloc (inX op out alt arg a n c))) := (Below.refl _ w).alloc (Nat.le_refl _) _
  by_cases tout0 : out < 0
  · have HX : Hid (sdB op out alt arg n f m g = false) := sdB_no (by omega)
    subst hop
    go_enter Try.func24, Try.ntmps24
    go_wp2
    go_ret
    exact ⟨ret_bool (by rw [HX.out]), HB.out⟩
  · skip
    by_cases tout1 : m ≤ out
    · have HX : Hid (sdB op out alt arg n f m g = false) := sdB_no (by omega)
      subst hop
      go_enter Try.func24, Try.ntmps24
      go_wp2
      go_ret
      exact ⟨ret_bool (by rw [HX.out]), HB.out⟩
    · skip
      by_cases talt : alt = 0
      rotate_left
      · have HX : Hid (sdB op out alt arg n f m g = false) := sdB_no (by omega)
        have btalt : (alt != 0) = true := by simp [talt]
        clear talt
        subst hop
        go_enter Try.func24, Try.ntmps24
        go_wp2
        go_ret
        exact ⟨ret_bool (by rw [HX.out]), HB.out⟩
      · skip
        by_cases tg : arg = 0
        · by_cases tn : 0 < (n : Int)
          · have HX : Hid (sdB op out alt arg n f m g = false) := sdB_no (by omega)
            have btalt : (alt != 0) = false := by simp [talt]
            clear talt
            have btg : (arg != 0) = false := by simp [tg]
            clear tg
            subst hop
            go_enter Try.func24, Try.ntmps24
            go_wp2
            go_ret
            exact ⟨ret_bool (by rw [HX.out]), HB.out⟩
          · have HG : Hid (n = 0) := by unfold Hid; omega
            have HX : Hid (sdB op out alt arg n f m g = true) := (sdB_iff op out alt arg n f m g).2 ⟨by omega, by omega, by omega, by omega, by omega, by omega, by omega, by omega, by omega, by rw [HG.out]; rfl⟩
            have btalt : (alt != 0) = false := by simp [talt]
            clear talt
            have btg : (arg != 0) = false := by simp [tg]
            clear tg
            obtain ⟨W, hW⟩ : ∃ W, W = w.alloc (inX op out alt arg a n c) := ⟨_, rfl⟩
            obtain ⟨c0, c1, c2, c3, c4⟩ := inX_cells op out alt arg a n c (Below.refl _ (w.alloc (inX op out alt arg a n c)))
            rw [← hW] at c0 c1 c2 c3 c4 HB
            have HW : Hid (W = w.alloc (inX op out alt arg a n c)) := hW
            clear hW
            subst hop
            go_enter Try.func24, Try.ntmps24
            go_wp2_with fail
            rw [← HW.out]
            go_loopw [8] (fun ivv w' => ∃ i : Nat, ivv = .int .i64 (i : Int) ∧ i ≤ n ∧ w' = W) (fun ivv _ => n - (RowKit.intOf ivv).toNat)
            case atStart => exact ⟨0, rfl, by omega, rfl⟩
            case round =>
              obtain ⟨i, rfl, hi, rfl⟩ := hrel
              have hii : ¬ (i : Int) < n := by omega
              go_wp2
              go_ret
              exact ⟨ret_bool (by rw [HX.out]), HB.out⟩
        · by_cases th : arg = 1
          · by_cases tn : 0 < (n : Int)
            · have HX : Hid (sdB op out alt arg n f m g = false) := sdB_no (by omega)
              have btalt : (alt != 0) = false := by simp [talt]
              clear talt
              have btg : (arg != 0) = true := by simp [tg]
              clear tg
              have bth : (arg != 1) = false := by simp [th]
              clear th
              subst hop
              go_enter Try.func24, Try.ntmps24
              go_wp2
              go_ret
              exact ⟨ret_bool (by rw [HX.out]), HB.out⟩
            · have HG : Hid (n = 0) := by unfold Hid; omega
              have HX : Hid (sdB op out alt arg n f m g = true) := (sdB_iff op out alt arg n f m g).2 ⟨by omega, by omega, by omega, by omega, by omega, by omega, by omega, by omega, by omega, by rw [HG.out]; rfl⟩
              have btalt : (alt != 0) = false := by simp [talt]
              clear talt
              have btg : (arg != 0) = true := by simp [tg]
              clear tg
              have bth : (arg != 1) = false := by simp [th]
              clear th
              obtain ⟨W, hW⟩ : ∃ W, W = w.alloc (inX op out alt arg a n c) := ⟨_, rfl⟩
              obtain ⟨c0, c1, c2, c3, c4⟩ := inX_cells op out alt arg a n c (Below.refl _ (w.alloc (inX op out alt arg a n c)))
              rw [← hW] at c0 c1 c2 c3 c4 HB
              have HW : Hid (W = w.alloc (inX op out alt arg a n c)) := hW
              clear hW
              subst hop
              go_enter Try.func24, Try.ntmps24
              go_wp2_with fail
              rw [← HW.out]
              go_loopw [8] (fun ivv w' => ∃ i : Nat, ivv = .int .i64 (i : Int) ∧ i ≤ n ∧ w' = W) (fun ivv _ => n - (RowKit.intOf ivv).toNat)
              case atStart => exact ⟨0, rfl, by omega, rfl⟩
              case round =>
                obtain ⟨i, rfl, hi, rfl⟩ := hrel
                have hii : ¬ (i : Int) < n := by omega
                go_wp2
                go_ret
                exact ⟨ret_bool (by rw [HX.out]), HB.out⟩
          · have HX : Hid (sdB op out alt arg n f m g = false) := sdB_no (by omega)
            have btalt : (alt != 0) = false := by simp [talt]
            clear talt
            have btg : (arg != 0) = true := by simp [tg]
            clear tg
            have bth : (arg != 1) = true := by simp [th]
            clear th
            subst hop
            go_enter Try.func24, Try.ntmps24
            go_wp2
            go_ret
            exact ⟨ret_bool (by rw [HX.out]), HB.out⟩

set_option maxHeartbeats 4000000 in
set_option maxRecDepth 100000 in
theorem rsound_g (op out alt arg : Int) (a : Option Addr) (n c : Nat) (f : Nat → Rg) (m g : Int) (w : World) (hop : op ≠ 1 ∧ op ≠ 2 ∧ op ≠ 3 ∧ op ≠ 4 ∧ op ≠ 9 ∧ op ≠ 11) (hn : n ≤ 1152921504606846976) (_hg0 : 0 ≤ g) (_hg1 : g ≤ 100) :
    Calls Try.prog 24 #[inV op out alt arg a n c, .int .i64 m, .int .i64 g] w fun r w' => r = .returned (.bool (sdB op out alt arg n f m g)) ∧ Below w.heap.size w w' := by
  have HB : Hid (Below w.heap.size w (w.alloc (inX op out alt arg a n c))) := (Below.refl _ w).alloc (Nat.le_refl _) _
  by_cases tout0 : out < 0
  · have HX : Hid (sdB op out alt arg n f m g = false) := sdB_no (by omega)
    have e1 : (op == 1) = false := by simp; omega
    have e2 : (op == 2) = false := by simp; omega
    have e3 : (op == 3) = false := by simp; omega
    have e4 : (op == 4) = false := by simp; omega
    have e9 : (op == 9) = false := by simp; omega
    have e3' : (op != 3) = true := by simp; omega
    have e11 : (op == 11) = false := by simp; omega
    clear hop
    go_enter Try.func24, Try.ntmps24
    go_wp2
    go_ret
    exact ⟨ret_bool (by rw [HX.out]), HB.out⟩
  · skip
    by_cases tout1 : m ≤ out
    · have HX : Hid (sdB op out alt arg n f m g = false) := sdB_no (by omega)
      have e1 : (op == 1) = false := by simp; omega
      have e2 : (op == 2) = false := by simp; omega
      have e3 : (op == 3) = false := by simp; omega
      have e4 : (op == 4) = false := by simp; omega
      have e9 : (op == 9) = false := by simp; omega
      have e3' : (op != 3) = true := by simp; omega
      have e11 : (op == 11) = false := by simp; omega
      clear hop
      go_enter Try.func24, Try.ntmps24
      go_wp2
      go_ret
      exact ⟨ret_bool (by rw [HX.out]), HB.out⟩
    · skip
      by_cases talt : alt = 0
      rotate_left
      · have HX : Hid (sdB op out alt arg n f m g = false) := sdB_no (by omega)
        have btalt : (alt != 0) = true := by simp [talt]
        clear talt
        have e1 : (op == 1) = false := by simp; omega
        have e2 : (op == 2) = false := by simp; omega
        have e3 : (op == 3) = false := by simp; omega
        have e4 : (op == 4) = false := by simp; omega
        have e9 : (op == 9) = false := by simp; omega
        have e3' : (op != 3) = true := by simp; omega
        have e11 : (op == 11) = false := by simp; omega
        clear hop
        go_enter Try.func24, Try.ntmps24
        go_wp2
        go_ret
        exact ⟨ret_bool (by rw [HX.out]), HB.out⟩
      · skip
        by_cases targ : arg = 0
        rotate_left
        · have HX : Hid (sdB op out alt arg n f m g = false) := sdB_no (by omega)
          have btalt : (alt != 0) = false := by simp [talt]
          clear talt
          have btarg : (arg != 0) = true := by simp [targ]
          clear targ
          have e1 : (op == 1) = false := by simp; omega
          have e2 : (op == 2) = false := by simp; omega
          have e3 : (op == 3) = false := by simp; omega
          have e4 : (op == 4) = false := by simp; omega
          have e9 : (op == 9) = false := by simp; omega
          have e3' : (op != 3) = true := by simp; omega
          have e11 : (op == 11) = false := by simp; omega
          clear hop
          go_enter Try.func24, Try.ntmps24
          go_wp2
          go_ret
          exact ⟨ret_bool (by rw [HX.out]), HB.out⟩
        · skip
          by_cases tn : 0 < (n : Int)
          · have HX : Hid (sdB op out alt arg n f m g = false) := sdB_no (by omega)
            have btalt : (alt != 0) = false := by simp [talt]
            clear talt
            have btarg : (arg != 0) = false := by simp [targ]
            clear targ
            have e1 : (op == 1) = false := by simp; omega
            have e2 : (op == 2) = false := by simp; omega
            have e3 : (op == 3) = false := by simp; omega
            have e4 : (op == 4) = false := by simp; omega
            have e9 : (op == 9) = false := by simp; omega
            have e3' : (op != 3) = true := by simp; omega
            have e11 : (op == 11) = false := by simp; omega
            clear hop
            go_enter Try.func24, Try.ntmps24
            go_wp2
            go_ret
            exact ⟨ret_bool (by rw [HX.out]), HB.out⟩
          · skip
            have HG : Hid (n = 0) := by unfold Hid; omega
            by_cases u0 : 1 ≤ op
            rotate_left
            · have HX : Hid (sdB op out alt arg n f m g = false) := sdB_no (by omega)
              have btalt : (alt != 0) = false := by simp [talt]
              clear talt
              have btarg : (arg != 0) = false := by simp [targ]
              clear targ
              obtain ⟨W, hW⟩ : ∃ W, W = w.alloc (inX op out alt arg a n c) := ⟨_, rfl⟩
              obtain ⟨c0, c1, c2, c3, c4⟩ := inX_cells op out alt arg a n c (Below.refl _ (w.alloc (inX op out alt arg a n c)))
              rw [← hW] at c0 c1 c2 c3 c4 HB
              have HW : Hid (W = w.alloc (inX op out alt arg a n c)) := hW
              clear hW
              have e1 : (op == 1) = false := by simp; omega
              have e2 : (op == 2) = false := by simp; omega
              have e3 : (op == 3) = false := by simp; omega
              have e4 : (op == 4) = false := by simp; omega
              have e9 : (op == 9) = false := by simp; omega
              have e3' : (op != 3) = true := by simp; omega
              have e11 : (op == 11) = false := by simp; omega
              clear hop
              go_enter Try.func24, Try.ntmps24
              go_wp2_with fail
              rw [← HW.out]
              go_loopw [8] (fun ivv w' => ∃ i : Nat, ivv = .int .i64 (i : Int) ∧ i ≤ n ∧ w' = W) (fun ivv _ => n - (RowKit.intOf ivv).toNat)
              case atStart => exact ⟨0, rfl, by omega, rfl⟩
              case round =>
                obtain ⟨i, rfl, hi, rfl⟩ := hrel
                have hii : ¬ (i : Int) < n := by omega
                go_wp2
                go_ret
                exact ⟨ret_bool (by first | (rw [HX.out]; done) | (rw [HX.out]; simp; omega)), HB.out⟩
            · by_cases u1 : op ≤ 11
              rotate_left
              · have HX : Hid (sdB op out alt arg n f m g = false) := sdB_no (by omega)
                have btalt : (alt != 0) = false := by simp [talt]
                clear talt
                have btarg : (arg != 0) = false := by simp [targ]
                clear targ
                obtain ⟨W, hW⟩ : ∃ W, W = w.alloc (inX op out alt arg a n c) := ⟨_, rfl⟩
                obtain ⟨c0, c1, c2, c3, c4⟩ := inX_cells op out alt arg a n c (Below.refl _ (w.alloc (inX op out alt arg a n c)))
                rw [← hW] at c0 c1 c2 c3 c4 HB
                have HW : Hid (W = w.alloc (inX op out alt arg a n c)) := hW
                clear hW
                have e1 : (op == 1) = false := by simp; omega
                have e2 : (op == 2) = false := by simp; omega
                have e3 : (op == 3) = false := by simp; omega
                have e4 : (op == 4) = false := by simp; omega
                have e9 : (op == 9) = false := by simp; omega
                have e3' : (op != 3) = true := by simp; omega
                have e11 : (op == 11) = false := by simp; omega
                clear hop
                go_enter Try.func24, Try.ntmps24
                go_wp2_with fail
                rw [← HW.out]
                go_loopw [8] (fun ivv w' => ∃ i : Nat, ivv = .int .i64 (i : Int) ∧ i ≤ n ∧ w' = W) (fun ivv _ => n - (RowKit.intOf ivv).toNat)
                case atStart => exact ⟨0, rfl, by omega, rfl⟩
                case round =>
                  obtain ⟨i, rfl, hi, rfl⟩ := hrel
                  have hii : ¬ (i : Int) < n := by omega
                  go_wp2
                  go_ret
                  exact ⟨ret_bool (by first | (rw [HX.out]; done) | (rw [HX.out]; simp; omega)), HB.out⟩
              · have HX : Hid (sdB op out alt arg n f m g = true) := (sdB_iff op out alt arg n f m g).2 ⟨by omega, by omega, by omega, by omega, by omega, by omega, by omega, by omega, by omega, by rw [HG.out]; rfl⟩
                have btalt : (alt != 0) = false := by simp [talt]
                clear talt
                have btarg : (arg != 0) = false := by simp [targ]
                clear targ
                obtain ⟨W, hW⟩ : ∃ W, W = w.alloc (inX op out alt arg a n c) := ⟨_, rfl⟩
                obtain ⟨c0, c1, c2, c3, c4⟩ := inX_cells op out alt arg a n c (Below.refl _ (w.alloc (inX op out alt arg a n c)))
                rw [← hW] at c0 c1 c2 c3 c4 HB
                have HW : Hid (W = w.alloc (inX op out alt arg a n c)) := hW
                clear hW
                have e1 : (op == 1) = false := by simp; omega
                have e2 : (op == 2) = false := by simp; omega
                have e3 : (op == 3) = false := by simp; omega
                have e4 : (op == 4) = false := by simp; omega
                have e9 : (op == 9) = false := by simp; omega
                have e3' : (op != 3) = true := by simp; omega
                have e11 : (op == 11) = false := by simp; omega
                clear hop
                go_enter Try.func24, Try.ntmps24
                go_wp2_with fail
                rw [← HW.out]
                go_loopw [8] (fun ivv w' => ∃ i : Nat, ivv = .int .i64 (i : Int) ∧ i ≤ n ∧ w' = W) (fun ivv _ => n - (RowKit.intOf ivv).toNat)
                case atStart => exact ⟨0, rfl, by omega, rfl⟩
                case round =>
                  obtain ⟨i, rfl, hi, rfl⟩ := hrel
                  have hii : ¬ (i : Int) < n := by omega
                  go_wp2
                  go_ret
                  exact ⟨ret_bool (by first | (rw [HX.out]; done) | (rw [HX.out]; simp; omega)), HB.out⟩
end Go.Proofs.Ytbciclnffokjjaa
