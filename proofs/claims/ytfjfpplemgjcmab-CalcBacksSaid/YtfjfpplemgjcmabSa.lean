/- Samples: the small functions. -/
import Derived.Test.YtfjfpplemgjcmabRw
import Derived.Test.YtfjfpplemgjcmabSq
import Derived.Deep.QuietTactic
import Derived.BigQuiet
namespace Go.Proofs.Ytfjfpplemgjcmab
open Go.RowKit

/-- A sample. -/
structure Smp where
  t : Int
  v : Nat
  s : Bool
/-- Samples in memory. -/
def SAt (w : World) (g o : Nat) (ss : Nat → Smp) (n : Nat) : Prop := ∀ j, j < n → w.cell? ⟨g, o + j * 3, none⟩ = some (.int .i64 (ss j).t) ∧ w.cell? ⟨g, o + j * 3 + 1, none⟩ = some (.float .f64 (ss j).v) ∧ w.cell? ⟨g, o + j * 3 + 2, none⟩ = some (.bool (ss j).s)
def Sml (w : World) (a : Option Addr) (ss : Nat → Smp) (n : Nat) : Prop := n = 0 ∨ ∃ g o, a = some ⟨g, o, none⟩ ∧ g < w.heap.size ∧ SAt w g o ss n
def SW (ss : Nat → Smp) (n : Nat) : Prop := ∀ j, j < n → -9223372036854775808 ≤ (ss j).t ∧ (ss j).t ≤ 9223372036854775807 ∧ (ss j).v < 18446744073709551616
theorem Sml.below {w w' : World} {a : Option Addr} {ss : Nat → Smp} {n : Nat} (h : Sml w a ss n) (hb : Below w.heap.size w w') : Sml w' a ss n := by
  rcases h with h | ⟨g, o, rfl, hg, h⟩
  · exact .inl h
  · refine .inr ⟨g, o, rfl, Nat.lt_of_lt_of_le hg hb.size, fun j hj => ?_⟩
    obtain ⟨h1, h2, h3⟩ := h j hj
    exact ⟨(hb.cell (p := ⟨g, o + j * 3, none⟩) hg).trans h1, (hb.cell (p := ⟨g, o + j * 3 + 1, none⟩) hg).trans h2, (hb.cell (p := ⟨g, o + j * 3 + 2, none⟩) hg).trans h3⟩

/-- A difference of times. -/
def df (a b : Int) : Int := IntKind.i64.wrap (a - b)
theorem df_bd (a b : Int) : -9223372036854775808 ≤ df a b ∧ df a b ≤ 9223372036854775807 := by
  unfold df
  rw [IntKind.wrap_i64]
  omega

/-- The eighth. -/
def rm (d p : Int) : Int := if d.tmod p < 0 then d.tmod p + p else d.tmod p
def eg (d p : Int) : Int := (8 * rm d p).tdiv p
theorem tm_low (d p : Int) (hp : 1 ≤ p) : -p < d.tmod p := by
  have h2 := Int.tmod_lt_of_pos (-d) (show 0 < p by omega)
  rw [Int.neg_tmod] at h2
  omega
theorem rm_bd (d p : Int) (hp : 1 ≤ p) : 0 ≤ rm d p ∧ rm d p < p := by
  unfold rm
  have h1 := Int.tmod_lt_of_pos d (show 0 < p by omega)
  have h2 := tm_low d p hp
  split <;> omega
theorem eg_bd (d p : Int) (hp : 1 ≤ p) : 0 ≤ eg d p ∧ eg d p ≤ 7 := by
  have h := rm_bd d p hp
  unfold eg
  rw [Int.tdiv_eq_ediv_of_nonneg (by omega)]
  have h1 : 0 ≤ 8 * rm d p / p := Int.ediv_nonneg (by omega) (by omega)
  have h2 : 8 * rm d p / p < 8 := Int.ediv_lt_of_lt_mul (by omega) (by omega)
  omega

set_option maxHeartbeats 400000 in
theorem eighth_any (d p : Int) (hp : 1 ≤ p) (hp' : p ≤ 315360000000000) (w : World) :
    Calls Try.prog 52 #[.int .i64 d, .int .i64 p] w fun r w' => r = .returned (.int .i64 (eg d p)) ∧ w' = w := by
  have h0 := rm_bd d p hp
  have h2 := eg_bd d p hp
  obtain ⟨e, he⟩ : ∃ e, eg d p = e := ⟨_, rfl⟩
  obtain ⟨m, hm⟩ : ∃ m, d.tmod p = m := ⟨_, rfl⟩
  obtain ⟨r, hr⟩ : ∃ r, rm d p = r := ⟨_, rfl⟩
  have h1 := Int.tmod_lt_of_pos d (show 0 < p by omega)
  have h1' := tm_low d p hp
  rw [hm] at h1 h1'
  have hrr : r = if m < 0 then m + p else m := by rw [← hr]; unfold rm; rw [hm]
  have hq : (8 * r).tdiv p = e := by rw [← he, ← hr]; rfl
  have hpn : ¬ p = 0 := by omega
  have hpm : ¬ p = -1 := by omega
  rw [he]
  rw [he] at h2
  rw [hr] at h0
  clear he hr
  by_cases hneg : m < 0
  · rw [if_pos hneg] at hrr
    have hmp : m + p = r := hrr.symm
    clear hrr
    go_enter Try.func52, Try.ntmps52
    go_wp2
    go_ret
    exact ⟨rfl, rfl⟩
  · rw [if_neg hneg] at hrr
    subst hrr
    go_enter Try.func52, Try.ntmps52
    go_wp2
    go_ret
    exact ⟨rfl, rfl⟩

/-- A period? -/
def prB (p : Int) : Bool := decide (1 ≤ p) && decide (p ≤ 315360000000000)
set_option maxHeartbeats 400000 in
theorem isPeriod_any (p : Int) (w : World) : Calls Try.prog 44 #[.int .i64 p] w fun r w' => r = .returned (.bool (prB p)) ∧ w' = w := by
  by_cases h1 : 1 ≤ p
  · by_cases h2 : p ≤ 315360000000000
    · have e : prB p = true := by unfold prB; simp [h1, h2]
      rw [e]
      go_enter Try.func44, Try.ntmps44
      go_wp2
      go_ret
      exact ⟨rfl, rfl⟩
    · have e : prB p = false := by unfold prB; simp [h2]
      rw [e]
      go_enter Try.func44, Try.ntmps44
      go_wp2
      go_ret
      exact ⟨rfl, rfl⟩
  · have e : prB p = false := by unfold prB; rw [decide_eq_false h1]; rfl
    rw [e]
    go_enter Try.func44, Try.ntmps44
    go_wp2
    go_ret
    exact ⟨rfl, rfl⟩

set_option maxHeartbeats 400000 in
theorem fromBits_any (n : Int) (w : World) : Calls Try.prog 55 #[.int .u64 n] w fun r w' => r = .returned (.float .f64 n.toNat) ∧ w' = w := by
  have h3 := callFrom
  go_enter Try.func55, Try.ntmps55
  go_wp2
  go_ret
  exact ⟨rfl, rfl⟩

theorem run_store_complex {P : Program} (a : Addr) (m : Mode) (x y : Nat) (w : World) : (store a (.complex .f64 x y) m).run P w = stored P w a (.complex .f64 x y) m := run_store P w a _ m rfl

/-- The eight directions. -/
abbrev dirs : Array Value := #[.complex .f64 4607182418800017408 0, .complex .f64 4604544271217802189 4604544271217802189, .complex .f64 0 4607182418800017408, .complex .f64 13827916308072577997 4604544271217802189,
  .complex .f64 13830554455654793216 0, .complex .f64 13827916308072577997 13827916308072577997, .complex .f64 0 13830554455654793216, .complex .f64 4604544271217802189 13827916308072577997]
set_option maxHeartbeats 2000000 in
set_option maxRecDepth 100000 in
theorem directions_any (w : World) : Calls Try.prog 51 #[] w fun r w' => r = .returned (.agg dirs) ∧ Below w.heap.size w w' := by
  have k1 := fromBits_any 4604544271217802189
  have hng : Op.unary .neg (.float .f64 4604544271217802189) = pure (.float .f64 13827916308072577997) := rfl
  have hsc := @run_store_complex Try.prog
  go_enter Try.func51, Try.ntmps51
  go_wp2_with fail
  go_fit (k1 _)
  rintro r w' ⟨rfl, rfl⟩
  go_wp2
  refine bodyPost_ret (v := .agg dirs) (by simp [results, Try.results51, go_sem]) rfl ⟨rfl, ?_⟩
  exact (Below.refl _ _).alloc (Nat.le_refl _) _

/-- A sample that a round of a loop holds. -/
abbrev cp (u : Smp) : Obj := .cells #[.int .i64 u.t, .float .f64 u.v, .bool u.s] 27
theorem cp_cell (w : World) (u : Smp) (j : Nat) (v : Value) (h : (#[Value.int .i64 u.t, Value.float .f64 u.v, Value.bool u.s] : Array Value)[j]? = some v) : (w.alloc (cp u)).cell? ⟨w.heap.size, j, none⟩ = some v := by
  unfold World.cell?
  rw [show (w.alloc (cp u)).heap[w.heap.size]? = some (cp u) from heap_alloc_new w _]
  simpa using h

/-- Do all values equal the first one? -/
def lvB (ss : Nat → Smp) (n : Nat) : Bool := (List.range (n - 1)).all fun j => FloatKind.f64.format.order (ss (j + 1)).v (ss 0).v == some .eq
theorem lv_false (ss : Nat → Smp) (n j : Nat) (hj : j < n - 1) (h : (FloatKind.f64.format.order (ss (j + 1)).v (ss 0).v == some .eq) = false) : lvB ss n = false := by
  unfold lvB
  rw [List.all_eq_false]
  exact ⟨j, List.mem_range.2 hj, by rw [h]; decide⟩
theorem lv_true (ss : Nat → Smp) (n : Nat) (h : ∀ j, j < n - 1 → (FloatKind.f64.format.order (ss (j + 1)).v (ss 0).v == some .eq) = true) : lvB ss n = true := by
  unfold lvB
  rw [List.all_eq_true]
  exact fun j hj => h j (List.mem_range.1 hj)

set_option maxHeartbeats 2000000 in
set_option maxRecDepth 100000 in
theorem isLevel_any (g o c n : Nat) (ss : Nat → Smp) (w : World) (hg : g < w.heap.size) (hf : SAt w g o ss n) (hn : 0 < n) (hc : n ≤ c) (hl : n ≤ 9223372036854775807) :
    Calls Try.prog 41 #[.slice (some ⟨g, o, none⟩) n c] w fun r w' => r = .returned (.bool (lvB ss n)) ∧ Below w.heap.size w w' := by
  have hsf := @run_store_float Try.prog
  have HF : Hid (SAt w g o ss n) := hf
  have hb0 := Below.refl w.heap.size w
  have h0 := (hf 0 hn).2.1
  rw [show o + 0 * 3 + 1 = o + 1 by omega] at h0
  have LF : Hid (∀ j, j < n - 1 → (FloatKind.f64.format.order (ss (j + 1)).v (ss 0).v == some .eq) = false → lvB ss n = false) := lv_false ss n
  have LT : Hid ((∀ j, j < n - 1 → (FloatKind.f64.format.order (ss (j + 1)).v (ss 0).v == some .eq) = true) → lvB ss n = true) := lv_true ss n
  generalize lvB ss n = L at *
  obtain ⟨G, hG⟩ : ∃ G, G = w.heap.size := ⟨_, rfl⟩
  rw [← hG] at hb0 hg ⊢
  have HG : Hid (G = w.heap.size) := hG
  obtain ⟨v0, hv0⟩ : ∃ v0, (ss 0).v = v0 := ⟨_, rfl⟩
  rw [hv0] at h0 LF LT
  have HH0 : Hid _ := h0
  clear hf hG h0 hv0
  obtain ⟨m, hm⟩ : ∃ m : Nat, n = m + 1 := ⟨n - 1, by omega⟩
  subst hm
  by_cases hc1 : c = 1
  · obtain rfl : m = 0 := by omega
    subst hc1
    have HL : Hid (L = true) := LT.out (fun j hj => absurd hj (by omega))
    go_enter Try.func41, Try.ntmps41
    go_wp2
    go_loopw [8] (fun iv w' => iv = .int .i64 0 ∧ w' = w) (fun _ _ => 0)
    case atStart => exact ⟨rfl, rfl⟩
    case round =>
      obtain ⟨rfl, rfl⟩ := hrel
      go_wp2
      go_ret
      exact ⟨by rw [HL.out]; rfl, hb0⟩
  · go_enter Try.func41, Try.ntmps41
    go_wp2
    go_loopw [8] (fun iv w' => ∃ i : Nat, iv = .int .i64 (i : Int) ∧ i ≤ m ∧ Hid (∀ j, j < i → (FloatKind.f64.format.order (ss (j + 1)).v v0 == some .eq) = true) ∧ Below G w w') (fun iv _ => m - (RowKit.intOf iv).toNat)
    case atStart => exact ⟨0, rfl, by omega, fun j hj => absurd hj (by omega), hb0⟩
    case round =>
      obtain ⟨i, rfl, hi, hall, hb⟩ := hrel
      by_cases hlt : i < m
      · have hii : (i : Int) < m := by omega
        obtain ⟨f1, f2, f3⟩ := HF.out (i + 1) (by omega)
        have q1 := (hb.cell (p := ⟨g, o + (i + 1) * 3, none⟩) hg).trans f1
        have q2 := (hb.cell (p := ⟨g, o + (i + 1) * 3 + 1, none⟩) hg).trans f2
        have q3 := (hb.cell (p := ⟨g, o + (i + 1) * 3 + 2, none⟩) hg).trans f3
        rw [show o + (i + 1) * 3 = o + 3 + i * 3 by omega] at q1 q2 q3
        clear f1 f2 f3
        have H1 : Hid ((FloatKind.f64.format.order (ss (i + 1)).v v0 == some .eq) = false → L = false) := LF.out i (by omega)
        have H2 : Hid ((FloatKind.f64.format.order (ss (i + 1)).v v0 == some .eq) = true → ∀ j, j < i + 1 → (FloatKind.f64.format.order (ss (j + 1)).v v0 == some .eq) = true) := fun h j hj => by
          by_cases hji : j < i
          · exact hall.out j hji
          · obtain rfl : j = i := by omega
            exact h
        have HI : Hid (i + 1 ≤ m) := hlt
        obtain ⟨u, hu⟩ : ∃ u, ss (i + 1) = u := ⟨_, rfl⟩
        rw [hu] at q1 q2 q3 H1 H2
        clear hu hall
        have hGw : G ≤ wr.heap.size := by rw [HG.out]; exact hb.size
        have hbA : Below G w (wr.alloc (cp u)) := hb.alloc hGw _
        have q0A : (wr.alloc (cp u)).cell? ⟨g, o + 1, none⟩ = some (.float .f64 v0) := (hbA.cell (p := ⟨g, o + 1, none⟩) hg).trans HH0.out
        have n1 := cp_cell wr u 1 (.float .f64 u.v) rfl
        cases heq : (FloatKind.f64.format.order u.v v0 == some .eq)
        · have HL : Hid (L = false) := H1.out heq
          have heq' : (FloatKind.f64.format.order u.v v0 != some .eq) = true := by rw [bne, heq]; rfl
          go_wp2_with fail
          go_quiet (fail)
          go_wp2
          go_ret
          exact ⟨by rw [HL.out]; rfl, below_drewN hbA _⟩
        · have H3 : Hid _ := H2.out heq
          have heq' : (FloatKind.f64.format.order u.v v0 != some .eq) = false := by rw [bne, heq]; rfl
          go_wp2_with fail
          go_quiet (fail)
          go_wp2
          exact ⟨⟨i + 1, by go_num, HI, H3, below_drewN hbA _⟩, by simp [RowKit.intOf]; omega⟩
      · have HL : Hid (L = true) := LT.out (fun j hj => hall.out j (by omega))
        have hii : ¬ (i : Int) < m := by omega
        go_wp2
        go_ret
        exact ⟨by rw [HL.out]; rfl, hb⟩

end Go.Proofs.Ytfjfpplemgjcmab
