/- A bundle of texts. -/
import Derived.Test.YtmjenemjbpimcaaBk02
import Derived.Deep.QuietTactic
import Derived.BigQuiet
import Derived.Test.YtmjenemjbpimcaaBk01
/- Samples: the small functions. -/
namespace Go.Proofs.Ytmjenemjbpimcaa
open Go.RowKit

/-- A sample. -/
structure Smp where
  t : Int
  v : Nat
  s : Bool
/-- Samples in memory. -/
def SAt (w : World) (g o : Nat) (ss : Nat → Smp) (n : Nat) : Prop := ∀ j, j < n → w.cell? ⟨g, o + j * 3, none⟩ = some (.int .i64 (ss j).t) ∧ w.cell? ⟨g, o + j * 3 + 1, none⟩ = some (.float .f64 (ss j).v) ∧ w.cell? ⟨g, o + j * 3 + 2, none⟩ = some (.bool (ss j).s)
def Sml (w : World) (a : Option Addr) (ss : Nat → Smp) (n : Nat) : Prop := n = 0 ∨ ∃ g o, a = some ⟨g, o, none⟩ ∧ g < w.heap.size ∧ SAt w g o ss n
def SW (ss : Nat → Smp) (n : Nat) : Prop := ∀ j, j < n → -9223372036854775808 ≤ (ss j).t ∧ (ss j).t ≤ 9223372036854775807 ∧ (ss j).v < 18446744073709551616
theorem Sml.below {w w' : World} {a : Option Addr} {ss : Nat → Smp} {n : Nat} (h : Sml w a ss n) (hb : Below w.heap.size w w') : Sml w' a ss n := by
  rcases h with h | ⟨g, o, rfl, hg, h⟩
  · exact .inl h
  · refine .inr ⟨g, o, rfl, Nat.lt_of_lt_of_le hg hb.size, fun j hj => ?_⟩
    obtain ⟨h1, h2, h3⟩ := h j hj
    exact ⟨(hb.cell (p := ⟨g, o + j * 3, none⟩) hg).trans h1, (hb.cell (p := ⟨g, o + j * 3 + 1, none⟩) hg).trans h2, (hb.cell (p := ⟨g, o + j * 3 + 2, none⟩) hg).trans h3⟩

/-- A difference of times. -/
def df (a b : Int) : Int := IntKind.i64.wrap (a - b)
theorem df_bd (a b : Int) : -9223372036854775808 ≤ df a b ∧ df a b ≤ 9223372036854775807 := by
  unfold df
  rw [IntKind.wrap_i64]
  omega

/-- The eighth. -/
def rm (d p : Int) : Int := if d.tmod p < 0 then d.tmod p + p else d.tmod p
def eg (d p : Int) : Int := (8 * rm d p).tdiv p
theorem tm_low (d p : Int) (hp : 1 ≤ p) : -p < d.tmod p := by
  have h2 := Int.tmod_lt_of_pos (-d) (show 0 < p by omega)
  rw [Int.neg_tmod] at h2
  omega
theorem rm_bd (d p : Int) (hp : 1 ≤ p) : 0 ≤ rm d p ∧ rm d p < p := by
  unfold rm
  have h1 := Int.tmod_lt_of_pos d (show 0 < p by omega)
  have h2 := tm_low d p hp
  split <;> omega
theorem eg_bd (d p : Int) (hp : 1 ≤ p) : 0 ≤ eg d p ∧ eg d p ≤ 7 := by
  have h := rm_bd d p hp
  unfold eg
  rw [Int.tdiv_eq_ediv_of_nonneg (by omega)]
  have h1 : 0 ≤ 8 * rm d p / p := Int.ediv_nonneg (by omega) (by omega)
  have h2 : 8 * rm d p / p < 8 := Int.ediv_lt_of_lt_mul (by omega) (by omega)
  omega

set_option maxHeartbeats 400000 in
theorem eighth_any (d p : Int) (hp : 1 ≤ p) (hp' : p ≤ 315360000000000) (w : World) :
    Calls Try.prog 101 #[.int .i64 d, .int .i64 p] w fun r w' => r = .returned (.int .i64 (eg d p)) ∧ w' = w := by
  have h0 := rm_bd d p hp
  have h2 := eg_bd d p hp
  obtain ⟨e, he⟩ : ∃ e, eg d p = e := ⟨_, rfl⟩
  obtain ⟨m, hm⟩ : ∃ m, d.tmod p = m := ⟨_, rfl⟩
  obtain ⟨r, hr⟩ : ∃ r, rm d p = r := ⟨_, rfl⟩
  have h1 := Int.tmod_lt_of_pos d (show 0 < p by omega)
  have h1' := tm_low d p hp
  rw [hm] at h1 h1'
  have hrr : r = if m < 0 then m + p else m := by rw [← hr]; unfold rm; rw [hm]
  have hq : (8 * r).tdiv p = e := by rw [← he, ← hr]; rfl
  have hpn : ¬ p = 0 := by omega
  have hpm : ¬ p = -1 := by omega
  rw [he]
  rw [he] at h2
  rw [hr] at h0
  clear he hr
  by_cases hneg : m < 0
  · rw [if_pos hneg] at hrr
    have hmp : m + p = r := hrr.symm
    clear hrr
    go_enter Try.func101, Try.ntmps101
    go_wp2
    go_ret
    exact ⟨rfl, rfl⟩
  · rw [if_neg hneg] at hrr
    subst hrr
    go_enter Try.func101, Try.ntmps101
    go_wp2
    go_ret
    exact ⟨rfl, rfl⟩

/-- A period? -/
def prB (p : Int) : Bool := decide (1 ≤ p) && decide (p ≤ 315360000000000)
set_option maxHeartbeats 400000 in
theorem isPeriod_any (p : Int) (w : World) : Calls Try.prog 95 #[.int .i64 p] w fun r w' => r = .returned (.bool (prB p)) ∧ w' = w := by
  by_cases h1 : 1 ≤ p
  · by_cases h2 : p ≤ 315360000000000
    · have e : prB p = true := by unfold prB; simp [h1, h2]
      rw [e]
      go_enter Try.func95, Try.ntmps95
      go_wp2
      go_ret
      exact ⟨rfl, rfl⟩
    · have e : prB p = false := by unfold prB; simp [h2]
      rw [e]
      go_enter Try.func95, Try.ntmps95
      go_wp2
      go_ret
      exact ⟨rfl, rfl⟩
  · have e : prB p = false := by unfold prB; rw [decide_eq_false h1]; rfl
    rw [e]
    go_enter Try.func95, Try.ntmps95
    go_wp2
    go_ret
    exact ⟨rfl, rfl⟩

set_option maxHeartbeats 400000 in
theorem fromBits_any (n : Int) (w : World) : Calls Try.prog 105 #[.int .u64 n] w fun r w' => r = .returned (.float .f64 n.toNat) ∧ w' = w := by
  have h3 := callFrom
  go_enter Try.func105, Try.ntmps105
  go_wp2
  go_ret
  exact ⟨rfl, rfl⟩

theorem run_store_complex {P : Program} (a : Addr) (m : Mode) (x y : Nat) (w : World) : (store a (.complex .f64 x y) m).run P w = stored P w a (.complex .f64 x y) m := run_store P w a _ m rfl

/-- The eight directions. -/
abbrev dirs : Array Value := #[.complex .f64 4607182418800017408 0, .complex .f64 4604544271217802189 4604544271217802189, .complex .f64 0 4607182418800017408, .complex .f64 13827916308072577997 4604544271217802189,
  .complex .f64 13830554455654793216 0, .complex .f64 13827916308072577997 13827916308072577997, .complex .f64 0 13830554455654793216, .complex .f64 4604544271217802189 13827916308072577997]
set_option maxHeartbeats 2000000 in
set_option maxRecDepth 100000 in
theorem directions_any (w : World) : Calls Try.prog 100 #[] w fun r w' => r = .returned (.agg dirs) ∧ Below w.heap.size w w' := by
  have k1 := fromBits_any 4604544271217802189
  have hng : Op.unary .neg (.float .f64 4604544271217802189) = pure (.float .f64 13827916308072577997) := rfl
  have hsc := @run_store_complex Try.prog
  go_enter Try.func100, Try.ntmps100
  go_wp2_with fail
  go_fit (k1 _)
  rintro r w' ⟨rfl, rfl⟩
  go_wp2
  refine bodyPost_ret (v := .agg dirs) (by simp [results, Try.results100, go_sem]) rfl ⟨rfl, ?_⟩
  exact (Below.refl _ _).alloc (Nat.le_refl _) _

/-- A sample that a round of a loop holds. -/
abbrev cp (u : Smp) : Obj := .cells #[.int .i64 u.t, .float .f64 u.v, .bool u.s] 37
theorem cp_cell (w : World) (u : Smp) (j : Nat) (v : Value) (h : (#[Value.int .i64 u.t, Value.float .f64 u.v, Value.bool u.s] : Array Value)[j]? = some v) : (w.alloc (cp u)).cell? ⟨w.heap.size, j, none⟩ = some v := by
  unfold World.cell?
  rw [show (w.alloc (cp u)).heap[w.heap.size]? = some (cp u) from heap_alloc_new w _]
  simpa using h

/-- Do all values equal the first one? -/
def lvB (ss : Nat → Smp) (n : Nat) : Bool := (List.range (n - 1)).all fun j => FloatKind.f64.format.order (ss (j + 1)).v (ss 0).v == some .eq
theorem lv_false (ss : Nat → Smp) (n j : Nat) (hj : j < n - 1) (h : (FloatKind.f64.format.order (ss (j + 1)).v (ss 0).v == some .eq) = false) : lvB ss n = false := by
  unfold lvB
  rw [List.all_eq_false]
  exact ⟨j, List.mem_range.2 hj, by rw [h]; decide⟩
theorem lv_true (ss : Nat → Smp) (n : Nat) (h : ∀ j, j < n - 1 → (FloatKind.f64.format.order (ss (j + 1)).v (ss 0).v == some .eq) = true) : lvB ss n = true := by
  unfold lvB
  rw [List.all_eq_true]
  exact fun j hj => h j (List.mem_range.1 hj)

set_option maxHeartbeats 2000000 in
set_option maxRecDepth 100000 in
theorem isLevel_any (g o c n : Nat) (ss : Nat → Smp) (w : World) (hg : g < w.heap.size) (hf : SAt w g o ss n) (hn : 0 < n) (hc : n ≤ c) (hl : n ≤ 9223372036854775807) :
    Calls Try.prog 93 #[.slice (some ⟨g, o, none⟩) n c] w fun r w' => r = .returned (.bool (lvB ss n)) ∧ Below w.heap.size w w' := by
  have hsf := @run_store_float Try.prog
  have HF : Hid (SAt w g o ss n) := hf
  have hb0 := Below.refl w.heap.size w
  have h0 := (hf 0 hn).2.1
  rw [show o + 0 * 3 + 1 = o + 1 by omega] at h0
  have LF : Hid (∀ j, j < n - 1 → (FloatKind.f64.format.order (ss (j + 1)).v (ss 0).v == some .eq) = false → lvB ss n = false) := lv_false ss n
  have LT : Hid ((∀ j, j < n - 1 → (FloatKind.f64.format.order (ss (j + 1)).v (ss 0).v == some .eq) = true) → lvB ss n = true) := lv_true ss n
  generalize lvB ss n = L at *
  obtain ⟨G, hG⟩ : ∃ G, G = w.heap.size := ⟨_, rfl⟩
  rw [← hG] at hb0 hg ⊢
  have HG : Hid (G = w.heap.size) := hG
  obtain ⟨v0, hv0⟩ : ∃ v0, (ss 0).v = v0 := ⟨_, rfl⟩
  rw [hv0] at h0 LF LT
  have HH0 : Hid _ := h0
  clear hf hG h0 hv0
  obtain ⟨m, hm⟩ : ∃ m : Nat, n = m + 1 := ⟨n - 1, by omega⟩
  subst hm
  by_cases hc1 : c = 1
  · obtain rfl : m = 0 := by omega
    subst hc1
    have HL : Hid (L = true) := LT.out (fun j hj => absurd hj (by omega))
    go_enter Try.func93, Try.ntmps93
    go_wp2
    go_loopw [8] (fun iv w' => iv = .int .i64 0 ∧ w' = w) (fun _ _ => 0)
    case atStart => exact ⟨rfl, rfl⟩
    case round =>
      obtain ⟨rfl, rfl⟩ := hrel
      go_wp2
      go_ret
      exact ⟨by rw [HL.out]; rfl, hb0⟩
  · go_enter Try.func93, Try.ntmps93
    go_wp2
    go_loopw [8] (fun iv w' => ∃ i : Nat, iv = .int .i64 (i : Int) ∧ i ≤ m ∧ Hid (∀ j, j < i → (FloatKind.f64.format.order (ss (j + 1)).v v0 == some .eq) = true) ∧ Below G w w') (fun iv _ => m - (RowKit.intOf iv).toNat)
    case atStart => exact ⟨0, rfl, by omega, fun j hj => absurd hj (by omega), hb0⟩
    case round =>
      obtain ⟨i, rfl, hi, hall, hb⟩ := hrel
      by_cases hlt : i < m
      · have hii : (i : Int) < m := by omega
        obtain ⟨f1, f2, f3⟩ := HF.out (i + 1) (by omega)
        have q1 := (hb.cell (p := ⟨g, o + (i + 1) * 3, none⟩) hg).trans f1
        have q2 := (hb.cell (p := ⟨g, o + (i + 1) * 3 + 1, none⟩) hg).trans f2
        have q3 := (hb.cell (p := ⟨g, o + (i + 1) * 3 + 2, none⟩) hg).trans f3
        rw [show o + (i + 1) * 3 = o + 3 + i * 3 by omega] at q1 q2 q3
        clear f1 f2 f3
        have H1 : Hid ((FloatKind.f64.format.order (ss (i + 1)).v v0 == some .eq) = false → L = false) := LF.out i (by omega)
        have H2 : Hid ((FloatKind.f64.format.order (ss (i + 1)).v v0 == some .eq) = true → ∀ j, j < i + 1 → (FloatKind.f64.format.order (ss (j + 1)).v v0 == some .eq) = true) := fun h j hj => by
          by_cases hji : j < i
          · exact hall.out j hji
          · obtain rfl : j = i := by omega
            exact h
        have HI : Hid (i + 1 ≤ m) := hlt
        obtain ⟨u, hu⟩ : ∃ u, ss (i + 1) = u := ⟨_, rfl⟩
        rw [hu] at q1 q2 q3 H1 H2
        clear hu hall
        have hGw : G ≤ wr.heap.size := by rw [HG.out]; exact hb.size
        have hbA : Below G w (wr.alloc (cp u)) := hb.alloc hGw _
        have q0A : (wr.alloc (cp u)).cell? ⟨g, o + 1, none⟩ = some (.float .f64 v0) := (hbA.cell (p := ⟨g, o + 1, none⟩) hg).trans HH0.out
        have n1 := cp_cell wr u 1 (.float .f64 u.v) rfl
        cases heq : (FloatKind.f64.format.order u.v v0 == some .eq)
        · have HL : Hid (L = false) := H1.out heq
          have heq' : (FloatKind.f64.format.order u.v v0 != some .eq) = true := by rw [bne, heq]; rfl
          go_wp2_with fail
          go_quiet (fail)
          go_wp2
          go_ret
          exact ⟨by rw [HL.out]; rfl, below_drewN hbA _⟩
        · have H3 : Hid _ := H2.out heq
          have heq' : (FloatKind.f64.format.order u.v v0 != some .eq) = false := by rw [bne, heq]; rfl
          go_wp2_with fail
          go_quiet (fail)
          go_wp2
          exact ⟨⟨i + 1, by go_num, HI, H3, below_drewN hbA _⟩, by simp [RowKit.intOf]; omega⟩
      · have HL : Hid (L = true) := LT.out (fun j hj => hall.out j (by omega))
        have hii : ¬ (i : Int) < m := by omega
        go_wp2
        go_ret
        exact ⟨by rw [HL.out]; rfl, hb⟩

end Go.Proofs.Ytmjenemjbpimcaa
/- Finite floats as whole numbers of units of 2 ^ -1074: sums and differences. -/
namespace Go.Proofs.Ytmjenemjbpimcaa
open Ieee

theorem cut0 (way : Toward) (neg : Bool) (n : Nat) : way.cut neg n 0 = n := by
  unfold Toward.cut
  simp only [Nat.zero_min, Nat.shiftLeft_zero, Nat.div_one, Nat.mod_one]
  cases way <;> simp

theorem log2_shl (n k : Nat) (hn : n ≠ 0) : (n <<< k).log2 = n.log2 + k := by
  rw [Nat.shiftLeft_eq]
  have h1 := Nat.log2_self_le hn
  have h2 := Nat.lt_log2_self (n := n)
  have hp : 0 < 2 ^ k := Nat.two_pow_pos k
  refine (Nat.log2_eq_iff (Nat.mul_ne_zero hn (by omega))).2 ⟨?_, ?_⟩
  · rw [Nat.pow_add]
    exact Nat.mul_le_mul_right _ h1
  · rw [show n.log2 + k + 1 = (n.log2 + 1) + k by omega, Nat.pow_add]
    exact Nat.mul_lt_mul_of_pos_right h2 hp

theorem cut_scale (neg : Bool) (n drop k : Nat) (hn : n ≠ 0) : Toward.even.cut neg (n <<< k) (drop + k) = Toward.even.cut neg n drop := by
  unfold Toward.cut
  have hp : 0 < 2 ^ k := Nat.two_pow_pos k
  have e1 : min (drop + k) ((n <<< k).log2 + 2) = min drop (n.log2 + 2) + k := by rw [log2_shl n k hn]; omega
  simp only [e1]
  generalize min drop (n.log2 + 2) = d
  have e2 : (1 : Nat) <<< (d + k) = (1 <<< d) * 2 ^ k := by rw [Nat.shiftLeft_eq, Nat.shiftLeft_eq, Nat.pow_add, Nat.mul_assoc]
  have e3 : (n <<< k) / (1 <<< (d + k)) = n / 1 <<< d := by
    rw [e2, Nat.shiftLeft_eq, Nat.mul_div_mul_right _ _ hp]
  have e4 : (n <<< k) % (1 <<< (d + k)) = (n % 1 <<< d) * 2 ^ k := by
    rw [e2, Nat.shiftLeft_eq, Nat.mul_mod_mul_right]
  rw [e3, e4, e2]
  generalize 1 <<< d = gap
  generalize n % gap = rest
  have e5 : decide (gap * 2 ^ k < 2 * (rest * 2 ^ k)) = decide (gap < 2 * rest) := by
    rw [← Nat.mul_assoc]
    exact decide_eq_decide.2 (Nat.mul_lt_mul_right hp)
  have e6 : (gap * 2 ^ k == 2 * (rest * 2 ^ k)) = (gap == 2 * rest) := by
    rw [← Nat.mul_assoc]
    apply Bool.eq_iff_iff.2
    simp only [beq_iff_eq]
    exact Nat.mul_left_inj (by omega)
  rw [e5, e6]

theorem cut_exact (neg : Bool) (n k : Nat) (hn : n ≠ 0) : Toward.even.cut neg (n <<< k) k = n := by
  have := cut_scale neg n 0 k hn
  rw [Nat.zero_add, cut0] at this
  exact this

/-- A number written with other digits is the same number. -/
theorem nearest_shift (neg : Bool) (mag k : Nat) (place : Int) : Ieee.double.nearest neg (mag <<< k) place = Ieee.double.nearest neg mag (place + k) := by
  unfold Format.nearest
  by_cases hm : mag = 0
  · subst hm
    rw [Nat.zero_shiftLeft, if_pos rfl, if_pos rfl]
  have hs : mag <<< k ≠ 0 := by
    rw [Nat.shiftLeft_eq]
    exact Nat.mul_ne_zero hm (Nat.ne_of_gt (Nat.two_pow_pos k))
  rw [if_neg hm, if_neg hs]
  have e1 : place + ((mag <<< k).log2 : Int) = place + k + (mag.log2 : Int) := by rw [log2_shl mag k hm]; omega
  simp only [e1]
  generalize max (place + k + (mag.log2 : Int) - (Ieee.double.fractionBits : Int)) Ieee.double.leastPlace = last
  have key : Toward.even.cut neg ((mag <<< k) <<< (place - last).toNat) (last - place).toNat = Toward.even.cut neg (mag <<< (place + k - last).toNat) (last - (place + k)).toNat := by
    rw [← Nat.shiftLeft_add]
    by_cases h1 : last ≤ place
    · rw [show (last - place).toNat = 0 by omega, show (last - (place + k)).toNat = 0 by omega, cut0, cut0]
      congr 1; omega
    · by_cases h2 : last ≤ place + k
      · rw [show (last - (place + k)).toNat = 0 by omega, cut0]
        rw [show k + (place - last).toNat = (place + k - last).toNat + (last - place).toNat by omega, Nat.shiftLeft_add]
        apply cut_exact
        rw [Nat.shiftLeft_eq]
        exact Nat.mul_ne_zero hm (Nat.ne_of_gt (Nat.two_pow_pos _))
      · rw [show (place + k - last).toNat = 0 by omega, Nat.shiftLeft_zero, show k + (place - last).toNat = k by omega,
          show (last - place).toNat = (last - (place + k)).toNat + k by omega]
        exact cut_scale neg mag _ k hm
  rw [key]

/-- The word nearest to z units. -/
def wr (z : Int) (s : Bool) : Nat := Ieee.double.nearest (if z = 0 then s else decide (z < 0)) z.natAbs (-1074)

theorem signed_eq (s : Bool) (m k : Nat) : Ieee.signed s m k = (if s = true then -1 else 1) * ((m * 2 ^ k : Nat) : Int) := by
  unfold Ieee.signed
  rw [Nat.shiftLeft_eq]
  cases s <;> simp
theorem signed_add (s : Bool) (m a k : Nat) : Ieee.signed s m (a + k) = Ieee.signed s m a * ((2 ^ k : Nat) : Int) := by
  rw [signed_eq, signed_eq, Nat.pow_add, ← Nat.mul_assoc, Int.natCast_mul, Int.mul_assoc]
theorem signed_not (s : Bool) (m k : Nat) : Ieee.signed (!s) m k = -Ieee.signed s m k := by
  rw [signed_eq, signed_eq]
  cases s <;> simp

/-- How many units a finite float is. -/
def un (s : Bool) (m : Nat) (i : Int) : Int := Ieee.signed s m (i + 1074).toNat

theorem sum_fin (s t : Bool) (m n : Nat) (i j : Int) (hi : -1074 ≤ i) (hj : -1074 ≤ j) :
    ((Datum.number s m i).sum (.number t n j)).map Ieee.double.write = some (wr (un s m i + un t n j) (s && t)) := by
  simp only [Datum.sum, Option.map_some, Option.some.injEq]
  show Ieee.double.nearest _ _ _ = _
  unfold wr un
  obtain ⟨b, hb⟩ : ∃ b, b = min i j := ⟨_, rfl⟩
  rw [← hb]
  obtain ⟨k, hk⟩ : ∃ k, k = (b + 1074).toNat := ⟨_, rfl⟩
  have hp : (0 : Int) < ((2 ^ k : Nat) : Int) := by have := Nat.two_pow_pos k; omega
  have e1 : Ieee.signed s m (i + 1074).toNat = Ieee.signed s m (i - b).toNat * ((2 ^ k : Nat) : Int) := by
    rw [← signed_add]; congr 1; omega
  have e2 : Ieee.signed t n (j + 1074).toNat = Ieee.signed t n (j - b).toNat * ((2 ^ k : Nat) : Int) := by
    rw [← signed_add]; congr 1; omega
  rw [e1, e2, ← Int.add_mul]
  generalize Ieee.signed s m (i - b).toNat + Ieee.signed t n (j - b).toNat = total
  have e3 : (total * ((2 ^ k : Nat) : Int)).natAbs = total.natAbs <<< k := by
    rw [Int.natAbs_mul, Nat.shiftLeft_eq]; rfl
  have e4 : (if total * ((2 ^ k : Nat) : Int) = 0 then s && t else decide (total * ((2 ^ k : Nat) : Int) < 0)) = (if total = 0 then s && t else decide (total < 0)) := by
    by_cases h : total = 0
    · rw [h, Int.zero_mul]
    · rw [if_neg h, if_neg (Int.mul_ne_zero h (by omega))]
      apply decide_eq_decide.2
      constructor
      · intro h'
        rcases Int.lt_trichotomy total 0 with h1 | h1 | h1
        · exact h1
        · exact absurd h1 h
        · have := Int.mul_pos h1 hp; omega
      · intro h'
        exact Int.mul_neg_of_neg_of_pos h' hp
  rw [e3, e4, nearest_shift]
  congr 1
  omega

/-- Reading a word that is no NaN and no infinity. -/
theorem read_place (x : Nat) (s : Bool) (m : Nat) (i : Int) (h : Ieee.double.read x = .number s m i) : -1074 ≤ i ∧ m < 2 ^ 53 := by
  unfold Ieee.Format.read at h
  have hb : Ieee.double.binade = 2 ^ 52 := rfl
  have hl : Ieee.double.leastPlace = -1074 := by decide
  simp only [hb, hl] at h
  split at h
  · rename_i hlt; cases h; omega
  · split at h
    · cases h
      have : x % Ieee.double.signWeight % 2 ^ 52 < 2 ^ 52 := Nat.mod_lt _ (by decide)
      omega
    · split at h <;> cases h

theorem add_fin (x y : Nat) (s t : Bool) (m n : Nat) (i j : Int) (hx : Ieee.double.read x = .number s m i) (hy : Ieee.double.read y = .number t n j) :
    floatBits .add .f64 x y = some (wr (un s m i + un t n j) (s && t)) := by
  show ((Ieee.double.read x).sum (Ieee.double.read y)).map Ieee.double.write = _
  rw [hx, hy]
  exact sum_fin s t m n i j (read_place x s m i hx).1 (read_place y t n j hy).1
theorem sub_fin (x y : Nat) (s t : Bool) (m n : Nat) (i j : Int) (hx : Ieee.double.read x = .number s m i) (hy : Ieee.double.read y = .number t n j) :
    floatBits .sub .f64 x y = some (wr (un s m i - un t n j) (s && !t)) := by
  show ((Ieee.double.read x).sum (Ieee.double.read y).opposite).map Ieee.double.write = _
  rw [hx, hy]
  show ((Datum.number s m i).sum (.number (!t) n j)).map Ieee.double.write = _
  rw [sum_fin s (!t) m n i j (read_place x s m i hx).1 (read_place y t n j hy).1]
  unfold un
  rw [signed_not, Int.sub_eq_add_neg]

/-- A number of at most 53 digits, not too great, is read back as it was written. -/
theorem read_nearest (neg : Bool) (mag : Nat) (place : Int) (h0 : mag ≠ 0) (hm : mag < 2 ^ 53) (hp : -1074 ≤ place) (ht : place ≤ 900) :
    ∃ k : Nat, (k : Int) ≤ place + 1074 ∧ Ieee.double.read (Ieee.double.nearest neg mag place) = .number neg (mag <<< k) (place - k) ∧ (Ieee.double.nearest neg mag place) % 2 ^ 63 < 0x7ff0000000000000 := by
  have hb : Ieee.double.binade = 2 ^ 52 := rfl
  have hl : Ieee.double.leastPlace = -1074 := by decide
  have hf : (Ieee.double.fractionBits : Int) = 52 := rfl
  have hi : Ieee.double.infRung = 0x7ff0000000000000 := by decide
  have hsw : Ieee.double.signWeight = 2 ^ 63 := rfl
  have hlog : mag.log2 ≤ 52 := by
    have := (Nat.log2_lt h0).2 hm
    omega
  unfold Format.nearest
  rw [if_neg h0]
  simp only [hb, hl, hf, hi]
  obtain ⟨last, hlast⟩ : ∃ last, last = max (place + (mag.log2 : Int) - 52) (-1074) := ⟨_, rfl⟩
  rw [← hlast]
  have h1 : last ≤ place := by omega
  obtain ⟨k, hk⟩ : ∃ k : Nat, k = (place - last).toNat := ⟨_, rfl⟩
  rw [show (last - place).toNat = 0 by omega, cut0, ← hk]
  refine ⟨k, by omega, ?_⟩
  have hlk : (mag <<< k).log2 = mag.log2 + k := log2_shl mag k h0
  have hks : mag <<< k ≠ 0 := by
    rw [Nat.shiftLeft_eq]
    exact Nat.mul_ne_zero h0 (Nat.ne_of_gt (Nat.two_pow_pos k))
  have hlt : mag <<< k < 2 ^ 53 := (Nat.log2_lt hks).1 (by rw [hlk]; omega)
  have hge : last ≠ -1074 → 2 ^ 52 ≤ mag <<< k := fun hne => by
    have h3 : (mag <<< k).log2 = 52 := by rw [hlk]; omega
    have := Nat.log2_self_le hks
    rw [h3] at this
    exact this
  have hpl : place - (k : Int) = last := by omega
  rw [hpl]
  generalize mag <<< k = q at *
  obtain ⟨u, hu⟩ : ∃ u : Nat, u = (last - -1074).toNat := ⟨_, rfl⟩
  rw [← hu]
  have hu2 : u ≤ 1974 := by omega
  rw [Nat.min_eq_left (by omega)]
  have hr : (Ieee.double.word neg (u * 2 ^ 52 + q)) % 2 ^ 63 = u * 2 ^ 52 + q := by
    unfold Format.word
    rw [hsw]
    cases neg <;> simp <;> omega
  have hn : ((Ieee.double.word neg (u * 2 ^ 52 + q)) / 2 ^ 63 % 2 == 1) = neg := by
    unfold Format.word
    rw [hsw]
    cases neg
    · simp; omega
    · have : (2 ^ 63 + (u * 2 ^ 52 + q)) / 2 ^ 63 = 1 := by omega
      simp [this]
  refine ⟨?_, by rw [hr]; omega⟩
  unfold Format.read
  simp only [hsw, hr, hn, hb, hl, hi]
  by_cases hsub : u * 2 ^ 52 + q < 2 ^ 52
  · rw [if_pos hsub]
    have hu0 : u = 0 := by
      rcases Nat.eq_zero_or_pos u with h | h
      · exact h
      · have : 1 * 2 ^ 52 ≤ u * 2 ^ 52 := Nat.mul_le_mul_right _ h
        omega
    subst hu0
    have e4 : (-1074 : Int) = last := by omega
    rw [Nat.zero_mul, Nat.zero_add, e4]
  · rw [if_neg hsub, if_pos (by omega)]
    have hq : 2 ^ 52 ≤ q := by
      by_cases h : last = -1074
      · have hu0 : u = 0 := by omega
        subst hu0
        omega
      · exact hge h
    have e1 : (u * 2 ^ 52 + q) % 2 ^ 52 = q - 2 ^ 52 := by omega
    have e2 : (u * 2 ^ 52 + q) / 2 ^ 52 = u + 1 := by omega
    have e3 : 2 ^ 52 + (q - 2 ^ 52) = q := by omega
    have e4 : (-1074 : Int) + ((u + 1 - 1 : Nat) : Int) = last := by omega
    rw [e1, e2, e3, e4]
end Go.Proofs.Ytmjenemjbpimcaa
