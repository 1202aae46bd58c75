/- A bundle of texts. -/
import Derived.Test.YtmjenemjbpimcaaBk03
import Derived.Test.YtmjenemjbpimcaaBk02
/- Whole numbers of at most 53 digits as floats: their sums are exact. -/
namespace Go.Proofs.Ytmjenemjbpimcaa
open Ieee

/-- The float of a whole number. -/
def iw (n : Int) : Nat := floatOfInt .f64 n
theorem iw_eq (n : Int) : iw n = Ieee.double.nearest (decide (n < 0)) n.natAbs 0 := rfl
theorem iw_wr (n : Int) (s : Bool) (hs : n = 0 → s = false) : wr (n * ((2 ^ 1074 : Nat) : Int)) s = iw n := by
  have hp : (0 : Int) < ((2 ^ 1074 : Nat) : Int) := by have := Nat.two_pow_pos 1074; omega
  rw [iw_eq]
  unfold wr
  have e : (n * ((2 ^ 1074 : Nat) : Int)).natAbs = n.natAbs <<< 1074 := by
    rw [Int.natAbs_mul, Nat.shiftLeft_eq]; rfl
  rw [e, nearest_shift]
  have e2 : (if n * ((2 ^ 1074 : Nat) : Int) = 0 then s else decide (n * ((2 ^ 1074 : Nat) : Int) < 0)) = decide (n < 0) := by
    by_cases h : n = 0
    · rw [h, Int.zero_mul, if_pos rfl, hs h]; rfl
    · rw [if_neg (Int.mul_ne_zero h (by omega))]
      apply decide_eq_decide.2
      constructor
      · intro h'
        rcases Int.lt_trichotomy n 0 with h1 | h1 | h1
        · exact h1
        · exact absurd h1 h
        · have := Int.mul_pos h1 hp; omega
      · intro h'
        exact Int.mul_neg_of_neg_of_pos h' hp
  rw [e2]
  rfl

theorem un_shift (s : Bool) (m k : Nat) (p : Int) (hk : (k : Int) ≤ p + 1074) : un s (m <<< k) (p - k) = un s m p := by
  unfold un
  rw [signed_eq, signed_eq, Nat.shiftLeft_eq, Nat.mul_assoc, ← Nat.pow_add]
  rw [show k + (p - (k : Int) + 1074).toNat = (p + 1074).toNat by omega]
theorem un_whole (neg : Bool) (mag : Nat) (p : Nat) (n : Int) (h : n = (if neg = true then -1 else 1) * ((mag * 2 ^ p : Nat) : Int)) : un neg mag p = n * ((2 ^ 1074 : Nat) : Int) := by
  unfold un
  rw [signed_eq, h, show ((p : Int) + 1074).toNat = p + 1074 by omega, Nat.pow_add, ← Nat.mul_assoc, Int.natCast_mul, Int.mul_assoc]

theorem iw_read (n : Int) (hl : -9007199254740992 ≤ n) (hu : n ≤ 9007199254740992) :
    ∃ m i, Ieee.double.read (iw n) = .number (decide (n < 0)) m i ∧ un (decide (n < 0)) m i = n * ((2 ^ 1074 : Nat) : Int) ∧ iw n % 2 ^ 63 < 0x7ff0000000000000 := by
  by_cases h0 : n = 0
  · subst h0
    refine ⟨0, -1074, by decide, ?_, by decide⟩
    unfold un
    rw [signed_eq, Nat.zero_mul, Int.zero_mul]
    exact Int.mul_zero _
  · have sgn : ∀ mag p : Nat, mag * 2 ^ p = n.natAbs → n = (if decide (n < 0) = true then -1 else 1) * ((mag * 2 ^ p : Nat) : Int) := fun mag p h => by
      rw [h]
      by_cases hn : n < 0
      · rw [if_pos (by simpa using hn)]; omega
      · rw [if_neg (by simpa using hn)]; omega
    rw [iw_eq]
    by_cases hlt : n.natAbs < 2 ^ 53
    · obtain ⟨k, h1, h2, h3⟩ := read_nearest (decide (n < 0)) n.natAbs 0 (by omega) hlt (by decide) (by decide)
      refine ⟨_, _, h2, ?_, h3⟩
      rw [un_shift _ _ _ _ h1]
      exact un_whole _ _ 0 n (sgn _ 0 (by rw [Nat.pow_zero, Nat.mul_one]))
    · have e : n.natAbs = 1 <<< 53 := by
        rw [show (1 : Nat) <<< 53 = 9007199254740992 from rfl]
        have : (2 : Nat) ^ 53 = 9007199254740992 := rfl
        omega
      rw [e, nearest_shift]
      obtain ⟨k, h1, h2, h3⟩ := read_nearest (decide (n < 0)) 1 (0 + (53 : Nat)) (by omega) (by decide) (by decide) (by decide)
      refine ⟨_, _, h2, ?_, h3⟩
      rw [un_shift _ _ _ _ h1]
      exact un_whole _ _ 53 n (sgn 1 53 (by rw [e]; rfl))

theorem add_iw (a b : Int) (ha : -9007199254740992 ≤ a) (ha' : a ≤ 9007199254740992) (hb : -9007199254740992 ≤ b) (hb' : b ≤ 9007199254740992) : fb .add (some (iw a)) (some (iw b)) = some (iw (a + b)) := by
  obtain ⟨m, i, h1, h2, _⟩ := iw_read a ha ha'
  obtain ⟨n, j, h3, h4, _⟩ := iw_read b hb hb'
  show floatBits .add .f64 (iw a) (iw b) = _
  rw [add_fin _ _ _ _ _ _ _ _ h1 h3, h2, h4, ← Int.add_mul, iw_wr]
  intro h
  by_cases h5 : a < 0
  · have : ¬ b < 0 := by omega
    simp [this]
  · simp [h5]
theorem sub_iw (a b : Int) (ha : -9007199254740992 ≤ a) (ha' : a ≤ 9007199254740992) (hb : -9007199254740992 ≤ b) (hb' : b ≤ 9007199254740992) : fb .sub (some (iw a)) (some (iw b)) = some (iw (a - b)) := by
  obtain ⟨m, i, h1, h2, _⟩ := iw_read a ha ha'
  obtain ⟨n, j, h3, h4, _⟩ := iw_read b hb hb'
  show floatBits .sub .f64 (iw a) (iw b) = _
  rw [sub_fin _ _ _ _ _ _ _ _ h1 h3, h2, h4, ← Int.sub_mul, iw_wr]
  intro h
  obtain rfl : a = b := by omega
  simp

theorem read_top (x : Nat) (h : x % 2 ^ 63 < 0x7ff0000000000000) : ∃ s m i, Ieee.double.read x = .number s m i ∧ i ≤ 971 := by
  have hb : Ieee.double.binade = 2 ^ 52 := rfl
  have hl : Ieee.double.leastPlace = -1074 := by decide
  have hi : Ieee.double.infRung = 0x7ff0000000000000 := by decide
  have hsw : Ieee.double.signWeight = 2 ^ 63 := rfl
  unfold Ieee.Format.read
  simp only [hb, hl, hi, hsw]
  generalize x % 2 ^ 63 = r at *
  split
  · exact ⟨_, _, _, rfl, by decide⟩
  · exact ⟨_, _, _, rfl, by omega⟩
theorem rdMax : Ieee.double.read 9218868437227405311 = .number false (2 ^ 53 - 1) 971 := by decide +kernel
theorem infB_of (x : Nat) (h : x % 2 ^ 63 < 0x7ff0000000000000) : infB (some x) = false := by
  unfold infB ab fo
  simp only [Option.map_some, Option.bind_some]
  have e63 : (9223372036854775808 : Nat) = 2 ^ 63 := rfl
  rw [e63]
  unfold Ieee.Format.order
  obtain ⟨s, m, i, hr, hi⟩ := read_top (x % 2 ^ 63) (by rw [Nat.mod_mod]; exact h)
  rw [hr, rdMax]
  have hm := (read_place _ _ _ _ hr).2
  simp only [Datum.order]
  rw [show min i 971 = i by omega, show (i - i).toNat = 0 by omega]
  have h1 : Ieee.signed s m 0 ≤ (m : Int) := by
    rw [signed_eq]; cases s <;> simp <;> omega
  have h2 : ((2 ^ 53 - 1 : Nat) : Int) ≤ Ieee.signed false (2 ^ 53 - 1) (971 - i).toNat := by
    rw [signed_eq]
    have hp := Nat.two_pow_pos (971 - i).toNat
    have : (2 ^ 53 - 1) * 1 ≤ (2 ^ 53 - 1) * 2 ^ (971 - i).toNat := Nat.mul_le_mul_left _ hp
    simp only [Bool.false_eq_true, if_false, Int.one_mul]
    omega
  have h3 : Ieee.signed s m 0 ≤ Ieee.signed false (2 ^ 53 - 1) (971 - i).toNat := by omega
  generalize Ieee.signed s m 0 = A at *
  generalize Ieee.signed false (2 ^ 53 - 1) (971 - i).toNat = B at *
  have : compare A B ≠ .gt := fun hc => by
    have := Int.compare_eq_gt.1 hc
    omega
  cases hc : compare A B <;> simp_all

theorem iw0 : iw 0 = 0 := by decide +kernel
theorem smStep_iw (S v : Int) (hS : -9007199254740992 ≤ S) (hS' : S ≤ 9007199254740992) (hv : -9007199254740992 ≤ v) (hv' : v ≤ 9007199254740992) (hT : -9007199254740992 ≤ S + v) (hT' : S + v ≤ 9007199254740992) :
    smStep (some (iw S), some 0) (some (iw v)) = (some (iw (S + v)), some 0) := by
  unfold smStep
  obtain ⟨_, _, _, _, h⟩ := iw_read (S + v) hT hT'
  have z : fb .add (some 0) (some (iw 0)) = some 0 := by
    have := add_iw 0 0 (by decide) (by decide) (by decide) (by decide)
    rw [iw0] at this ⊢
    rw [this]
    rw [show (0 : Int) + 0 = 0 from rfl, iw0]
  simp only [add_iw S v hS hS' hv hv', infB_of _ h, Bool.false_eq_true, sub_iw S (S + v) hS hS' hT hT', sub_iw v (S + v) hv hv' hT hT',
    show S - (S + v) = -v by omega, show v - (S + v) = -S by omega, add_iw (-v) v (by omega) (by omega) hv hv', add_iw (-S) S (by omega) (by omega) hS hS', show -v + v = 0 by omega, show -S + S = 0 by omega, z, ite_self]

/-- The sum, and the sum of the sizes, of the first i. -/
def zsum (f : Nat → Int) : Nat → Int
  | 0 => 0
  | i + 1 => zsum f i + f i
def zsize (f : Nat → Int) : Nat → Int
  | 0 => 0
  | i + 1 => zsize f i + max (f i) (-f i)
theorem zsize_le (f : Nat → Int) : ∀ i, zsum f i ≤ zsize f i ∧ -zsum f i ≤ zsize f i ∧ 0 ≤ zsize f i
  | 0 => by simp [zsum, zsize]
  | i + 1 => by
    have := zsize_le f i
    simp only [zsum, zsize]
    omega
theorem zsize_mono (f : Nat → Int) : ∀ (i n : Nat), i ≤ n → zsize f i ≤ zsize f n
  | i, n, h => by
    induction n with
    | zero => obtain rfl : i = 0 := by omega
              exact Int.le_refl _
    | succ n ih =>
      by_cases hi : i = n + 1
      · subst hi; exact Int.le_refl _
      · have := ih (by omega)
        simp only [zsize]
        omega
theorem sums_iw (f : Nat → Int) (n : Nat) (h : zsize f n ≤ 9007199254740992) : ∀ i, i ≤ n → sumS ((List.range i).map fun j => some (iw (f j))) = (some (iw (zsum f i)), some 0) := by
  intro i
  induction i with
  | zero => intro _; rw [show zsum f 0 = 0 from rfl, iw0]; rfl
  | succ i ih =>
    intro hi
    have h1 := ih (by omega)
    have h2 := zsize_le f i
    have h3 := zsize_le f (i + 1)
    have h4 := zsize_mono f (i + 1) n hi
    unfold sumS at h1 ⊢
    rw [List.range_succ, List.map_append, List.foldl_append, h1]
    simp only [List.map_cons, List.map_nil, List.foldl_cons, List.foldl_nil]
    simp only [zsum, zsize] at h3 h4 ⊢
    exact smStep_iw _ _ (by omega) (by omega) (by omega) (by omega) (by omega) (by omega)
theorem sumF_iw (f : Nat → Int) (n : Nat) (h : zsize f n ≤ 9007199254740992) : sumF ((List.range n).map fun j => some (iw (f j))) = some (iw (zsum f n)) := by
  have h2 := zsize_le f n
  unfold sumF
  rw [sums_iw f n h n (Nat.le_refl _)]
  have := add_iw (zsum f n) 0 (by omega) (by omega) (by decide) (by decide)
  rw [iw0, Int.add_zero] at this
  exact this
/-- In the other order. -/
theorem zsum_rev (f : Nat → Int) (n : Nat) : zsum (fun j => f (n - 1 - j)) n = zsum f n ∧ zsize (fun j => f (n - 1 - j)) n = zsize f n := by
  have key : ∀ (g : Nat → Int) (n : Nat), zsum (fun j => g (j + 1)) n + g 0 = zsum g (n + 1) ∧ zsize (fun j => g (j + 1)) n + max (g 0) (-g 0) = zsize g (n + 1) := by
    intro g n
    induction n with
    | zero => simp [zsum, zsize]
    | succ n ih =>
      rw [zsum, zsize]
      have e1 : zsum g (n + 1 + 1) = zsum g (n + 1) + g (n + 1) := rfl
      have e2 : zsize g (n + 1 + 1) = zsize g (n + 1) + max (g (n + 1)) (-g (n + 1)) := rfl
      rw [e1, e2]
      omega
  induction n generalizing f with
  | zero => exact ⟨rfl, rfl⟩
  | succ n ih =>
    have h1 := ih (fun j => f (j + 1))
    have h2 := key f n
    have c1 : ∀ k, k ≤ n → zsum (fun j => f (n + 1 - 1 - j)) k = zsum (fun j => f (n - 1 - j + 1)) k ∧ zsize (fun j => f (n + 1 - 1 - j)) k = zsize (fun j => f (n - 1 - j + 1)) k := by
      intro k
      induction k with
      | zero => intro _; exact ⟨rfl, rfl⟩
      | succ k ihk =>
        intro hk
        obtain ⟨a1, a2⟩ := ihk (by omega)
        simp only [zsum, zsize]
        rw [a1, a2, show n + 1 - 1 - k = n - 1 - k + 1 by omega]
        exact ⟨rfl, rfl⟩
    obtain ⟨d1, d2⟩ := c1 n (Nat.le_refl _)
    rw [zsum, zsize, d1, d2, show n + 1 - 1 - n = 0 by omega]
    rw [h1.1, h1.2]
    exact h2
end Go.Proofs.Ytmjenemjbpimcaa
/- Over: the small functions. -/
namespace Go.Proofs.Ytmjenemjbpimcaa
open Go.RowKit

theorem cvd (n : Int) (w : World) : (convert 2 25 (.int .i64 n)).run Try.prog w = .ok (.float .f64 (iw n)) w := run_convert_int_float w 2 25 .i64 .f64 n (by rw [Try.underlying2]; rfl) Try.underlying25
theorem iw_class (n : Int) : cl (iw n) = some (iw n) := cl_num (nanB_write_number _ _ _)
/-- A time in seconds. -/
def secF (D : Int) : Option Nat := fb .quo (some (iw D)) (some 4652007308841189376)
theorem inSeconds_any (D : Int) (w : World) : Calls Try.prog 27 #[.int .i64 D] w (RF w (secF D)) := by
  have hq := @run_fquo Try.prog
  have hc := cvd D
  go_enter Try.func27, Try.ntmps27
  go_wp2
  go_ret
  exact ⟨_, _, rfl, rfl, fz_lt _ _ _ _, by rw [cl_fz, iw_class, cl_lit 4652007308841189376 (by decide)]; rfl⟩

theorem geB_or (a b : Nat) : (FloatKind.f64.format.order a b == some .gt || FloatKind.f64.format.order a b == some .eq) = geB (cl a) (cl b) := by
  unfold geB
  rw [fo_cl]
/-- How far growing goes on. -/
def rchF (a m : Option Nat) : Option Nat := if geB a (fb .mul m (some 4607632778762754458)) = true then fb .quo m (some 4611686018427387904) else a
theorem reach_any (a m : Nat) (ha : a < 18446744073709551616) (w : World) : Calls Try.prog 28 #[.float .f64 a, .float .f64 m] w (RF w (rchF (cl a) (cl m))) := by
  have hq := @run_fquo Try.prog
  have hm := @run_fmul Try.prog
  have hg := geB_or a (fz .mul m 4607632778762754458 w)
  have c1 := cl_lit 4607632778762754458 (by decide)
  have c2 := cl_lit 4611686018427387904 (by decide)
  rw [cl_fz, c1] at hg
  have HU : Hid (rchF (cl a) (cl m) = if geB (cl a) (fb .mul (cl m) (some 4607632778762754458)) = true then fb .quo (cl m) (some 4611686018427387904) else cl a) := rfl
  have HA : Hid (a < 18446744073709551616) := ha
  generalize rchF (cl a) (cl m) = R at *
  clear c1 ha
  cases hb : geB (cl a) (fb .mul (cl m) (some 4607632778762754458))
  · rw [hb] at hg HU
    have HV : Hid (R = cl a) := HU.out
    clear hb HU
    go_enter Try.func28, Try.ntmps28
    go_wp2
    go_ret
    exact ⟨_, _, rfl, rfl, HA.out, HV.out.symm⟩
  · rw [hb] at hg HU
    have HV : Hid (R = fb .quo (cl m) (some 4611686018427387904)) := HU.out
    clear hb HU
    go_enter Try.func28, Try.ntmps28
    go_wp2
    go_ret
    exact ⟨_, _, rfl, rfl, fz_lt _ _ _ _, by rw [cl_fz, c2, HV.out]⟩

def ltB (x y : Option Nat) : Bool := fo x y == some .lt
theorem ltB_eq (a b : Nat) : (FloatKind.f64.format.order a b == some .lt) = ltB (cl a) (cl b) := by
  unfold ltB
  rw [fo_cl]
theorem isReset_any (a b : Nat) (w : World) : Calls Try.prog 29 #[.float .f64 a, .float .f64 b] w fun r w' => r = .returned (.bool (ltB (cl b) (cl a))) ∧ w' = w := by
  rw [← ltB_eq]
  go_enter Try.func29, Try.ntmps29
  go_wp2
  go_ret
  exact ⟨rfl, rfl⟩

/-- A window. -/
abbrev Wn (a : Option Addr) (n c : Nat) (F T N : Int) : Value := .agg #[.slice a n c, .int .i64 F, .int .i64 T, .int .i64 N]
/-- The time ahead of a point. -/
def pv (ss : Nat → Smp) (F : Int) (i : Nat) : Int := if i = 0 then F else (ss (i - 1)).t
def Bds (F T N : Int) : Prop := -9007199254740992 ≤ F ∧ F ≤ T ∧ T ≤ 9007199254740992 ∧ -9007199254740992 ≤ N ∧ N ≤ 9007199254740992
/-- A window is sound. -/
def Snd (ss : Nat → Smp) (n : Nat) (F T N : Int) : Prop := Bds F T N ∧ (∀ i, i < n → (ss i).s = false ∧ pv ss F i < (ss i).t) ∧ pv ss F n ≤ T
/-- What a test answers. -/
def RP (w : World) (p : Prop) (r : Ending) (w' : World) : Prop := ∃ b : Bool, r = .returned (.bool b) ∧ (b = true ↔ p) ∧ Below w.heap.size w w'

theorem pv_succ (ss : Nat → Smp) (F : Int) (i : Nat) : pv ss F (i + 1) = (ss i).t := by
  unfold pv
  rw [if_neg (by omega), Nat.add_sub_cancel]
theorem bcell {w w' : World} {g o : Nat} {v : Value} (b : Below w.heap.size w w') (h : w.cell? ⟨g, o, none⟩ = some v) (hg : g < w.heap.size) : w'.cell? ⟨g, o, none⟩ = some v := (b.cell (p := ⟨g, o, none⟩) hg).trans h
/-- A window in a box. -/
abbrev wnX (a : Option Addr) (n c : Nat) (F T N : Int) : Obj := .cells #[.slice a n c, .int .i64 F, .int .i64 T, .int .i64 N] 30
def WnC (a : Option Addr) (n c : Nat) (F T N : Int) (B : Nat) (W : World) : Prop := W.cell? ⟨B, 0, none⟩ = some (.slice a n c) ∧ W.cell? ⟨B, 1, none⟩ = some (.int .i64 F) ∧ W.cell? ⟨B, 2, none⟩ = some (.int .i64 T) ∧ W.cell? ⟨B, 3, none⟩ = some (.int .i64 N)
theorem wnC_new (a : Option Addr) (n c : Nat) (F T N : Int) (w : World) : ∀ W, Below (w.alloc (wnX a n c F T N)).heap.size (w.alloc (wnX a n c F T N)) W → WnC a n c F T N w.heap.size W := fun W b => by
  have e0 : (w.alloc (wnX a n c F T N)).heap[w.heap.size]? = some (wnX a n c F T N) := heap_alloc_new w _
  have hb : w.heap.size < (w.alloc (wnX a n c F T N)).heap.size := by simp
  exact ⟨bcell b (by unfold World.cell?; rw [e0]; rfl) hb, bcell b (by unfold World.cell?; rw [e0]; rfl) hb, bcell b (by unfold World.cell?; rw [e0]; rfl) hb, bcell b (by unfold World.cell?; rw [e0]; rfl) hb⟩

set_option maxHeartbeats 4000000 in
set_option maxRecDepth 100000 in
theorem isSound_any (a : Option Addr) (n c : Nat) (F T N : Int) (ss : Nat → Smp) (w : World) (hf : Sml w a ss n) (hl : n ≤ 9223372036854775807) :
    Calls Try.prog 25 #[Wn a n c F T N] w (RP w (Snd ss n F T N)) := by
  have hb0 : Hid (Below w.heap.size w (w.alloc (wnX a n c F T N))) := (Below.refl _ w).alloc (Nat.le_refl _) _
  have HC : Hid (∀ W, Below (w.alloc (wnX a n c F T N)).heap.size (w.alloc (wnX a n c F T N)) W → WnC a n c F T N w.heap.size W) := wnC_new a n c F T N w
  have HF : Hid (Sml w a ss n) := hf
  have HN : Hid (n ≤ 9223372036854775807) := hl
  have hsf := @run_store_float Try.prog
  clear hf
  by_cases hB : Bds F T N
  · have HB : Hid (Bds F T N) := hB
    obtain ⟨h1, h2, h3, h4, h5⟩ := hB
    have d1 : decide (F < -9007199254740992) = false := decide_eq_false (by omega)
    have d2 : decide (T < F) = false := decide_eq_false (by omega)
    have d3 : decide (9007199254740992 < T) = false := decide_eq_false (by omega)
    have d4 : decide (N < -9007199254740992) = false := decide_eq_false (by omega)
    have d5 : decide (9007199254740992 < N) = false := decide_eq_false (by omega)
    clear h1 h2 h3 h4 h5
    go_enter Try.func25, Try.ntmps25
    go_wp2
    clear d1 d2 d3 d4 d5
    go_loopw [3, 36] (fun av iv w' => ∃ i : Nat, iv = .int .i64 (i : Nat) ∧ i ≤ n ∧ av = .int .i64 (pv ss F i) ∧ Hid (∀ j, j < i → (ss j).s = false ∧ pv ss F j < (ss j).t) ∧ Hid (Below (w.alloc (wnX a n c F T N)).heap.size (w.alloc (wnX a n c F T N)) w')) (fun _ iv _ => n - (RowKit.intOf iv).toNat)
    case atStart => exact ⟨0, rfl, by omega, rfl, fun j hj => absurd hj (by omega), Below.refl _ _⟩
    case round =>
      obtain ⟨i, rfl, hi, rfl, hall, hb⟩ := hrel
      have hbw : Hid (Below w.heap.size w wr) := hb0.out.trans (hb.out.mono hb0.out.size)
      by_cases hlt : i < n
      · have hii : (i : Int) < (n : Int) := by omega
        rcases HF.out with h0 | ⟨g, o, rfl, hg, hat⟩
        · omega
        obtain ⟨f1, f2, f3⟩ := hat i hlt
        have q1 := bcell hbw.out f1 hg
        have q2 := bcell hbw.out f2 hg
        have q3 := bcell hbw.out f3 hg
        have H1 : Hid ((ss i).s = false ∧ pv ss F i < (ss i).t → ∀ j, j < i + 1 → (ss j).s = false ∧ pv ss F j < (ss j).t) := fun h j hj => by
          by_cases hji : j < i
          · exact hall.out j hji
          · obtain rfl : j = i := by omega
            exact h
        have H2 : Hid (¬ ((ss i).s = false ∧ pv ss F i < (ss i).t) → ¬ Snd ss n F T N) := fun h g => h (g.2.1 i hlt)
        have H3 : Hid (pv ss F (i + 1) = (ss i).t) := pv_succ ss F i
        have HI : Hid (i + 1 ≤ n) := hlt
        clear f1 f2 f3 hat hall hg
        obtain ⟨u, hu⟩ : ∃ u, ss i = u := ⟨_, rfl⟩
        rw [hu] at q1 q2 q3 H1 H2 H3
        clear hu
        generalize pv ss F i = A at *
        have HbA : Hid (Below (w.alloc (wnX (some ⟨g, o, none⟩) n c F T N)).heap.size (w.alloc (wnX (some ⟨g, o, none⟩) n c F T N)) (wr.alloc (cp u))) := hb.out.alloc hb.out.size _
        have HbB : Hid (Below w.heap.size w (wr.alloc (cp u))) := hbw.out.alloc hbw.out.size _
        have n0 := cp_cell wr u 0 (.int .i64 u.t) rfl
        have n2 := cp_cell wr u 2 (.bool u.s) rfl
        obtain ⟨ut, uvv, us⟩ := u
        dsimp only [cp] at q1 q2 q3 n0 n2 HbA HbB H1 H2 H3
        cases us
        · by_cases hle : ut ≤ A
          · have hle' : decide (ut ≤ A) = true := decide_eq_true hle
            have HX : Hid (¬ Snd ss n F T N) := H2.out (fun h => by omega)
            clear H1 H2
            go_wp2
            go_ret
            exact ⟨false, rfl, ⟨fun h => (by cases h), fun h => absurd h HX.out⟩, HbB.out⟩
          · have hle' : decide (ut ≤ A) = false := decide_eq_false hle
            have HX : Hid _ := H1.out ⟨rfl, by omega⟩
            clear H1 H2 hle
            go_wp2
            exact ⟨⟨i + 1, by go_num, HI.out, by rw [H3.out], HX, HbA⟩, by simp [RowKit.intOf]; omega⟩
        · have HX : Hid (¬ Snd ss n F T N) := H2.out (fun h => by cases h.1)
          clear H1 H2
          go_wp2
          go_ret
          exact ⟨false, rfl, ⟨fun h => (by cases h), fun h => absurd h HX.out⟩, HbB.out⟩
      · have hii : ¬ (i : Int) < (n : Int) := by omega
        obtain rfl : i = n := by omega
        obtain ⟨x0, x1, x2, x3⟩ := HC.out wr hb.out
        clear x0 x1 x3
        by_cases hle : pv ss F i ≤ T
        · have hle' : decide (pv ss F i ≤ T) = true := decide_eq_true hle
          have HX : Hid (Snd ss i F T N) := ⟨HB.out, hall.out, hle⟩
          clear hle
          generalize pv ss F i = A at *
          go_wp2
          go_ret
          exact ⟨true, rfl, ⟨fun _ => HX.out, fun _ => rfl⟩, hbw.out⟩
        · have hle' : decide (pv ss F i ≤ T) = false := decide_eq_false hle
          have HX : Hid (¬ Snd ss i F T N) := fun h => hle h.2.2
          clear hle
          generalize pv ss F i = A at *
          go_wp2
          go_ret
          exact ⟨false, rfl, ⟨fun h => (by cases h), fun h => absurd h HX.out⟩, hbw.out⟩
  · have HX : Hid (¬ Snd ss n F T N) := fun h => hB h.1
    have key : Hid (∀ w', Below w.heap.size w w' → RP w (Snd ss n F T N) (.returned (.bool false)) w') := fun w' b => ⟨false, rfl, ⟨fun h => (by cases h), fun h => absurd h HX.out⟩, b⟩
    clear HX
    generalize RP w (Snd ss n F T N) = Q at *
    by_cases h1 : F < -9007199254740992
    · have d1 : decide (F < -9007199254740992) = true := decide_eq_true h1
      clear hB h1
      go_enter Try.func25, Try.ntmps25
      go_wp2
      exact key.out _ hb0.out
    have d1 : decide (F < -9007199254740992) = false := decide_eq_false h1
    by_cases h2 : T < F
    · have d2 : decide (T < F) = true := decide_eq_true h2
      clear hB h1 h2
      go_enter Try.func25, Try.ntmps25
      go_wp2
      exact key.out _ hb0.out
    have d2 : decide (T < F) = false := decide_eq_false h2
    by_cases h3 : 9007199254740992 < T
    · have d3 : decide (9007199254740992 < T) = true := decide_eq_true h3
      clear hB h1 h2 h3
      go_enter Try.func25, Try.ntmps25
      go_wp2
      exact key.out _ hb0.out
    have d3 : decide (9007199254740992 < T) = false := decide_eq_false h3
    by_cases h4 : N < -9007199254740992
    · have d4 : decide (N < -9007199254740992) = true := decide_eq_true h4
      clear hB h1 h2 h3 h4
      go_enter Try.func25, Try.ntmps25
      go_wp2
      exact key.out _ hb0.out
    have d4 : decide (N < -9007199254740992) = false := decide_eq_false h4
    have h5 : 9007199254740992 < N := by
      refine Int.not_le.1 fun h5 => hB ⟨?_, ?_, ?_, ?_, h5⟩ <;> omega
    have d5 : decide (9007199254740992 < N) = true := decide_eq_true h5
    clear hB h1 h2 h3 h4 h5
    go_enter Try.func25, Try.ntmps25
    go_wp2
    exact key.out _ hb0.out
end Go.Proofs.Ytmjenemjbpimcaa
