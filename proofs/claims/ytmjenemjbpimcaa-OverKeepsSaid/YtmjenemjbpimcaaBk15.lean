/- A bundle of texts. -/
import Derived.Test.YtmjenemjbpimcaaBk13
import Derived.Test.YtmjenemjbpimcaaBk14
import Derived.Test.YtmjenemjbpimcaaRows
/- num.ToInt; a swing's strength by a period in seconds. -/
namespace Go.Proofs.Ytmjenemjbpimcaa
open Go.RowKit Ieee

theorem toInt_c (x : Nat) (hx : x % 2 ^ 63 < 0x7ff0000000000000) : ∃ c, (FloatKind.f64.decode x).toInt .zero = some (Ieee.signed (sgn x) c 0) ∧ c * U ≤ uv (x % 2 ^ 63) := by
  obtain ⟨s, m, i, hr⟩ := read_fin x hx
  have hi := (read_place x s m i hr).1
  have hu := read_uv x s m i hr
  obtain ⟨c, hc⟩ : ∃ c, Toward.zero.cut s (m <<< i.toNat) (-i).toNat = c := ⟨_, rfl⟩
  have hs := ((read_sign x).1 s m i hr).1
  refine ⟨c, ?_, ?_⟩
  · show (Ieee.double.read x).toInt .zero = _
    rw [hr]
    simp only [Datum.toInt, Datum.integral]
    rw [hc, hs]
  · rw [zero_form] at hc
    have h0 : c * 2 ^ (-i).toNat ≤ m <<< i.toNat := by
      rw [← hc]
      generalize m <<< i.toNat = n at *
      generalize (-i).toNat = d at *
      by_cases h : d ≤ n.log2 + 2
      · rw [Nat.min_eq_left h, Nat.shiftLeft_eq, Nat.one_mul]
        exact Nat.div_mul_le_self _ _
      · have e : (1 : Nat) <<< min d (n.log2 + 2) = 2 ^ (n.log2 + 2) := by rw [Nat.min_eq_right (by omega), Nat.shiftLeft_eq, Nat.one_mul]
        have h1 := Nat.lt_log2_self (n := n)
        have h2 : 2 ^ (n.log2 + 1) ≤ 2 ^ (n.log2 + 2) := pow_le _ _ (by omega)
        rw [e, Nat.div_eq_of_lt (show n < 2 ^ (n.log2 + 2) by omega)]
        simp
    rw [← hu]
    have e2 : c * 2 ^ (-i).toNat * 2 ^ (min i 0 + 1074).toNat = c * U := by
      rw [Nat.mul_assoc, ← Nat.pow_add, U_eq]
      congr 2
      omega
    have e1 : m <<< i.toNat * 2 ^ (min i 0 + 1074).toNat = m * 2 ^ (i + 1074).toNat := by
      rw [Nat.shiftLeft_eq, Nat.mul_assoc, ← Nat.pow_add]
      congr 2
      omega
    rw [← e2, ← e1]
    exact Nat.mul_le_mul_right _ h0
/-- Is it within the whole numbers of 64 bits? -/
def tiB (c : Option Nat) : Bool := geB c (some 14114281232179134464) && ltB c (some 4890909195324358656)
def tiF (c : Option Nat) : Int := if tiB c = true then (c.bind fun y => floatToIntVal .f64 y .i64).getD 0 else 0
theorem pw3 (a b c d A C D : Nat) (h : a + b = c + d) (hA : A = 2 ^ a) (hC : C = 2 ^ c) (hD : D = 2 ^ d) : A * 2 ^ b = C * D := by rw [hA, hC, hD, ← Nat.pow_add, ← Nat.pow_add, h]
theorem uv_big (r q : Nat) (h1 : r / 2 ^ 52 - 1 = q) (h2 : r % 2 ^ 52 = 0) (h3 : ¬ r < 2 ^ 52) : uv r = 2 ^ 52 * 2 ^ q := by
  unfold uv
  rw [if_neg h3, h2, h1, Nat.add_zero]
theorem uv_is (r q c d C D : Nat) (h1 : r / 2 ^ 52 - 1 = q) (h2 : r % 2 ^ 52 = 0) (h3 : ¬ r < 2 ^ 52) (h : 52 + q = c + d) (hC : C = 2 ^ c) (hD : D = 2 ^ d) : uv r = C * D := (uv_big r q h1 h2 h3).trans (pw3 52 q c d _ C D h rfl hC hD)
theorem uv_hi : uv 4890909195324358656 = 9223372036854775808 * U := uv_is 4890909195324358656 1085 63 1074 9223372036854775808 U (by decide) (by decide) (by decide) rfl (by decide) U_eq
theorem pos_of (z e : Nat) (h : z = 2 ^ e) : 0 < z := by rw [h]; exact Nat.two_pow_pos e
theorem ti_some (y : Nat) (h : tiB (cl y) = true) : ∃ K, floatToIntVal .f64 y .i64 = some K := by
  unfold tiB at h
  rw [Bool.and_eq_true] at h
  obtain ⟨h1, h2⟩ := h
  have hn : nanB y = false := by
    cases hn : nanB y
    · rfl
    · rw [cl_nan hn] at h2
      cases h2
  rw [cl_num hn] at h1 h2
  unfold geB fo at h1
  unfold ltB fo at h2
  simp only [Option.bind_some] at h1 h2
  have k1 : Ieee.double.order y 14114281232179134464 = some (compare (ky y) (ky 14114281232179134464)) := key_order y _ hn (by decide)
  have k2 : Ieee.double.order y 4890909195324358656 = some (compare (ky y) (ky 4890909195324358656)) := key_order y _ hn (by decide)
  rw [k1] at h1
  rw [k2] at h2
  have e1 : ky 14114281232179134464 = -4890909195324358656 := by decide
  have e2 : ky 4890909195324358656 = 4890909195324358656 := by decide
  rw [e1] at h1
  rw [e2] at h2
  have g1 : -4890909195324358656 ≤ ky y := by
    rcases Int.lt_or_le (ky y) (-4890909195324358656) with g | g
    · rw [Int.compare_eq_lt.2 g] at h1
      cases h1
    · exact g
  have g2 : ky y < 4890909195324358656 := by
    rcases Int.lt_or_le (ky y) 4890909195324358656 with g | g
    · exact g
    · rcases Int.lt_or_eq_of_le g with g | g
      · rw [Int.compare_eq_gt.2 g] at h2
        cases h2
      · rw [Int.compare_eq_eq.2 g.symm] at h2
        cases h2
  have hk : ky y = sv (sgn y) (y % 2 ^ 63) := if_neg (by rw [hn]; decide)
  have hx : y % 2 ^ 63 < 0x7ff0000000000000 := by
    rw [hk] at g1 g2
    cases hs : sgn y
    · rw [hs] at g1 g2
      have e : sv false (y % 2 ^ 63) = ((y % 2 ^ 63 : Nat) : Int) := rfl
      omega
    · rw [hs] at g1 g2
      have e : sv true (y % 2 ^ 63) = -((y % 2 ^ 63 : Nat) : Int) := rfl
      omega
  obtain ⟨c, hc, hcu⟩ := toInt_c y hx
  refine ⟨Ieee.signed (sgn y) c 0, ?_⟩
  unfold floatToIntVal
  rw [hc]
  have hmn : IntKind.i64.min = -9223372036854775808 := by decide
  have hmx : IntKind.i64.max = 9223372036854775807 := by decide
  simp only [hmn, hmx]
  refine if_pos ?_
  have hU : 0 < U := pos_of U 1074 U_eq
  have hle : y % 2 ^ 63 ≤ 4890909195324358656 := by
    rw [hk] at g1 g2
    cases hs : sgn y
    · rw [hs] at g1 g2
      have e : sv false (y % 2 ^ 63) = ((y % 2 ^ 63 : Nat) : Int) := rfl
      omega
    · rw [hs] at g1 g2
      have e : sv true (y % 2 ^ 63) = -((y % 2 ^ 63 : Nat) : Int) := rfl
      omega
  have hc2 : c ≤ 9223372036854775808 := by
    have h3 := uv_mono _ _ hle
    rw [uv_hi] at h3
    exact Nat.le_of_mul_le_mul_right (Nat.le_trans hcu h3) hU
  rw [signed_eq]
  cases hs : sgn y
  · have hlt : y % 2 ^ 63 < 4890909195324358656 := by
      rw [hk, hs] at g2
      have e : sv false (y % 2 ^ 63) = ((y % 2 ^ 63 : Nat) : Int) := rfl
      omega
    have h3 := uv_strict _ _ hlt
    rw [uv_hi] at h3
    have hc3 : c < 9223372036854775808 := Nat.lt_of_mul_lt_mul_right (a := U) (Nat.lt_of_le_of_lt hcu h3)
    simp
    omega
  · simp
    omega
set_option maxHeartbeats 4000000 in
theorem toInt_any (y : Nat) (w : World) : Calls Try.prog 84 #[.float .f64 y] w fun r w' => (∃ b, r = .returned (.tuple #[.int .i64 (tiF (cl y)), .bool b])) ∧ w' = w := by
  have d1 := geB_or y 14114281232179134464
  have d2 := ltB_eq y 4890909195324358656
  rw [cl_lit 14114281232179134464 (by decide)] at d1
  rw [cl_lit 4890909195324358656 (by decide)] at d2
  have HT : Hid (tiF (cl y) = if (geB (cl y) (some 14114281232179134464) && ltB (cl y) (some 4890909195324358656)) = true then ((cl y).bind fun y => floatToIntVal .f64 y .i64).getD 0 else 0) := rfl
  have HS : Hid (tiB (cl y) = true → ∃ K, floatToIntVal .f64 y .i64 = some K) := ti_some y
  have HB : Hid (tiB (cl y) = (geB (cl y) (some 14114281232179134464) && ltB (cl y) (some 4890909195324358656))) := rfl
  cases e1 : geB (cl y) (some 14114281232179134464)
  · rw [e1] at d1 HT
    have HR : Hid (tiF (cl y) = 0) := HT.out
    generalize tiF (cl y) = R at *
    clear HT e1 HS HB
    go_enter Try.func84, Try.ntmps84
    go_wp2
    go_ret2
    exact ⟨⟨false, by rw [HR.out]; rfl⟩, rfl⟩
  · cases e2 : ltB (cl y) (some 4890909195324358656)
    · rw [e1] at d1
      rw [e1, e2] at HT
      rw [e2] at d2
      have HR : Hid (tiF (cl y) = 0) := HT.out
      generalize tiF (cl y) = R at *
      clear HT e1 e2 HS HB
      go_enter Try.func84, Try.ntmps84
      go_wp2
      go_ret2
      exact ⟨⟨false, by rw [HR.out]; rfl⟩, rfl⟩
    · rw [e1] at d1
      rw [e1, e2] at HT HB
      rw [e2] at d2
      obtain ⟨K, hK⟩ := HS.out HB.out
      have hn : nanB y = false := by
        cases hn : nanB y
        · rfl
        · rw [cl_nan hn] at e2
          cases e2
      have HR : Hid (tiF (cl y) = K) := (show _ = _ by
        rw [HT.out, if_pos (by rfl), cl_num hn, Option.bind_some, hK]
        rfl)
      have hcv : ∀ w, (convert 25 2 (.float .f64 y)).run Try.prog w = .ok (.int .i64 K) w := fun w => run_convert_float_int w 25 2 .f64 .i64 _ _ (by rw [Try.underlying25]; rfl) Try.underlying2 hK
      generalize tiF (cl y) = R at *
      clear HT e1 e2 HS HB hK hn
      go_enter Try.func84, Try.ntmps84
      go_wp2
      go_ret2
      exact ⟨⟨true, by rw [HR.out]; rfl⟩, rfl⟩
/-- How strongly the points swing. -/
def btF (ss : Nat → Smp) (n : Nat) (x : Option Nat) : Option Nat := beF (fun j => df (ss j).t (ss 0).t) (fun j => (ss j).v) n (tiF (fb .mul x (some 4652007308841189376)))
set_option maxHeartbeats 4000000 in
set_option maxRecDepth 100000 in
theorem beats_any (a : Option Addr) (n c : Nat) (ss : Nat → Smp) (x : Nat) (w : World) (h : HypW a n ss w) : Calls Try.prog 67 #[.slice a n c, .float .f64 x] w (RB w (btF ss n (cl x))) := by
  have hmu := @run_fmul Try.prog
  have kB : Hid (∀ W p, Below w.heap.size w W → Calls Try.prog 85 #[.slice a n c, .int .i64 p] W (RB W (beF (fun j => df (ss j).t (ss 0).t) (fun j => (ss j).v) n p))) := (show ∀ W p, _ → _ from fun W p b => beat_any a c n ss p W (h.below b).1 (by have := h.2.2; omega))
  have HE : Hid (btF ss n (cl x) = beF (fun j => df (ss j).t (ss 0).t) (fun j => (ss j).v) n (tiF (fb .mul (cl x) (some 4652007308841189376)))) := rfl
  have kT : ∀ W W2, Calls Try.prog 84 #[.float .f64 (fz .mul x 4652007308841189376 W)] W2 fun r w' => (∃ b, r = .returned (.tuple #[.int .i64 (tiF (fb .mul (cl x) (some 4652007308841189376))), .bool b])) ∧ w' = W2 := fun W W2 => by
    have k := toInt_any (fz .mul x 4652007308841189376 W) W2
    rw [cl_fz, cl_lit 4652007308841189376 (by decide)] at k
    exact k
  generalize tiF (fb .mul (cl x) (some 4652007308841189376)) = p at *
  generalize btF ss n (cl x) = R at *
  have hb0 : Hid (Below w.heap.size w w) := Below.refl _ w
  clear h
  go_enter Try.func67, Try.ntmps67
  go_wp2_with fail
  go_fit (kT _ _)
  rintro e w1 ⟨⟨b, rfl⟩, rfl⟩
  have k2 := kB.out (w.drewN (fk .mul x 4652007308841189376)) p (below_drewN hb0.out _)
  go_wp2_with fail
  go_fit k2
  rintro e w2 ⟨z, rfl, b2, hl, hz⟩
  have B2 : Hid (Below w.heap.size w w2) := (below_drewN hb0.out _).trans b2
  have HZ : Hid (cl z = R) := hz.trans HE.out.symm
  clear b2 hz k2 kT kB HE
  go_wp2
  go_ret
  exact ⟨z, rfl, B2.out, hl, HZ.out⟩
end Go.Proofs.Ytmjenemjbpimcaa
/- Rows sorted in place: what keeps those alike in their order. -/
namespace Go.Proofs.Ytmjenemjbpimcaa

section
variable {E : Type} (k : E → Int)

/-- n things from a place on. -/
def seg (f : Nat → E) (a : Nat) : Nat → List E
  | 0 => []
  | n + 1 => f a :: seg f (a + 1) n
theorem seg_add (f : Nat → E) (a n m : Nat) : seg f a (n + m) = seg f a n ++ seg f (a + n) m := by
  induction n generalizing a with
  | zero => simp [seg]
  | succ n ih =>
    rw [Nat.add_right_comm, seg, seg, ih, List.cons_append, show a + 1 + n = a + (n + 1) by omega]
theorem seg_congr (f g : Nat → E) (a b n : Nat) (h : ∀ j, j < n → f (a + j) = g (b + j)) : seg f a n = seg g b n := by
  induction n generalizing a b with
  | zero => rfl
  | succ n ih =>
    rw [seg, seg, ih (a + 1) (b + 1) (fun j hj => by have := h (j + 1) (by omega); rw [show a + 1 + j = a + (j + 1) by omega, show b + 1 + j = b + (j + 1) by omega]; exact this)]
    have := h 0 (by omega)
    rw [Nat.add_zero, Nat.add_zero] at this
    rw [this]
theorem mem_seg (f : Nat → E) (a n : Nat) (e : E) : e ∈ seg f a n ↔ ∃ j, a ≤ j ∧ j < a + n ∧ e = f j := by
  induction n generalizing a with
  | zero => simp [seg]; intro j h1 h2; omega
  | succ n ih =>
    rw [seg, List.mem_cons, ih]
    constructor
    · rintro (rfl | ⟨j, h1, h2, h3⟩)
      · exact ⟨a, Nat.le_refl _, by omega, rfl⟩
      · exact ⟨j, by omega, by omega, h3⟩
    · rintro ⟨j, h1, h2, h3⟩
      by_cases h : j = a
      · subst h; exact .inl h3
      · exact .inr ⟨j, by omega, by omega, h3⟩
theorem seg_length (f : Nat → E) (a n : Nat) : (seg f a n).length = n := by
  induction n generalizing a with
  | zero => rfl
  | succ n ih => rw [seg, List.length_cons, ih]

/-- Those of one key stand alike. -/
def Sim (xs ys : List E) : Prop := ∀ v : Int, xs.filter (fun x => k x == v) = ys.filter (fun x => k x == v)
variable {k}
theorem Sim.refl (xs : List E) : Sim k xs xs := fun _ => rfl
theorem Sim.trans {xs ys zs : List E} (h1 : Sim k xs ys) (h2 : Sim k ys zs) : Sim k xs zs := fun v => (h1 v).trans (h2 v)
theorem Sim.symm {xs ys : List E} (h1 : Sim k xs ys) : Sim k ys xs := fun v => (h1 v).symm
theorem Sim.append {xs ys us vs : List E} (h1 : Sim k xs ys) (h2 : Sim k us vs) : Sim k (xs ++ us) (ys ++ vs) := fun v => by rw [List.filter_append, List.filter_append, h1 v, h2 v]
theorem Sim.mem {xs ys : List E} (h : Sim k xs ys) (e : E) (he : e ∈ xs) : e ∈ ys := by
  have : e ∈ xs.filter (fun x => k x == k e) := List.mem_filter.2 ⟨he, by simp⟩
  rw [h (k e)] at this
  exact (List.mem_filter.1 this).1
theorem filter_none {xs : List E} {v : Int} (h : ∀ x ∈ xs, k x ≠ v) : xs.filter (fun x => k x == v) = [] := by
  rw [List.filter_eq_nil_iff]
  intro x hx
  simpa using h x hx
theorem Sim.swap (X Y : List E) (h : ∀ x ∈ X, ∀ y ∈ Y, k x ≠ k y) : Sim k (X ++ Y) (Y ++ X) := fun v => by
  rw [List.filter_append, List.filter_append]
  by_cases hX : ∃ x ∈ X, k x = v
  · obtain ⟨x, hx, hv⟩ := hX
    have : Y.filter (fun x => k x == v) = [] := filter_none fun y hy hyv => h x hx y hy (hv.trans hyv.symm)
    rw [this, List.append_nil, List.nil_append]
  · have : X.filter (fun x => k x == v) = [] := filter_none fun x hx hv => hX ⟨x, hx, hv⟩
    rw [this, List.append_nil, List.nil_append]
/-- Sorted. -/
def Up (k : E → Int) (xs : List E) : Prop := xs.Pairwise fun x y => k x ≤ k y
/-- There is one such row. -/
theorem sim_one {xs ys : List E} (hs : Sim k xs ys) (hx : Up k xs) (hy : Up k ys) : xs = ys := by
  induction xs generalizing ys with
  | nil =>
    cases ys with
    | nil => rfl
    | cons y ys => exact absurd (hs.symm.mem y List.mem_cons_self) (by simp)
  | cons x xs ih =>
    cases ys with
    | nil => exact absurd (hs.mem x List.mem_cons_self) (by simp)
    | cons y ys =>
      have h1 : k x ≤ k y := by
        rcases List.mem_cons.1 (hs.symm.mem y List.mem_cons_self) with rfl | h
        · exact Int.le_refl _
        · exact (List.pairwise_cons.1 hx).1 y h
      have h2 : k y ≤ k x := by
        rcases List.mem_cons.1 (hs.mem x List.mem_cons_self) with rfl | h
        · exact Int.le_refl _
        · exact (List.pairwise_cons.1 hy).1 x h
      have hk : k x = k y := by omega
      have hv := hs (k x)
      simp only [List.filter_cons, hk, beq_self_eq_true, if_true] at hv
      injection hv with h3 h4
      subst h3
      have : Sim k xs ys := fun v => by
        have hv := hs v
        simp only [List.filter_cons] at hv
        split at hv
        · injection hv
        · exact hv
      rw [ih this (List.pairwise_cons.1 hx).2 (List.pairwise_cons.1 hy).2]

/-- Places a to b are put in another order, those alike as they stood. -/
def Stb (k : E → Int) (f f' : Nat → E) (a b : Nat) : Prop := (∀ j, j < a ∨ b ≤ j → f' j = f j) ∧ Sim k (seg f a (b - a)) (seg f' a (b - a))
theorem Stb.refl (f : Nat → E) (a b : Nat) : Stb k f f a b := ⟨fun _ _ => rfl, Sim.refl _⟩
theorem Stb.trans {f g h : Nat → E} {a b : Nat} (h1 : Stb k f g a b) (h2 : Stb k g h a b) : Stb k f h a b := ⟨fun j hj => (h2.1 j hj).trans (h1.1 j hj), h1.2.trans h2.2⟩
theorem Stb.wide {f g : Nat → E} {a b a' b' : Nat} (h : Stb k f g a b) (ha : a' ≤ a) (hab : a ≤ b) (hb : b ≤ b') : Stb k f g a' b' := by
  refine ⟨fun j hj => h.1 j (by omega), ?_⟩
  obtain ⟨x, rfl⟩ : ∃ x, a = a' + x := ⟨a - a', by omega⟩
  obtain ⟨y, rfl⟩ : ∃ y, b = a' + x + y := ⟨b - (a' + x), by omega⟩
  obtain ⟨z, rfl⟩ : ∃ z, b' = a' + x + y + z := ⟨b' - (a' + x + y), by omega⟩
  have e : a' + x + y + z - a' = x + (y + z) := by omega
  have e2 : a' + x + y - (a' + x) = y := by omega
  rw [e, seg_add, seg_add, seg_add, seg_add]
  refine Sim.append ?_ (Sim.append ?_ ?_)
  · rw [seg_congr f g a' a' x fun j hj => (h.1 _ (by omega)).symm]; exact Sim.refl _
  · have := h.2; rw [e2] at this; exact this
  · rw [seg_congr f g (a' + x + y) (a' + x + y) z fun j hj => (h.1 _ (by omega)).symm]; exact Sim.refl _
/-- What stands there stood there. -/
theorem Stb.from {f g : Nat → E} {a b : Nat} (h : Stb k f g a b) (j : Nat) (h1 : a ≤ j) (h2 : j < b) : ∃ i, a ≤ i ∧ i < b ∧ g j = f i := by
  have hm : g j ∈ seg g a (b - a) := (mem_seg _ _ _ _).2 ⟨j, h1, by omega, rfl⟩
  obtain ⟨i, h3, h4, h5⟩ := (mem_seg _ _ _ _).1 (h.2.symm.mem _ hm)
  exact ⟨i, h3, by omega, h5⟩

/-- The blocks from s to m and from m to e, exchanged. -/
def rot (f : Nat → E) (s m e : Nat) : Nat → E := fun j => if s ≤ j ∧ j < s + (e - m) then f (j - s + m) else if s + (e - m) ≤ j ∧ j < e then f (j - (e - m)) else f j
theorem rot_stb (f : Nat → E) (s m e : Nat) (h1 : s ≤ m) (h2 : m ≤ e) (h : ∀ i j, s ≤ i → i < m → m ≤ j → j < e → k (f i) ≠ k (f j)) : Stb k f (rot f s m e) s e := by
  constructor
  · intro j hj
    unfold rot
    rw [if_neg (by omega), if_neg (by omega)]
  · obtain ⟨x, rfl⟩ : ∃ x, m = s + x := ⟨m - s, by omega⟩
    obtain ⟨y, rfl⟩ : ∃ y, e = s + x + y := ⟨e - (s + x), by omega⟩
    have e1 : s + x + y - s = x + y := by omega
    have e2 : s + x + y - s = y + x := by omega
    rw [show seg f s (s + x + y - s) = seg f s x ++ seg f (s + x) y by rw [e1, seg_add], show seg (rot f s (s + x) (s + x + y)) s (s + x + y - s) = seg f (s + x) y ++ seg f s x by
      rw [e2, seg_add]
      congr 1
      · refine seg_congr _ _ _ _ _ fun j hj => ?_
        unfold rot
        rw [if_pos (by omega)]
        congr 1
        omega
      · refine seg_congr _ _ _ _ _ fun j hj => ?_
        unfold rot
        rw [if_neg (by omega), if_pos (by omega)]
        congr 1
        omega]
    refine Sim.swap _ _ fun u hu v hv => ?_
    obtain ⟨i, h3, h4, rfl⟩ := (mem_seg _ _ _ _).1 hu
    obtain ⟨j, h5, h6, rfl⟩ := (mem_seg _ _ _ _).1 hv
    exact h i j h3 h4 h5 (by omega)

def up (f : Nat → E) (i : Nat) (e : E) : Nat → E := fun j => if j = i then e else f j
/-- Two blocks of n things, exchanged. -/
def swb (f : Nat → E) (a b n : Nat) : Nat → E := fun j => if a ≤ j ∧ j < a + n then f (b + (j - a)) else if b ≤ j ∧ j < b + n then f (a + (j - b)) else f j
theorem swb_zero (f : Nat → E) (a b : Nat) : swb f a b 0 = f := by
  funext j; unfold swb; rw [if_neg (by omega), if_neg (by omega)]
theorem swb_succ (f : Nat → E) (a b i : Nat) (h : a + i < b) : up (up (swb f a b i) (a + i) (swb f a b i (b + i))) (b + i) (swb f a b i (a + i)) = swb f a b (i + 1) := by
  funext j
  unfold up swb
  repeat' split
  all_goals first | rfl | (exfalso; omega) | (congr 1; omega)
theorem rot_even (f : Nat → E) (m i : Nat) (h : i ≤ m) : swb f (m - i) m i = rot f (m - i) m (m + i) := by
  funext j
  unfold swb rot
  repeat' split
  all_goals first | rfl | (exfalso; omega) | (congr 1; omega)
theorem rot_left (f : Nat → E) (m i j : Nat) (h : i ≤ m) (hij : j < i) : rot (swb f (m - i) m j) (m - (i - j)) m (m + j) = rot f (m - i) m (m + j) := by
  funext x
  unfold rot swb
  repeat' split
  all_goals first | rfl | (exfalso; omega) | (congr 1; omega)
theorem rot_right (f : Nat → E) (m i j : Nat) (h : i ≤ m) (hij : i < j) : rot (swb f (m - i) (m + j - i) i) (m - i) m (m + (j - i)) = rot f (m - i) m (m + j) := by
  funext x
  unfold rot swb
  repeat' split
  all_goals first | rfl | (exfalso; omega) | (congr 1; omega)
theorem rot_empty (f : Nat → E) (s m e : Nat) (h : s = m ∨ m = e) (hs : s ≤ m) (he : m ≤ e) : rot f s m e = f := by
  funext x
  unfold rot
  repeat' split
  all_goals first | rfl | (exfalso; omega) | (congr 1; omega)
/-- One thing moved up. -/
theorem rot_up (f : Nat → E) (s e : Nat) (h : s < e) : up (up (rot f s (s + 1) e) (e - 1) (rot f s (s + 1) e e)) e (rot f s (s + 1) e (e - 1)) = rot f s (s + 1) (e + 1) := by
  funext x
  unfold up rot
  repeat' split
  all_goals first | rfl | (exfalso; omega) | (congr 1; omega)
/-- One thing moved down. -/
theorem rot_down (f : Nat → E) (s m : Nat) (h1 : 0 < s) (h : s ≤ m) : up (up (rot f s m (m + 1)) s (rot f s m (m + 1) (s - 1))) (s - 1) (rot f s m (m + 1) s) = rot f (s - 1) m (m + 1) := by
  funext x
  unfold up rot
  repeat' split
  all_goals first | rfl | (exfalso; omega) | (congr 1; omega)
end
end Go.Proofs.Ytmjenemjbpimcaa
/- Merging in place: what is sorted. -/
namespace Go.Proofs.Ytmjenemjbpimcaa

section
variable {E : Type} {k : E → Int}

def Srt (k : E → Int) (f : Nat → E) (a b : Nat) : Prop := ∀ i j, a ≤ i → i < j → j < b → k (f i) ≤ k (f j)
theorem Srt.le {f : Nat → E} {a b : Nat} (h : Srt k f a b) (i j : Nat) (h1 : a ≤ i) (h2 : i ≤ j) (h3 : j < b) : k (f i) ≤ k (f j) := by
  by_cases e : i = j
  · subst e; exact Int.le_refl _
  · exact h i j h1 (by omega) h3
theorem Srt.up {f : Nat → E} {n : Nat} : ∀ {a : Nat}, Srt k f a (a + n) → Up k (seg f a n) := by
  induction n with
  | zero => intro a _; exact List.Pairwise.nil
  | succ n ih =>
    intro a h
    refine List.pairwise_cons.2 ⟨fun y hy => ?_, ih fun i j h1 h2 h3 => h i j (by omega) h2 (by omega)⟩
    obtain ⟨j, h1, h2, rfl⟩ := (mem_seg _ _ _ _).1 hy
    exact h a j (Nat.le_refl _) (by omega) (by omega)
/-- One thing put in its place, down. -/
theorem ins_srt (f : Nat → E) (a i j : Nat) (h : Srt k f a i) (haj : a ≤ j) (hji : j ≤ i) (h1 : ∀ x, j ≤ x → x < i → k (f i) < k (f x)) (h2 : j = a ∨ k (f (j - 1)) ≤ k (f i)) : Srt k (rot f j i (i + 1)) a (i + 1) := by
  intro x y hx hxy hy
  have e : i + 1 - i = 1 := by omega
  unfold rot
  rw [e]
  by_cases c1 : y < j
  · rw [if_neg (by omega), if_neg (by omega), if_neg (by omega), if_neg (by omega)]
    exact h x y hx hxy (by omega)
  · by_cases c2 : y = j
    · rw [if_neg (by omega), if_neg (by omega), if_pos (by omega), show y - j + i = i by omega]
      have h3 := h.le x (j - 1) hx (by omega) (by omega)
      rcases h2 with h2 | h2
      · omega
      · omega
    · have hy2 : k (f (y - 1)) = k (if j ≤ y ∧ y < j + 1 then f (y - j + i) else if j + 1 ≤ y ∧ y < i + 1 then f (y - 1) else f y) := by
        rw [if_neg (by omega), if_pos (by omega)]
      rw [← hy2]
      by_cases c3 : x < j
      · rw [if_neg (by omega), if_neg (by omega)]
        exact h.le x (y - 1) hx (by omega) (by omega)
      · by_cases c4 : x = j
        · rw [if_pos (by omega), show x - j + i = i by omega]
          exact Int.le_of_lt (h1 (y - 1) (by omega) (by omega))
        · rw [if_neg (by omega), if_pos (by omega)]
          exact h.le (x - 1) (y - 1) (by omega) (by omega) (by omega)
/-- One thing put in its place, up. -/
theorem ins_srt1 (f : Nat → E) (a b i : Nat) (h : Srt k f (a + 1) b) (hai : a + 1 ≤ i) (hib : i ≤ b) (h1 : ∀ x, a + 1 ≤ x → x < i → k (f x) < k (f a)) (h2 : i = b ∨ k (f a) ≤ k (f i)) : Srt k (rot f a (a + 1) i) a b := by
  intro x y hx hxy hy
  have hbig : ∀ z, i ≤ z → z < b → k (f a) ≤ k (f z) := fun z hz hzb => by
    rcases h2 with h2 | h2
    · omega
    · have := h.le i z hai hz hzb
      omega
  unfold rot
  by_cases c1 : y < i - 1
  · rw [if_pos (by omega), if_pos (by omega)]
    exact h _ _ (by omega) (by omega) (by omega)
  · by_cases c2 : y = i - 1
    · rw [if_pos (by omega), if_neg (by omega), if_pos (by omega), show y - (i - (a + 1)) = a by omega]
      exact Int.le_of_lt (h1 _ (by omega) (by omega))
    · have hy2 : (if a ≤ y ∧ y < a + (i - (a + 1)) then f (y - a + (a + 1)) else if a + (i - (a + 1)) ≤ y ∧ y < i then f (y - (i - (a + 1))) else f y) = f y := by
        rw [if_neg (by omega), if_neg (by omega)]
      rw [hy2]
      by_cases c3 : x < i - 1
      · rw [if_pos (by omega)]
        exact h _ _ (by omega) (by omega) (by omega)
      · by_cases c4 : x = i - 1
        · rw [if_neg (by omega), if_pos (by omega), show x - (i - (a + 1)) = a by omega]
          exact hbig y (by omega) hy
        · rw [if_neg (by omega), if_neg (by omega)]
          exact h _ _ (by omega) (by omega) (by omega)

/-- Where two sorted rows are cut. -/
def Cut (k : E → Int) (f : Nat → E) (a s m e b : Nat) : Prop := (∀ x y, a ≤ x → x < s → e ≤ y → y < b → k (f x) ≤ k (f y)) ∧ (∀ x y, s ≤ x → x < m → m ≤ y → y < e → k (f y) < k (f x))
theorem cut_of (f : Nat → E) (a m b s e : Nat) (h1 : Srt k f a m) (h2 : Srt k f m b) (ha : a ≤ s) (hs : s ≤ m) (he : m ≤ e) (heb : e ≤ b)
    (l : s = a ∨ e = b ∨ k (f (s - 1)) ≤ k (f e)) (r : s = m ∨ e = m ∨ k (f (e - 1)) < k (f s)) : Cut k f a s m e b := by
  constructor
  · intro x y hx hxs hy hyb
    rcases l with l | l | l
    · omega
    · omega
    · have g1 := h1.le x (s - 1) hx (by omega) (by omega)
      have g2 := h2.le e y he hy hyb
      omega
  · intro x y hx hxm hy hye
    rcases r with r | r | r
    · omega
    · omega
    · have g1 := h1.le s x ha hx hxm
      have g2 := h2.le y (e - 1) hy (by omega) (by omega)
      omega
theorem rot_lo (f : Nat → E) (s m e x : Nat) (h1 : s ≤ x) (h2 : x < s + (e - m)) : rot f s m e x = f (x - s + m) := if_pos ⟨h1, h2⟩
theorem rot_hi (f : Nat → E) (s m e x : Nat) (h1 : s + (e - m) ≤ x) (h2 : x < e) (_ : s ≤ m) : rot f s m e x = f (x - (e - m)) := by
  unfold rot
  rw [if_neg (by omega), if_pos ⟨h1, h2⟩]
theorem rot_out (f : Nat → E) (s m e x : Nat) (h : x < s ∨ e ≤ x) (h3 : s ≤ m) (h4 : m ≤ e) : rot f s m e x = f x := by
  unfold rot
  rw [if_neg (by omega), if_neg (by omega)]
/-- The two halves behind the exchange. -/
theorem merge_ok (f : Nat → E) (a s m e b : Nat) (h1 : Srt k f a m) (h2 : Srt k f m b) (ha : a ≤ s) (hs : s ≤ m) (he : m ≤ e) (heb : e ≤ b) (hc : Cut k f a s m e b) :
    Srt k (rot f s m e) a s ∧ Srt k (rot f s m e) s (s + (e - m)) ∧ Srt k (rot f s m e) (s + (e - m)) e ∧ Srt k (rot f s m e) e b ∧
      (∀ x y, a ≤ x → x < s + (e - m) → s + (e - m) ≤ y → y < b → k (rot f s m e x) ≤ k (rot f s m e y)) ∧ Stb k f (rot f s m e) a b := by
  refine ⟨fun x y hx hxy hy => ?_, fun x y hx hxy hy => ?_, fun x y hx hxy hy => ?_, fun x y hx hxy hy => ?_, fun x y hx hxm hy hyb => ?_, ?_⟩
  · rw [rot_out _ _ _ _ _ (by omega) hs he, rot_out _ _ _ _ _ (by omega) hs he]
    exact h1 _ _ hx hxy (by omega)
  · rw [rot_lo _ _ _ _ _ hx (by omega), rot_lo _ _ _ _ _ (by omega) hy]
    exact h2 _ _ (by omega) (by omega) (by omega)
  · rw [rot_hi _ _ _ _ _ hx (by omega) hs, rot_hi _ _ _ _ _ (by omega) hy hs]
    exact h1 _ _ (by omega) (by omega) (by omega)
  · rw [rot_out _ _ _ _ _ (by omega) hs he, rot_out _ _ _ _ _ (by omega) hs he]
    exact h2 _ _ (by omega) hxy hy
  · by_cases c1 : x < s
    · rw [rot_out _ _ _ _ x (by omega) hs he]
      by_cases c2 : y < e
      · rw [rot_hi _ _ _ _ _ hy c2 hs]
        exact h1 _ _ hx (by omega) (by omega)
      · rw [rot_out _ _ _ _ y (by omega) hs he]
        exact hc.1 _ _ hx c1 (by omega) hyb
    · rw [rot_lo _ _ _ _ x (by omega) hxm]
      by_cases c2 : y < e
      · rw [rot_hi _ _ _ _ _ hy c2 hs]
        exact Int.le_of_lt (hc.2 _ _ (by omega) (by omega) (by omega) (by omega))
      · rw [rot_out _ _ _ _ y (by omega) hs he]
        exact h2 _ _ (by omega) (by omega) hyb
  · exact (rot_stb f s m e hs he fun i j h3 h4 h5 h6 => by
      have := hc.2 i j h3 h4 h5 h6
      omega).wide ha (by omega) heb
theorem merge_end (g g1 g2 : Nat → E) (a mid b : Nat) (ha : a ≤ mid) (hb : mid ≤ b) (hx : ∀ x y, a ≤ x → x < mid → mid ≤ y → y < b → k (g x) ≤ k (g y))
    (s1 : Stb k g g1 a mid) (h1 : Srt k g1 a mid) (s2 : Stb k g1 g2 mid b) (h2 : Srt k g2 mid b) : Srt k g2 a b ∧ Stb k g g2 a b := by
  refine ⟨fun i j hi hij hj => ?_, (s1.wide (Nat.le_refl _) ha hb).trans (s2.wide ha hb (Nat.le_refl _))⟩
  by_cases c1 : j < mid
  · rw [s2.1 i (by omega), s2.1 j (by omega)]
    exact h1 i j hi hij c1
  · by_cases c2 : mid ≤ i
    · exact h2 i j c2 hij hj
    · obtain ⟨y, hy1, hy2, hy3⟩ := s2.from j (by omega) hj
      obtain ⟨x, hx1, hx2, hx3⟩ := s1.from i hi (by omega)
      rw [hy3, s2.1 i (by omega), hx3, s1.1 y (by omega)]
      exact hx x y hx1 hx2 hy1 hy2
theorem Srt.one (f : Nat → E) (a b : Nat) (h : b ≤ a + 1) : Srt k f a b := fun i j h1 h2 h3 => by omega
theorem Srt.same {f g : Nat → E} {a b : Nat} (h : Srt k f a b) (e : ∀ j, a ≤ j → j < b → g j = f j) : Srt k g a b := fun i j h1 h2 h3 => by
  rw [e i h1 (by omega), e j (by omega) h3]
  exact h i j h1 h2 h3

/-- Blocks of s things, sorted below a place. -/
def Blk (k : E → Int) (f : Nat → E) (s a : Nat) : Prop := ∀ q i j, q * s ≤ i → i < j → j < (q + 1) * s → j < a → k (f i) ≤ k (f j)
theorem Blk.zero (f : Nat → E) (s : Nat) : Blk k f s 0 := fun _ _ _ _ _ _ h => by omega
theorem Blk.next {f g : Nat → E} {s Q b : Nat} (h : Blk k f s (Q * s)) (e : ∀ j, j < Q * s → g j = f j) (hs : Srt k g (Q * s) b) : Blk k g s b := by
  intro q i j h1 h2 h3 h4
  by_cases hj : j < Q * s
  · rw [e i (by omega), e j hj]
    exact h q i j h1 h2 h3 hj
  · have : Q ≤ q := by
      rcases Nat.lt_or_ge q Q with hq | hq
      · have : (q + 1) * s ≤ Q * s := Nat.mul_le_mul_right _ hq
        omega
      · exact hq
    have h5 : Q * s ≤ q * s := Nat.mul_le_mul_right _ this
    exact hs i j (by omega) h2 h4
theorem Blk.srt {f : Nat → E} {s n : Nat} (h : Blk k f s n) (q a b : Nat) (ha : q * s ≤ a) (hb : b ≤ (q + 1) * s) (hn : b ≤ n) : Srt k f a b := fun i j h1 h2 h3 => h q i j (by omega) h2 (by omega) (by omega)
theorem Blk.all {f : Nat → E} {s n : Nat} (h : Blk k f s n) (hs : n ≤ s) : Srt k f 0 n := h.srt 0 0 n (by omega) (by omega) (Nat.le_refl _)
end
end Go.Proofs.Ytmjenemjbpimcaa
