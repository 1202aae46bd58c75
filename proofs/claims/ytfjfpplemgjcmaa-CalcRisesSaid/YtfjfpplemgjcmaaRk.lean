/- CalcRises: the law's walk. -/
import Derived.Test.YtfjfpplemgjcmaaRy
import Derived.Test.YtfjfpplemgjcmaaLi
namespace Go.Proofs.Ytfjfpplemgjcmaa
open Go.RowKit

/-- Whole numbers in memory. -/
def Im (w : World) (a : Option Addr) (k : IntKind) (Z : Nat → Int) (n : Nat) : Prop := n = 0 ∨ ∃ g o, a = some ⟨g, o, none⟩ ∧ g < w.heap.size ∧ ∀ j, j < n → w.cell? ⟨g, o + j, none⟩ = some (.int k (Z j))
def leB (x y : Nat) : Bool := (FloatKind.f64.format.order x y == some .lt) || (FloatKind.f64.format.order x y == some .eq)
theorem leB_ky (x y : Nat) (h : leB x y = true) : nanB x = false ∧ nanB y = false ∧ ky x ≤ ky y := by
  unfold leB at h
  cases hx : nanB x
  · cases hy : nanB y
    · rw [key_order x y hx hy] at h
      refine ⟨rfl, rfl, ?_⟩
      rcases cmp_cases (ky x) (ky y) with ⟨c, e⟩ | ⟨c, e⟩ | ⟨c, e⟩
      · omega
      · omega
      · rw [e] at h; cases h
    · rw [fo_cl, cl_num hx, cl_nan hy] at h; cases h
  · rw [fo_cl, cl_nan hx] at h; cases h
theorem ky_leB (x y : Nat) (hx : nanB x = false) (hy : nanB y = false) (h : ky x ≤ ky y) : leB x y = true := by
  unfold leB
  rw [key_order x y hx hy]
  rcases cmp_cases (ky x) (ky y) with ⟨c, e⟩ | ⟨c, e⟩ | ⟨c, e⟩
  · rw [e]; rfl
  · rw [e]; rfl
  · omega
/-- The two buckets that are tried first. -/
def twoR : Nat → Bk := fun j => if j = 0 then (4616189618054758400, 4611686018427387904) else (9218868437227405312, 4611686018427387904)
theorem twoR_val : buC (cl 4602678819172646912) (jnI (fun j => ab' (twoR j)) 2) = some 4611686018427387904 := by decide +kernel
theorem twoR_is (d : Option Nat) (h : DQ 4602678819172646912 twoR 2 d) : d = some 4611686018427387904 := by
  refine h.one (.inl ⟨two_part, 2, twoR, ?_, ?_, twoR_val.symm⟩)
  · have e : (seg twoR 0 2).filter nn = seg twoR 0 2 := by decide +kernel
    rw [e]; exact Sim.refl _
  · refine List.pairwise_cons.2 ⟨fun y hy => ?_, List.pairwise_singleton _ _⟩
    rw [List.mem_singleton.1 hy]
    decide +kernel
abbrev cellsR : Obj := .cells #[.float .f64 4616189618054758400, .float .f64 4611686018427387904, .float .f64 9218868437227405312, .float .f64 4611686018427387904] 34
theorem twoR_mem (w : World) : Bml (w.alloc cellsR) (some ⟨w.heap.size, 0, none⟩) twoR 2 := by
  refine .inr ⟨w.heap.size, 0, rfl, by simp, fun j hj => ?_⟩
  have e : (w.alloc cellsR).heap[w.heap.size]? = some cellsR := heap_alloc_new w _
  have : j = 0 ∨ j = 1 := by omega
  rcases this with rfl | rfl <;> (unfold World.cell?; rw [e]; exact ⟨rfl, rfl⟩)
theorem twoR_words : BW twoR 2 := fun j _ => by
  unfold twoR
  split <;> exact ⟨by decide, by decide⟩
theorem cv32 (n : Int) (w : World) : (convert 21 23 (.int .i32 n)).run Try.prog w = .ok (.float .f64 (iw n)) w := run_convert_int_float w 21 23 .i32 .f64 n (by rw [Try.underlying21]; rfl) Try.underlying23
theorem cvI (n : Int) (w : World) : (convert 3 23 (.int .i64 n)).run Try.prog w = .ok (.float .f64 (iw n)) w := run_convert_int_float w 3 23 .i64 .f64 n (by rw [Try.underlying3]; rfl) Try.underlying23
/-- What is known ahead of the work. -/
def Rok (nb nc : Nat) (c : Nat → Int) (p q : Nat) : Prop := nb ≠ 0 ∧ nb ≤ 200 ∧ nb < nc ∧ c 0 ≠ 0 ∧ leB 0 p = true ∧ leB p q = true ∧ leB q 4607182418800017408 = true
set_option maxHeartbeats 4000000 in
set_option maxRecDepth 100000 in
theorem rises_no (a1 a2 : Option Addr) (c1 c2 nb nc : Nat) (c : Nat → Int) (p q : Nat) (w : World) (hc : Im w a2 .u16 c nc) (hl2 : nc ≤ 9223372036854775807) (hl1 : nb ≤ 9223372036854775807) (hno : ¬ Rok nb nc c p q) :
    Calls Try.prog 5 #[.slice a1 nb c1, .slice a2 nc c2, .float .f64 p, .float .f64 q] w fun r w' => r = .returned (.bool true) ∧ Below w.heap.size w w' := by
  have kI := inf1_any
  have k0 := bu_prog 4602678819172646912 (some ⟨w.heap.size, 0, none⟩) 2 2 twoR (w.alloc cellsR) (twoR_mem w) twoR_words (by decide)
  have e0 : FloatKind.f64.format.order 4611686018427387904 4611686018427387904 = some .eq := by decide
  have hb0 : Below w.heap.size w (w.alloc cellsR) := (Below.refl _ _).alloc (Nat.le_refl _) _
  have HC : Hid (Im w a2 .u16 c nc) := hc
  have HNO : Hid (¬ Rok nb nc c p q) := hno
  clear hc hno
  go_enter Try.func5, Try.ntmps5
  go_wp2_with fail
  go_fit (kI _)
  rintro r w0 ⟨rfl, rfl⟩
  go_wp2_with fail
  go_fit k0
  rintro r w1 ⟨d, hd, z, rfl, hbb, _, hz⟩
  rw [twoR_is d hd] at hz
  obtain ⟨rfl, _⟩ := cl_some hz
  have b1 := hb0.trans (hbb.mono hb0.size)
  clear hbb hz k0 hd hb0
  by_cases n0 : nb = 0
  · subst n0
    go_wp2
    go_ret
    exact ⟨rfl, b1⟩
  have z1 : ((nb : Int) == 0) = false := beq_eq_false_iff_ne.2 (by omega)
  have z1n : (nb == 0) = false := beq_eq_false_iff_ne.2 n0
  by_cases n1 : 200 < nb
  · have z2 : (200 : Int) < (nb : Int) := by omega
    have z2n : decide (200 < nb) = true := decide_eq_true n1
    go_wp2
    go_ret
    exact ⟨rfl, b1⟩
  have z2 : ¬ (200 : Int) < (nb : Int) := by omega
  have z2n : decide (200 < nb) = false := decide_eq_false n1
  by_cases n2 : nc ≤ nb
  · have z3 : (nc : Int) ≤ (nb : Int) := by omega
    have z3n : decide (nc ≤ nb) = true := decide_eq_true n2
    go_wp2
    go_ret
    exact ⟨rfl, b1⟩
  have z3 : ¬ (nc : Int) ≤ (nb : Int) := by omega
  have z3n : decide (nc ≤ nb) = false := decide_eq_false n2
  have hnc : 0 < nc := by omega
  rcases HC.out with h0 | ⟨g, o, rfl, hg, hat⟩
  · omega
  have q0 := (b1.cell (p := ⟨g, o + 0, none⟩) hg).trans (hat 0 hnc)
  rw [Nat.add_zero] at q0
  have HC0 : Hid (c 0 = 0 ∨ c 0 ≠ 0) := Decidable.em _
  have HNO2 : Hid (c 0 ≠ 0 → leB 0 p = true → leB p q = true → leB q 4607182418800017408 = true → False) := fun h1 h2 h3 h4 => HNO.out ⟨n0, by omega, by omega, h1, h2, h3, h4⟩
  clear hat HC HNO
  generalize c 0 = cc at *
  rcases HC0.out with n3 | n3
  · subst n3
    go_wp2
    go_ret
    exact ⟨rfl, b1⟩
  have z4 : (cc == 0) = false := beq_eq_false_iff_ne.2 n3
  have l1 : leB 0 p = ((FloatKind.f64.format.order 0 p == some .lt) || (FloatKind.f64.format.order 0 p == some .eq)) := rfl
  have l2 : leB p q = ((FloatKind.f64.format.order p q == some .lt) || (FloatKind.f64.format.order p q == some .eq)) := rfl
  have l3 : leB q 4607182418800017408 = ((FloatKind.f64.format.order q 4607182418800017408 == some .lt) || (FloatKind.f64.format.order q 4607182418800017408 == some .eq)) := rfl
  cases A : leB 0 p
  · rw [A] at l1
    have l1' := l1.symm
    clear l1 l2 l3
    go_wp2
    go_ret
    exact ⟨rfl, b1⟩
  cases B : leB p q
  · rw [A] at l1
    rw [B] at l2
    have l1' := l1.symm
    have l2' := l2.symm
    clear l1 l2 l3
    go_wp2
    go_ret
    exact ⟨rfl, b1⟩
  cases C : leB q 4607182418800017408
  · rw [A] at l1
    rw [B] at l2
    rw [C] at l3
    have l1' := l1.symm
    have l2' := l2.symm
    have l3' := l3.symm
    clear l1 l2 l3
    go_wp2
    go_ret
    exact ⟨rfl, b1⟩
  exact (HNO2.out n3 A B C).elim
end Go.Proofs.Ytfjfpplemgjcmaa
