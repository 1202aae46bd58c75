/- Lists of floats that came in. -/
import Derived.Test.YtebjklppbkkinaaSu
import Derived.ProofKit
import Derived.OpenShut
import Derived.ChangeSlices
import Derived.ChangeSame
import Derived.ChangeOld
import Derived.Carry
import Derived.Deep.Slices
namespace Go.Proofs.Ytebjklppbkkinaa
open Go.ChangeShapes Go.WideShapes Go.ChangeAt Go.RowKit

theorem own : ownKnob Try.prog.godebug = none := by kernel_rfl
theorem laidOut : laidOutB Try.prog = true := by kernel_rfl

theorem trod_float0 {H : Type} {enc : TypeId × Value → H} {W : World} {t : TypeId} {cs : List Value} {x : DataW H × List MemPlace} {fuel : Nat} (ht : Try.prog.underlying t = some (.float .f64))
    (h : DataW.trod enc Try.prog W 0 (fun _ => true) true fuel t cs = some x) : ∃ z, cs = [.float .f64 z] ∧ x = (.lit (.float .f64 z), []) ∧ (Lit.float .f64 z).wf = true := by
  cases fuel with
  | zero => simp [DataW.trod] at h
  | succ n =>
    unfold DataW.trod at h
    rw [ht] at h
    split at h <;> simp_all
theorem trod_float {H : Type} {enc : TypeId × Value → H} {W : World} {t : TypeId} {v : Value} {x : DataW H × List MemPlace} {fuel : Nat} (ht : Try.prog.underlying t = some (.float .f64))
    (h : DataW.trod enc Try.prog W 0 (fun _ => true) true fuel t [v] = some x) : ∃ z, v = .float .f64 z ∧ z < 18446744073709551616 ∧ x = (.lit (.float .f64 z), []) := by
  obtain ⟨z, h1, h2, h3⟩ := trod_float0 ht h
  exact ⟨z, by simpa using h1, by simpa [Lit.wf] using h3, h2⟩

/-- A list of floats that came in. -/
theorem floats_open {H : Type} {enc : TypeId × Value → H} {W : World} {v : Value} {d : DataW H} {p : List MemPlace} {fuel : Nat} {t : TypeId} (ht : Try.prog.underlying t = some (.slice 22))
    (hf : DataW.trod enc Try.prog W 0 (fun _ => true) true fuel t [v] = some (d, p)) :
    ∃ (a : Option Addr) (c : Nat) (xs : List Nat), v = .slice a xs.length c ∧ Fm W a xs ∧ Wd xs ∧ xs.length ≤ 9223372036854775807 ∧ (∃ es ss, d = .slice es ss ∧ es.length = xs.length ∨ xs = []) := by
  rcases Go.Deep.open_slice1 ht (by kernel_rfl) hf with ⟨hcs, _⟩ | ⟨x, l, c, m, n, V, D, Pl, hcs, _, hl, hm, hmm, hd, hall⟩
  · have e : v = .slice none 0 0 := by simpa using hcs
    exact ⟨none, 0, [], e, .inl rfl, fun j hj => absurd hj (by simp), by simp, [], [], .inr rfl⟩
  · have e : v = .slice (some x) l c := by simpa using hcs
    have hm' : m = c := by simpa using hmm
    subst hm'
    unfold maxLen at hm
    obtain ⟨rfl, _⟩ := Prod.mk.inj hd
    have hz : ∀ i, i < m → ∃ z : Nat, V i = .float .f64 z ∧ z < 18446744073709551616 := fun i hi => by
      obtain ⟨z, h1, h2, _⟩ := trod_float Try.underlying22 (hall i hi).2
      exact ⟨z, h1, h2⟩
    obtain ⟨Z, hZ⟩ := Go.Deep.choose_lt hz
    have hlen : ((List.range l).map Z).length = l := by simp
    have hget : ∀ i, i < l → ((List.range l).map Z).getD i 0 = Z i := fun i hi => by simp [List.getD, hi]
    refine ⟨some x, m, (List.range l).map Z, by rw [hlen]; exact e, ?_, fun j hj => ?_, by rw [hlen]; omega, _, _, .inl ⟨rfl, by simp⟩⟩
    · by_cases h0 : l = 0
      · left
        rw [h0]; rfl
      · right
        obtain ⟨g, o, sp⟩ := x
        have hsp : sp = none := by
          have := (hall 0 (by omega)).1
          simpa [Addr.add] using World.cell?_spot this
        subst hsp
        have h00 := (hall 0 (by omega)).1
        rw [Go.WideShapes.add_plain] at h00
        refine ⟨g, o, rfl, block_lt_of_cell h00, fun i hi => ?_⟩
        rw [hlen] at hi
        have := (hall i (by omega)).1
        rw [Go.WideShapes.add_plain] at this
        rw [hget i hi, this, (hZ i (by omega)).1]
    · rw [hlen] at hj
      rw [hget j hj]
      exact (hZ j (by omega)).2
end Go.Proofs.Ytebjklppbkkinaa
