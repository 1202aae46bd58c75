/- A slice of questions that came in, with the form's own reach for each text. -/
import Derived.Test.YtdnbkgbgpfmipabDoorKit
import Derived.OpenShut
import Derived.ShutString
import Derived.ChangeOld
import Derived.Deep.SlicePairs
namespace Go.Proofs.YtdnbkgbgpfmipabDoor
open Go.ChangeShapes Go.WideShapes Go.ChangeAt Go.RowKit Go.Lib
open Go.ChangeMaps (open_string shut_string)

/-- What the slice of questions holds, each text within the reach. -/
def AsksB (w : World) (b off len : Nat) (S : Nat → ByteArray) (A : Nat → Int) : Prop :=
  ∀ j, j < len → (S j).size ≤ 140737488351232 ∧ w.cell? ⟨b, off + j * 2, none⟩ = some (.string (S j)) ∧ w.cell? ⟨b, off + j * 2 + 1, none⟩ = some (.int .i64 (A j)) ∧ -9223372036854775808 ≤ A j ∧ A j ≤ 9223372036854775807

theorem weightsAll_in {H : Type} {e : TypeId} : ∀ {l : List (DataW H)} {d : DataW H}, d ∈ l → ∀ n ∈ d.weights Tryd.prog e, n ∈ DataW.weightsAll Tryd.prog e l
  | x :: r, d, hd, n, hn => by
    rw [DataW.weightsAll]
    rcases List.mem_cons.1 hd with rfl | h
    · exact List.mem_append_left _ hn
    · exact List.mem_append_right _ (weightsAll_in h n hn)

theorem asksB_open {H : Type} {enc : TypeId × Value → H} {W : World} {a : Option Addr} {len cap : Nat} {d : DataW H} {p : List MemPlace} {fuel : Nat} (r : List TypeId)
    (hf : DataW.trod enc Tryd.prog W 0 (fun _ => true) true fuel 43 (Value.slice a len cap).cells.toList = some (d, p))
    (hz : (DataW.weightsEach Tryd.prog (43 :: r) [d]).all (· ≤ reachBytes) = true) :
    len = 0 ∨ ∃ b off S A, a = some ⟨b, off, none⟩ ∧ len ≤ maxLen ∧ AsksB W b off len S A ∧ b < W.heap.size := by
  rcases Go.Deep.open_slice_pairs (f0 := ⟨_, _, _, _, _, _, _⟩) (f1 := ⟨_, _, _, _, _, _, _⟩) Tryd.underlying43 Tryd.underlying47 (by kernel_rfl) rfl rfl (by kernel_rfl) (by kernel_rfl) hf with ⟨hcs, _⟩ | ⟨x, l, c, m, n, V0, V1, D0, D1, P0, P1, hcs, _, hl, hm, hmm, hd, hall⟩
  · simp [Value.cells] at hcs
    exact Or.inl hcs.2.1
  · simp [Value.cells] at hcs
    obtain ⟨rfl, rfl, rfl⟩ := hcs
    by_cases h0 : len = 0
    · exact Or.inl h0
    · right
      have hm' : m = cap := by simpa using hmm
      obtain ⟨b, off, spot⟩ := x
      have hspot : spot = none := by
        have := (hall 0 (by omega)).1
        simpa [Addr.add] using World.cell?_spot this
      subst hspot
      obtain ⟨rfl, _⟩ := Prod.mk.inj hd
      have hz' : ∀ i, i < len → ∀ n ∈ (DataW.agg [D0 i, D1 i]).weights Tryd.prog 47, n ≤ reachBytes := by
        intro i hi n hn
        have h1 := List.all_eq_true.1 hz n (by
          rw [DataW.weightsEach]
          apply List.mem_append_left
          rw [DataW.weights, Tryd.underlying43]
          apply List.mem_cons_of_mem
          apply List.mem_append_left
          exact weightsAll_in (List.mem_map.2 ⟨i, List.mem_range.2 hi, rfl⟩) n hn)
        simpa using h1
      have hS : ∀ i, i < len → ∃ s : ByteArray × Int, V0 i = .string s.1 ∧ s.1.size ≤ 140737488351232 ∧ V1 i = .int .i64 s.2 ∧ -9223372036854775808 ≤ s.2 ∧ s.2 ≤ 9223372036854775807 := by
        intro i hi
        obtain ⟨_, _, t0, t1⟩ := hall i (by omega)
        obtain ⟨s, e1, e2, _⟩ := DataW.trod_string Tryd.underlying9 t0
        obtain ⟨z, e4, _, e6⟩ := DataW.trod_int Tryd.underlying3 t1
        simp at e1 e4
        have e2' : D0 i = .lit (.string s.data.toList) := (Prod.mk.inj e2).1
        have hw := hz' i hi s.data.toList.length (by
          rw [DataW.weights, Tryd.underlying47]
          show _ ∈ DataW.weightsEach Tryd.prog [9, 3] [D0 i, D1 i]
          rw [DataW.weightsEach, e2', DataW.weights]
          simp)
        have hq : -9223372036854775808 ≤ z ∧ z ≤ 9223372036854775807 := by simpa [Lit.wf, IntKind.min, IntKind.max, IntKind.signed, IntKind.bits] using e6
        refine ⟨(s, z), e1, ?_, e4, hq.1, hq.2⟩
        have : s.size = s.data.toList.length := by simp
        unfold reachBytes at hw
        show s.size ≤ _
        omega
      have hI : Inhabited (ByteArray × Int) := ⟨(ByteArray.empty, 0)⟩
      obtain ⟨q, hq⟩ := Go.Deep.choose_lt hS
      refine ⟨b, off, fun i => (q i).1, fun i => (q i).2, rfl, by omega, fun j hj => ?_, ?_⟩
      · obtain ⟨c0, c1, _, _⟩ := hall j (by omega)
        obtain ⟨e0, e1, e2, e3, e4⟩ := hq j hj
        rw [e0] at c0
        rw [e2] at c1
        rw [Go.WideShapes.add_plain] at c0 c1
        exact ⟨e1, c0, by rw [Nat.add_assoc]; exact c1, e3, e4⟩
      · have := (hall 0 (by omega)).1
        rw [Go.WideShapes.add_plain] at this
        exact lt_of_cell this
end Go.Proofs.YtdnbkgbgpfmipabDoor
