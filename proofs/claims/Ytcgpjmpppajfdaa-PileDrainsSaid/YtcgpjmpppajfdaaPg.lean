/- PileScripts: steps that came in. -/
import Derived.Test.YtcgpjmpppajfdaaPc
import Derived.Test.YtcgpjmpppajfdaaIo
namespace Go.Proofs.Ytcgpjmpppajfdaa
open Go.ChangeShapes Go.WideShapes Go.ChangeAt Go.RowKit

set_option maxRecDepth 100000 in
theorem steps_open {H : Type} {enc : TypeId × Value → H} {W : World} {a : Option Addr} {len cap : Nat} {d : DataW H} {p : List MemPlace} {fuel : Nat}
    (hf : DataW.trod enc Try.prog W 0 (fun _ => true) true fuel 50 [Value.slice a len cap] = some (d, p)) (hz : ∀ n ∈ d.weights Try.prog 50, n ≤ reachBytes) :
    ∃ ss : Nat → Stp, Tml W a ss len ∧ len ≤ cap ∧ 24 * cap ≤ 140737488351232 ∧ TW ss len := by
  rcases Go.Deep.open_slice Try.underlying50 hf with ⟨hcs, _⟩ | ⟨x, l, c, m, n, D, Pl, hcs, _, hl, hm, hmm, hd, hall⟩
  · simp at hcs
    obtain ⟨_, rfl, rfl⟩ := hcs
    exact ⟨fun _ => (0, 0, 0), .inl rfl, Nat.le_refl _, by omega, fun j hj => by omega⟩
  · simp at hcs
    obtain ⟨rfl, rfl, rfl⟩ := hcs
    have hm' : m = cap := by simpa using hmm
    subst hm'
    obtain ⟨rfl, _⟩ := Prod.mk.inj hd
    have hC : Try.prog.cellsOf 55 = 3 := by kernel_rfl
    have each : ∀ i, i < m → ∃ u : Stp, W.cell? (x.add (i * 3)) = some (.int .i64 u.1) ∧ W.cell? (x.add (i * 3 + 1)) = some (.int .i64 u.2.1) ∧ W.cell? (x.add (i * 3 + 2)) = some (.int .i64 u.2.2) ∧
        -9223372036854775808 ≤ u.2.1 ∧ u.2.1 ≤ 9223372036854775807 := by
      intro i hi
      obtain ⟨cs', h1, h2⟩ := hall i hi
      rw [hC] at h1
      obtain ⟨_, hlen, hcell⟩ := World.cells?_some h1
      obtain ⟨xs, k, hk, hxy, _, hxl, hff⟩ := DataW.trod_struct Try.underlying55 h2
      match xs, hxl, cs', hlen with
      | [y0, y1, y2], _, [v0, v1, v2], _ =>
        have g0 := hff 0 _ rfl
        have g1 := hff 1 _ rfl
        have g2 := hff 2 _ rfl
        have c3 : Try.prog.cellsOf 3 = 1 := by kernel_rfl
        simp [c3] at g0 g1 g2
        obtain ⟨t, e0, _, _⟩ := DataW.trod_int Try.underlying3 g0
        obtain ⟨s, e1, _, wf⟩ := DataW.trod_int Try.underlying3 g1
        obtain ⟨z, e2, _, _⟩ := DataW.trod_int Try.underlying3 g2
        have q0 := hcell 0 (by omega)
        have q1 := hcell 1 (by omega)
        have q2 := hcell 2 (by omega)
        rw [Go.Deep.add_add] at q0 q1 q2
        have w0 : v0 = .int .i64 t := by simpa using e0
        have w1 : v1 = .int .i64 s := by simpa using e1
        have w2 : v2 = .int .i64 z := by simpa using e2
        rw [w0, w1, w2] at q0 q1 q2
        simp [Lit.wf, IntKind.min, IntKind.max, IntKind.signed, IntKind.bits] at wf
        exact ⟨(t, s, z), by simpa using q0, by simpa using q1, by simpa using q2, by show _ ≤ s; omega, by show s ≤ _; omega⟩
    have hI : Inhabited Stp := ⟨(0, 0, 0)⟩
    obtain ⟨ss, hss⟩ := Go.Deep.choose_lt each
    refine ⟨ss, ?_, hl, ?_, fun j hj => (hss j (by omega)).2.2.2⟩
    · by_cases h0 : len = 0
      · exact .inl h0
      · right
        obtain ⟨g, o, sp⟩ := x
        have hsp : sp = none := by
          have := (hss 0 (by omega)).1
          simpa [Addr.add] using World.cell?_spot this
        subst hsp
        have h00 := (hss 0 (by omega)).1
        rw [Go.WideShapes.add_plain] at h00
        refine ⟨g, o, rfl, block_lt_of_cell h00, fun j hj => ?_⟩
        obtain ⟨q0, q1, q2, _⟩ := hss j (by omega)
        rw [Go.WideShapes.add_plain] at q0 q1 q2
        exact ⟨q0, by rw [Nat.add_assoc]; exact q1, by rw [Nat.add_assoc]; exact q2⟩
    · have hb : Try.prog.bytesOf 55 = 24 := by kernel_rfl
      have hr : reachBytes = 140737488351232 := by decide
      have := hz ((((List.range len).map D).length + ((List.range (m - len)).map fun j => D (len + j)).length) * 24) (by
        simp only [DataW.weights, Try.underlying50, hb]
        exact List.mem_cons.2 (.inl rfl))
      simp at this
      omega
end Go.Proofs.Ytcgpjmpppajfdaa
