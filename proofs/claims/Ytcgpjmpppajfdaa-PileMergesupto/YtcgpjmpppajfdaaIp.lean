/- Things that came in, by their bulk. -/
import Derived.Test.YtcgpjmpppajfdaaIo
namespace Go.Proofs.Ytcgpjmpppajfdaa
open Go.ChangeShapes Go.WideShapes Go.ChangeAt Go.RowKit

set_option maxRecDepth 100000 in
theorem items_open0 {H : Type} {enc : TypeId × Value → H} {W : World} {a : Option Addr} {len cap : Nat} {d : DataW H} {p : List MemPlace} {fuel : Nat}
    (hf : DataW.trod enc Try.prog W 0 (fun _ => true) true fuel 22 [Value.slice a len cap] = some (d, p)) :
    ∃ ss : Nat → It, Iml W a ss len ∧ len ≤ cap ∧ (∀ j, j < len → -9223372036854775808 ≤ (ss j).1 ∧ (ss j).1 ≤ 9223372036854775807) ∧ cap ≤ Rows.uptoBulk d := by
  rcases Go.Deep.open_slice Try.underlying22 hf with ⟨hcs, _⟩ | ⟨x, l, c, m, n, D, Pl, hcs, _, hl, hm, hmm, hd, hall⟩
  · simp at hcs
    obtain ⟨_, rfl, rfl⟩ := hcs
    exact ⟨fun _ => (0, 0), .inl rfl, Nat.le_refl _, fun j hj => by omega, Nat.zero_le _⟩
  · simp at hcs
    obtain ⟨rfl, rfl, rfl⟩ := hcs
    have hm' : m = cap := by simpa using hmm
    subst hm'
    obtain ⟨rfl, _⟩ := Prod.mk.inj hd
    have hC : Try.prog.cellsOf 24 = 2 := by kernel_rfl
    have each : ∀ i, i < m → ∃ u : It, W.cell? (x.add (i * 2)) = some (.int .i64 u.1) ∧ W.cell? (x.add (i * 2 + 1)) = some (.int .i64 u.2) ∧
        -9223372036854775808 ≤ u.1 ∧ u.1 ≤ 9223372036854775807 := by
      intro i hi
      obtain ⟨cs', h1, h2⟩ := hall i hi
      rw [hC] at h1
      obtain ⟨_, hlen, hcell⟩ := World.cells?_some h1
      obtain ⟨xs, k, hk, hxy, _, hxl, hff⟩ := DataW.trod_struct Try.underlying24 h2
      match xs, hxl, cs', hlen with
      | [y0, y1], _, [v0, v1], _ =>
        have g0 := hff 0 _ rfl
        have g1 := hff 1 _ rfl
        have c3 : Try.prog.cellsOf 3 = 1 := by kernel_rfl
        simp [c3] at g0 g1
        obtain ⟨t, e0, _, wf⟩ := DataW.trod_int Try.underlying3 g0
        obtain ⟨s, e1, _, _⟩ := DataW.trod_int Try.underlying3 g1
        have q0 := hcell 0 (by omega)
        have q1 := hcell 1 (by omega)
        rw [Go.Deep.add_add] at q0 q1
        have w0 : v0 = .int .i64 t := by simpa using e0
        have w1 : v1 = .int .i64 s := by simpa using e1
        rw [w0, w1] at q0 q1
        simp [Lit.wf, IntKind.min, IntKind.max, IntKind.signed, IntKind.bits] at wf
        exact ⟨(t, s), by simpa using q0, by simpa using q1, by show _ ≤ t; omega, by show t ≤ _; omega⟩
    have hI : Inhabited It := ⟨(0, 0)⟩
    obtain ⟨ss, hss⟩ := Go.Deep.choose_lt each
    refine ⟨ss, ?_, hl, fun j hj => (hss j (by omega)).2.2, ?_⟩
    · by_cases h0 : len = 0
      · exact .inl h0
      · right
        obtain ⟨g, o, sp⟩ := x
        have hsp : sp = none := by
          have := (hss 0 (by omega)).1
          simpa [Addr.add] using World.cell?_spot this
        subst hsp
        have h00 := (hss 0 (by omega)).1
        rw [Go.WideShapes.add_plain] at h00
        refine ⟨g, o, rfl, block_lt_of_cell h00, fun j hj => ?_⟩
        obtain ⟨q0, q1, _⟩ := hss j (by omega)
        rw [Go.WideShapes.add_plain] at q0 q1
        exact ⟨q0, by rw [Nat.add_assoc]; exact q1⟩
    · have hall1 : ∀ l : List (DataW H), l.length ≤ Rows.uptoBulkAll l := by
        intro l
        induction l with
        | nil => exact Nat.zero_le _
        | cons d r ih =>
          have h1 : 1 ≤ Rows.uptoBulk d := by
            cases d with
            | lit l => cases l <;> simp [Rows.uptoBulk]
            | _ => simp [Rows.uptoBulk]
          simp only [Rows.uptoBulkAll, List.length_cons]
          omega
      have h1 := hall1 ((List.range len).map D)
      have h2 := hall1 ((List.range (m - len)).map fun j => D (len + j))
      simp at h1 h2
      simp only [Rows.uptoBulk]
      omega
end Go.Proofs.Ytcgpjmpppajfdaa
