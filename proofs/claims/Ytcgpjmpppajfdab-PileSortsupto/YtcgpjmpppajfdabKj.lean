
/- PileSorts: the row. -/
import Derived.Test.YtcgpjmpppajfdabKi
import Derived.Test.YtcgpjmpppajfdabIp
namespace Go.Proofs.Ytcgpjmpppajfdab
open Go.ChangeShapes Go.WideShapes Go.ChangeAt Go.RowKit

set_option maxRecDepth 100000 in
theorem ints_open0 {H : Type} {enc : TypeId × Value → H} {W : World} {a : Option Addr} {len cap : Nat} {d : DataW H} {p : List MemPlace} {fuel : Nat}
    (hf : DataW.trod enc Try.prog W 0 (fun _ => true) true fuel 23 [Value.slice a len cap] = some (d, p)) :
    ∃ ss : Nat → Int, Nml W a ss len ∧ len ≤ cap ∧ cap ≤ Rows.uptoBulk d := by
  rcases Go.Deep.open_slice Try.underlying23 hf with ⟨hcs, _⟩ | ⟨x, l, c, m, n, D, Pl, hcs, _, hl, hm, hmm, hd, hall⟩
  · simp at hcs
    obtain ⟨_, rfl, rfl⟩ := hcs
    exact ⟨fun _ => 0, .inl rfl, Nat.le_refl _, Nat.zero_le _⟩
  · simp at hcs
    obtain ⟨rfl, rfl, rfl⟩ := hcs
    have hm' : m = cap := by simpa using hmm
    subst hm'
    obtain ⟨rfl, _⟩ := Prod.mk.inj hd
    have hC : Try.prog.cellsOf 3 = 1 := by kernel_rfl
    have each : ∀ i, i < m → ∃ u : Int, W.cell? (x.add i) = some (.int .i64 u) := by
      intro i hi
      obtain ⟨cs', h1, h2⟩ := hall i hi
      rw [hC] at h1
      obtain ⟨_, hlen, hcell⟩ := World.cells?_some h1
      match cs', hlen with
      | [v0], _ =>
        obtain ⟨t, e0, _, _⟩ := DataW.trod_int Try.underlying3 h2
        have q0 := hcell 0 (by omega)
        rw [Go.Deep.add_add] at q0
        have w0 : v0 = .int .i64 t := by simpa using e0
        rw [w0] at q0
        exact ⟨t, by simpa using q0⟩
    have hI : Inhabited Int := ⟨0⟩
    obtain ⟨ss, hss⟩ := Go.Deep.choose_lt each
    refine ⟨ss, ?_, hl, ?_⟩
    · by_cases h0 : len = 0
      · exact .inl h0
      · right
        obtain ⟨g, o, sp⟩ := x
        have hsp : sp = none := by
          have := hss 0 (by omega)
          simpa [Addr.add] using World.cell?_spot this
        subst hsp
        have h00 := hss 0 (by omega)
        rw [Go.WideShapes.add_plain] at h00
        refine ⟨g, o, rfl, block_lt_of_cell h00, fun j hj => ?_⟩
        have q0 := hss j (by omega)
        rw [Go.WideShapes.add_plain] at q0
        exact q0
    · have hall1 : ∀ l : List (DataW H), l.length ≤ Rows.uptoBulkAll l := by
        intro l
        induction l with
        | nil => exact Nat.zero_le _
        | cons d r ih =>
          have h1 : 1 ≤ Rows.uptoBulk d := by
            cases d with
            | lit l => cases l <;> simp [Rows.uptoBulk]
            | _ => simp [Rows.uptoBulk]
          simp only [Rows.uptoBulkAll, List.length_cons]
          omega
      have h1 := hall1 ((List.range len).map D)
      have h2 := hall1 ((List.range (m - len)).map fun j => D (len + j))
      simp at h1 h2
      simp only [Rows.uptoBulk]
      omega
end Go.Proofs.Ytcgpjmpppajfdab
