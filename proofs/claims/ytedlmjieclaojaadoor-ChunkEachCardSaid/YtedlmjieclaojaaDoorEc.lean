/- ChunkGrows: what came in, the tables; the statement and its card. -/
import Derived.Test.YtedlmjieclaojaaDoorEb
import Derived.Test.YtedlmjieclaojaaDoorRows
import Derived.Test.YtedlmjieclaojaaDoorTie
import Derived.Test.YtedlmjieclaojaaDoorCards
import Derived.SizedLaws
import Derived.ProofKit
import Derived.OpenShut
import Derived.ShutString
import Derived.ChangeSlices
import Derived.ChangeSame
import Derived.ChangeOld
import Derived.Carry
import Derived.Deep.Slices
import Derived.Lib.LaidU8
import Derived.Lay
import Derived.PinnedBridge
import Derived.ChangeMaps5
import Derived.Deep.DeepHandedRow
namespace Go.Proofs.YtedlmjieclaojaaDoor
open Go.ChangeShapes Go.WideShapes Go.ChangeAt Go.RowKit Go.Lib
set_option maxRecDepth 100000

theorem own : ownKnob Tryd.prog.godebug = none := by kernel_rfl
theorem laidOut : laidOutB Tryd.prog = true := by kernel_rfl
theorem trod_float0 {H : Type} {enc : TypeId × Value → H} {W : World} {t : TypeId} {cs : List Value} {x : DataW H × List MemPlace} {fuel : Nat} (ht : Tryd.prog.underlying t = some (.float .f64))
    (h : DataW.trod enc Tryd.prog W 0 (fun _ => true) true fuel t cs = some x) : ∃ z, cs = [.float .f64 z] ∧ x = (.lit (.float .f64 z), []) ∧ (Lit.float .f64 z).wf = true := by
  cases fuel with
  | zero => simp [DataW.trod] at h
  | succ n =>
    unfold DataW.trod at h
    rw [ht] at h
    split at h <;> simp_all
theorem trod_float {H : Type} {enc : TypeId × Value → H} {W : World} {t : TypeId} {v : Value} {x : DataW H × List MemPlace} {fuel : Nat} (ht : Tryd.prog.underlying t = some (.float .f64))
    (h : DataW.trod enc Tryd.prog W 0 (fun _ => true) true fuel t [v] = some x) : ∃ z, v = .float .f64 z ∧ z < 18446744073709551616 ∧ x = (.lit (.float .f64 z), []) := by
  obtain ⟨z, h1, h2, h3⟩ := trod_float0 ht h
  exact ⟨z, by simpa using h1, by simpa [Lit.wf] using h3, h2⟩


/-- The table of scales out of the row's list. -/
theorem scl_of {W : World} {l : List (String × DataW Unit)} (h : laidMetH Tryd.prog l W) (hm : ("weir/chunk.scales", Rows.laid_weir_chunk_scales) ∈ l) (hl : laidMetH Tryd.prog l W = laidMet Tryd.prog l W) : Scl W := by
  rw [hl] at h
  obtain ⟨g, t, cs, fuel, p, hg, hty, hvar, hd⟩ := Lib.laidMet.reads h hm
  obtain rfl : g = 1 := Option.some.inj ((show Tryd.prog.globalNamed "weir/chunk.scales" = some 1 by kernel_rfl).symm.trans hg) |>.symm
  obtain rfl : t = 99 := Option.some.inj ((show (Tryd.prog.globals[1]?).map (·.type) = some 99 by kernel_rfl).symm.trans hty) |>.symm
  have c98 : Tryd.prog.cellsOf 98 = 2 := by kernel_rfl
  have all : ∀ i, i < 5 → W.cell? ⟨1, i * 2, none⟩ = some (.int .i64 (scL i)) ∧ W.cell? ⟨1, i * 2 + 1, none⟩ = some (.int .i64 (scW i : Nat)) := by
    intro i hi
    obtain ⟨fuel', d, q, hdi, he⟩ := array_elem Tryd.underlying99 hd i hi
    rw [c98] at he
    have k : d = .agg ([scL i, (scW i : Int)].map fun z => .lit (.int .i64 z)) := by
      have : i = 0 ∨ i = 1 ∨ i = 2 ∨ i = 3 ∨ i = 4 := by omega
      rcases this with rfl | rfl | rfl | rfl | rfl
      all_goals exact (Option.some.inj hdi).symm
    rw [k] at he
    have hcs := ints_of_struct (k := .i64) Tryd.underlying98 (fun j f hf => by
      match j, hf with
      | 0, hf => cases hf; exact ⟨Tryd.underlying2, rfl, by kernel_rfl⟩
      | 1, hf => cases hf; exact ⟨Tryd.underlying3, rfl, by kernel_rfl⟩) (by kernel_rfl) he
    have e0 := congrArg (·[0]?) hcs
    have e1 := congrArg (·[1]?) hcs
    simp only [List.getElem?_take, List.getElem?_drop] at e0 e1
    constructor
    · rw [World.var?_cell hg hvar (i * 2), ← Array.getElem?_toList]
      simpa using e0
    · rw [World.var?_cell hg hvar (i * 2 + 1), ← Array.getElem?_toList]
      simpa using e1
  exact ⟨World.block_lt_of_cell? _ _ (all 0 (by omega)).1, all⟩
/-- The library's table out of the row's list. -/
theorem tab_of {W : World} {l : List (String × DataW Unit)} (h : laidMetH Tryd.prog l W) (hm : ("math/bits.deBruijn64tab", Rows.laid_math_bits_deBruijn64tab) ∈ l) (hl : laidMetH Tryd.prog l W = laidMet Tryd.prog l W) : Tab W := by
  rw [hl] at h
  obtain ⟨g, t, cs, fuel, p, hg, hty, hvar, hd⟩ := Lib.laidMet.reads h hm
  obtain rfl : g = 2 := Option.some.inj ((show Tryd.prog.globalNamed "math/bits.deBruijn64tab" = some 2 by kernel_rfl).symm.trans hg) |>.symm
  obtain rfl : t = 107 := Option.some.inj ((show (Tryd.prog.globals[2]?).map (·.type) = some 107 by kernel_rfl).symm.trans hty) |>.symm
  have c5 : Tryd.prog.cellsOf 5 = 1 := by kernel_rfl
  have hds : (Rows.laid_math_bits_deBruijn64tab : DataW Unit) = .agg (Lib.deBruijn64tab.map fun (z : Nat) => .lit (.int .u8 (z : Int))) := by rfl
  rw [hds] at hd
  have all : ∀ j, j < Lib.deBruijn64tab.length → W.cell? ⟨2, j, none⟩ = some (.int .u8 (Lib.deBruijn64tab.getD j 0)) := by
    intro i hi
    have hi' : i < 64 := hi
    obtain ⟨fuel', d, q, hdi, he⟩ := array_elem Tryd.underlying107 hd i hi'
    rw [c5] at he
    have k : d = .lit (.int .u8 ((Lib.deBruijn64tab.getD i 0 : Nat) : Int)) := by
      rw [List.getElem?_map, List.getElem?_eq_getElem hi] at hdi
      have := (Option.some.inj hdi).symm
      rw [this, List.getD, List.getElem?_eq_getElem hi]
      rfl
    rw [k] at he
    obtain ⟨z, hcz, hz, _⟩ := DataW.trod_int Tryd.underlying5 he
    have e0 := congrArg (·[0]?) hcz
    simp only [List.getElem?_take, List.getElem?_drop] at e0
    have hzz : z = ((Lib.deBruijn64tab.getD i 0 : Nat) : Int) := by
      have := congrArg Prod.fst hz
      simpa using this.symm
    rw [World.var?_cell hg hvar i, ← Array.getElem?_toList, ← hzz]
    simpa using e0
  exact ⟨World.block_lt_of_cell? _ _ (all 0 (by decide)), all⟩
/-- Samples that came in. -/
theorem samples_open {H : Type} {enc : TypeId × Value → H} {W : World} {a : Option Addr} {len cap : Nat} {d : DataW H} {p : List MemPlace} {fuel : Nat}
    (hf : DataW.trod enc Tryd.prog W 0 (fun _ => true) true fuel 22 [Value.slice a len cap] = some (d, p)) (hz : ∀ n ∈ d.weights Tryd.prog 22, n ≤ reachBytes) :
    ∃ l : List Smp, l.length = len ∧ Sm W a l ∧ (∀ x ∈ l, Sok x) ∧ len * 24 ≤ 140737488351232 := by
  rcases Go.Deep.open_slice Tryd.underlying22 hf with ⟨hcs, _⟩ | ⟨x, l, c, m, n, D, Pl, hcs, _, hl, hm, hmm, hd, hall⟩
  · simp at hcs
    obtain ⟨_, rfl, rfl⟩ := hcs
    exact ⟨[], rfl, .inl rfl, fun x hx => (by cases hx), by omega⟩
  · simp at hcs
    obtain ⟨rfl, rfl, rfl⟩ := hcs
    have hm' : m = cap := by simpa using hmm
    subst hm'
    obtain ⟨rfl, _⟩ := Prod.mk.inj hd
    have hC : Tryd.prog.cellsOf 38 = 3 := by kernel_rfl
    have each : ∀ i, i < m → ∃ u : Smp, W.cell? (x.add (i * 3)) = some (.int .i64 u.t) ∧ W.cell? (x.add (i * 3 + 1)) = some (.float .f64 u.v) ∧ W.cell? (x.add (i * 3 + 2)) = some (.bool u.s) ∧ Sok u := by
      intro i hi
      obtain ⟨cs', h1, h2⟩ := hall i hi
      rw [hC] at h1
      obtain ⟨_, hlen, hcell⟩ := World.cells?_some h1
      obtain ⟨xs, k, hk, hxy, _, hxl, hff⟩ := DataW.trod_struct Tryd.underlying38 h2
      match xs, hxl, cs', hlen with
      | [y0, y1, y2], _, [v0, v1, v2], _ =>
        have g0 := hff 0 _ rfl
        have g1 := hff 1 _ rfl
        have g2 := hff 2 _ rfl
        have c2 : Tryd.prog.cellsOf 2 = 1 := by kernel_rfl
        have c36 : Tryd.prog.cellsOf 36 = 1 := by kernel_rfl
        have c4 : Tryd.prog.cellsOf 4 = 1 := by kernel_rfl
        simp [c2, c36, c4] at g0 g1 g2
        obtain ⟨t, e0, _, wf⟩ := DataW.trod_int Tryd.underlying2 g0
        obtain ⟨v, e1, hv, _⟩ := trod_float Tryd.underlying36 g1
        obtain ⟨s, e2, _⟩ := DataW.trod_bool Tryd.underlying4 g2
        have q0 := hcell 0 (by omega)
        have q1 := hcell 1 (by omega)
        have q2 := hcell 2 (by omega)
        rw [Go.Deep.add_add] at q0 q1 q2
        have w0 : v0 = .int .i64 t := by simpa using e0
        have w2 : v2 = .bool s := by simpa using e2
        rw [w0, e1, w2] at q0 q1 q2
        simp [Lit.wf, IntKind.min, IntKind.max, IntKind.signed, IntKind.bits] at wf
        refine ⟨⟨t, v, s⟩, by simpa using q0, by simpa using q1, by simpa using q2, ?_⟩
        unfold Sok
        exact ⟨by show _ ≤ t; omega, by show t ≤ _; omega, hv⟩
    have hI : Inhabited Smp := ⟨⟨0, 0, false⟩⟩
    obtain ⟨ss, hss⟩ := Go.Deep.choose_lt each
    refine ⟨(List.range len).map ss, by simp, ?_, ?_, ?_⟩
    · by_cases h0 : len = 0
      · left; rw [h0]; rfl
      · right
        obtain ⟨g, o, sp⟩ := x
        have hsp : sp = none := by
          have := (hss 0 (by omega)).1
          simpa [Addr.add] using World.cell?_spot this
        subst hsp
        have h00 := (hss 0 (by omega)).1
        rw [Go.WideShapes.add_plain] at h00
        refine ⟨g, o, rfl, World.block_lt_of_cell? W _ h00, fun j y hj => ?_⟩
        have hjl : j < len := by
          have := (List.getElem?_eq_some_iff.1 hj).1
          simpa using this
        have hy : y = ss j := by
          rw [List.getElem?_map, List.getElem?_range hjl] at hj
          exact (Option.some.inj hj).symm
        subst hy
        obtain ⟨q0, q1, q2, _⟩ := hss j (by omega)
        rw [Go.WideShapes.add_plain] at q0 q1 q2
        exact ⟨q0, by rw [Nat.add_assoc]; exact q1, by rw [Nat.add_assoc]; exact q2⟩
    · intro y hy
      obtain ⟨j, hj, rfl⟩ := List.mem_map.1 hy
      exact (hss j (by have := List.mem_range.1 hj; omega)).2.2.2
    · have hb : Tryd.prog.bytesOf 38 = 24 := by kernel_rfl
      have hr : reachBytes = 140737488351232 := by decide
      have := hz ((((List.range len).map D).length + ((List.range (m - len)).map fun j => D (len + j)).length) * 24) (by
        simp only [DataW.weights, Tryd.underlying22, hb]
        exact List.mem_cons.2 (.inl rfl))
      simp at this
      omega
end Go.Proofs.YtedlmjieclaojaaDoor
