/- A bundle of texts. -/
import Derived.Test.YtmjenemjbpimcaaBk22
import Derived.ProofKit
import Derived.OpenShut
import Derived.ChangeSlices
import Derived.ChangeSame
import Derived.ChangeOld
import Derived.Carry
import Derived.Deep.Slices
import Derived.SizedLaws
/- Windows that came in. -/
namespace Go.Proofs.Ytmjenemjbpimcaa
open Go.ChangeShapes Go.WideShapes Go.ChangeAt Go.RowKit

theorem own : ownKnob Try.prog.godebug = none := by kernel_rfl
theorem laidOut : laidOutB Try.prog = true := by kernel_rfl

theorem trod_float0 {H : Type} {enc : TypeId × Value → H} {W : World} {t : TypeId} {cs : List Value} {x : DataW H × List MemPlace} {fuel : Nat} (ht : Try.prog.underlying t = some (.float .f64))
    (h : DataW.trod enc Try.prog W 0 (fun _ => true) true fuel t cs = some x) : ∃ z, cs = [.float .f64 z] ∧ x = (.lit (.float .f64 z), []) ∧ (Lit.float .f64 z).wf = true := by
  cases fuel with
  | zero => simp [DataW.trod] at h
  | succ n =>
    unfold DataW.trod at h
    rw [ht] at h
    split at h <;> simp_all
theorem trod_float {H : Type} {enc : TypeId × Value → H} {W : World} {t : TypeId} {v : Value} {x : DataW H × List MemPlace} {fuel : Nat} (ht : Try.prog.underlying t = some (.float .f64))
    (h : DataW.trod enc Try.prog W 0 (fun _ => true) true fuel t [v] = some x) : ∃ z, v = .float .f64 z ∧ z < 18446744073709551616 ∧ x = (.lit (.float .f64 z), []) := by
  obtain ⟨z, h1, h2, h3⟩ := trod_float0 ht h
  exact ⟨z, by simpa using h1, by simpa [Lit.wf] using h3, h2⟩

/-- Samples that came in. -/
theorem samples_open {H : Type} {enc : TypeId × Value → H} {W : World} {v : Value} {d : DataW H} {p : List MemPlace} {fuel : Nat}
    (hf : DataW.trod enc Try.prog W 0 (fun _ => true) true fuel 28 [v] = some (d, p)) (hz : ∀ n ∈ d.weights Try.prog 28, n ≤ reachBytes) :
    ∃ (a : Option Addr) (len cap : Nat) (ss : Nat → Smp), v = .slice a len cap ∧ HypW a len ss W ∧ len ≤ cap := by
  rcases Go.Deep.open_slice Try.underlying28 hf with ⟨hcs, _⟩ | ⟨x, l, c, m, n, D, Pl, hcs, _, hl, hm, hmm, hd, hall⟩
  · simp at hcs
    subst hcs
    exact ⟨none, 0, 0, fun _ => ⟨0, 0, false⟩, rfl, ⟨.inl rfl, fun j hj => absurd hj (by omega), by omega⟩, Nat.le_refl _⟩
  · simp at hcs
    subst hcs
    have hm' : m = c := by simpa using hmm
    subst hm'
    obtain ⟨rfl, _⟩ := Prod.mk.inj hd
    have hC : Try.prog.cellsOf 37 = 3 := by kernel_rfl
    have each : ∀ i, i < m → ∃ u : Smp, W.cell? (x.add (i * 3)) = some (.int .i64 u.t) ∧ W.cell? (x.add (i * 3 + 1)) = some (.float .f64 u.v) ∧ W.cell? (x.add (i * 3 + 2)) = some (.bool u.s) ∧
        -9223372036854775808 ≤ u.t ∧ u.t ≤ 9223372036854775807 ∧ u.v < 18446744073709551616 := by
      intro i hi
      obtain ⟨cs', h1, h2⟩ := hall i hi
      rw [hC] at h1
      obtain ⟨_, hlen, hcell⟩ := World.cells?_some h1
      obtain ⟨xs, k, hk, hxy, _, hxl, hff⟩ := DataW.trod_struct Try.underlying37 h2
      match xs, hxl, cs', hlen with
      | [y0, y1, y2], _, [v0, v1, v2], _ =>
        have g0 := hff 0 _ rfl
        have g1 := hff 1 _ rfl
        have g2 := hff 2 _ rfl
        have c2 : Try.prog.cellsOf 2 = 1 := by kernel_rfl
        have c25 : Try.prog.cellsOf 25 = 1 := by kernel_rfl
        have c4 : Try.prog.cellsOf 4 = 1 := by kernel_rfl
        simp [c2, c25, c4] at g0 g1 g2
        obtain ⟨t, e0, _, wf⟩ := DataW.trod_int Try.underlying2 g0
        obtain ⟨v, e1, hv, _⟩ := trod_float Try.underlying25 g1
        obtain ⟨s, e2, _⟩ := DataW.trod_bool Try.underlying4 g2
        have q0 := hcell 0 (by omega)
        have q1 := hcell 1 (by omega)
        have q2 := hcell 2 (by omega)
        rw [Go.Deep.add_add] at q0 q1 q2
        have w0 : v0 = .int .i64 t := by simpa using e0
        have w2 : v2 = .bool s := by simpa using e2
        rw [w0, e1, w2] at q0 q1 q2
        simp [Lit.wf, IntKind.min, IntKind.max, IntKind.signed, IntKind.bits] at wf
        exact ⟨⟨t, v, s⟩, by simpa using q0, by simpa using q1, by simpa using q2, by show _ ≤ t; omega, by show t ≤ _; omega, hv⟩
    have hI : Inhabited Smp := ⟨⟨0, 0, false⟩⟩
    obtain ⟨ss, hss⟩ := Go.Deep.choose_lt each
    refine ⟨_, _, _, ss, rfl, ⟨?_, fun j hj => (hss j (by omega)).2.2.2, ?_⟩, hl⟩
    · by_cases h0 : l = 0
      · exact .inl h0
      · right
        obtain ⟨g, o, sp⟩ := x
        have hsp : sp = none := by
          have := (hss 0 (by omega)).1
          simpa [Addr.add] using World.cell?_spot this
        subst hsp
        have h00 := (hss 0 (by omega)).1
        rw [Go.WideShapes.add_plain] at h00
        refine ⟨g, o, rfl, block_lt_of_cell h00, fun j hj => ?_⟩
        obtain ⟨q0, q1, q2, _⟩ := hss j (by omega)
        rw [Go.WideShapes.add_plain] at q0 q1 q2
        exact ⟨q0, by rw [Nat.add_assoc]; exact q1, by rw [Nat.add_assoc]; exact q2⟩
    · have hb : Try.prog.bytesOf 37 = 24 := by kernel_rfl
      have hr : reachBytes = 140737488351232 := by decide
      have := hz ((((List.range l).map D).length + ((List.range (m - l)).map fun j => D (l + j)).length) * 24) (by
        simp only [DataW.weights, Try.underlying28, hb]
        exact List.mem_cons.2 (.inl rfl))
      simp at this
      omega

set_option maxRecDepth 100000 in
/-- A window that came in. -/
theorem window_open {H : Type} {enc : TypeId × Value → H} {W : World} {cl : List Value} {d : DataW H} {p : List MemPlace} {fuel : Nat}
    (hf : DataW.trod enc Try.prog W 0 (fun _ => true) true fuel 30 cl = some (d, p)) (hz : ∀ n ∈ d.weights Try.prog 30, n ≤ reachBytes) :
    ∃ (a : Option Addr) (n c : Nat) (F T N : Int) (ss : Nat → Smp), cl = [.slice a n c, .int .i64 F, .int .i64 T, .int .i64 N] ∧ HypW a n ss W ∧ n ≤ c ∧ (-9223372036854775808 ≤ F ∧ F ≤ 9223372036854775807) ∧ (-9223372036854775808 ≤ T ∧ T ≤ 9223372036854775807) ∧ (-9223372036854775808 ≤ N ∧ N ≤ 9223372036854775807) := by
  obtain ⟨xs, k, hk, hxy, hcl, hxl, hff⟩ := DataW.trod_struct Try.underlying30 hf
  have h4 : Try.prog.cellsOf 30 = 4 := by kernel_rfl
  rw [h4] at hcl
  have g0 := hff 0 _ rfl
  have g1 := hff 1 _ rfl
  have g2 := hff 2 _ rfl
  have g3 := hff 3 _ rfl
  have c2 : Try.prog.cellsOf 2 = 1 := by kernel_rfl
  have c28 : Try.prog.cellsOf 28 = 1 := by kernel_rfl
  match xs, hxl, cl, hcl with
  | [(e0, p0), (e1, p1), (e2, p2), (e3, p3)], _, [v0, v1, v2, v3], _ =>
    simp [c28] at g0
    simp [c2] at g1 g2 g3
    have hd0 : d = .agg [e0, e1, e2, e3] := (Prod.mk.inj hxy).1
    have zz : ∀ (j : Nat) t d, [28, 2, 2, 2][j]? = some t → [e0, e1, e2, e3][j]? = some d → ∀ n ∈ d.weights Try.prog t, n ≤ reachBytes := fun j t d ht hd n hn => by
      refine hz n ?_
      rw [hd0]
      simp only [DataW.weights, Try.underlying30]
      exact DataW.weights_mem_each (j := j) (t := t) (d := d) ht hd n hn
    obtain ⟨a, n, c, ss, rfl, hx, hn⟩ := samples_open g0 (zz 0 28 e0 rfl rfl)
    obtain ⟨F, ev1, _, f1⟩ := DataW.trod_int Try.underlying2 g1
    obtain ⟨T, ev2, _, f2⟩ := DataW.trod_int Try.underlying2 g2
    obtain ⟨N, ev3, _, f3⟩ := DataW.trod_int Try.underlying2 g3
    have w1 : v1 = .int .i64 F := by simpa using ev1
    have w2 : v2 = .int .i64 T := by simpa using ev2
    have w3 : v3 = .int .i64 N := by simpa using ev3
    simp [Lit.wf, IntKind.min, IntKind.max, IntKind.signed, IntKind.bits] at f1 f2 f3
    exact ⟨a, n, c, F, T, N, ss, by rw [w1, w2, w3], hx, hn, by omega, by omega, by omega⟩

set_option maxRecDepth 100000 in
/-- A window and other edges that came in. -/
theorem other_open {H : Type} {enc : TypeId × Value → H} {W : World} {cl : List Value} {d : DataW H} {p : List MemPlace} {fuel : Nat}
    (hf : DataW.trod enc Try.prog W 0 (fun _ => true) true fuel 40 cl = some (d, p)) (hz : ∀ n ∈ d.weights Try.prog 40, n ≤ reachBytes) :
    ∃ (a : Option Addr) (n c : Nat) (F T N F2 T2 N2 : Int) (ss : Nat → Smp), cl = [.slice a n c, .int .i64 F, .int .i64 T, .int .i64 N, .int .i64 F2, .int .i64 T2, .int .i64 N2] ∧ HypW a n ss W ∧ n ≤ c := by
  obtain ⟨xs, k, hk, hxy, hcl, hxl, hff⟩ := DataW.trod_struct Try.underlying40 hf
  have h7 : Try.prog.cellsOf 40 = 7 := by kernel_rfl
  rw [h7] at hcl
  have g0 := hff 0 _ rfl
  have g1 := hff 1 _ rfl
  have g2 := hff 2 _ rfl
  have g3 := hff 3 _ rfl
  have c2 : Try.prog.cellsOf 2 = 1 := by kernel_rfl
  have c30 : Try.prog.cellsOf 30 = 4 := by kernel_rfl
  match xs, hxl, cl, hcl with
  | [(e0, p0), (e1, p1), (e2, p2), (e3, p3)], _, [v0, v1, v2, v3, v4, v5, v6], _ =>
    simp [c30] at g0
    simp [c2] at g1 g2 g3
    have hd0 : d = .agg [e0, e1, e2, e3] := (Prod.mk.inj hxy).1
    have zz : ∀ (j : Nat) t d, [30, 2, 2, 2][j]? = some t → [e0, e1, e2, e3][j]? = some d → ∀ n ∈ d.weights Try.prog t, n ≤ reachBytes := fun j t d ht hd n hn => by
      refine hz n ?_
      rw [hd0]
      simp only [DataW.weights, Try.underlying40]
      exact DataW.weights_mem_each (j := j) (t := t) (d := d) ht hd n hn
    obtain ⟨a, n, c, F, T, N, ss, el, hx, hn, _⟩ := window_open g0 (zz 0 30 e0 rfl rfl)
    obtain ⟨F2, ev1, _, _⟩ := DataW.trod_int Try.underlying2 g1
    obtain ⟨T2, ev2, _, _⟩ := DataW.trod_int Try.underlying2 g2
    obtain ⟨N2, ev3, _, _⟩ := DataW.trod_int Try.underlying2 g3
    simp at el
    obtain ⟨rfl, rfl, rfl, rfl⟩ := el
    have w1 : v4 = .int .i64 F2 := by simpa using ev1
    have w2 : v5 = .int .i64 T2 := by simpa using ev2
    have w3 : v6 = .int .i64 N2 := by simpa using ev3
    exact ⟨a, n, c, F, T, N, F2, T2, N2, ss, by rw [w1, w2, w3], hx, hn⟩
end Go.Proofs.Ytmjenemjbpimcaa
