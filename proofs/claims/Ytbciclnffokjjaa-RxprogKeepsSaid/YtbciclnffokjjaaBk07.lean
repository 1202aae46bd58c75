/- A bundle of texts. -/
import Derived.Test.YtbciclnffokjjaaBk06
import Derived.SizedLaws
import Derived.ProofKit
import Derived.OpenShut
import Derived.ChangeSlices
import Derived.ChangeSame
import Derived.ChangeOld
import Derived.Carry
import Derived.Deep.Slices
import Derived.Test.YtbciclnffokjjaaBk05
/- RxprogSounds: a program that came in. -/
namespace Go.Proofs.Ytbciclnffokjjaa
open Go.ChangeShapes Go.WideShapes Go.ChangeAt Go.RowKit

theorem own : ownKnob Try.prog.godebug = none := by kernel_rfl
theorem laidOut : laidOutB Try.prog = true := by kernel_rfl
theorem weights_all {H : Type} {P : Program} {e : TypeId} {d : DataW H} : ∀ {es : List (DataW H)}, d ∈ es → ∀ n ∈ d.weights P e, n ∈ DataW.weightsAll P e es
  | [], h, _, _ => by cases h
  | d0 :: es, h, n, hn => by
    simp only [DataW.weightsAll, List.mem_append]
    rcases List.mem_cons.1 h with rfl | h
    · exact .inl hn
    · exact .inr (weights_all h n hn)
theorem weights_elem {H : Type} {P : Program} {t e : TypeId} {es ss : List (DataW H)} {d : DataW H} (hu : P.underlying t = some (.slice e)) (hd : d ∈ es) (n : Nat) (hn : n ∈ d.weights P e) : n ∈ (DataW.slice es ss : DataW H).weights P t := by
  simp only [DataW.weights, hu, List.mem_cons, List.mem_append]
  exact .inr (.inl (weights_all hd n hn))

set_option maxRecDepth 100000 in
theorem ranges_open {H : Type} {enc : TypeId × Value → H} {W : World} {v : Value} {d : DataW H} {p : List MemPlace} {fuel : Nat}
    (hf : DataW.trod enc Try.prog W 0 (fun _ => true) true fuel 27 [v] = some (d, p)) (hz : ∀ n ∈ d.weights Try.prog 27, n ≤ reachBytes) :
    ∃ (a : Option Addr) (len cap : Nat) (f : Nat → Rg), v = .slice a len cap ∧ Rml W a f len ∧ len * 8 ≤ 140737488351232 ∧ (a = none → len = 0 ∧ cap = 0) := by
  rcases Go.Deep.open_slice Try.underlying27 hf with ⟨hcs, _⟩ | ⟨x, l, c, m, n, D, Pl, hcs, _, hl, hm, hmm, hd, hall⟩
  · simp at hcs
    exact ⟨none, 0, 0, fun _ => (0, 0), hcs, .inl rfl, by omega, fun _ => ⟨rfl, rfl⟩⟩
  · simp at hcs
    have hm' : m = c := by simpa using hmm
    subst hm'
    obtain ⟨rfl, _⟩ := Prod.mk.inj hd
    have hC : Try.prog.cellsOf 50 = 2 := by kernel_rfl
    have each : ∀ i, i < m → ∃ u : Rg, W.cell? (x.add (i * 2)) = some (.int .i32 u.1) ∧ W.cell? (x.add (i * 2 + 1)) = some (.int .i32 u.2) := by
      intro i hi
      obtain ⟨cs', h1, h2⟩ := hall i hi
      rw [hC] at h1
      obtain ⟨_, hlen, hcell⟩ := World.cells?_some h1
      obtain ⟨xs, k, hk, hxy, _, hxl, hff⟩ := DataW.trod_struct Try.underlying50 h2
      match xs, hxl, cs', hlen with
      | [y0, y1], _, [v0, v1], _ =>
        have g0 := hff 0 _ rfl
        have g1 := hff 1 _ rfl
        have c3 : Try.prog.cellsOf 21 = 1 := by kernel_rfl
        simp [c3] at g0 g1
        obtain ⟨t, e0, _, _⟩ := DataW.trod_int Try.underlying21 g0
        obtain ⟨s, e1, _, _⟩ := DataW.trod_int Try.underlying21 g1
        have q0 := hcell 0 (by omega)
        have q1 := hcell 1 (by omega)
        rw [Go.Deep.add_add] at q0 q1
        have w0 : v0 = .int .i32 t := by simpa using e0
        have w1 : v1 = .int .i32 s := by simpa using e1
        rw [w0, w1] at q0 q1
        exact ⟨(t, s), by simpa using q0, by simpa using q1⟩
    have hI : Inhabited Rg := ⟨(0, 0)⟩
    obtain ⟨ss, hss⟩ := Go.Deep.choose_lt each
    refine ⟨some x, l, m, ss, hcs, ?_, ?_, fun h => by cases h⟩
    · by_cases h0 : l = 0
      · exact .inl h0
      · right
        obtain ⟨g, o, sp⟩ := x
        have hsp : sp = none := by
          have := (hss 0 (by omega)).1
          simpa [Addr.add] using World.cell?_spot this
        subst hsp
        have h00 := (hss 0 (by omega)).1
        rw [Go.WideShapes.add_plain] at h00
        refine ⟨g, o, rfl, block_lt_of_cell h00, fun j hj => ?_⟩
        obtain ⟨q0, q1⟩ := hss j (by omega)
        rw [Go.WideShapes.add_plain] at q0 q1
        exact ⟨q0, by rw [Nat.add_assoc]; exact q1⟩
    · have hb : Try.prog.bytesOf 50 = 8 := by kernel_rfl
      have hr : reachBytes = 140737488351232 := by decide
      have := hz ((((List.range l).map D).length + ((List.range (m - l)).map fun j => D (l + j)).length) * 8) (by
        simp only [DataW.weights, Try.underlying27, hb]
        exact List.mem_cons.2 (.inl rfl))
      simp at this
      omega

set_option maxRecDepth 100000 in
theorem insts_open {H : Type} {enc : TypeId × Value → H} {W : World} {v : Value} {d : DataW H} {p : List MemPlace} {fuel : Nat}
    (hf : DataW.trod enc Try.prog W 0 (fun _ => true) true fuel 22 [v] = some (d, p)) (hz : ∀ n ∈ d.weights Try.prog 22, n ≤ reachBytes) :
    ∃ (a : Option Addr) (len cap : Nat) (x : Nat → In), v = .slice a len cap ∧ Nml W a x len ∧ len * 56 ≤ 140737488351232 ∧ (a = none → len = 0 ∧ cap = 0) ∧ ∀ j, j < len → (x j).ra = none → (x j).rn = 0 ∧ (x j).rc = 0 := by
  rcases Go.Deep.open_slice Try.underlying22 hf with ⟨hcs, _⟩ | ⟨x, l, c, m, n, D, Pl, hcs, _, hl, hm, hmm, hd, hall⟩
  · simp at hcs
    exact ⟨none, 0, 0, x0, hcs, .inl rfl, by omega, fun _ => ⟨rfl, rfl⟩, fun j hj => by omega⟩
  · simp at hcs
    have hm' : m = c := by simpa using hmm
    subst hm'
    obtain ⟨rfl, _⟩ := Prod.mk.inj hd
    have hC : Try.prog.cellsOf 29 = 5 := by kernel_rfl
    have hr : reachBytes = 140737488351232 := by decide
    have each : ∀ i, i < l → ∃ u : In, (W.cell? (x.add (i * 5)) = some (.int .i64 u.op) ∧ W.cell? (x.add (i * 5 + 1)) = some (.int .i64 u.out) ∧ W.cell? (x.add (i * 5 + 2)) = some (.int .i64 u.alt) ∧ W.cell? (x.add (i * 5 + 3)) = some (.int .i64 u.arg) ∧ W.cell? (x.add (i * 5 + 4)) = some (.slice u.ra u.rn u.rc)) ∧ Rml W u.ra u.rf u.rn ∧ u.rn * 8 ≤ 140737488351232 ∧ (u.ra = none → u.rn = 0 ∧ u.rc = 0) := by
      intro i hi
      obtain ⟨cs', h1, h2⟩ := hall i (by omega)
      rw [hC] at h1
      obtain ⟨_, hlen, hcell⟩ := World.cells?_some h1
      obtain ⟨xs, k, hk, hxy, _, hxl, hff⟩ := DataW.trod_struct Try.underlying29 h2
      match xs, hxl, cs', hlen with
      | [y0, y1, y2, y3, y4], _, [v0, v1, v2, v3, v4], _ =>
        have g0 := hff 0 _ rfl
        have g1 := hff 1 _ rfl
        have g2 := hff 2 _ rfl
        have g3 := hff 3 _ rfl
        have g4 := hff 4 _ rfl
        have c3 : Try.prog.cellsOf 3 = 1 := by kernel_rfl
        have c27 : Try.prog.cellsOf 27 = 1 := by kernel_rfl
        simp [c3] at g0 g1 g2 g3
        simp [c27] at g4
        obtain ⟨t0, e0, _, _⟩ := DataW.trod_int Try.underlying3 g0
        obtain ⟨t1, e1, _, _⟩ := DataW.trod_int Try.underlying3 g1
        obtain ⟨t2, e2, _, _⟩ := DataW.trod_int Try.underlying3 g2
        obtain ⟨t3, e3, _, _⟩ := DataW.trod_int Try.underlying3 g3
        obtain ⟨d4, p4⟩ := y4
        have hDi : D i = .agg ([y0, y1, y2, y3, (d4, p4)].map (·.1)) := (Prod.mk.inj hxy).1
        obtain ⟨a, rn, rc, rf, ev, hR, hRb, hRz⟩ := ranges_open g4 (fun q hq => by
          refine hz q (weights_elem Try.underlying22 (d := D i) (List.mem_map.2 ⟨i, List.mem_range.2 hi, rfl⟩) q ?_)
          rw [hDi]
          simp only [DataW.weights, Try.underlying29]
          exact DataW.weights_mem_each (j := 4) (t := 27) (d := d4) rfl rfl q hq)
        have q0 := hcell 0 (by omega)
        have q1 := hcell 1 (by omega)
        have q2 := hcell 2 (by omega)
        have q3 := hcell 3 (by omega)
        have q4 := hcell 4 (by omega)
        rw [Go.Deep.add_add] at q0 q1 q2 q3 q4
        have w0 : v0 = .int .i64 t0 := by simpa using e0
        have w1 : v1 = .int .i64 t1 := by simpa using e1
        have w2 : v2 = .int .i64 t2 := by simpa using e2
        have w3 : v3 = .int .i64 t3 := by simpa using e3
        rw [w0, w1, w2, w3, ev] at q0 q1 q2 q3 q4
        exact ⟨⟨t0, t1, t2, t3, a, rn, rc, rf⟩, ⟨by simpa using q0, by simpa using q1, by simpa using q2, by simpa using q3, by simpa using q4⟩, hR, hRb, hRz⟩
    have hI : Inhabited In := ⟨x0 0⟩
    obtain ⟨ss, hss⟩ := Go.Deep.choose_lt each
    refine ⟨some x, l, m, ss, hcs, ?_, ?_, fun h => (by cases h), fun j hj => (hss j hj).2.2.2⟩
    · by_cases h0 : l = 0
      · exact .inl h0
      · right
        obtain ⟨g, o, sp⟩ := x
        have hsp : sp = none := by
          have := (hss 0 (by omega)).1.1
          simpa [Addr.add] using World.cell?_spot this
        subst hsp
        have h00 := (hss 0 (by omega)).1.1
        rw [Go.WideShapes.add_plain] at h00
        refine ⟨g, o, rfl, block_lt_of_cell h00, fun j hj => ?_⟩
        obtain ⟨⟨q0, q1, q2, q3, q4⟩, hR, hRb, _⟩ := hss j hj
        rw [Go.WideShapes.add_plain] at q0 q1 q2 q3 q4
        exact ⟨q0, by rw [Nat.add_assoc]; exact q1, by rw [Nat.add_assoc]; exact q2, by rw [Nat.add_assoc]; exact q3, by rw [Nat.add_assoc]; exact q4, hR, hRb⟩
    · have hb : Try.prog.bytesOf 29 = 56 := by kernel_rfl
      have := hz ((((List.range l).map D).length + ((List.range (m - l)).map fun j => D (l + j)).length) * 56) (by
        simp only [DataW.weights, Try.underlying22, hb]
        exact List.mem_cons.2 (.inl rfl))
      simp at this
      omega

set_option maxRecDepth 100000 in
theorem names_open {H : Type} {enc : TypeId × Value → H} {W : World} {v : Value} {d : DataW H} {p : List MemPlace} {fuel : Nat}
    (hf : DataW.trod enc Try.prog W 0 (fun _ => true) true fuel 23 [v] = some (d, p)) (hz : ∀ n ∈ d.weights Try.prog 23, n ≤ reachBytes) :
    ∃ (a : Option Addr) (len cap : Nat) (s : Nat → ByteArray), v = .slice a len cap ∧ Sml W a s len ∧ len * 16 ≤ 140737488351232 ∧ (a = none → len = 0 ∧ cap = 0) := by
  rcases Go.Deep.open_slice1 Try.underlying23 (by kernel_rfl) hf with ⟨hcs, _⟩ | ⟨x, l, c, m, n, V, D, Pl, hcs, _, hl, hm, hmm, hd, hall⟩
  · simp at hcs
    exact ⟨none, 0, 0, fun _ => ByteArray.empty, hcs, .inl rfl, by omega, fun _ => ⟨rfl, rfl⟩⟩
  · simp at hcs
    have hm' : m = c := by simpa using hmm
    subst hm'
    obtain ⟨rfl, _⟩ := Prod.mk.inj hd
    have each : ∀ i, i < m → ∃ u : ByteArray, W.cell? (x.add i) = some (.string u) := by
      intro i hi
      obtain ⟨h1, h2⟩ := hall i hi
      obtain ⟨u, e, _, _⟩ := DataW.trod_string Try.underlying9 h2
      have e' : V i = .string u := by simpa using e
      exact ⟨u, by rw [h1, e']⟩
    have hI : Inhabited ByteArray := ⟨ByteArray.empty⟩
    obtain ⟨ss, hss⟩ := Go.Deep.choose_lt each
    refine ⟨some x, l, m, ss, hcs, ?_, ?_, fun h => by cases h⟩
    · by_cases h0 : l = 0
      · exact .inl h0
      · right
        obtain ⟨g, o, sp⟩ := x
        have hsp : sp = none := by
          have := hss 0 (by omega)
          simpa [Addr.add] using World.cell?_spot this
        subst hsp
        have h00 := hss 0 (by omega)
        rw [Go.WideShapes.add_plain] at h00
        refine ⟨g, o, rfl, block_lt_of_cell h00, fun j hj => ?_⟩
        have q0 := hss j (by omega)
        rw [Go.WideShapes.add_plain] at q0
        exact q0
    · have hb : Try.prog.bytesOf 9 = 16 := by kernel_rfl
      have hr : reachBytes = 140737488351232 := by decide
      have := hz ((((List.range l).map D).length + ((List.range (m - l)).map fun j => D (l + j)).length) * 16) (by
        simp only [DataW.weights, Try.underlying23, hb]
        exact List.mem_cons.2 (.inl rfl))
      simp at this
      omega

set_option maxRecDepth 100000 in
theorem prog_open {H : Type} {enc : TypeId × Value → H} {W : World} {cl : List Value} {d : DataW H} {p : List MemPlace} {fuel : Nat}
    (hf : DataW.trod enc Try.prog W 0 (fun _ => true) true fuel 25 cl = some (d, p)) (hz : ∀ n ∈ d.weights Try.prog 25, n ≤ reachBytes) :
    ∃ (ia : Option Addr) (n ic : Nat) (st gr : Int) (na : Option Addr) (nn nc : Nat) (x : Nat → In) (s : Nat → ByteArray), cl = [.slice ia n ic, .int .i64 st, .int .i64 gr, .slice na nn nc] ∧ Nml W ia x n ∧ Sml W na s nn ∧ (ia = none → n = 0 ∧ ic = 0) ∧ (na = none → nn = 0 ∧ nc = 0) ∧ (∀ j, j < n → (x j).ra = none → (x j).rn = 0 ∧ (x j).rc = 0) ∧ n * 56 ≤ 140737488351232 ∧ nn * 16 ≤ 140737488351232 := by
  obtain ⟨xs, k, hk, hxy, hcl, hxl, hff⟩ := DataW.trod_struct Try.underlying25 hf
  have h4 : Try.prog.cellsOf 25 = 4 := by kernel_rfl
  rw [h4] at hcl
  have g0 := hff 0 _ rfl
  have g1 := hff 1 _ rfl
  have g2 := hff 2 _ rfl
  have g3 := hff 3 _ rfl
  have c3 : Try.prog.cellsOf 3 = 1 := by kernel_rfl
  have c22 : Try.prog.cellsOf 22 = 1 := by kernel_rfl
  have c23 : Try.prog.cellsOf 23 = 1 := by kernel_rfl
  match xs, hxl, cl, hcl with
  | [(e0, p0), (e1, p1), (e2, p2), (e3, p3)], _, [v0, v1, v2, v3], _ =>
    simp [c22] at g0
    simp [c3] at g1 g2
    simp [c23] at g3
    have hd0 : d = .agg [e0, e1, e2, e3] := (Prod.mk.inj hxy).1
    have zz : ∀ (j : Nat) t d, [22, 3, 3, 23][j]? = some t → [e0, e1, e2, e3][j]? = some d → ∀ n ∈ d.weights Try.prog t, n ≤ reachBytes := fun j t d ht hd n hn => by
      refine hz n ?_
      rw [hd0]
      simp only [DataW.weights, Try.underlying25]
      exact DataW.weights_mem_each (j := j) (t := t) (d := d) ht hd n hn
    obtain ⟨ia, n, ic, x, e0', hx, hn, hzi, hzz⟩ := insts_open g0 (zz 0 22 e0 rfl rfl)
    obtain ⟨st, ev1, _, _⟩ := DataW.trod_int Try.underlying3 g1
    obtain ⟨gr, ev2, _, _⟩ := DataW.trod_int Try.underlying3 g2
    obtain ⟨na, nn, nc, s, e3', hs, hnn, hzn⟩ := names_open g3 (zz 3 23 e3 rfl rfl)
    have w1 : v1 = .int .i64 st := by simpa using ev1
    have w2 : v2 = .int .i64 gr := by simpa using ev2
    exact ⟨ia, n, ic, st, gr, na, nn, nc, x, s, by rw [e0', w1, w2, e3'], hx, hs, hzi, hzn, hzz, hn, hnn⟩

set_option maxRecDepth 100000 in
theorem sounds_lifted (os : Os) (started : os.Started) (H : Type) (enc : TypeId × Value → H) :
    ReturnsInHanded {} Try.checked os 3 .any (Rows.rxprogSoundsSpec.pre6 enc Try.prog Try.f3 Rows.rxprogSoundsRow.domain false) (Rows.rxprogSoundsSpec.post enc Try.prog Try.f3 false true false false) := by
  refine returnsInHanded_of_change_sized (C := Try.checked) own started (by kernel_rfl) Try.func3
    (ChangeSpec.witness6 (enc := enc) (C := Try.checked) false ⟨#[], #[prV none 0 0 0 0 none 0 0], []⟩ 8 (by kernel_rfl) (by kernel_rfl) (by kernel_rfl) (by kernel_rfl)) ?_
  intro W base args ds gs before hval0 hW hcnd hsz0 _
  have hval : ∀ (j : Nat) t v, Try.f3.params[j]? = some t → args[j]? = some v → Value.okWide Try.prog W .any base t v := hval0
  have hsz : (DataW.weightsEach Try.prog (Try.f3.params.toList ++ Rows.rxprogSoundsSpec.plain.varTypes Try.prog) (ds ++ gs)).all (· ≤ reachBytes) = true := hsz0
  have hW' := hW
  obtain ⟨p, q, hA0, hV, rfl, hfz, hnd⟩ := hW
  have hA : DataW.TrodAll enc Try.prog W 0 (fun _ => true) true Try.f3.params.toList args.toList ds p := hA0
  rw [Try.params3] at hA hval hsz
  obtain ⟨v0, d0, rfl, rfl, h0⟩ := trodAll_one hA
  obtain ⟨rfl, rfl⟩ := trodVars_none hV
  obtain ⟨cs, rfl, hcs⟩ := okWide_struct Try.underlying25 (hval 0 25 v0 rfl rfl)
  have k0 := h0
  have lt0 : ∀ x ∈ p, x.block < W.heap.size := by obtain ⟨m, hm⟩ := k0; exact DataW.trod_lt m _ _ _ hm
  have z0 : ∀ n ∈ d0.weights Try.prog 25, n ≤ reachBytes := fun n hn => by
    have := List.all_eq_true.1 hsz _ (DataW.weights_mem_each (j := 0) (t := 25) (d := d0) rfl rfl n hn)
    simpa using this
  have walk : Calls Try.prog 3 #[.agg cs] W fun e w' => e = .returned (.bool true) ∧ Below W.heap.size W w' := by
    obtain ⟨fuel, hf0⟩ := h0
    have hf : DataW.trod enc Try.prog W 0 (fun _ => true) true fuel 25 cs.toList = some (d0, p) := hf0
    obtain ⟨ia, n, ic, st, gr, na, nn, nc, x, s, ecl, hx, hs, hzi, hzn, hz, hn, hnn⟩ := prog_open hf z0
    have ecs : cs = #[.slice ia n ic, .int .i64 st, .int .i64 gr, .slice na nn nc] := by rw [← Array.toArray_toList (xs := cs), ecl]
    rw [ecs]
    exact sounds_walk ia n ic st gr na nn nc x s W hx hs hzi hzn hz hn hnn
  refine walk.mono fun e W' ⟨he, bel⟩ => ?_
  subst he
  exact ⟨_, rfl, _, _, _, [], _, [], hW', trodAll_mk1 (shut_bool Try.underlying4 _), trodAll_mk1 (Below.trod laidOut (by kernel_rfl) (of_decide_eq_true (by kernel_rfl)) k0 bel lt0), rfl, bel.frame _, fun h => by cases h⟩

theorem sounds_said : Rows.RxprogSoundsSaid :=
  OpenClaim.holds_of_wide 3 Try.f3 rfl rfl rfl rfl rfl rfl rfl ⟨rfl, rfl, rfl, rfl, rfl⟩ rfl rfl rfl rfl rfl (by kernel_rfl) Try.func3 (by kernel_rfl)
    (of_decide_eq_true (by kernel_rfl)) (by unfold Func.isWrapper; first | (rw [if_pos (by decide +kernel)]; kernel_rfl) | (rw [if_neg (by decide +kernel)]; exact ⟨rfl, rfl⟩))
    (fun os started H enc _ => sounds_lifted os started H enc)
#print axioms sounds_said
end Go.Proofs.Ytbciclnffokjjaa
/- Trees: a node as data; a tree as what stands at each path; where it lies in memory. -/
namespace Go.Proofs.Ytbciclnffokjjaa
open Go.RowKit

/-- A node of a tree, with the lists that it shows. -/
structure Nd where
  kind : Int
  r : Int
  ra : Option Addr
  rn : Nat
  rc : Nat
  rf : Nat → Rg
  mn : Int
  mx : Int
  lz : Bool
  cp : Int
  nm : ByteArray
  ka : Option Addr
  kn : Nat
  kc : Nat
abbrev rxV (kind r : Int) (ra : Option Addr) (rn rc : Nat) (mn mx : Int) (lz : Bool) (cp : Int) (nm : ByteArray) (ka : Option Addr) (kn kc : Nat) : Value :=
  .agg #[.int .i64 kind, .int .i32 r, .slice ra rn rc, .int .i64 mn, .int .i64 mx, .bool lz, .int .i64 cp, .string nm, .slice ka kn kc]
abbrev ndV (d : Nd) : Value := rxV d.kind d.r d.ra d.rn d.rc d.mn d.mx d.lz d.cp d.nm d.ka d.kn d.kc

/-- What stands at each path. -/
abbrev Tr := List Nat → Nd
def kid (t : Tr) (j : Nat) : Tr := fun p => t (j :: p)

/-- Ranges that a slice shows, in blocks below B. -/
def Rmb (B : Nat) (w : World) (a : Option Addr) (f : Nat → Rg) (n : Nat) : Prop := n = 0 ∨ ∃ g o, a = some ⟨g, o, none⟩ ∧ g < B ∧ ∀ j, j < n → w.cell? ⟨g, o + j * 2, none⟩ = some (.int .i32 (f j).1) ∧ w.cell? ⟨g, o + j * 2 + 1, none⟩ = some (.int .i32 (f j).2)
theorem Rmb.below {B : Nat} {w w' : World} {a : Option Addr} {f : Nat → Rg} {n : Nat} (h : Rmb B w a f n) (hb : Below B w w') : Rmb B w' a f n := by
  rcases h with h | ⟨g, o, rfl, hg, hc⟩
  · exact .inl h
  · exact .inr ⟨g, o, rfl, hg, fun j hj => ⟨(hb.cell (p := ⟨g, o + j * 2, none⟩) hg).trans (hc j hj).1, (hb.cell (p := ⟨g, o + j * 2 + 1, none⟩) hg).trans (hc j hj).2⟩⟩
theorem Rmb.mono {B C : Nat} {w : World} {a : Option Addr} {f : Nat → Rg} {n : Nat} (h : Rmb B w a f n) (hb : B ≤ C) : Rmb C w a f n := by
  rcases h with h | ⟨g, o, rfl, hg, hc⟩
  · exact .inl h
  · exact .inr ⟨g, o, rfl, by omega, hc⟩
theorem Rmb.ml {B : Nat} {w : World} {a : Option Addr} {f : Nat → Rg} {n : Nat} (h : Rmb B w a f n) : Rml w a f n := by
  rcases h with h | ⟨g, o, rfl, hg, hc⟩
  · exact .inl h
  · by_cases h0 : n = 0
    · exact .inl h0
    · exact .inr ⟨g, o, rfl, World.block_lt_of_cell? w _ (hc 0 (by omega)).1, hc⟩
theorem Rmb.at {B : Nat} {w : World} {a : Option Addr} {f : Nat → Rg} {n : Nat} (h : Rmb B w a f n) (j : Nat) (hj : j < n) : ∃ g o, a = some ⟨g, o, none⟩ ∧ g < B ∧ w.cell? ⟨g, o + j * 2, none⟩ = some (.int .i32 (f j).1) ∧ w.cell? ⟨g, o + j * 2 + 1, none⟩ = some (.int .i32 (f j).2) := by
  rcases h with h | ⟨g, o, rfl, hg, hat⟩
  · omega
  · exact ⟨g, o, rfl, hg, (hat j hj).1, (hat j hj).2⟩

/-- A node's nine cells at a place. -/
structure Cs (w : World) (g o : Nat) (d : Nd) : Prop where
  c0 : w.cell? ⟨g, o, none⟩ = some (.int .i64 d.kind)
  c1 : w.cell? ⟨g, o + 1, none⟩ = some (.int .i32 d.r)
  c2 : w.cell? ⟨g, o + 2, none⟩ = some (.slice d.ra d.rn d.rc)
  c3 : w.cell? ⟨g, o + 3, none⟩ = some (.int .i64 d.mn)
  c4 : w.cell? ⟨g, o + 4, none⟩ = some (.int .i64 d.mx)
  c5 : w.cell? ⟨g, o + 5, none⟩ = some (.bool d.lz)
  c6 : w.cell? ⟨g, o + 6, none⟩ = some (.int .i64 d.cp)
  c7 : w.cell? ⟨g, o + 7, none⟩ = some (.string d.nm)
  c8 : w.cell? ⟨g, o + 8, none⟩ = some (.slice d.ka d.kn d.kc)
theorem Cs.below {B : Nat} {w w' : World} {g o : Nat} {d : Nd} (h : Cs w g o d) (hb : Below B w w') (hg : g < B) : Cs w' g o d :=
  ⟨(hb.cell (p := ⟨g, _, none⟩) hg).trans h.c0, (hb.cell (p := ⟨g, _, none⟩) hg).trans h.c1, (hb.cell (p := ⟨g, _, none⟩) hg).trans h.c2, (hb.cell (p := ⟨g, _, none⟩) hg).trans h.c3, (hb.cell (p := ⟨g, _, none⟩) hg).trans h.c4, (hb.cell (p := ⟨g, _, none⟩) hg).trans h.c5, (hb.cell (p := ⟨g, _, none⟩) hg).trans h.c6, (hb.cell (p := ⟨g, _, none⟩) hg).trans h.c7, (hb.cell (p := ⟨g, _, none⟩) hg).trans h.c8⟩
/-- Nodes that a slice shows, in a block below B. -/
def Kmb (B : Nat) (w : World) (a : Option Addr) (x : Nat → Nd) (n : Nat) : Prop := n = 0 ∨ ∃ g o, a = some ⟨g, o, none⟩ ∧ g < B ∧ ∀ j, j < n → Cs w g (o + j * 9) (x j)
theorem Kmb.below {B : Nat} {w w' : World} {a : Option Addr} {x : Nat → Nd} {n : Nat} (h : Kmb B w a x n) (hb : Below B w w') : Kmb B w' a x n := by
  rcases h with h | ⟨g, o, rfl, hg, hc⟩
  · exact .inl h
  · exact .inr ⟨g, o, rfl, hg, fun j hj => (hc j hj).below hb hg⟩
theorem Kmb.mono {B C : Nat} {w : World} {a : Option Addr} {x : Nat → Nd} {n : Nat} (h : Kmb B w a x n) (hb : B ≤ C) : Kmb C w a x n := by
  rcases h with h | ⟨g, o, rfl, hg, hc⟩
  · exact .inl h
  · exact .inr ⟨g, o, rfl, by omega, hc⟩
theorem Kmb.at {B : Nat} {w : World} {a : Option Addr} {x : Nat → Nd} {n : Nat} (h : Kmb B w a x n) (j : Nat) (hj : j < n) : ∃ g o, a = some ⟨g, o, none⟩ ∧ g < B ∧ Cs w g (o + j * 9) (x j) := by
  rcases h with h | ⟨g, o, rfl, hg, hat⟩
  · omega
  · exact ⟨g, o, rfl, hg, hat j hj⟩

/-- A tree that lies in blocks below B. -/
def TatN (B : Nat) (w : World) : Nat → Tr → Prop
  | 0, _ => True
  | n + 1, t => ((t []).rn * 8 ≤ 140737488351232 ∧ (t []).kn * 8 ≤ 140737488351232 ∧ (t []).nm.size ≤ 140737488351232 ∧ (t []).kn ≤ (t []).kc) ∧ Rmb B w (t []).ra (t []).rf (t []).rn ∧ Kmb B w (t []).ka (fun j => t [j]) (t []).kn ∧ ∀ j, j < (t []).kn → TatN B w n (kid t j)
def Tat (B : Nat) (w : World) (t : Tr) : Prop := ∀ n, TatN B w n t
theorem TatN.below {B : Nat} {w w' : World} (hb : Below B w w') : ∀ {n : Nat} {t : Tr}, TatN B w n t → TatN B w' n t
  | 0, _, _ => trivial
  | _ + 1, _, h => ⟨h.1, h.2.1.below hb, h.2.2.1.below hb, fun j hj => (h.2.2.2 j hj).below hb⟩
theorem TatN.mono {B C : Nat} {w : World} (hb : B ≤ C) : ∀ {n : Nat} {t : Tr}, TatN B w n t → TatN C w n t
  | 0, _, _ => trivial
  | _ + 1, _, h => ⟨h.1, h.2.1.mono hb, h.2.2.1.mono hb, fun j hj => (h.2.2.2 j hj).mono hb⟩
namespace Tat
variable {B C : Nat} {w w' : World} {t : Tr}
theorem below (h : Tat B w t) (hb : Below B w w') : Tat B w' t := fun n => (h n).below hb
theorem mono (h : Tat B w t) (hb : B ≤ C) : Tat C w t := fun n => (h n).mono hb
theorem node (h : Tat B w t) : (t []).rn * 8 ≤ 140737488351232 ∧ (t []).kn * 8 ≤ 140737488351232 ∧ (t []).nm.size ≤ 140737488351232 ∧ (t []).kn ≤ (t []).kc := (h 1).1
theorem ranges (h : Tat B w t) : Rmb B w (t []).ra (t []).rf (t []).rn := (h 1).2.1
theorem kids (h : Tat B w t) : Kmb B w (t []).ka (fun j => t [j]) (t []).kn := (h 1).2.2.1
theorem kid (h : Tat B w t) (j : Nat) (hj : j < (t []).kn) : Tat B w (kid t j) := fun n => (h (n + 1)).2.2.2 j hj
end Tat
end Go.Proofs.Ytbciclnffokjjaa
