/- A bundle of texts. -/
import Derived.SizedLaws
import Derived.ProofKit
import Derived.OpenShut
import Derived.ChangeSlices
import Derived.ChangeSame
import Derived.ChangeOld
import Derived.Carry
import Derived.Deep.Slices
import Derived.Test.YtajaadagejhllaaGreatDoorBs01
import Derived.Test.YtajaadagejhllaaGreatDoorBs10
/- RxprogSounds: a program that came in. -/
namespace Go.Proofs.YtajaadagejhllaaGreatDoor
open Go.ChangeShapes Go.WideShapes Go.ChangeAt Go.RowKit

theorem own : ownKnob Tryz.prog.godebug = none := by kernel_rfl
theorem laidOut : laidOutB Tryz.prog = true := by kernel_rfl
theorem weights_all {H : Type} {P : Program} {e : TypeId} {d : DataW H} : ∀ {es : List (DataW H)}, d ∈ es → ∀ n ∈ d.weights P e, n ∈ DataW.weightsAll P e es
  | [], h, _, _ => by cases h
  | d0 :: es, h, n, hn => by
    simp only [DataW.weightsAll, List.mem_append]
    rcases List.mem_cons.1 h with rfl | h
    · exact .inl hn
    · exact .inr (weights_all h n hn)
theorem weights_elem {H : Type} {P : Program} {t e : TypeId} {es ss : List (DataW H)} {d : DataW H} (hu : P.underlying t = some (.slice e)) (hd : d ∈ es) (n : Nat) (hn : n ∈ d.weights P e) : n ∈ (DataW.slice es ss : DataW H).weights P t := by
  simp only [DataW.weights, hu, List.mem_cons, List.mem_append]
  exact .inr (.inl (weights_all hd n hn))

set_option maxRecDepth 100000 in
theorem ranges_open {H : Type} {enc : TypeId × Value → H} {W : World} {v : Value} {d : DataW H} {p : List MemPlace} {fuel : Nat}
    (hf : DataW.trod enc Tryz.prog W 0 (fun _ => true) true fuel 22 [v] = some (d, p)) (hz : ∀ n ∈ d.weights Tryz.prog 22, n ≤ reachBytes) :
    ∃ (a : Option Addr) (len cap : Nat) (f : Nat → Rg), v = .slice a len cap ∧ Rml W a f len ∧ len * 8 ≤ 140737488351232 ∧ (a = none → len = 0 ∧ cap = 0) := by
  rcases Go.Deep.open_slice Tryz.underlying22 hf with ⟨hcs, _⟩ | ⟨x, l, c, m, n, D, Pl, hcs, _, hl, hm, hmm, hd, hall⟩
  · simp at hcs
    exact ⟨none, 0, 0, fun _ => (0, 0), hcs, .inl rfl, by omega, fun _ => ⟨rfl, rfl⟩⟩
  · simp at hcs
    have hm' : m = c := by simpa using hmm
    subst hm'
    obtain ⟨rfl, _⟩ := Prod.mk.inj hd
    have hC : Tryz.prog.cellsOf 58 = 2 := by kernel_rfl
    have each : ∀ i, i < m → ∃ u : Rg, W.cell? (x.add (i * 2)) = some (.int .i32 u.1) ∧ W.cell? (x.add (i * 2 + 1)) = some (.int .i32 u.2) := by
      intro i hi
      obtain ⟨cs', h1, h2⟩ := hall i hi
      rw [hC] at h1
      obtain ⟨_, hlen, hcell⟩ := World.cells?_some h1
      obtain ⟨xs, k, hk, hxy, _, hxl, hff⟩ := DataW.trod_struct Tryz.underlying58 h2
      match xs, hxl, cs', hlen with
      | [y0, y1], _, [v0, v1], _ =>
        have g0 := hff 0 _ rfl
        have g1 := hff 1 _ rfl
        have c3 : Tryz.prog.cellsOf 21 = 1 := by kernel_rfl
        simp [c3] at g0 g1
        obtain ⟨t, e0, _, _⟩ := DataW.trod_int Tryz.underlying21 g0
        obtain ⟨s, e1, _, _⟩ := DataW.trod_int Tryz.underlying21 g1
        have q0 := hcell 0 (by omega)
        have q1 := hcell 1 (by omega)
        rw [Go.Deep.add_add] at q0 q1
        have w0 : v0 = .int .i32 t := by simpa using e0
        have w1 : v1 = .int .i32 s := by simpa using e1
        rw [w0, w1] at q0 q1
        exact ⟨(t, s), by simpa using q0, by simpa using q1⟩
    have hI : Inhabited Rg := ⟨(0, 0)⟩
    obtain ⟨ss, hss⟩ := Go.Deep.choose_lt each
    refine ⟨some x, l, m, ss, hcs, ?_, ?_, fun h => by cases h⟩
    · by_cases h0 : l = 0
      · exact .inl h0
      · right
        obtain ⟨g, o, sp⟩ := x
        have hsp : sp = none := by
          have := (hss 0 (by omega)).1
          simpa [Addr.add] using World.cell?_spot this
        subst hsp
        have h00 := (hss 0 (by omega)).1
        rw [Go.WideShapes.add_plain] at h00
        refine ⟨g, o, rfl, block_lt_of_cell h00, fun j hj => ?_⟩
        obtain ⟨q0, q1⟩ := hss j (by omega)
        rw [Go.WideShapes.add_plain] at q0 q1
        exact ⟨q0, by rw [Nat.add_assoc]; exact q1⟩
    · have hb : Tryz.prog.bytesOf 58 = 8 := by kernel_rfl
      have hr : reachBytes = 140737488351232 := by decide
      have := hz ((((List.range l).map D).length + ((List.range (m - l)).map fun j => D (l + j)).length) * 8) (by
        simp only [DataW.weights, Tryz.underlying22, hb]
        exact List.mem_cons.2 (.inl rfl))
      simp at this
      omega

end Go.Proofs.YtajaadagejhllaaGreatDoor
/- A tree that came in. -/
namespace Go.Proofs.YtajaadagejhllaaGreatDoor
open Go.ChangeShapes Go.WideShapes Go.ChangeAt Go.RowKit
theorem size_len (a : ByteArray) : a.data.toList.length = a.size := by rw [Array.length_toList]; rfl

abbrev ndC (d : Nd) : List Value := [.int .i64 d.kind, .int .i32 d.r, .slice d.ra d.rn d.rc, .int .i64 d.mn, .int .i64 d.mx, .bool d.lz, .int .i64 d.cp, .string d.nm, .slice d.ka d.kn d.kc]
def nd0 : Nd := ⟨0, 0, none, 0, 0, fun _ => (0, 0), 0, 0, false, 0, ByteArray.empty, none, 0, 0⟩
/-- A node on top of trees. -/
def topT (d : Nd) (T : Nat → Tr) : Tr
  | [] => d
  | j :: p => T j p
theorem Rml.b {W : World} {a : Option Addr} {f : Nat → Rg} {n : Nat} (h : Rml W a f n) : Rmb W.heap.size W a f n := by
  rcases h with h | ⟨g, o, e, hg, hc⟩
  · exact .inl h
  · exact .inr ⟨g, o, e, hg, hc⟩
theorem topT_at {W : World} {B : Nat} {d : Nd} {T : Nat → Tr} (h : d.rn * 8 ≤ 140737488351232 ∧ d.kn * 8 ≤ 140737488351232 ∧ d.nm.size ≤ 140737488351232 ∧ d.kn ≤ d.kc) (hr : Rmb B W d.ra d.rf d.rn) (hk : Kmb B W d.ka (fun j => T j []) d.kn) (hT : ∀ j, j < d.kn → Tat B W (T j)) : Tat B W (topT d T) := by
  intro n
  cases n with
  | zero => exact trivial
  | succ n => exact ⟨h, hr, hk, fun j hj => hT j hj n⟩

set_option maxRecDepth 100000 in
set_option maxHeartbeats 2000000 in
theorem tree_open {H : Type} {enc : TypeId × Value → H} {W : World} : ∀ (fuel : Nat) (cs : List Value) (d : DataW H) (p : List MemPlace), DataW.trod enc Tryz.prog W 0 (fun _ => true) true fuel 25 cs = some (d, p) → (∀ n ∈ d.weights Tryz.prog 25, n ≤ reachBytes) → ∃ t : Tr, cs = ndC (t []) ∧ Tat W.heap.size W t := by
  intro fuel
  induction fuel using Nat.strongRecOn with
  | ind fuel ih =>
    intro cs d p hf hz
    have hlen := (DataW.trod_struct Tryz.underlying25 hf)
    obtain ⟨xs, k, hk, hxy, hcl, hxl, hff⟩ := hlen
    have hC : Tryz.prog.cellsOf 25 = 9 := by kernel_rfl
    rw [hC] at hcl
    match xs, hxl, cs, hcl with
    | [y0, y1, y2, y3, y4, y5, y6, y7, y8], _, [v0, v1, v2, v3, v4, v5, v6, v7, v8], _ =>
      have g0 := hff 0 _ rfl
      have g1 := hff 1 _ rfl
      have g2 := hff 2 _ rfl
      have g3 := hff 3 _ rfl
      have g4 := hff 4 _ rfl
      have g5 := hff 5 _ rfl
      have g6 := hff 6 _ rfl
      have g7 := hff 7 _ rfl
      have g8 := hff 8 _ rfl
      have c3 : Tryz.prog.cellsOf 3 = 1 := by kernel_rfl
      have c21 : Tryz.prog.cellsOf 21 = 1 := by kernel_rfl
      have c27 : Tryz.prog.cellsOf 22 = 1 := by kernel_rfl
      have c4 : Tryz.prog.cellsOf 4 = 1 := by kernel_rfl
      have c9 : Tryz.prog.cellsOf 9 = 1 := by kernel_rfl
      have c31 : Tryz.prog.cellsOf 23 = 1 := by kernel_rfl
      simp [c3] at g0 g3 g4 g6
      simp [c21] at g1
      simp [c27] at g2
      simp [c4] at g5
      simp [c9] at g7
      simp [c31] at g8
      obtain ⟨t0, e0, _, _⟩ := DataW.trod_int Tryz.underlying3 g0
      obtain ⟨t1, e1, _, _⟩ := DataW.trod_int Tryz.underlying21 g1
      obtain ⟨t3, e3, _, _⟩ := DataW.trod_int Tryz.underlying3 g3
      obtain ⟨t4, e4, _, _⟩ := DataW.trod_int Tryz.underlying3 g4
      obtain ⟨t5, e5, _⟩ := DataW.trod_bool Tryz.underlying4 g5
      obtain ⟨t6, e6, _, _⟩ := DataW.trod_int Tryz.underlying3 g6
      obtain ⟨t7, e7, x7, _⟩ := DataW.trod_string Tryz.underlying9 g7
      obtain ⟨d2, p2⟩ := y2
      obtain ⟨d7, p7⟩ := y7
      obtain ⟨d8, p8⟩ := y8
      have hD : d = .agg ([y0, y1, (d2, p2), y3, y4, y5, y6, (d7, p7), (d8, p8)].map (·.1)) := (Prod.mk.inj hxy).1
      have hr : reachBytes = 140737488351232 := by decide
      have hw : ∀ (j : Nat) (ty : TypeId) (dd : DataW H), [3, 21, 22, 3, 3, 4, 3, 9, 23][j]? = some ty → ([y0, y1, (d2, p2), y3, y4, y5, y6, (d7, p7), (d8, p8)].map (·.1))[j]? = some dd → ∀ n ∈ dd.weights Tryz.prog ty, n ≤ reachBytes := fun j ty dd h1 h2 n hn => by
        refine hz n ?_
        rw [hD]
        simp only [DataW.weights, Tryz.underlying25]
        exact DataW.weights_mem_each (j := j) (t := ty) (d := dd) h1 h2 n hn
      obtain ⟨ra, rn, rc, rf, ev, hR, hRb, _⟩ := ranges_open g2 (hw 2 22 d2 rfl rfl)
      have h7 : t7.size ≤ 140737488351232 := by
        have := hw 7 9 d7 rfl rfl t7.data.toList.length (by
          rw [(Prod.mk.inj x7).1]
          simp [DataW.weights])
        rw [size_len, hr] at this
        exact this
      have w0 : v0 = .int .i64 t0 := by simpa using e0
      have w1 : v1 = .int .i32 t1 := by simpa using e1
      have w3 : v3 = .int .i64 t3 := by simpa using e3
      have w4 : v4 = .int .i64 t4 := by simpa using e4
      have w5 : v5 = .bool t5 := by simpa using e5
      have w6 : v6 = .int .i64 t6 := by simpa using e6
      have w7 : v7 = .string t7 := by simpa using e7
      rcases DataW.trod_slice Tryz.underlying23 g8 with ⟨hcs, _⟩ | ⟨x, l, c, elems, rest, n, hn, hcs, hx8, _, hl, _, hel, hal, _⟩
      · have w8 : v8 = .slice none 0 0 := by simpa using hcs
        refine ⟨topT ⟨t0, t1, ra, rn, rc, rf, t3, t4, t5, t6, t7, none, 0, 0⟩ (fun _ _ => nd0), ?_, topT_at ⟨hRb, by dsimp only; omega, h7, Nat.le_refl _⟩ hR.b (.inl rfl) (fun j hj => absurd hj (Nat.not_lt_zero _))⟩
        rw [w0, w1, w3, w4, w5, w6, w7, w8, ev]
        rfl
      · have w8 : v8 = .slice (some x) l c := by simpa using hcs
        have hkn : l * 8 ≤ 140737488351232 := by
          have hb : Tryz.prog.bytesOf 25 = 112 := by kernel_rfl
          have := hw 8 23 d8 rfl rfl ((elems.length + rest.length) * 112) (by
            rw [(Prod.mk.inj hx8).1]
            simp only [DataW.weights, Tryz.underlying23, hb, List.length_map]
            exact List.mem_cons.2 (.inl rfl))
          rw [hr] at this
          omega
        have each : ∀ i, i < l → ∃ u : Tr, (∃ cs', W.cells? 0 (x.add (i * 9)) 9 = some cs' ∧ cs' = ndC (u [])) ∧ Tat W.heap.size W u := by
          intro i hi
          have h1 := hal i hi
          rw [hC, List.getElem?_eq_getElem (by omega : i < elems.length)] at h1
          obtain ⟨cs', h2, h3⟩ := Option.bind_eq_some_iff.1 h1
          obtain ⟨u, hu, hT⟩ := ih n (by omega) cs' elems[i].1 elems[i].2 h3 (fun q hq => by
            refine hw 8 23 d8 rfl rfl q ?_
            rw [(Prod.mk.inj hx8).1]
            exact weights_elem Tryz.underlying23 (List.mem_map.2 ⟨elems[i], List.getElem_mem _, rfl⟩) q hq)
          exact ⟨u, ⟨cs', h2, hu⟩, hT⟩
        have hI : Inhabited Tr := ⟨fun _ => nd0⟩
        obtain ⟨T, hT⟩ := Go.Deep.choose_lt each
        have hcell : ∀ j, j < l → ∀ q v, q < 9 → (ndC (T j []))[q]? = some v → W.cell? (x.add (j * 9 + q)) = some v := fun j hj q v hq hv => by
          obtain ⟨⟨cs', h1, h2⟩, _⟩ := hT j hj
          obtain ⟨_, hln, hce⟩ := World.cells?_some h1
          have := hce q (by omega)
          rw [Go.Deep.add_add] at this
          rw [this]
          subst h2
          simpa using hv
        refine ⟨topT ⟨t0, t1, ra, rn, rc, rf, t3, t4, t5, t6, t7, some x, l, c⟩ T, ?_, topT_at ⟨hRb, hkn, h7, hl⟩ hR.b ?_ (fun j hj => (hT j hj).2)⟩
        · rw [w0, w1, w3, w4, w5, w6, w7, w8, ev]
          rfl
        · by_cases h0 : l = 0
          · exact .inl h0
          · right
            obtain ⟨g, o, sp⟩ := x
            have hc0 := hcell 0 (by omega) 0 _ (by omega) rfl
            have hsp : sp = none := by simpa [Addr.add] using World.cell?_spot hc0
            subst hsp
            rw [Go.WideShapes.add_plain] at hc0
            refine ⟨g, o, rfl, block_lt_of_cell hc0, fun j hj => ?_⟩
            have hc : ∀ q v, q < 9 → (ndC (T j []))[q]? = some v → W.cell? ⟨g, o + j * 9 + q, none⟩ = some v := fun q v hq hv => by
              have := hcell j hj q v hq hv
              rw [Go.WideShapes.add_plain] at this
              rw [Nat.add_assoc]
              exact this
            exact ⟨hc 0 _ (by omega) rfl, hc 1 _ (by omega) rfl, hc 2 _ (by omega) rfl, hc 3 _ (by omega) rfl, hc 4 _ (by omega) rfl, hc 5 _ (by omega) rfl, hc 6 _ (by omega) rfl, hc 7 _ (by omega) rfl, hc 8 _ (by omega) rfl⟩
end Go.Proofs.YtajaadagejhllaaGreatDoor
