/- A bundle of texts. -/
import Derived.Test.YtebjklppbkkinaaGreatDoorBp36
import Derived.Test.YtebjklppbkkinaaGreatDoorRows
import Derived.Test.YtebjklppbkkinaaGreatDoorTie
import Derived.Test.YtebjklppbkkinaaGreatDoorCards
import Derived.SizedLaws
import Derived.ProofKit
import Derived.OpenShut
import Derived.ShutString
import Derived.ChangeSlices
import Derived.ChangeSame
import Derived.ChangeOld
import Derived.Carry
import Derived.Deep.Slices
import Derived.Lib.LaidU8
import Derived.Lib.LaidTab
import Derived.PinnedBridge
import Derived.Lay
import Derived.ChangeMaps5
import Derived.Deep.DeepHandedRow
/- PairMixes: what came in; the second form's row and its card. -/
namespace Go.Proofs.YtebjklppbkkinaaGreatDoor
open Go.ChangeShapes Go.WideShapes Go.ChangeAt Go.RowKit Go.Lib
set_option maxRecDepth 100000
theorem ownS : ownKnob Tryz.prog.godebug = none := by kernel_rfl
theorem laidOutS : laidOutB Tryz.prog = true := by kernel_rfl
theorem blk_lt {w : World} {b o : Nat} {v : Value} (h : w.cell? ⟨b, o, none⟩ = some v) : b < w.heap.size := World.block_lt_of_cell? w _ h
theorem bulk_mem {H : Type} : ∀ (l : List (DataW H)) (d : DataW H), d ∈ l → Rows.uptoBulk d ≤ Rows.uptoBulkAll l
  | x :: l, d, h => by
    rw [Rows.uptoBulkAll]
    rcases List.mem_cons.1 h with rfl | h
    · omega
    · have := bulk_mem l d h
      omega
theorem bulk_pos {H : Type} (d : DataW H) : 1 ≤ Rows.uptoBulk d := by
  unfold Rows.uptoBulk
  split <;> omega
theorem bulk_count {H : Type} : ∀ (l : List (DataW H)), l.length ≤ Rows.uptoBulkAll l
  | [] => by simp
  | x :: l => by
    have h1 := bulk_pos x
    have h2 := bulk_count l
    rw [Rows.uptoBulkAll, List.length_cons]
    omega
theorem size_len (s : ByteArray) : s.data.toList.length = s.size := by simp
namespace V
theorem labels_openV {H : Type} {enc : TypeId × Value → H} {W : World} {v : Value} {d : DataW H} {p : List MemPlace} {fuel : Nat}
    (hf : DataW.trod enc Tryz.prog W 0 (fun _ => true) true fuel 29 [v] = some (d, p)) (hz : Rows.uptoBulk d ≤ 1048576) :
    ∃ (a : Option Addr) (len cap : Nat) (f : Nat → Lb), v = .slice a len cap ∧ len ≤ cap ∧ (a = none → len = 0 ∧ cap = 0) ∧ Lm W a f len ∧ len ≤ 1048576 ∧ ∀ j, j < len → (f j).1.size ≤ 1048576 ∧ (f j).2.size ≤ 1048576 := by
  rcases Go.Deep.open_slice Tryz.underlying29 hf with ⟨hcs, _⟩ | ⟨x, l, c, m, n, D, Pl, hcs, _, hl, hm, hmm, hd, hall⟩
  · simp at hcs
    exact ⟨none, 0, 0, fun _ => (⟨#[]⟩, ⟨#[]⟩), hcs, Nat.le_refl _, fun _ => ⟨rfl, rfl⟩, .inl rfl, by omega, fun j hj => absurd hj (by omega)⟩
  · simp at hcs
    have hm' : m = c := by simpa using hmm
    subst hm'
    obtain ⟨rfl, _⟩ := Prod.mk.inj hd
    rw [Rows.uptoBulk] at hz
    have hC : Tryz.prog.cellsOf 61 = 2 := by kernel_rfl
    have each : ∀ i, i < l → ∃ u : Lb, (W.cell? (x.add (i * 2)) = some (.string u.1) ∧ W.cell? (x.add (i * 2 + 1)) = some (.string u.2)) ∧ u.1.size ≤ 1048576 ∧ u.2.size ≤ 1048576 := by
      intro i hi
      obtain ⟨cs', h1, h2⟩ := hall i (by omega)
      have hbD := bulk_mem ((List.range l).map D) (D i) (List.mem_map.2 ⟨i, List.mem_range.2 hi, rfl⟩)
      rw [hC] at h1
      obtain ⟨_, hlen, hcell⟩ := World.cells?_some h1
      obtain ⟨xs, k, hk, hxy, _, hxl, hff⟩ := DataW.trod_struct Tryz.underlying61 h2
      match xs, hxl, cs', hlen with
      | [(d0, p0), (d1, p1)], _, [v0, v1], _ =>
        have g0 := hff 0 _ rfl
        have g1 := hff 1 _ rfl
        have c3 : Tryz.prog.cellsOf 9 = 1 := by kernel_rfl
        simp [c3] at g0 g1
        obtain ⟨t, e0, x0, _⟩ := DataW.trod_string Tryz.underlying9 g0
        obtain ⟨s, e1, x1, _⟩ := DataW.trod_string Tryz.underlying9 g1
        have q0 := hcell 0 (by omega)
        have q1 := hcell 1 (by omega)
        rw [Go.Deep.add_add] at q0 q1
        have w0 : v0 = .string t := by simpa using e0
        have w1 : v1 = .string s := by simpa using e1
        rw [w0, w1] at q0 q1
        have hD : D i = .agg ([(d0, p0), (d1, p1)].map (·.1)) := (Prod.mk.inj hxy).1
        have hw : ∀ (dd : DataW H), dd ∈ ([(d0, p0), (d1, p1)].map (·.1)) → Rows.uptoBulk dd ≤ 1048576 := fun dd h => by
          rw [hD, Rows.uptoBulk] at hbD
          have := bulk_mem _ dd h
          omega
        have b0 := hw d0 (by simp)
        have b1 := hw d1 (by simp)
        rw [(Prod.mk.inj x0).1, Rows.uptoBulk, size_len] at b0
        rw [(Prod.mk.inj x1).1, Rows.uptoBulk, size_len] at b1
        exact ⟨(t, s), ⟨by simpa using q0, by simpa using q1⟩, by show t.size ≤ _; omega, by show s.size ≤ _; omega⟩
    have hI : Inhabited Lb := ⟨(⟨#[]⟩, ⟨#[]⟩)⟩
    obtain ⟨ss, hss⟩ := Go.Deep.choose_lt each
    have hln : l ≤ 1048576 := by
      have hc := bulk_count ((List.range l).map D)
      rw [List.length_map, List.length_range] at hc
      omega
    refine ⟨some x, l, m, ss, hcs, by omega, fun h => (by cases h), ?_, hln, ?_⟩
    · by_cases h0 : l = 0
      · exact .inl h0
      · right
        obtain ⟨g, o, sp⟩ := x
        have hsp : sp = none := by
          have := (hss 0 (by omega)).1.1
          simpa [Addr.add] using World.cell?_spot this
        subst hsp
        have h00 := (hss 0 (by omega)).1.1
        rw [Go.WideShapes.add_plain] at h00
        refine ⟨g, o, rfl, blk_lt h00, fun j hj => ?_⟩
        obtain ⟨⟨q0, q1⟩, _⟩ := hss j (by omega)
        rw [Go.WideShapes.add_plain] at q0 q1
        exact ⟨q0, by rw [Nat.add_assoc]; exact q1⟩
    · exact fun j hj => (hss j hj).2
theorem trod_float0 {H : Type} {enc : TypeId × Value → H} {W : World} {t : TypeId} {cs : List Value} {x : DataW H × List MemPlace} {fuel : Nat} (ht : Tryz.prog.underlying t = some (.float .f64))
    (h : DataW.trod enc Tryz.prog W 0 (fun _ => true) true fuel t cs = some x) : ∃ z, cs = [.float .f64 z] ∧ x = (.lit (.float .f64 z), []) ∧ (Lit.float .f64 z).wf = true := by
  cases fuel with
  | zero => simp [DataW.trod] at h
  | succ n =>
    unfold DataW.trod at h
    rw [ht] at h
    split at h <;> simp_all
theorem trod_float {H : Type} {enc : TypeId × Value → H} {W : World} {t : TypeId} {v : Value} {x : DataW H × List MemPlace} {fuel : Nat} (ht : Tryz.prog.underlying t = some (.float .f64))
    (h : DataW.trod enc Tryz.prog W 0 (fun _ => true) true fuel t [v] = some x) : ∃ z, v = .float .f64 z ∧ z < 18446744073709551616 := by
  obtain ⟨z, h1, h2, h3⟩ := trod_float0 ht h
  exact ⟨z, by simpa using h1, by simpa [Lit.wf] using h3⟩
/-- One element, as it came in. -/
structure Hy (W : World) (e : El) : Prop where
  lm : Lm W e.a e.f e.n
  n0 : e.n ≤ 1048576
  nc : e.n ≤ e.c
  nz : e.a = none → e.n = 0 ∧ e.c = 0
  sz : ∀ j, j < e.n → (e.f j).1.size ≤ 1048576 ∧ (e.f j).2.size ≤ 1048576
  x : e.x < 18446744073709551616
set_option maxHeartbeats 2000000 in
theorem elems_openV {H : Type} {enc : TypeId × Value → H} {W : World} {v : Value} {d : DataW H} {p : List MemPlace} {fuel : Nat}
    (hf : DataW.trod enc Tryz.prog W 0 (fun _ => true) true fuel 22 [v] = some (d, p)) (hz : Rows.uptoBulk d ≤ 1048576) :
    ∃ (a : Option Addr) (len cap : Nat) (q : Nat → El), v = .slice a len cap ∧ Em W a q len ∧ len ≤ 1048576 ∧ len ≤ cap ∧ cap ≤ 9223372036854775807 ∧ (a = none → len = 0 ∧ cap = 0) ∧ ∀ j, j < len → Hy W (q j) := by
  rcases Go.Deep.open_slice Tryz.underlying22 hf with ⟨hcs, _⟩ | ⟨x, l, c, m, n, D, Pl, hcs, _, hl, hm, hmm, hd, hall⟩
  · simp at hcs
    exact ⟨none, 0, 0, fun _ => zE, hcs, .inl rfl, by omega, by omega, by omega, fun _ => ⟨rfl, rfl⟩, fun j hj => absurd hj (by omega)⟩
  · simp at hcs
    have hm' : m = c := by simpa using hmm
    subst hm'
    obtain ⟨rfl, _⟩ := Prod.mk.inj hd
    rw [Rows.uptoBulk] at hz
    have hC : Tryz.prog.cellsOf 31 = 2 := by kernel_rfl
    have each : ∀ i, i < l → ∃ u : El, (W.cell? (x.add (i * 2)) = some (.slice u.a u.n u.c) ∧ W.cell? (x.add (i * 2 + 1)) = some (.float .f64 u.x)) ∧ Hy W u := by
      intro i hi
      obtain ⟨cs', h1, h2⟩ := hall i (by omega)
      have hbD := bulk_mem ((List.range l).map D) (D i) (List.mem_map.2 ⟨i, List.mem_range.2 hi, rfl⟩)
      rw [hC] at h1
      obtain ⟨_, hlen, hcell⟩ := World.cells?_some h1
      obtain ⟨xs, k, hk, hxy, _, hxl, hff⟩ := DataW.trod_struct Tryz.underlying31 h2
      match xs, hxl, cs', hlen with
      | [(d0, p0), (d1, p1)], _, [v0, v1], _ =>
        have g0 := hff 0 _ rfl
        have g1 := hff 1 _ rfl
        have c22 : Tryz.prog.cellsOf 29 = 1 := by kernel_rfl
        have c43 : Tryz.prog.cellsOf 23 = 1 := by kernel_rfl
        simp [c22] at g0
        simp [c43] at g1
        have hD : D i = .agg ([(d0, p0), (d1, p1)].map (·.1)) := (Prod.mk.inj hxy).1
        have hw : ∀ (dd : DataW H), dd ∈ ([(d0, p0), (d1, p1)].map (·.1)) → Rows.uptoBulk dd ≤ 1048576 := fun dd h => by
          rw [hD, Rows.uptoBulk] at hbD
          have := bulk_mem _ dd h
          omega
        obtain ⟨la, ln, lc', lf', el, hlc, hnz, hLm, hln, hsz⟩ := labels_openV g0 (hw d0 (by simp))
        obtain ⟨z, e1, hz64⟩ := trod_float Tryz.underlying23 g1
        have q0 := hcell 0 (by omega)
        have q1 := hcell 1 (by omega)
        rw [Go.Deep.add_add] at q0 q1
        rw [el, e1] at q0 q1
        exact ⟨⟨la, ln, lc', lf', z⟩, ⟨by simpa using q0, by simpa using q1⟩, ⟨hLm, hln, hlc, hnz, hsz, hz64⟩⟩
    have hI : Inhabited El := ⟨zE⟩
    obtain ⟨ss, hss⟩ := Go.Deep.choose_lt each
    have hln : l ≤ 1048576 := by
      have hc := bulk_count ((List.range l).map D)
      rw [List.length_map, List.length_range] at hc
      omega
    refine ⟨some x, l, m, ss, hcs, ?_, hln, by omega, by unfold maxLen at hm; omega, fun h => (by cases h), fun j hj => (hss j hj).2⟩
    by_cases h0 : l = 0
    · exact .inl h0
    · right
      obtain ⟨g, o, sp⟩ := x
      have hsp : sp = none := by
        have := (hss 0 (by omega)).1.1
        simpa [Addr.add] using World.cell?_spot this
      subst hsp
      have h00 := (hss 0 (by omega)).1.1
      rw [Go.WideShapes.add_plain] at h00
      refine ⟨g, o, rfl, blk_lt h00, fun j hj => ?_⟩
      obtain ⟨⟨q0, q1⟩, _⟩ := hss j hj
      rw [Go.WideShapes.add_plain] at q0 q1
      exact ⟨q0, by rw [Nat.add_assoc]; exact q1⟩
theorem mix_openV {H : Type} {enc : TypeId × Value → H} {W : World} {cl : List Value} {d : DataW H} {p : List MemPlace} {fuel : Nat}
    (hf : DataW.trod enc Tryz.prog W 0 (fun _ => true) true fuel 25 cl = some (d, p)) (hz : Rows.uptoBulk d ≤ 1048576) :
    ∃ (s : ByteArray) (a : Option Addr) (n c X : Nat) (left yes : Bool) (q : Nat → El), cl = [.string s, .slice a n c, .float .f64 X, .bool left, .bool yes] ∧ X < 18446744073709551616 ∧ Em W a q n ∧ n ≤ 1048576 ∧ n ≤ c ∧ c ≤ 9223372036854775807 ∧ (a = none → n = 0 ∧ c = 0) ∧ ∀ j, j < n → Hy W (q j) := by
  obtain ⟨xs, k, hk, hxy, hcl, hxl, hff⟩ := DataW.trod_struct Tryz.underlying25 hf
  have h5 : Tryz.prog.cellsOf 25 = 5 := by kernel_rfl
  rw [h5] at hcl
  match xs, hxl, cl, hcl with
  | [(d0, p0), (d1, p1), (d2, p2), (d3, p3), (d4, p4)], _, [v0, v1, v2, v3, v4], _ =>
    have g0 := hff 0 _ rfl
    have g1 := hff 1 _ rfl
    have g2 := hff 2 _ rfl
    have g3 := hff 3 _ rfl
    have g4 := hff 4 _ rfl
    have c9 : Tryz.prog.cellsOf 9 = 1 := by kernel_rfl
    have c22 : Tryz.prog.cellsOf 22 = 1 := by kernel_rfl
    have c23 : Tryz.prog.cellsOf 23 = 1 := by kernel_rfl
    have c4 : Tryz.prog.cellsOf 4 = 1 := by kernel_rfl
    simp [c9] at g0
    simp [c22] at g1
    simp [c23] at g2
    simp [c4] at g3 g4
    have hD : d = .agg ([(d0, p0), (d1, p1), (d2, p2), (d3, p3), (d4, p4)].map (·.1)) := (Prod.mk.inj hxy).1
    have hw : ∀ (dd : DataW H), dd ∈ ([(d0, p0), (d1, p1), (d2, p2), (d3, p3), (d4, p4)].map (·.1)) → Rows.uptoBulk dd ≤ 1048576 := fun dd h => by
      rw [hD, Rows.uptoBulk] at hz
      have := bulk_mem _ dd h
      omega
    obtain ⟨s, e0, _, _⟩ := DataW.trod_string Tryz.underlying9 g0
    obtain ⟨a, n, c, q, e1, hE, hn, hnc, hcm, hnz, hH⟩ := elems_openV g1 (hw d1 (by simp))
    obtain ⟨X, e2, hX⟩ := trod_float Tryz.underlying23 g2
    obtain ⟨b3, e3, _⟩ := DataW.trod_bool Tryz.underlying4 g3
    obtain ⟨b4, e4, _⟩ := DataW.trod_bool Tryz.underlying4 g4
    have w0 : v0 = .string s := by simpa using e0
    have w3 : v3 = .bool b3 := by simpa using e3
    have w4 : v4 = .bool b4 := by simpa using e4
    exact ⟨s, a, n, c, X, b3, b4, q, by rw [w0, e1, e2, w3, w4], hX, hE, hn, hnc, hcm, hnz, hH⟩
end V
/-- The tables, as a plain name for the list that the row bears. -/
def laidQ : List (String × DataW Unit) := Rows.pairMixesUptoRow.laid
theorem u8x : U8Extra Tryz.prog Tryz.lays197_ren := ⟨by kernel_rfl, by kernel_rfl, by kernel_rfl, by kernel_rfl, by kernel_rfl, by kernel_rfl, by kernel_rfl⟩
theorem acc_eq : (Rows.laid_unicode_utf8_acceptRanges : DataW Unit) = acceptData := by kernel_rfl
theorem tabs_of {W : World} (h : laidMetH Tryz.prog laidQ W) : Lib.Utf8Tabs 2 3 W := by
  rw [MakeChecks.laidMetH_plain _ _ _ (by kernel_rfl)] at h
  have h4 := Lib.laidMet.reads h (d := Rows.laid_unicode_utf8_acceptRanges) (.head _)
  have h3 := Lib.laidMet.reads h (d := Rows.laid_unicode_utf8_first) (.tail _ (.head _))
  rw [acc_eq] at h4
  have e3 : Rows.laid_unicode_utf8_first = firstData := Pinned.utf8First_eq
  rw [e3] at h3
  exact utf8Tabs_of_reads (show Go.Proofs.Lays.n260 Tryz.prog Tryz.lays197_ren from { Tryz.lays197 with }) u8x h3 h4
theorem mixes_laid (os : Os) : laidMet Tryz.prog laidQ ((World.laidAll Tryz.prog os laidQ).forCall (fun _ _ => 0) ⟨#[], #[.agg #[.string ⟨#[]⟩, .slice none 0 0, .float .f64 0, .bool false, .bool false]], []⟩).memory :=
  laidMet_laidAll _ (by kernel_rfl) (by kernel_rfl)
theorem mixes_reads (os : Os) {H : Type} (enc : TypeId × Value → H) : ∃ places, DataW.whole enc Tryz.prog ((World.laidAll Tryz.prog os laidQ).forCall (fun _ _ => 0) ⟨#[], #[.agg #[.string ⟨#[]⟩, .slice none 0 0, .float .f64 0, .bool false, .bool false]], []⟩).memory Tryz.f3.params.toList Rows.pairMixesSpec.vars false (#[.agg #[.string ⟨#[]⟩, .slice none 0 0, .float .f64 0, .bool false, .bool false]] : Array Value).toList 8 = some ([.agg [.lit (.string []), .nil, .lit (.float .f64 0), .lit (.bool false), .lit (.bool false)]], [], places) :=
  ⟨[], by kernel_rfl⟩
theorem mixes_lifted (os : Os) (started : os.Started) (H : Type) (enc : TypeId × Value → H) (F : Stop.Interp) :
    ReturnsInHanded {} Tryz.checked os 3 .any ((Rows.OpenSpec.upto Rows.pairMixesSpec).preRow enc Tryz.prog Tryz.f3 Rows.pairMixesUptoRow.domain false laidQ) (((Rows.OpenSpec.upto Rows.pairMixesSpec).at F).post enc Tryz.prog Tryz.f3 false true false false) := by
  obtain ⟨places, hx⟩ := mixes_reads os enc
  have hok : Input.okWideB Tryz.checked.prog ((World.laidAll Tryz.prog os laidQ).forCall (fun _ _ => 0) ⟨#[], #[.agg #[.string ⟨#[]⟩, .slice none 0 0, .float .f64 0, .bool false, .bool false]], []⟩) 3 ⟨#[], #[.agg #[.string ⟨#[]⟩, .slice none 0 0, .float .f64 0, .bool false, .bool false]], []⟩ = true := by kernel_rfl
  refine returnsInHanded_of_row (C := Tryz.checked) (s := Rows.OpenSpec.upto Rows.pairMixesSpec) ownS started (by kernel_rfl) Tryz.func3
    ⟨World.laidAll Tryz.prog os laidQ, fun _ _ => 0, ⟨#[], #[.agg #[.string ⟨#[]⟩, .slice none 0 0, .float .f64 0, .bool false, .bool false]], []⟩, World.laidAll_os _ _ _, World.shaped_of_ZipB (by kernel_rfl) (by kernel_rfl), (Input.okWide_of_okWideB (base := 0) hok).1, (Input.okWide_of_okWideB hok).2,
      OpenSpec.preRow_of_cond 8 hx (by kernel_rfl) (fun k hk => by cases hk; kernel_rfl) (by kernel_rfl) (mixes_laid os), by
        simp only [Assume.holds]
        exact ⟨by simp, by simp, fun _ => Modest.zero, by simp, by simp⟩⟩ ?_
  intro W base args ds gs before hval0 hW _ hcond _ hL _ _
  have hval : ∀ (j : Nat) t v, Tryz.f3.params[j]? = some t → args[j]? = some v → Value.okWide Tryz.prog W .any base t v := hval0
  have hW' := hW
  obtain ⟨p, q, hA0, hV, rfl, _, _⟩ := hW
  have hA : DataW.TrodAll enc Tryz.prog W 0 (fun _ => true) true Tryz.f3.params.toList args.toList ds p := hA0
  rw [Tryz.params3] at hA hval
  obtain ⟨v0, d0, rfl, rfl, h0⟩ := trodAll_one hA
  obtain ⟨rfl, rfl⟩ := trodVars_none hV
  obtain ⟨cs, rfl, hcs⟩ := okWide_struct Tryz.underlying25 (hval 0 25 v0 rfl rfl)
  have k0 := h0
  have lt0 : ∀ x ∈ p, x.block < W.heap.size := by obtain ⟨m, hm⟩ := k0; exact DataW.trod_lt m _ _ _ hm
  have hT := tabs_of hL
  have hk := of_decide_eq_true (hcond _ rfl)
  simp only [Rows.uptoBulkAll, List.append_nil] at hk
  have walk : Calls Tryz.prog 3 #[.agg cs] W fun e w' => e = .returned (.bool true) ∧ Below W.heap.size W w' := by
    obtain ⟨fuel, hf0⟩ := h0
    have hf : DataW.trod enc Tryz.prog W 0 (fun _ => true) true fuel 25 cs.toList = some (d0, p) := hf0
    obtain ⟨s, a, n, c, X, left, yes, q, ecl, hX, hE, hn, hnc, hcm, hnz, hH⟩ := V.mix_openV hf (by omega)
    have ecs : cs = #[.string s, .slice a n c, .float .f64 X, .bool left, .bool yes] := by rw [← Array.toArray_toList (xs := cs), ecl]
    rw [ecs]
    exact mixes_walk s a n c X left yes q W hE hnz hnc hcm hn (fun j hj => ⟨⟨(hH j hj).lm, (hH j hj).n0, (hH j hj).x, (hH j hj).sz⟩, (hH j hj).nz⟩) hX hT
  refine walk.mono fun e W' ⟨he, bel⟩ => ?_
  subst he
  exact ⟨_, rfl, _, _, _, [], _, [], hW', trodAll_mk1 (shut_bool Tryz.underlying4 _), trodAll_mk1 (Below.trod laidOutS (by kernel_rfl) (of_decide_eq_true (by kernel_rfl)) k0 bel lt0), rfl, bel.frame _, fun h => by cases h⟩

theorem mixes_said : Rows.PairMixesUptoSaid :=
  OpenClaim.holds_of_cond 3 Tryz.f3 rfl rfl rfl rfl rfl rfl rfl ⟨rfl, rfl, rfl, rfl, rfl⟩ rfl rfl rfl rfl rfl (by kernel_rfl) Tryz.func3 (by kernel_rfl)
    (of_decide_eq_true (by kernel_rfl)) (by unfold Func.isWrapper; first | (rw [if_pos (by decide +kernel)]; kernel_rfl) | (rw [if_neg (by decide +kernel)]; exact ⟨rfl, rfl⟩))
    (fun os started H enc _ F => by rw [OpenClaim.pre_eq_preRow]; exact mixes_lifted os started H enc F)

theorem mixes_plain (f : FuncId) (fn : Func) (hf : Tryz.pinned.checked.prog.funcNamed Rows.pairMixesUptoRow.func = some f) (hfn : Tryz.pinned.checked.prog.funcs[f]? = some fn) :
    false = Tryz.pinned.checked.prog.looks [] ∧ ∀ (j : Nat) t, fn.params[j]? = some t → Tryz.pinned.checked.prog.wantsStandIn t = false := by
  obtain rfl : f = 3 := Option.some.inj ((show Tryz.prog.funcNamed Rows.pairMixesUptoRow.func = some 3 by kernel_rfl).symm.trans hf) |>.symm
  obtain rfl : fn = Tryz.f3 := (Option.some.inj (Tryz.func3.symm.trans hfn)).symm
  refine ⟨by kernel_rfl, fun j t ht => ?_⟩
  rw [Tryz.params3] at ht
  have hm : t ∈ [25] := by simpa using Array.mem_of_getElem? ht
  have hall : ([25].all fun u => !Tryz.prog.wantsStandIn u) = true := by kernel_rfl
  exact (show Tryz.prog.wantsStandIn t = false by simpa using List.all_eq_true.1 hall t hm)

theorem mixes_card : Rows.PairMixesUptoCardSaid :=
  Claim7.holds_tied_plain_at .later [] _ _ _ _ mixes_said (fun _ h => by cases h) (by kernel_rfl) (fun _ h => by cases h) pairMixesUpto_row_tie rfl ⟨rfl, rfl⟩ (by kernel_rfl) rfl mixes_plain (by kernel_rfl)
#print axioms mixes_card
end Go.Proofs.YtebjklppbkkinaaGreatDoor
