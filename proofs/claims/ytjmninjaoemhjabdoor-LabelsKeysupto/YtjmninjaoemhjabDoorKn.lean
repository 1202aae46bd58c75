/- LabelsKeys: asks that came in, by their bulk; the second form's row and its card. -/
import Derived.Test.YtjmninjaoemhjabDoorKm
import Derived.Test.YtjmninjaoemhjabDoorRows
import Derived.Test.YtjmninjaoemhjabDoorTie
import Derived.Test.YtjmninjaoemhjabDoorCards
import Derived.SizedLaws
import Derived.ProofKit
import Derived.OpenShut
import Derived.ShutString
import Derived.ChangeSlices
import Derived.ChangeSame
import Derived.ChangeOld
import Derived.Carry
import Derived.Deep.Slices
import Derived.Lib.LaidU8
import Derived.Lib.LaidTab
import Derived.PinnedBridge
import Derived.Lay
import Derived.ChangeMaps5
import Derived.Deep.DeepHandedRow
namespace Go.Proofs.YtjmninjaoemhjabDoor
open Go.ChangeShapes Go.WideShapes Go.ChangeAt Go.RowKit Go.Lib
set_option maxRecDepth 100000

theorem ownS : ownKnob Tryd.prog.godebug = none := by kernel_rfl
theorem laidOutS : laidOutB Tryd.prog = true := by kernel_rfl
theorem blk_lt {w : World} {b o : Nat} {v : Value} (h : w.cell? ⟨b, o, none⟩ = some v) : b < w.heap.size := World.block_lt_of_cell? w _ h
theorem bulk_mem {H : Type} : ∀ (l : List (DataW H)) (d : DataW H), d ∈ l → Rows.uptoBulk d ≤ Rows.uptoBulkAll l
  | x :: l, d, h => by
    rw [Rows.uptoBulkAll]
    rcases List.mem_cons.1 h with rfl | h
    · omega
    · have := bulk_mem l d h
      omega
theorem bulk_pos {H : Type} (d : DataW H) : 1 ≤ Rows.uptoBulk d := by
  unfold Rows.uptoBulk
  split <;> omega
theorem bulk_count {H : Type} : ∀ (l : List (DataW H)), l.length ≤ Rows.uptoBulkAll l
  | [] => by simp
  | x :: l => by
    have h1 := bulk_pos x
    have h2 := bulk_count l
    rw [Rows.uptoBulkAll, List.length_cons]
    omega
theorem size_len (s : ByteArray) : s.data.toList.length = s.size := by simp
theorem szF_bound (f : Nat → Lb) : ∀ n, (∀ j, j < n → (f j).1.size ≤ 1048576 ∧ (f j).2.size ≤ 1048576) → szF f n ≤ n * 2097196
  | 0, _ => Nat.le_refl _
  | n + 1, h => by
    have ih := szF_bound f n (fun j hj => h j (by omega))
    obtain ⟨h1, h2⟩ := h n (by omega)
    show szF f n + _ ≤ _
    omega
theorem labels_openB {H : Type} {enc : TypeId × Value → H} {W : World} {v : Value} {d : DataW H} {p : List MemPlace} {fuel : Nat}
    (hf : DataW.trod enc Tryd.prog W 0 (fun _ => true) true fuel 25 [v] = some (d, p)) (hz : Rows.uptoBulk d ≤ 1048576) :
    ∃ (a : Option Addr) (len cap : Nat) (f : Nat → Lb), v = .slice a len cap ∧ Lm W a f len ∧ len ≤ 1048576 ∧ szF f len ≤ 70368744177664 := by
  rcases Go.Deep.open_slice Tryd.underlying25 hf with ⟨hcs, _⟩ | ⟨x, l, c, m, n, D, Pl, hcs, _, hl, hm, hmm, hd, hall⟩
  · simp at hcs
    exact ⟨none, 0, 0, fun _ => (⟨#[]⟩, ⟨#[]⟩), hcs, .inl rfl, by omega, by decide⟩
  · simp at hcs
    have hm' : m = c := by simpa using hmm
    subst hm'
    obtain ⟨rfl, _⟩ := Prod.mk.inj hd
    rw [Rows.uptoBulk] at hz
    have hC : Tryd.prog.cellsOf 24 = 2 := by kernel_rfl
    have each : ∀ i, i < l → ∃ u : Lb, (W.cell? (x.add (i * 2)) = some (.string u.1) ∧ W.cell? (x.add (i * 2 + 1)) = some (.string u.2)) ∧ u.1.size ≤ 1048576 ∧ u.2.size ≤ 1048576 := by
      intro i hi
      obtain ⟨cs', h1, h2⟩ := hall i (by omega)
      have hbD := bulk_mem ((List.range l).map D) (D i) (List.mem_map.2 ⟨i, List.mem_range.2 hi, rfl⟩)
      rw [hC] at h1
      obtain ⟨_, hlen, hcell⟩ := World.cells?_some h1
      obtain ⟨xs, k, hk, hxy, _, hxl, hff⟩ := DataW.trod_struct Tryd.underlying24 h2
      match xs, hxl, cs', hlen with
      | [(d0, p0), (d1, p1)], _, [v0, v1], _ =>
        have g0 := hff 0 _ rfl
        have g1 := hff 1 _ rfl
        have c3 : Tryd.prog.cellsOf 9 = 1 := by kernel_rfl
        simp [c3] at g0 g1
        obtain ⟨t, e0, x0, _⟩ := DataW.trod_string Tryd.underlying9 g0
        obtain ⟨s, e1, x1, _⟩ := DataW.trod_string Tryd.underlying9 g1
        have q0 := hcell 0 (by omega)
        have q1 := hcell 1 (by omega)
        rw [Go.Deep.add_add] at q0 q1
        have w0 : v0 = .string t := by simpa using e0
        have w1 : v1 = .string s := by simpa using e1
        rw [w0, w1] at q0 q1
        have hD : D i = .agg ([(d0, p0), (d1, p1)].map (·.1)) := (Prod.mk.inj hxy).1
        have hw : ∀ (dd : DataW H), dd ∈ ([(d0, p0), (d1, p1)].map (·.1)) → Rows.uptoBulk dd ≤ 1048576 := fun dd h => by
          rw [hD, Rows.uptoBulk] at hbD
          have := bulk_mem _ dd h
          omega
        have b0 := hw d0 (by simp)
        have b1 := hw d1 (by simp)
        rw [(Prod.mk.inj x0).1, Rows.uptoBulk, size_len] at b0
        rw [(Prod.mk.inj x1).1, Rows.uptoBulk, size_len] at b1
        exact ⟨(t, s), ⟨by simpa using q0, by simpa using q1⟩, by show t.size ≤ _; omega, by show s.size ≤ _; omega⟩
    have hI : Inhabited Lb := ⟨(⟨#[]⟩, ⟨#[]⟩)⟩
    obtain ⟨ss, hss⟩ := Go.Deep.choose_lt each
    have hln : l ≤ 1048576 := by
      have hc := bulk_count ((List.range l).map D)
      rw [List.length_map, List.length_range] at hc
      omega
    refine ⟨some x, l, m, ss, hcs, ?_, hln, ?_⟩
    · by_cases h0 : l = 0
      · exact .inl h0
      · right
        obtain ⟨g, o, sp⟩ := x
        have hsp : sp = none := by
          have := (hss 0 (by omega)).1.1
          simpa [Addr.add] using World.cell?_spot this
        subst hsp
        have h00 := (hss 0 (by omega)).1.1
        rw [Go.WideShapes.add_plain] at h00
        refine ⟨g, o, rfl, blk_lt h00, fun j hj => ?_⟩
        obtain ⟨⟨q0, q1⟩, _⟩ := hss j (by omega)
        rw [Go.WideShapes.add_plain] at q0 q1
        exact ⟨q0, by rw [Nat.add_assoc]; exact q1⟩
    · have := szF_bound ss l (fun j hj => (hss j hj).2)
      omega
theorem names_openB {H : Type} {enc : TypeId × Value → H} {W : World} {v : Value} {d : DataW H} {p : List MemPlace} {fuel : Nat}
    (hf : DataW.trod enc Tryd.prog W 0 (fun _ => true) true fuel 27 [v] = some (d, p)) (hz : Rows.uptoBulk d ≤ 1048576) :
    ∃ (a : Option Addr) (len cap : Nat) (f : Nat → ByteArray), v = .slice a len cap ∧ Smb W.heap.size W a f len ∧ len ≤ 1048576 := by
  rcases Go.Deep.open_slice1 Tryd.underlying27 (by kernel_rfl) hf with ⟨hcs, _⟩ | ⟨x, l, c, m, n, V, D, Pl, hcs, _, hl, hm, hmm, hd, hall⟩
  · simp at hcs
    exact ⟨none, 0, 0, fun _ => ⟨#[]⟩, hcs, .inl rfl, by omega⟩
  · simp at hcs
    have hm' : m = c := by simpa using hmm
    subst hm'
    obtain ⟨rfl, _⟩ := Prod.mk.inj hd
    rw [Rows.uptoBulk] at hz
    have each : ∀ i, i < l → ∃ u : ByteArray, W.cell? (x.add i) = some (.string u) := by
      intro i hi
      obtain ⟨h1, h2⟩ := hall i (by omega)
      obtain ⟨t, e0, _, _⟩ := DataW.trod_string Tryd.underlying9 h2
      have w0 : V i = .string t := by simpa using e0
      rw [w0] at h1
      exact ⟨t, h1⟩
    have hI : Inhabited ByteArray := ⟨⟨#[]⟩⟩
    obtain ⟨ss, hss⟩ := Go.Deep.choose_lt each
    refine ⟨some x, l, m, ss, hcs, ?_, ?_⟩
    · by_cases h0 : l = 0
      · exact .inl h0
      · right
        obtain ⟨g, o, sp⟩ := x
        have hsp : sp = none := by
          have := hss 0 (by omega)
          simpa [Addr.add] using World.cell?_spot this
        subst hsp
        have h00 := hss 0 (by omega)
        rw [Go.WideShapes.add_plain] at h00
        refine ⟨g, o, rfl, blk_lt h00, fun j hj => ?_⟩
        have q0 := hss j hj
        rw [Go.WideShapes.add_plain] at q0
        exact q0
    · have hc := bulk_count ((List.range l).map D)
      rw [List.length_map, List.length_range] at hc
      omega
set_option maxHeartbeats 2000000 in
theorem asks_openB {H : Type} {enc : TypeId × Value → H} {W : World} {v : Value} {d : DataW H} {p : List MemPlace} {fuel : Nat}
    (hf : DataW.trod enc Tryd.prog W 0 (fun _ => true) true fuel 22 [v] = some (d, p)) (hz : Rows.uptoBulk d ≤ 1048576) :
    ∃ (a : Option Addr) (len cap : Nat) (q : Nat → Ak), v = .slice a len cap ∧ Am W a q len ∧ len ≤ 1048576 := by
  rcases Go.Deep.open_slice Tryd.underlying22 hf with ⟨hcs, _⟩ | ⟨x, l, c, m, n, D, Pl, hcs, _, hl, hm, hmm, hd, hall⟩
  · simp at hcs
    exact ⟨none, 0, 0, fun _ => ⟨none, 0, 0, fun _ => (⟨#[]⟩, ⟨#[]⟩), ⟨#[]⟩, ⟨#[]⟩, none, 0, 0, fun _ => ⟨#[]⟩, true⟩, hcs, .inl rfl, by omega⟩
  · simp at hcs
    have hm' : m = c := by simpa using hmm
    subst hm'
    obtain ⟨rfl, _⟩ := Prod.mk.inj hd
    rw [Rows.uptoBulk] at hz
    have hC : Tryd.prog.cellsOf 30 = 5 := by kernel_rfl
    have each : ∀ i, i < l → ∃ u : Ak, (W.cell? (x.add (i * 5)) = some (.slice u.la u.ln u.lc) ∧ W.cell? (x.add (i * 5 + 1)) = some (.string u.nm) ∧ W.cell? (x.add (i * 5 + 2)) = some (.string u.vl) ∧ W.cell? (x.add (i * 5 + 3)) = some (.slice u.na u.nn u.nc) ∧ W.cell? (x.add (i * 5 + 4)) = some (.bool u.wo)) ∧ Aok W u := by
      intro i hi
      obtain ⟨cs', h1, h2⟩ := hall i (by omega)
      have hbD := bulk_mem ((List.range l).map D) (D i) (List.mem_map.2 ⟨i, List.mem_range.2 hi, rfl⟩)
      rw [hC] at h1
      obtain ⟨_, hlen, hcell⟩ := World.cells?_some h1
      obtain ⟨xs, k, hk, hxy, _, hxl, hff⟩ := DataW.trod_struct Tryd.underlying30 h2
      match xs, hxl, cs', hlen with
      | [(d0, p0), (d1, p1), (d2, p2), (d3, p3), (d4, p4)], _, [v0, v1, v2, v3, v4], _ =>
        have g0 := hff 0 _ rfl
        have g1 := hff 1 _ rfl
        have g2 := hff 2 _ rfl
        have g3 := hff 3 _ rfl
        have g4 := hff 4 _ rfl
        have c9 : Tryd.prog.cellsOf 9 = 1 := by kernel_rfl
        have c25 : Tryd.prog.cellsOf 25 = 1 := by kernel_rfl
        have c27 : Tryd.prog.cellsOf 27 = 1 := by kernel_rfl
        have c4 : Tryd.prog.cellsOf 4 = 1 := by kernel_rfl
        simp [c25] at g0
        simp [c9] at g1 g2
        simp [c27] at g3
        simp [c4] at g4
        have hD : D i = .agg ([(d0, p0), (d1, p1), (d2, p2), (d3, p3), (d4, p4)].map (·.1)) := (Prod.mk.inj hxy).1
        have hw : ∀ (dd : DataW H), dd ∈ ([(d0, p0), (d1, p1), (d2, p2), (d3, p3), (d4, p4)].map (·.1)) → Rows.uptoBulk dd ≤ 1048576 := fun dd h => by
          rw [hD, Rows.uptoBulk] at hbD
          have := bulk_mem _ dd h
          omega
        obtain ⟨la, ln, lc', lf', el, hLm, hln, hsz⟩ := labels_openB g0 (hw d0 (by simp))
        obtain ⟨na, nn, nc, nf, en, hSm, hnn⟩ := names_openB g3 (hw d3 (by simp))
        obtain ⟨t, e1, _, _⟩ := DataW.trod_string Tryd.underlying9 g1
        obtain ⟨s, e2, _, _⟩ := DataW.trod_string Tryd.underlying9 g2
        obtain ⟨b, e4, _⟩ := DataW.trod_bool Tryd.underlying4 g4
        have q0 := hcell 0 (by omega)
        have q1 := hcell 1 (by omega)
        have q2 := hcell 2 (by omega)
        have q3 := hcell 3 (by omega)
        have q4 := hcell 4 (by omega)
        rw [Go.Deep.add_add] at q0 q1 q2 q3 q4
        have w1 : v1 = .string t := by simpa using e1
        have w2 : v2 = .string s := by simpa using e2
        have w4 : v4 = .bool b := by simpa using e4
        rw [el, w1, w2, en, w4] at q0 q1 q2 q3 q4
        exact ⟨⟨la, ln, lc', lf', t, s, na, nn, nc, nf, b⟩, ⟨by simpa using q0, by simpa using q1, by simpa using q2, by simpa using q3, by simpa using q4⟩, ⟨hLm, hSm, hln, hnn, hsz⟩⟩
    have hI : Inhabited Ak := ⟨⟨none, 0, 0, fun _ => (⟨#[]⟩, ⟨#[]⟩), ⟨#[]⟩, ⟨#[]⟩, none, 0, 0, fun _ => ⟨#[]⟩, true⟩⟩
    obtain ⟨ss, hss⟩ := Go.Deep.choose_lt each
    have hln : l ≤ 1048576 := by
      have hc := bulk_count ((List.range l).map D)
      rw [List.length_map, List.length_range] at hc
      omega
    refine ⟨some x, l, m, ss, hcs, ?_, hln⟩
    by_cases h0 : l = 0
    · exact .inl h0
    · right
      obtain ⟨g, o, sp⟩ := x
      have hsp : sp = none := by
        have := (hss 0 (by omega)).1.1
        simpa [Addr.add] using World.cell?_spot this
      subst hsp
      have h00 := (hss 0 (by omega)).1.1
      rw [Go.WideShapes.add_plain] at h00
      refine ⟨g, o, rfl, blk_lt h00, fun j hj => ?_⟩
      obtain ⟨⟨q0, q1, q2, q3, q4⟩, hok⟩ := hss j hj
      rw [Go.WideShapes.add_plain] at q0 q1 q2 q3 q4
      exact ⟨⟨q0, by rw [Nat.add_assoc]; exact q1, by rw [Nat.add_assoc]; exact q2, by rw [Nat.add_assoc]; exact q3, by rw [Nat.add_assoc]; exact q4⟩, hok⟩
/-- The tables, as a plain name for the list that the row bears. -/
def laidQ : List (String × DataW Unit) := Rows.labelsKeysUptoRow.laid
theorem pow_eq : (Rows.laid_internal_strconv_uint64pow10 : DataW Unit) = tabData .u64 pow10Tab := by kernel_rfl
theorem pow_of {W : World} {l : List (String × DataW Unit)} (h : laidMet Tryd.prog l W) (hm : ("internal/strconv.uint64pow10", Rows.laid_internal_strconv_uint64pow10) ∈ l) : TbI W := by
  obtain ⟨g, t, cs, fuel, p, hg, hty, hvar, hd⟩ := Lib.laidMet.reads h hm
  obtain rfl : g = 0 := Option.some.inj (pow_at.symm.trans hg) |>.symm
  obtain rfl : t = 89 := Option.some.inj ((show (Tryd.prog.globals[0]?).map (·.type) = some 89 by kernel_rfl).symm.trans hty) |>.symm
  rw [pow_eq] at hd
  unfold TbI TabIs
  rw [hvar, ← cells_of_tab Tryd.underlying89 Tryd.underlying76 (by kernel_rfl) (by kernel_rfl) hd]
theorem tb_of {W : World} (h : laidMetH Tryd.prog laidQ W) : TbI W := by
  rw [MakeChecks.laidMetH_plain _ _ _ (by kernel_rfl)] at h
  exact pow_of h (.tail _ (.tail _ (.head _)))
theorem tb_pos {W : World} (h : TbI W) : 0 < W.heap.size := by
  have h3 := TabIs.cell h (g := 0) (by kernel_rfl) 0 (by decide)
  exact World.block_lt_of_cell? W _ h3
theorem keys_laid (os : Os) : laidMet Tryd.prog laidQ ((World.laidAll Tryd.prog os laidQ).forCall (fun _ _ => 0) ⟨#[], #[.slice none 0 0], []⟩).memory :=
  laidMet_laidAll _ (by kernel_rfl) (by kernel_rfl)
theorem keys_reads (os : Os) {H : Type} (enc : TypeId × Value → H) : ∃ places, DataW.whole enc Tryd.prog ((World.laidAll Tryd.prog os laidQ).forCall (fun _ _ => 0) ⟨#[], #[.slice none 0 0], []⟩).memory Tryd.f3.params.toList Rows.labelsKeysSpec.vars false #[Value.slice none 0 0].toList 8 = some ([.nil], [], places) :=
  ⟨[], by kernel_rfl⟩
theorem keys_lifted (os : Os) (started : os.Started) (H : Type) (enc : TypeId × Value → H) (F : Stop.Interp) :
    ReturnsInHanded {} Tryd.checked os 3 .any ((Rows.OpenSpec.upto Rows.labelsKeysSpec).preRow enc Tryd.prog Tryd.f3 Rows.labelsKeysUptoRow.domain false laidQ) (((Rows.OpenSpec.upto Rows.labelsKeysSpec).at F).post enc Tryd.prog Tryd.f3 false true false false) := by
  obtain ⟨places, hx⟩ := keys_reads os enc
  have hok : Input.okWideB Tryd.checked.prog ((World.laidAll Tryd.prog os laidQ).forCall (fun _ _ => 0) ⟨#[], #[.slice none 0 0], []⟩) 3 ⟨#[], #[.slice none 0 0], []⟩ = true := by kernel_rfl
  refine returnsInHanded_of_row (C := Tryd.checked) (s := Rows.OpenSpec.upto Rows.labelsKeysSpec) ownS started (by kernel_rfl) Tryd.func3
    ⟨World.laidAll Tryd.prog os laidQ, fun _ _ => 0, ⟨#[], #[.slice none 0 0], []⟩, World.laidAll_os _ _ _, World.shaped_of_ZipB (by kernel_rfl) (by kernel_rfl), (Input.okWide_of_okWideB (base := 0) hok).1, (Input.okWide_of_okWideB hok).2,
      OpenSpec.preRow_of_cond 8 hx (by kernel_rfl) (fun k hk => by cases hk; kernel_rfl) (by kernel_rfl) (keys_laid os), by
        simp only [Assume.holds]
        exact ⟨by simp, by simp, fun _ => Modest.zero, by simp, by simp⟩⟩ ?_
  intro W base args ds gs before hval0 hW _ hcond _ hL _ _
  have hval : ∀ (j : Nat) t v, Tryd.f3.params[j]? = some t → args[j]? = some v → Value.okWide Tryd.prog W .any base t v := hval0
  have hW' := hW
  obtain ⟨p, q, hA0, hV, rfl, _, _⟩ := hW
  have hA : DataW.TrodAll enc Tryd.prog W 0 (fun _ => true) true Tryd.f3.params.toList args.toList ds p := hA0
  rw [Tryd.params3] at hA hval
  obtain ⟨v0, d0, rfl, rfl, h0⟩ := trodAll_one hA
  obtain ⟨rfl, rfl⟩ := trodVars_none hV
  obtain ⟨a0, n0, c0, rfl⟩ := okWide_slice Tryd.underlying22 (hval 0 22 v0 rfl rfl)
  have k0 := h0
  have lt0 : ∀ x ∈ p, x.block < W.heap.size := by obtain ⟨m, hm⟩ := k0; exact DataW.trod_lt m _ _ _ hm
  have hT := tb_of hL
  have hk := of_decide_eq_true (hcond _ rfl)
  simp only [Rows.uptoBulkAll, List.append_nil] at hk
  have walk : Calls Tryd.prog 3 #[.slice a0 n0 c0] W fun e w' => e = .returned (.bool true) ∧ Below W.heap.size W w' := by
    obtain ⟨fuel, hf0⟩ := h0
    have hf : DataW.trod enc Tryd.prog W 0 (fun _ => true) true fuel 22 [.slice a0 n0 c0] = some (d0, p) := hf0
    obtain ⟨a, n, c, qs, ev, hAm, hn⟩ := asks_openB hf (by omega)
    rw [ev]
    exact keys_walk a n c qs W hAm hn (tb_pos hT) hT
  refine walk.mono fun e W' ⟨he, bel⟩ => ?_
  subst he
  exact ⟨_, rfl, _, _, _, [], _, [], hW', trodAll_mk1 (shut_bool Tryd.underlying4 _), trodAll_mk1 (Below.trod laidOutS (by kernel_rfl) (of_decide_eq_true (by kernel_rfl)) k0 bel lt0), rfl, bel.frame _, fun h => by cases h⟩

theorem keys_said : Rows.LabelsKeysUptoSaid :=
  OpenClaim.holds_of_cond 3 Tryd.f3 rfl rfl rfl rfl rfl rfl rfl ⟨rfl, rfl, rfl, rfl, rfl⟩ rfl rfl rfl rfl rfl (by kernel_rfl) Tryd.func3 (by kernel_rfl)
    (of_decide_eq_true (by kernel_rfl)) (by unfold Func.isWrapper; first | (rw [if_pos (by decide +kernel)]; kernel_rfl) | (rw [if_neg (by decide +kernel)]; exact ⟨rfl, rfl⟩))
    (fun os started H enc _ F => by rw [OpenClaim.pre_eq_preRow]; exact keys_lifted os started H enc F)

theorem keys_plain (f : FuncId) (fn : Func) (hf : Tryd.pinned.checked.prog.funcNamed Rows.labelsKeysUptoRow.func = some f) (hfn : Tryd.pinned.checked.prog.funcs[f]? = some fn) :
    false = Tryd.pinned.checked.prog.looks [] ∧ ∀ (j : Nat) t, fn.params[j]? = some t → Tryd.pinned.checked.prog.wantsStandIn t = false := by
  obtain rfl : f = 3 := Option.some.inj ((show Tryd.prog.funcNamed Rows.labelsKeysUptoRow.func = some 3 by kernel_rfl).symm.trans hf) |>.symm
  obtain rfl : fn = Tryd.f3 := (Option.some.inj (Tryd.func3.symm.trans hfn)).symm
  refine ⟨by kernel_rfl, fun j t ht => ?_⟩
  rw [Tryd.params3] at ht
  have hm : t ∈ [22] := by simpa using Array.mem_of_getElem? ht
  have hall : ([22].all fun u => !Tryd.prog.wantsStandIn u) = true := by kernel_rfl
  exact (show Tryd.prog.wantsStandIn t = false by simpa using List.all_eq_true.1 hall t hm)

theorem keys_card : Rows.LabelsKeysUptoCardSaid :=
  Claim7.holds_tied_plain_at .later [] _ _ _ _ keys_said (fun _ h => by cases h) (by kernel_rfl) (fun _ h => by cases h) labelsKeysUpto_row_tie rfl ⟨rfl, rfl⟩ (by kernel_rfl) rfl keys_plain (by kernel_rfl)
#print axioms keys_card
end Go.Proofs.YtjmninjaoemhjabDoor
