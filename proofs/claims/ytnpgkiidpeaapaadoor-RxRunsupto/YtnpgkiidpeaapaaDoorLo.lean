/- RxRuns: the walk. -/
import Derived.Test.YtnpgkiidpeaapaaDoorLv
import Derived.Test.YtnpgkiidpeaapaaDoorRb
import Derived.Test.YtnpgkiidpeaapaaDoorCards
import Derived.Test.YtnpgkiidpeaapaaDoorTie
import Derived.SizedLaws
import Derived.ProofKit
import Derived.OpenShut
import Derived.ShutString
import Derived.ChangeSlices
import Derived.ChangeSame
import Derived.ChangeOld
import Derived.Carry
import Derived.Deep.Slices
import Derived.PinnedBridge
import Derived.Lib.LaidU8
import Derived.Lay
import Derived.Deep.DeepHandedRow
namespace Go.Proofs.YtnpgkiidpeaapaaDoor
open Go.RowKit

set_option maxHeartbeats 4000000 in
set_option maxRecDepth 100000 in
theorem runs_walk (a : Option Addr) (len cap : Nat) (P : Nat → Py) (w : World) (hT : Lib.Utf8Tabs 0 1 w) (hP : Yml w a P len) (hl : len ≤ 1152921504606846976) :
    Calls Tryd.prog 3 #[.slice a len cap] w fun e w' => e = .returned (.bool true) ∧ Below w.heap.size w w' := by
  obtain ⟨W, hW⟩ : ∃ W, W = (w.alloc (.cells #[.int .i64 3, .int .i64 0, .int .i64 1, .int .i64 0, .slice none 0 0, .int .i64 1, .int .i64 0, .int .i64 0, .int .i64 0, .slice none 0 0] 25)).alloc (.cells #[.slice (some ⟨w.heap.size, 0, none⟩) 2 2, .int .i64 0, .int .i64 0, .slice none 0 0] 29) := ⟨_, rfl⟩
  have bW : Below w.heap.size w W := by rw [hW]; exact ((Below.refl _ w).alloc (Nat.le_refl _) _).alloc (by simp) _
  have bl0 : W.heap[w.heap.size]? = some (.cells #[.int .i64 3, .int .i64 0, .int .i64 1, .int .i64 0, .slice none 0 0, .int .i64 1, .int .i64 0, .int .i64 0, .int .i64 0, .slice none 0 0] 25) := by rw [hW]; exact heap_alloc2_old w _ _
  have nP : Nml W (some ⟨w.heap.size, 0, none⟩) xP 2 := by
    refine .inr ⟨w.heap.size, 0, rfl, (Array.getElem?_eq_some_iff.1 bl0).1, fun j hj => ?_⟩
    have hc : ∀ i, W.cell? ⟨w.heap.size, i, none⟩ = (#[.int .i64 3, .int .i64 0, .int .i64 1, .int .i64 0, .slice none 0 0, .int .i64 1, .int .i64 0, .int .i64 0, .int .i64 0, .slice none 0 0] : Array Value)[i]? := fun i => cell_of_row _ _ _ _ _ _ bl0
    match j, hj with
    | 0, _ => exact ⟨hc 0, hc 1, hc 2, hc 3, hc 4, .inl rfl, by show 0 * 8 ≤ _; omega⟩
    | 1, _ => exact ⟨hc 5, hc 6, hc 7, hc 8, hc 9, .inl rfl, by show 0 * 8 ≤ _; omega⟩
  have k1 := run_any (some ⟨w.heap.size, 0, none⟩) 2 2 0 0 none 0 0 xP ⟨#[]⟩ W nP (tabs_below hT (tabs_size hT) bW) (by omega) (by omega) (by show 0 ≤ _; omega)
  rw [hW] at k1
  have HT : Hid (Lib.Utf8Tabs 0 1 w) := hT
  have HP : Hid (Yml w a P len) := hP
  clear hT hP nP bl0
  go_enter Tryd.func3, Tryd.ntmps3
  go_wp2_with fail
  go_fit k1
  rintro e w1 ⟨r, v, hf, rfl, hO, b1⟩
  rw [← hW] at hO b1
  have b1' : Below w.heap.size w w1 := bW.trans (b1.mono bW.size)
  rw [plain_fd hf, plain_fin] at hO
  have o2 : Own w1.heap.size (w1.alloc (.cells #[.int .i64 0, .int .i64 0] 3)) (.slice (some ⟨w1.heap.size, 0, none⟩) 2 2) [0, 0] := World.ownsRow_lit w1 #[.int .i64 0, .int .i64 0] 2 (Nat.le_refl _) (by unfold maxLen; omega) (by simp)
  have k2 := same_owned _ _ v _ [0, 0] _ (World.ownsRow.alloc hO (.cells #[.int .i64 0, .int .i64 0] 3)) o2 (by show 2 ≤ maxLen; unfold maxLen; omega)
  clear k1 hf o2
  go_wp2_with fail
  go_fit k2
  rintro e w2 ⟨rfl, b2⟩
  have b2' : Below w.heap.size w w2 := b1'.trans ((((Below.refl _ _).alloc (Nat.le_refl _) _).trans (b2.mono (by simp))).mono b1'.size)
  have HB2 : Hid (Below w.heap.size w w2) := b2'
  clear k2 hO b1 b2 b1' b2' bW hW
  go_wp2_with fail
  go_loopg [25] len (fun g t V => ∃ j : Nat, j + g = len ∧ t = .int .i64 (j : Int) ∧ Hid (Below w.heap.size w V))
  case atStart => exact ⟨0, by omega, rfl, HB2⟩
  case round =>
    clear HB2
    obtain ⟨j, hjg, rfl, hb⟩ := hrel
    by_cases hlt : j < len
    · have hji : (j : Int) < (len : Int) := by omega
      obtain ⟨g, o, rfl, c0, c1, c2, c3, c4, ok⟩ := HP.out.at hb.out j hlt
      obtain ⟨D, hD⟩ : ∃ D, D = P j := ⟨_, rfl⟩
      rw [← hD] at c0 c1 c2 c3 c4 ok
      clear hD
      obtain ⟨ia, n, ic, st, gr, na, nn, nc, x, nm, tx⟩ := D
      dsimp only at c0 c1 c2 c3 c4
      obtain ⟨W1, hW1⟩ : ∃ W1, W1 = wr.alloc (.cells #[.slice ia n ic, .int .i64 st, .int .i64 gr, .slice na nn nc, .string tx] 34) := ⟨_, rfl⟩
      have bW1 : Below wr.heap.size wr W1 := by rw [hW1]; exact (Below.refl _ _).alloc (Nat.le_refl _) _
      have zW1 : W1.heap.size = wr.heap.size + 1 := by rw [hW1]; simp
      have blX : W1.heap[wr.heap.size]? = some (.cells #[.slice ia n ic, .int .i64 st, .int .i64 gr, .slice na nn nc, .string tx] 34) := by rw [hW1]; exact heap_alloc_new wr _
      have x0 : W1.cell? ⟨wr.heap.size, 0, none⟩ = some (.slice ia n ic) := cell_of_row _ _ _ _ _ _ blX
      have x1 : W1.cell? ⟨wr.heap.size, 1, none⟩ = some (.int .i64 st) := cell_of_row _ _ _ _ _ _ blX
      have x2 : W1.cell? ⟨wr.heap.size, 2, none⟩ = some (.int .i64 gr) := cell_of_row _ _ _ _ _ _ blX
      have x3 : W1.cell? ⟨wr.heap.size, 3, none⟩ = some (.slice na nn nc) := cell_of_row _ _ _ _ _ _ blX
      have x4 : W1.cell? ⟨wr.heap.size, 4, none⟩ = some (.string tx) := cell_of_row _ _ _ _ _ _ blX
      have ok1 : PyOk W1 _ := ok.below bW1
      have hn : n ≤ 1152921504606846976 := by have : n * 56 ≤ 140737488351232 := ok.hn; omega
      have hnn : nn ≤ 1152921504606846976 := by have : nn * 16 ≤ 140737488351232 := ok.hnn; omega
      have htx : tx.size ≤ 1048576 := ok.ht
      have HTX : Hid (tx.size ≤ 1048576) := htx
      have HNN : Hid (n ≤ 1152921504606846976 ∧ nn ≤ 1152921504606846976) := ⟨hn, hnn⟩
      have kc := copied_any ia n ic st gr na nn nc x nm W1 ok1.I ok1.N ok1.hna ok1.hra ok1.hn ok1.hnn
      have HW1 : Hid (W1 = wr.alloc (.cells #[.slice ia n ic, .int .i64 st, .int .i64 gr, .slice na nn nc, .string tx] 34)) := hW1
      have HX : Hid (∀ V, Below W1.heap.size W1 V → V.cell? ⟨wr.heap.size, 0, none⟩ = some (.slice ia n ic) ∧ V.cell? ⟨wr.heap.size, 1, none⟩ = some (.int .i64 st) ∧ V.cell? ⟨wr.heap.size, 2, none⟩ = some (.int .i64 gr) ∧ V.cell? ⟨wr.heap.size, 3, none⟩ = some (.slice na nn nc) ∧ V.cell? ⟨wr.heap.size, 4, none⟩ = some (.string tx)) := fun V hV => ⟨bcell2 hV x0, bcell2 hV x1, bcell2 hV x2, bcell2 hV x3, bcell2 hV x4⟩
      have HOK : Hid (PyOk W1 ⟨ia, n, ic, st, gr, na, nn, nc, x, nm, tx⟩) := ok1
      have HRN : Hid (∀ j, j < n → (x j).rn * 8 ≤ 140737488351232) := nml_rn ok1.I
      have HZ1 : Hid (W1.heap.size = wr.heap.size + 1) := zW1
      have HB1 : Hid (Below wr.heap.size wr W1) := bW1
      have HT1 : Hid (Lib.Utf8Tabs 0 1 W1) := tabs_below (tabs_below HT.out (tabs_size HT.out) hb.out) (tabs_size (tabs_below HT.out (tabs_size HT.out) hb.out)) bW1
      clear hW1 ok ok1 bW1 blX zW1 hn hnn htx
      go_upto_region 7 with fail
      rw [← HW1.out]
      clear HW1 c0 c1 c2 c3 c4
      go_wp2_with fail
      go_fit kc
      clear kc x0 x1 x2 x3 x4
      rintro e w3 ⟨Q, ng, nc', v, y, rfl, cq, hs3, b3, hng⟩
      obtain ⟨ga, gc, rfl, nY, hSm⟩ := cq_any cq HRN.out
      have HSm : Hid (Same n x y) := hSm
      obtain ⟨Z, hZ⟩ : ∃ Z, Z = w3.alloc (.cells #[.slice ga n gc, .int .i64 st, .int .i64 gr, .slice (some ⟨ng, 0, none⟩) nn nc'] 29) := ⟨_, rfl⟩
      have HZ : Hid (Z = w3.alloc (.cells #[.slice ga n gc, .int .i64 st, .int .i64 gr, .slice (some ⟨ng, 0, none⟩) nn nc'] 29)) := hZ
      have bZ3 : Below w3.heap.size w3 Z := by rw [hZ]; exact (Below.refl _ _).alloc (Nat.le_refl _) _
      have zZ : Z.heap.size = w3.heap.size + 1 := by rw [hZ]; simp
      have blY : Z.heap[w3.heap.size]? = some (.cells #[.slice ga n gc, .int .i64 st, .int .i64 gr, .slice (some ⟨ng, 0, none⟩) nn nc'] 29) := by rw [hZ]; exact heap_alloc_new w3 _
      have b1Z : Below W1.heap.size W1 Z := btr b3 bZ3
      have HY0 : Hid (∀ V, Below Z.heap.size Z V → V.cell? ⟨w3.heap.size, 0, none⟩ = some (.slice ga n gc) ∧ V.cell? ⟨w3.heap.size, 1, none⟩ = some (.int .i64 st) ∧ V.cell? ⟨w3.heap.size, 2, none⟩ = some (.int .i64 gr) ∧ V.cell? ⟨w3.heap.size, 3, none⟩ = some (.slice (some ⟨ng, 0, none⟩) nn nc')) := fun V hV => ⟨bcell2 hV (cell_of_row _ _ _ _ _ _ blY), bcell2 hV (cell_of_row _ _ _ _ _ _ blY), bcell2 hV (cell_of_row _ _ _ _ _ _ blY), bcell2 hV (cell_of_row _ _ _ _ _ _ blY)⟩
      have HR : Hid (∀ V, Below Z.heap.size Z V → Nml V ia x n ∧ Nml V ga y n ∧ Sml V na nm nn ∧ Sml V (some ⟨ng, 0, none⟩) nm nn ∧ Lib.Utf8Tabs 0 1 V) := fun V hV => ⟨HOK.out.I.below (btr b1Z hV), nY.below (btr bZ3 hV), HOK.out.N.below (btr b1Z hV), hs3.below (btr bZ3 hV), tabs_below HT1.out (tabs_size HT1.out) (btr b1Z hV)⟩
      have HX0 : Hid (∀ V, Below Z.heap.size Z V → V.cell? ⟨wr.heap.size, 0, none⟩ = some (.slice ia n ic) ∧ V.cell? ⟨wr.heap.size, 1, none⟩ = some (.int .i64 st) ∧ V.cell? ⟨wr.heap.size, 2, none⟩ = some (.int .i64 gr) ∧ V.cell? ⟨wr.heap.size, 3, none⟩ = some (.slice na nn nc) ∧ V.cell? ⟨wr.heap.size, 4, none⟩ = some (.string tx)) := fun V hV => HX.out V (btr b1Z hV)
      have HRow : Hid (∀ V, Below Z.heap.size Z V → V.ownsRow W1.heap.size 25 5 (.slice ga n gc) n (n5 y n)) := fun V hV => (Kp.of (M := fun _ => False) (btr bZ3 hV)).row cq.row (fun _ _ => id)
      have HG : Hid (wr.heap.size < W1.heap.size ∧ W1.heap.size ≤ w3.heap.size ∧ w3.heap.size < Z.heap.size ∧ ∀ g, (Value.slice ga n gc).ownBlock = some g → W1.heap.size ≤ g ∧ g < w3.heap.size) := ⟨by have := HZ1.out; omega, b3.size, by omega, fun g e => row_lt cq.row g e⟩
      have HBZ : Hid (∀ V, Below Z.heap.size Z V → Below w.heap.size w V) := fun V hV => hb.out.trans (((HB1.out.trans (btr b1Z hV |>.mono HB1.out.size))).mono hb.out.size)
      clear cq hs3 b3 hng nY hSm hZ bZ3 zZ blY b1Z
      go_upto_region 8 with fail
      rw [← HZ.out]
      clear HZ
      have B0 : Hid (Below Z.heap.size Z Z) := Below.refl _ _
      obtain ⟨x0, x1, x2, x3, x4⟩ := HX0.out Z B0.out
      have kc := rrun_any ia n ic st gr na nn nc x tx Z (HR.out Z B0.out).1 HNN.out.1 HNN.out.2 (by have := HTX.out; omega)
      go_wp2_with fail
      go_fit kc
      clear kc x0 x1 x2 x3 x4 
      rintro e V1 ⟨r, vw, f, rfl, o, s⟩
      have Tw : Hid (TA Z.heap.size x n st gr nn tx V1 vw) := ⟨r, f, o⟩
      have S0 : Hid (Below Z.heap.size Z V1) := s
      have B1 : Hid (Below Z.heap.size Z V1) := btr B0.out s
      clear f o s r
      obtain ⟨_, _, _, _, x4⟩ := HX0.out V1 B1.out
      obtain ⟨y0, y1, y2, y3⟩ := HY0.out V1 B1.out
      have kc := run_any ga n gc st gr (some ⟨ng, 0, none⟩) nn nc' y tx V1 (HR.out V1 B1.out).2.1 (HR.out V1 B1.out).2.2.2.2 HNN.out.1 HNN.out.2 (by have := HTX.out; omega)
      go_wp2_with fail
      go_fit kc
      clear kc x4 y0 y1 y2 y3
      rintro e V2 ⟨r, va, f, rfl, o, s⟩
      have Ta : Hid (TA V1.heap.size x n st gr nn tx V2 va) := TA.of HSm.out f o
      have S1 : Hid (Below V1.heap.size V1 V2) := s
      have B2 : Hid (Below Z.heap.size Z V2) := btr B1.out s
      clear f o s r
      obtain ⟨_, _, _, _, x4⟩ := HX0.out V2 B2.out
      obtain ⟨y0, y1, y2, y3⟩ := HY0.out V2 B2.out
      have kc := run_any ga n gc st gr (some ⟨ng, 0, none⟩) nn nc' y tx V2 (HR.out V2 B2.out).2.1 (HR.out V2 B2.out).2.2.2.2 HNN.out.1 HNN.out.2 (by have := HTX.out; omega)
      go_wp2_with fail
      go_fit kc
      clear kc x4 y0 y1 y2 y3
      rintro e V3 ⟨r, vb, f, rfl, o, s⟩
      have Tb : Hid (TA V2.heap.size x n st gr nn tx V3 vb) := TA.of HSm.out f o
      have S2 : Hid (Below V2.heap.size V2 V3) := s
      have B3 : Hid (Below Z.heap.size Z V3) := btr B2.out s
      clear f o s r
      obtain ⟨_, _, _, _, x4⟩ := HX0.out V3 B3.out
      obtain ⟨y0, y1, y2, y3⟩ := HY0.out V3 B3.out
      have kc := run_any ga n gc st gr (some ⟨ng, 0, none⟩) nn nc' y ((⟨#[97]⟩ : ByteArray) ++ tx) V3 (HR.out V3 B3.out).2.1 (HR.out V3 B3.out).2.2.2.2 HNN.out.1 HNN.out.2 (by have := HTX.out; rw [ByteArray.size_append]; show 1 + tx.size ≤ _; omega)
      have hl9 : ¬ 9223372036854775807 < 1 + tx.size := by have := HTX.out; omega
      go_wp2_with fail
      go_fit kc
      clear kc hl9 x4 y0 y1 y2 y3
      rintro e V4 ⟨r, vc, f, rfl, o, s⟩
      have Tc : Hid (TA V3.heap.size x n st gr nn ((⟨#[97]⟩ : ByteArray) ++ tx) V4 vc) := TA.of HSm.out f o
      have S3 : Hid (Below V3.heap.size V3 V4) := s
      have B4 : Hid (Below Z.heap.size Z V4) := btr B3.out s
      clear f o s r
      obtain ⟨_, _, _, _, x4⟩ := HX0.out V4 B4.out
      obtain ⟨y0, y1, y2, y3⟩ := HY0.out V4 B4.out
      have kc := run_any ga n gc st gr (some ⟨ng, 0, none⟩) nn nc' y tx V4 (HR.out V4 B4.out).2.1 (HR.out V4 B4.out).2.2.2.2 HNN.out.1 HNN.out.2 (by have := HTX.out; omega)
      go_wp2_with fail
      go_fit kc
      clear kc x4 y0 y1 y2 y3
      rintro e V5 ⟨r, vd, f, rfl, o, s⟩
      have Td : Hid (TA V4.heap.size x n st gr nn tx V5 vd) := TA.of HSm.out f o
      have S4 : Hid (Below V4.heap.size V4 V5) := s
      have B5 : Hid (Below Z.heap.size Z V5) := btr B4.out s
      clear f o s r
      have kc := TA.same (Ta.out.low (btr (btr S2.out S3.out) S4.out)) (Tw.out.low (btr (btr (btr S1.out S2.out) S3.out) S4.out))
      go_wp2_with fail
      go_fit kc
      clear kc
      rintro e V6 ⟨rfl, s⟩
      have S5 : Hid (Below V5.heap.size V5 V6) := s
      have B6 : Hid (Below Z.heap.size Z V6) := btr B5.out s
      clear s
      have kc := TA.same (Tb.out.low (btr (btr S3.out S4.out) S5.out)) (Tw.out.low (btr (btr (btr (btr S1.out S2.out) S3.out) S4.out) S5.out))
      go_wp2_with fail
      go_fit kc
      clear kc
      rintro e V7 ⟨rfl, s⟩
      have S6 : Hid (Below V6.heap.size V6 V7) := s
      have B7 : Hid (Below Z.heap.size Z V7) := btr B6.out s
      clear s
      obtain ⟨x0, x1, x2, x3, x4⟩ := HX0.out V7 B7.out
      have kc := rrun_any ia n ic st gr na nn nc x ((⟨#[97]⟩ : ByteArray) ++ tx) V7 (HR.out V7 B7.out).1 HNN.out.1 HNN.out.2 (by have := HTX.out; rw [ByteArray.size_append]; show 1 + tx.size ≤ _; omega)
      have hl9 : ¬ 9223372036854775807 < 1 + tx.size := by have := HTX.out; omega
      go_wp2_with fail
      go_fit kc
      clear kc hl9 x0 x1 x2 x3 x4 
      rintro e V8 ⟨r, vq, f, rfl, o, s⟩
      have Tq : Hid (TA V7.heap.size x n st gr nn ((⟨#[97]⟩ : ByteArray) ++ tx) V8 vq) := ⟨r, f, o⟩
      have S7 : Hid (Below V7.heap.size V7 V8) := s
      have B8 : Hid (Below Z.heap.size Z V8) := btr B7.out s
      clear f o s r
      have kc := TA.same (Tc.out.low (btr (btr (btr S4.out S5.out) S6.out) S7.out)) Tq.out
      go_wp2_with fail
      go_fit kc
      clear kc
      rintro e V9 ⟨rfl, s⟩
      have S8 : Hid (Below V8.heap.size V8 V9) := s
      have B9 : Hid (Below Z.heap.size Z V9) := btr B8.out s
      clear s
      have kc := TA.same (Td.out.low (btr (btr (btr S5.out S6.out) S7.out) S8.out)) (Tw.out.low (btr (btr (btr (btr (btr (btr (btr S1.out S2.out) S3.out) S4.out) S5.out) S6.out) S7.out) S8.out))
      go_wp2_with fail
      go_fit kc
      clear kc
      rintro e V10 ⟨rfl, s⟩
      have S9 : Hid (Below V9.heap.size V9 V10) := s
      have B10 : Hid (Below Z.heap.size Z V10) := btr B9.out s
      clear s
      obtain ⟨w0, hw0⟩ : ∃ w0 : World, w0 = wr := ⟨wr, rfl⟩
      subst hw0
      obtain ⟨ra, fa, oa⟩ := Ta.out
      obtain ⟨rb, fb, ob⟩ := Tb.out
      obtain ⟨rc, fc, oc⟩ := Tc.out
      obtain ⟨rd, fd, od⟩ := Td.out
      obtain ⟨aa, la, ca, rfl⟩ := own_form oa
      obtain ⟨ab, lb, cb, rfl⟩ := own_form ob
      obtain ⟨ac, lc, cc, rfl⟩ := own_form oc
      obtain ⟨ad, ld, cd, rfl⟩ := own_form od
      have R4 := four_rows V10 V1.heap.size V2.heap.size V3.heap.size V4.heap.size V5.heap.size (.slice aa la ca) (.slice ab lb cb) (.slice ac lc cc) (.slice ad ld cd) (fin tx gr ra) (fin tx gr rb) (fin ((⟨#[97]⟩ : ByteArray) ++ tx) gr rc) (fin tx gr rd) (oa.low (btr (btr (btr (btr (btr (btr (btr S2.out S3.out) S4.out) S5.out) S6.out) S7.out) S8.out) S9.out)) (ob.low (btr (btr (btr (btr (btr (btr S3.out S4.out) S5.out) S6.out) S7.out) S8.out) S9.out)) (oc.low (btr (btr (btr (btr (btr S4.out S5.out) S6.out) S7.out) S8.out) S9.out)) (od.low (btr (btr (btr (btr S5.out S6.out) S7.out) S8.out) S9.out)) (fun g e => (oa.blk g e).2) (fun g e => (ob.blk g e).2) (fun g e => (oc.blk g e).2) (fun g e => (od.blk g e).2) S1.out.size S2.out.size S3.out.size S4.out.size ((btr (btr (btr (btr S5.out S6.out) S7.out) S8.out) S9.out)).size
      have hX4 : ∀ i, i < 4 → (xF (fin tx gr ra) (fin tx gr rb) (fin ((⟨#[97]⟩ : ByteArray) ++ tx) gr rc) (fin tx gr rd) i).length ≤ 1048577 := fun i hi => by
        match i, hi with
        | 0, _ => exact fin_len _ _ _ fa.gr
        | 1, _ => exact fin_len _ _ _ fb.gr
        | 2, _ => exact fin_len _ _ _ fc.gr
        | 3, _ => exact fin_len _ _ _ fd.gr
      have kc := apart_any _ _ _ _ _ _ hX4 R4.1 R4.2
      have BW10 : Hid (Below V1.heap.size V1 (V10.alloc (.cells #[.slice aa la ca, .slice ab lb cb, .slice ac lc cc, .slice ad ld cd] 31))) := ((btr (btr (btr (btr (btr (btr (btr (btr S1.out S2.out) S3.out) S4.out) S5.out) S6.out) S7.out) S8.out) S9.out)).alloc ((btr (btr (btr (btr (btr (btr (btr (btr S1.out S2.out) S3.out) S4.out) S5.out) S6.out) S7.out) S8.out) S9.out)).size _
      clear R4 hX4 fa fb fc fd oa ob oc od ra rb rc rd
      go_wp2_with fail
      go_fit kc
      clear kc
      rintro e V11 ⟨rfl, s⟩
      have BW11 : Hid (Below V1.heap.size V1 V11) := BW10.out.trans s
      have B11 : Hid (Below Z.heap.size Z V11) := S0.out.trans (BW11.out.mono S0.out.size)
      clear s
      obtain ⟨x0, x1, x2, x3, x4⟩ := HX0.out V11 B11.out
      obtain ⟨y0, y1, y2, y3⟩ := HY0.out V11 B11.out
      have kc := unchanged_true ga ia n gc ic st gr (some ⟨ng, 0, none⟩) na nn nc' nc x y nm V11 (HR.out V11 B11.out).2.1 (HR.out V11 B11.out).1 HSm.out (HR.out V11 B11.out).2.2.2.1 (HR.out V11 B11.out).2.2.1 HNN.out.1 HNN.out.2
      go_wp2_with fail
      go_fit kc
      clear kc x0 x1 x2 x3 x4 y0 y1 y2 y3
      rintro e V12 ⟨rfl, s⟩
      have BW12 : Hid (Below V1.heap.size V1 V12) := BW11.out.trans (s.mono BW11.out.size)
      have B12 : Hid (Below Z.heap.size Z V12) := btr B11.out s
      clear s
      obtain ⟨_, _, _, _, x4⟩ := HX0.out V12 B12.out
      obtain ⟨y0, y1, y2, y3⟩ := HY0.out V12 B12.out
      have kc := run_any ga n gc st gr (some ⟨ng, 0, none⟩) nn nc' y tx V12 (HR.out V12 B12.out).2.1 (HR.out V12 B12.out).2.2.2.2 HNN.out.1 HNN.out.2 (by have := HTX.out; omega)
      go_wp2_with fail
      go_fit kc
      clear kc x4 y0 y1 y2 y3
      rintro e V13 ⟨r, ve, f, rfl, o, s⟩
      have Te : Hid (TA V12.heap.size x n st gr nn tx V13 ve) := TA.of HSm.out f o
      have BW13 : Hid (Below V1.heap.size V1 V13) := BW12.out.trans (s.mono BW12.out.size)
      have B13 : Hid (Below Z.heap.size Z V13) := btr B12.out s
      have Tw13 : Hid (TA Z.heap.size x n st gr nn tx V13 vw) := Tw.out.low BW13.out
      have Z12 : Hid (Z.heap.size ≤ V12.heap.size) := B12.out.size
      clear f o s r Ta Tb Tc Td Tq Tw BW10 BW11 BW12 BW13 B0 B1 B2 B3 B4 B5 B6 B7 B8 B9 B10 B11 B12 S0 S1 S2 S3 S4 S5 S6 S7 S8 S9
      obtain ⟨y0, _, _, _⟩ := HY0.out V13 B13.out
      go_wp2_with fail
      clear y0
      go_loopg [102] n (fun g t V => ∃ i : Nat, i + g = n ∧ t = .int .i64 (i : Int) ∧ Hid (Kp (fun q => (Value.slice ga n gc).ownBlock = some q) V13 V ∧ V.ownsRow W1.heap.size 25 5 (.slice ga n gc) n (n5 (ovr y i) n)))
      case atStart => exact ⟨0, by omega, rfl, Kp.refl _ _, by rw [ovr_zero]; exact HRow.out V13 B13.out⟩
      case round =>
        obtain ⟨i, hig, rfl, hK⟩ := hrel
        obtain ⟨y0, y1, y2, y3⟩ := HY0.out V13 B13.out
        obtain ⟨_, _, _, _, x4⟩ := HX0.out V13 B13.out
        have nY : ¬ (Value.slice ga n gc).ownBlock = some w3.heap.size := fun e => by have := HG.out.2.2.2 _ e; omega
        have nX : ¬ (Value.slice ga n gc).ownBlock = some w0.heap.size := fun e => by have := HG.out.2.2.2 _ e; have := HG.out.1; omega
        have y0 := hK.out.1.cell y0 nY
        have y1 := hK.out.1.cell y1 nY
        have y2 := hK.out.1.cell y2 nY
        have y3 := hK.out.1.cell y3 nY
        have x4 := hK.out.1.cell x4 nX
        by_cases hil : i < n
        · have hii : (i : Int) < (n : Int) := by omega
          obtain ⟨q, rfl⟩ := row_some hK.out.2 (by omega)
          obtain ⟨c0, c1, c2, c3, c4, fz⟩ := n5_cells hK.out.2 i hil
          have f0 := fz (i * 5)
          have f1 := fz (i * 5 + 1)
          have f2 := fz (i * 5 + 2)
          have f3 := fz (i * 5 + 3)
          have f4 := fz (i * 5 + 4)
          have hK2 : Hid (Kp (fun q' => (Value.slice (some ⟨q, 0, none⟩) n gc).ownBlock = some q') V13 (((((wr.setCell ⟨q, i * 5, none⟩ (.int .i64 1)).setCell ⟨q, i * 5 + 1, none⟩ (.int .i64 0)).setCell ⟨q, i * 5 + 2, none⟩ (.int .i64 0)).setCell ⟨q, i * 5 + 3, none⟩ (.int .i64 0)).setCell ⟨q, i * 5 + 4, none⟩ (.slice none 0 0)) ∧ (((((wr.setCell ⟨q, i * 5, none⟩ (.int .i64 1)).setCell ⟨q, i * 5 + 1, none⟩ (.int .i64 0)).setCell ⟨q, i * 5 + 2, none⟩ (.int .i64 0)).setCell ⟨q, i * 5 + 3, none⟩ (.int .i64 0)).setCell ⟨q, i * 5 + 4, none⟩ (.slice none 0 0)).ownsRow W1.heap.size 25 5 (.slice (some ⟨q, 0, none⟩) n gc) n (n5 (ovr y (i + 1)) n)) := ⟨((((hK.out.1.setCell (p := ⟨q, i * 5, none⟩) rfl _).setCell (p := ⟨q, i * 5 + 1, none⟩) rfl _).setCell (p := ⟨q, i * 5 + 2, none⟩) rfl _).setCell (p := ⟨q, i * 5 + 3, none⟩) rfl _).setCell (p := ⟨q, i * 5 + 4, none⟩) rfl _, by have h5 := ov_store hK.out.2 i hil; rw [ovr_succ] at h5; exact h5⟩
          have hn9 : n ≤ 1152921504606846976 := HNN.out.1
          clear hK y1 y2 y3 x4 nX nY fz
          go_wp2
          go_roundg (n - (i + 1))
          case measure => omega
          case rel => exact ⟨i + 1, by omega, by have := HNN.out.1; go_num, hK2⟩
        · have hii : ¬ (i : Int) < (n : Int) := by omega
          obtain ⟨V14, hV14⟩ : ∃ V14 : World, V14 = wr := ⟨wr, rfl⟩
          subst hV14
          have hin : i = n := by omega
          have nO : Nml V14 ga (fun _ => one) n := ov_any (by have := hK.out.2; rw [hin] at this; exact this)
          have bK : Below W1.heap.size V13 V14 := hK.out.1.below (by have := B13.out.size; have := HG.out.2; omega) (fun k hk e => by have := HG.out.2.2.2 _ e; omega)
          have t14 : Lib.Utf8Tabs 0 1 V14 := tabs_below (HR.out V13 B13.out).2.2.2.2 (tabs_size HT1.out) bK
          have TE : Hid (TA V12.heap.size x n st gr nn tx V14 ve) := Te.out.kp hK.out.1 (fun g e h => by have := (Te.out.blk g e).1; have := HG.out.2.2.2 _ h; have := HG.out.2.2.1; have := Z12.out; omega)
          have TW : Hid (TA Z.heap.size x n st gr nn tx V14 vw) := Tw13.out.kp hK.out.1 (fun g e h => by have := (Tw13.out.blk g e).1; have := HG.out.2.2.2 _ h; have := HG.out.2.2.1; omega)
          have kE : Hid (∀ V, Below V14.heap.size V14 V → Calls Tryd.prog 4 #[ve, vw] V fun e w' => e = .returned (.bool true) ∧ Below V.heap.size V w') := fun V h => TA.same (TE.out.low h) (TW.out.low h)
          have kR : Hid (∀ V, Below V14.heap.size V14 V → Calls Tryd.prog 5 #[.agg #[.slice ga n gc, .int .i64 st, .int .i64 gr, .slice (some ⟨ng, 0, none⟩) nn nc'], .string tx] V fun e w' => ∃ r v, Fd (fun _ => one) n st gr nn tx r ∧ e = .returned v ∧ Own V.heap.size w' v (fin tx gr r) ∧ Below V.heap.size V w') := fun V h => run_any ga n gc st gr (some ⟨ng, 0, none⟩) nn nc' (fun _ => one) tx V (nO.below h) (tabs_below t14 (tabs_size t14) h) HNN.out.1 HNN.out.2 (by have := HTX.out; omega)
          have kQ : Hid (∀ V, Below V14.heap.size V14 V → Calls Tryd.prog 7 #[.agg #[.slice ga n gc, .int .i64 st, .int .i64 gr, .slice (some ⟨ng, 0, none⟩) nn nc'], .string tx] V fun e w' => ∃ r v, Fd (fun _ => one) n st gr nn tx r ∧ e = .returned v ∧ Own V.heap.size w' v (fin tx gr r) ∧ Below V.heap.size V w') := fun V h => rrun_any ga n gc st gr (some ⟨ng, 0, none⟩) nn nc' (fun _ => one) tx V (nO.below h) HNN.out.1 HNN.out.2 (by have := HTX.out; omega)
          have HK5 : Hid (∀ V, Below V14.heap.size V14 V → V.cell? ⟨w3.heap.size, 0, none⟩ = some (.slice ga n gc) ∧ V.cell? ⟨w3.heap.size, 1, none⟩ = some (.int .i64 st) ∧ V.cell? ⟨w3.heap.size, 2, none⟩ = some (.int .i64 gr) ∧ V.cell? ⟨w3.heap.size, 3, none⟩ = some (.slice (some ⟨ng, 0, none⟩) nn nc') ∧ V.cell? ⟨w0.heap.size, 4, none⟩ = some (.string tx) ∧ Below V14.heap.size V14 V) := fun V h => ⟨bcell2 h y0, bcell2 h y1, bcell2 h y2, bcell2 h y3, bcell2 h x4, h⟩
          have HBV : Hid (∀ V, Below V14.heap.size V14 V → Below w.heap.size w V) := fun V h => by
            have h1 := HBZ.out V13 B13.out
            have h2 : Below w.heap.size V13 V14 := bK.mono (by have := HG.out.1; have := hb.out.size; omega)
            exact (h1.trans h2).trans (h.mono (h1.trans h2).size)
          clear hK nO bK t14 nX nY Te Tw13 TE TW HX0 HY0 HR HRow hin
          go_wp2_with fail
          have bD : Below V14.heap.size V14 V14.drew := (Below.refl _ _).drew
          go_region_held3 (fun w' => w'.cell? ⟨w3.heap.size, 0, none⟩ = some (.slice ga n gc) ∧ w'.cell? ⟨w3.heap.size, 1, none⟩ = some (.int .i64 st) ∧ w'.cell? ⟨w3.heap.size, 2, none⟩ = some (.int .i64 gr) ∧ w'.cell? ⟨w3.heap.size, 3, none⟩ = some (.slice (some ⟨ng, 0, none⟩) nn nc') ∧ w'.cell? ⟨w0.heap.size, 4, none⟩ = some (.string tx) ∧ Below V14.heap.size V14 w') (first | exact HK5.out _ (by assumption) | exact HK5.out _ (Below.refl _ _).drew | exact HK5.out _ (Below.refl _ _)) (first | (go_at_call 4; go_fit (kE.out _ (by assumption)); rintro e w4 ⟨rfl, b4⟩; have q4 : Below V14.heap.size V14 w4 := btr (by assumption) b4) | (go_at_call 5; go_fit (kR.out _ (by assumption)); rintro e w5 ⟨r1, v1, f1, rfl, o1, b5⟩; have q5 : Below V14.heap.size V14 w5 := btr (by assumption) b5; have T1 : Hid (∃ B, TA B (fun _ => one) n st gr nn tx w5 v1) := ⟨_, r1, f1, o1⟩; clear f1 o1) | (go_at_call 7; go_fit (kQ.out _ (by assumption)); rintro e w6 ⟨r2, v2, f2, rfl, o2, b6⟩; have q6 : Below V14.heap.size V14 w6 := btr (by assumption) b6; have T2 : Hid (∃ B, TA B (fun _ => one) n st gr nn tx w6 v2) := ⟨_, r2, f2, o2⟩; have T3 : Hid (∃ B, TA B (fun _ => one) n st gr nn tx w6 v1) := (match T1.out with | ⟨B, t⟩ => ⟨B, t.low b6⟩); have k4 : Hid (Calls Tryd.prog 4 #[v1, v2] w6 fun e w' => e = .returned (.bool true) ∧ Below w6.heap.size w6 w') := (match T3.out, T2.out with | ⟨B, t⟩, ⟨B', t'⟩ => TA.same t t'); clear f2 o2) | (go_at_call 4; go_fit k4.out; rintro e w7 ⟨rfl, b7⟩; have q7 : Below V14.heap.size V14 w7 := btr (by assumption) b7))
          have HBE : Hid _ := HBV.out _ q7
          clear HBV
          go_wp2
          go_roundg (len - (j + 1))
          case measure => omega
          case rel => exact ⟨j + 1, by omega, by go_num, HBE⟩
    · have hji : ¬ (j : Int) < (len : Int) := by omega
      go_wp2
      go_ret
      exact ⟨rfl, hb.out⟩
end Go.Proofs.YtnpgkiidpeaapaaDoor
/- RxRuns: plays that came in; the second form's row and its card. -/
namespace Go.Proofs.YtnpgkiidpeaapaaDoor
open Go.ChangeShapes Go.WideShapes Go.ChangeAt Go.RowKit Go.Lib
set_option maxRecDepth 100000

theorem own : ownKnob Tryd.prog.godebug = none := by kernel_rfl
theorem laidOut : laidOutB Tryd.prog = true := by kernel_rfl
theorem u8x : U8Extra Tryd.prog Tryd.lays260_ren := ⟨by kernel_rfl, by kernel_rfl, by kernel_rfl, by kernel_rfl, by kernel_rfl, by kernel_rfl, by kernel_rfl⟩
theorem acc_eq : (Rows.laid_unicode_utf8_acceptRanges : DataW Unit) = acceptData := by kernel_rfl

/-- The tables, as a plain name for the list that each row bears. -/
def laidL : List (String × DataW Unit) := Rows.rxRunsUptoRow.laid

theorem tabs_of {W : World} (h : laidMetH Tryd.prog laidL W) : Lib.Utf8Tabs 0 1 W := by
  rw [MakeChecks.laidMetH_plain _ _ _ (by kernel_rfl)] at h
  have h4 := Lib.laidMet.reads h (d := Rows.laid_unicode_utf8_acceptRanges) (.head _)
  have h3 := Lib.laidMet.reads h (d := Rows.laid_unicode_utf8_first) (.tail _ (.head _))
  rw [acc_eq] at h4
  have e3 : Rows.laid_unicode_utf8_first = firstData := Pinned.utf8First_eq
  rw [e3] at h3
  exact utf8Tabs_of_reads Tryd.lays260 u8x h3 h4
theorem bulk_mem {H : Type} : ∀ (l : List (DataW H)) (d : DataW H), d ∈ l → Rows.uptoBulk d ≤ Rows.uptoBulkAll l
  | x :: l, d, h => by
    rw [Rows.uptoBulkAll]
    rcases List.mem_cons.1 h with rfl | h
    · omega
    · have := bulk_mem l d h
      omega
theorem bulk_pos {H : Type} (d : DataW H) : 1 ≤ Rows.uptoBulk d := by
  unfold Rows.uptoBulk
  split <;> omega
theorem bulk_count {H : Type} : ∀ (l : List (DataW H)), l.length ≤ Rows.uptoBulkAll l
  | [] => by simp
  | x :: l => by
    have h1 := bulk_pos x
    have h2 := bulk_count l
    rw [Rows.uptoBulkAll, List.length_cons]
    omega
theorem ranges_open {H : Type} {enc : TypeId × Value → H} {W : World} {v : Value} {d : DataW H} {p : List MemPlace} {fuel : Nat}
    (hf : DataW.trod enc Tryd.prog W 0 (fun _ => true) true fuel 23 [v] = some (d, p)) (hz : Rows.uptoBulk d ≤ 1048576) :
    ∃ (a : Option Addr) (len cap : Nat) (f : Nat → Rg), v = .slice a len cap ∧ Rml W a f len ∧ len * 8 ≤ 140737488351232 ∧ (a = none → len = 0 ∧ cap = 0) := by
  rcases Go.Deep.open_slice Tryd.underlying23 hf with ⟨hcs, _⟩ | ⟨x, l, c, m, n, D, Pl, hcs, _, hl, hm, hmm, hd, hall⟩
  · simp at hcs
    exact ⟨none, 0, 0, fun _ => (0, 0), hcs, .inl rfl, by omega, fun _ => ⟨rfl, rfl⟩⟩
  · simp at hcs
    have hm' : m = c := by simpa using hmm
    subst hm'
    obtain ⟨rfl, _⟩ := Prod.mk.inj hd
    have hC : Tryd.prog.cellsOf 54 = 2 := by kernel_rfl
    have each : ∀ i, i < m → ∃ u : Rg, W.cell? (x.add (i * 2)) = some (.int .i32 u.1) ∧ W.cell? (x.add (i * 2 + 1)) = some (.int .i32 u.2) := by
      intro i hi
      obtain ⟨cs', h1, h2⟩ := hall i hi
      rw [hC] at h1
      obtain ⟨_, hlen, hcell⟩ := World.cells?_some h1
      obtain ⟨xs, k, hk, hxy, _, hxl, hff⟩ := DataW.trod_struct Tryd.underlying54 h2
      match xs, hxl, cs', hlen with
      | [y0, y1], _, [v0, v1], _ =>
        have g0 := hff 0 _ rfl
        have g1 := hff 1 _ rfl
        have c3 : Tryd.prog.cellsOf 21 = 1 := by kernel_rfl
        simp [c3] at g0 g1
        obtain ⟨t, e0, _, _⟩ := DataW.trod_int Tryd.underlying21 g0
        obtain ⟨s, e1, _, _⟩ := DataW.trod_int Tryd.underlying21 g1
        have q0 := hcell 0 (by omega)
        have q1 := hcell 1 (by omega)
        rw [Go.Deep.add_add] at q0 q1
        have w0 : v0 = .int .i32 t := by simpa using e0
        have w1 : v1 = .int .i32 s := by simpa using e1
        rw [w0, w1] at q0 q1
        exact ⟨(t, s), by simpa using q0, by simpa using q1⟩
    have hI : Inhabited Rg := ⟨(0, 0)⟩
    obtain ⟨ss, hss⟩ := Go.Deep.choose_lt each
    refine ⟨some x, l, m, ss, hcs, ?_, ?_, fun h => by cases h⟩
    · by_cases h0 : l = 0
      · exact .inl h0
      · right
        obtain ⟨g, o, sp⟩ := x
        have hsp : sp = none := by
          have := (hss 0 (by omega)).1
          simpa [Addr.add] using World.cell?_spot this
        subst hsp
        have h00 := (hss 0 (by omega)).1
        rw [Go.WideShapes.add_plain] at h00
        refine ⟨g, o, rfl, block_lt_of_cell h00, fun j hj => ?_⟩
        obtain ⟨q0, q1⟩ := hss j (by omega)
        rw [Go.WideShapes.add_plain] at q0 q1
        exact ⟨q0, by rw [Nat.add_assoc]; exact q1⟩
    · rw [Rows.uptoBulk] at hz
      have hc := bulk_count ((List.range l).map D)
      rw [List.length_map, List.length_range] at hc
      omega

theorem insts_open {H : Type} {enc : TypeId × Value → H} {W : World} {v : Value} {d : DataW H} {p : List MemPlace} {fuel : Nat}
    (hf : DataW.trod enc Tryd.prog W 0 (fun _ => true) true fuel 26 [v] = some (d, p)) (hz : Rows.uptoBulk d ≤ 1048576) :
    ∃ (a : Option Addr) (len cap : Nat) (x : Nat → In), v = .slice a len cap ∧ Nml W a x len ∧ len * 56 ≤ 140737488351232 ∧ (a = none → len = 0 ∧ cap = 0) ∧ ∀ j, j < len → (x j).ra = none → (x j).rn = 0 ∧ (x j).rc = 0 := by
  rcases Go.Deep.open_slice Tryd.underlying26 hf with ⟨hcs, _⟩ | ⟨x, l, c, m, n, D, Pl, hcs, _, hl, hm, hmm, hd, hall⟩
  · simp at hcs
    exact ⟨none, 0, 0, xP, hcs, .inl rfl, by omega, fun _ => ⟨rfl, rfl⟩, fun j hj => by omega⟩
  · simp at hcs
    have hm' : m = c := by simpa using hmm
    subst hm'
    obtain ⟨rfl, _⟩ := Prod.mk.inj hd
    have hC : Tryd.prog.cellsOf 25 = 5 := by kernel_rfl
    have each : ∀ i, i < l → ∃ u : In, (W.cell? (x.add (i * 5)) = some (.int .i64 u.op) ∧ W.cell? (x.add (i * 5 + 1)) = some (.int .i64 u.out) ∧ W.cell? (x.add (i * 5 + 2)) = some (.int .i64 u.alt) ∧ W.cell? (x.add (i * 5 + 3)) = some (.int .i64 u.arg) ∧ W.cell? (x.add (i * 5 + 4)) = some (.slice u.ra u.rn u.rc)) ∧ Rml W u.ra u.rf u.rn ∧ u.rn * 8 ≤ 140737488351232 ∧ (u.ra = none → u.rn = 0 ∧ u.rc = 0) := by
      intro i hi
      obtain ⟨cs', h1, h2⟩ := hall i (by omega)
      rw [hC] at h1
      obtain ⟨_, hlen, hcell⟩ := World.cells?_some h1
      obtain ⟨xs, k, hk, hxy, _, hxl, hff⟩ := DataW.trod_struct Tryd.underlying25 h2
      match xs, hxl, cs', hlen with
      | [y0, y1, y2, y3, y4], _, [v0, v1, v2, v3, v4], _ =>
        have g0 := hff 0 _ rfl
        have g1 := hff 1 _ rfl
        have g2 := hff 2 _ rfl
        have g3 := hff 3 _ rfl
        have g4 := hff 4 _ rfl
        have c3 : Tryd.prog.cellsOf 3 = 1 := by kernel_rfl
        have c27 : Tryd.prog.cellsOf 23 = 1 := by kernel_rfl
        simp [c3] at g0 g1 g2 g3
        simp [c27] at g4
        obtain ⟨t0, e0, _, _⟩ := DataW.trod_int Tryd.underlying3 g0
        obtain ⟨t1, e1, _, _⟩ := DataW.trod_int Tryd.underlying3 g1
        obtain ⟨t2, e2, _, _⟩ := DataW.trod_int Tryd.underlying3 g2
        obtain ⟨t3, e3, _, _⟩ := DataW.trod_int Tryd.underlying3 g3
        obtain ⟨d4, p4⟩ := y4
        have hDi : D i = .agg ([y0, y1, y2, y3, (d4, p4)].map (·.1)) := (Prod.mk.inj hxy).1
        obtain ⟨a, rn, rc, rf, ev, hR, hRb, hRz⟩ := ranges_open g4 (by
          have hz' := hz
          rw [Rows.uptoBulk] at hz'
          have hb := bulk_mem ((List.range l).map D) (D i) (List.mem_map.2 ⟨i, List.mem_range.2 hi, rfl⟩)
          rw [hDi, Rows.uptoBulk] at hb
          have h4 := bulk_mem ([y0, y1, y2, y3, (d4, p4)].map (·.1)) d4 (by simp)
          omega)
        have q0 := hcell 0 (by omega)
        have q1 := hcell 1 (by omega)
        have q2 := hcell 2 (by omega)
        have q3 := hcell 3 (by omega)
        have q4 := hcell 4 (by omega)
        rw [Go.Deep.add_add] at q0 q1 q2 q3 q4
        have w0 : v0 = .int .i64 t0 := by simpa using e0
        have w1 : v1 = .int .i64 t1 := by simpa using e1
        have w2 : v2 = .int .i64 t2 := by simpa using e2
        have w3 : v3 = .int .i64 t3 := by simpa using e3
        rw [w0, w1, w2, w3, ev] at q0 q1 q2 q3 q4
        exact ⟨⟨t0, t1, t2, t3, a, rn, rc, rf⟩, ⟨by simpa using q0, by simpa using q1, by simpa using q2, by simpa using q3, by simpa using q4⟩, hR, hRb, hRz⟩
    have hI : Inhabited In := ⟨xP 0⟩
    obtain ⟨ss, hss⟩ := Go.Deep.choose_lt each
    refine ⟨some x, l, m, ss, hcs, ?_, ?_, fun h => (by cases h), fun j hj => (hss j hj).2.2.2⟩
    · by_cases h0 : l = 0
      · exact .inl h0
      · right
        obtain ⟨g, o, sp⟩ := x
        have hsp : sp = none := by
          have := (hss 0 (by omega)).1.1
          simpa [Addr.add] using World.cell?_spot this
        subst hsp
        have h00 := (hss 0 (by omega)).1.1
        rw [Go.WideShapes.add_plain] at h00
        refine ⟨g, o, rfl, block_lt_of_cell h00, fun j hj => ?_⟩
        obtain ⟨⟨q0, q1, q2, q3, q4⟩, hR, hRb, _⟩ := hss j hj
        rw [Go.WideShapes.add_plain] at q0 q1 q2 q3 q4
        exact ⟨q0, by rw [Nat.add_assoc]; exact q1, by rw [Nat.add_assoc]; exact q2, by rw [Nat.add_assoc]; exact q3, by rw [Nat.add_assoc]; exact q4, hR, hRb⟩
    · rw [Rows.uptoBulk] at hz
      have hc := bulk_count ((List.range l).map D)
      rw [List.length_map, List.length_range] at hc
      omega

theorem names_open {H : Type} {enc : TypeId × Value → H} {W : World} {v : Value} {d : DataW H} {p : List MemPlace} {fuel : Nat}
    (hf : DataW.trod enc Tryd.prog W 0 (fun _ => true) true fuel 27 [v] = some (d, p)) (hz : Rows.uptoBulk d ≤ 1048576) :
    ∃ (a : Option Addr) (len cap : Nat) (s : Nat → ByteArray), v = .slice a len cap ∧ Sml W a s len ∧ len * 16 ≤ 140737488351232 ∧ (a = none → len = 0 ∧ cap = 0) := by
  rcases Go.Deep.open_slice1 Tryd.underlying27 (by kernel_rfl) hf with ⟨hcs, _⟩ | ⟨x, l, c, m, n, V, D, Pl, hcs, _, hl, hm, hmm, hd, hall⟩
  · simp at hcs
    exact ⟨none, 0, 0, fun _ => ByteArray.empty, hcs, .inl rfl, by omega, fun _ => ⟨rfl, rfl⟩⟩
  · simp at hcs
    have hm' : m = c := by simpa using hmm
    subst hm'
    obtain ⟨rfl, _⟩ := Prod.mk.inj hd
    have each : ∀ i, i < m → ∃ u : ByteArray, W.cell? (x.add i) = some (.string u) := by
      intro i hi
      obtain ⟨h1, h2⟩ := hall i hi
      obtain ⟨u, e, _, _⟩ := DataW.trod_string Tryd.underlying9 h2
      have e' : V i = .string u := by simpa using e
      exact ⟨u, by rw [h1, e']⟩
    have hI : Inhabited ByteArray := ⟨ByteArray.empty⟩
    obtain ⟨ss, hss⟩ := Go.Deep.choose_lt each
    refine ⟨some x, l, m, ss, hcs, ?_, ?_, fun h => by cases h⟩
    · by_cases h0 : l = 0
      · exact .inl h0
      · right
        obtain ⟨g, o, sp⟩ := x
        have hsp : sp = none := by
          have := hss 0 (by omega)
          simpa [Addr.add] using World.cell?_spot this
        subst hsp
        have h00 := hss 0 (by omega)
        rw [Go.WideShapes.add_plain] at h00
        refine ⟨g, o, rfl, block_lt_of_cell h00, fun j hj => ?_⟩
        have q0 := hss j (by omega)
        rw [Go.WideShapes.add_plain] at q0
        exact q0
    · rw [Rows.uptoBulk] at hz
      have hc := bulk_count ((List.range l).map D)
      rw [List.length_map, List.length_range] at hc
      omega

theorem prog_open {H : Type} {enc : TypeId × Value → H} {W : World} {cl : List Value} {d : DataW H} {p : List MemPlace} {fuel : Nat}
    (hf : DataW.trod enc Tryd.prog W 0 (fun _ => true) true fuel 29 cl = some (d, p)) (hz : Rows.uptoBulk d ≤ 1048576) :
    ∃ (ia : Option Addr) (n ic : Nat) (st gr : Int) (na : Option Addr) (nn nc : Nat) (x : Nat → In) (s : Nat → ByteArray), cl = [.slice ia n ic, .int .i64 st, .int .i64 gr, .slice na nn nc] ∧ Nml W ia x n ∧ Sml W na s nn ∧ (ia = none → n = 0 ∧ ic = 0) ∧ (na = none → nn = 0 ∧ nc = 0) ∧ (∀ j, j < n → (x j).ra = none → (x j).rn = 0 ∧ (x j).rc = 0) ∧ n * 56 ≤ 140737488351232 ∧ nn * 16 ≤ 140737488351232 := by
  obtain ⟨xs, k, hk, hxy, hcl, hxl, hff⟩ := DataW.trod_struct Tryd.underlying29 hf
  have h4 : Tryd.prog.cellsOf 29 = 4 := by kernel_rfl
  rw [h4] at hcl
  have g0 := hff 0 _ rfl
  have g1 := hff 1 _ rfl
  have g2 := hff 2 _ rfl
  have g3 := hff 3 _ rfl
  have c3 : Tryd.prog.cellsOf 3 = 1 := by kernel_rfl
  have c22 : Tryd.prog.cellsOf 26 = 1 := by kernel_rfl
  have c23 : Tryd.prog.cellsOf 27 = 1 := by kernel_rfl
  match xs, hxl, cl, hcl with
  | [(e0, p0), (e1, p1), (e2, p2), (e3, p3)], _, [v0, v1, v2, v3], _ =>
    simp [c22] at g0
    simp [c3] at g1 g2
    simp [c23] at g3
    have hd0 : d = .agg [e0, e1, e2, e3] := (Prod.mk.inj hxy).1
    have zz : ∀ e ∈ [e0, e1, e2, e3], Rows.uptoBulk e ≤ 1048576 := fun e he => by
      have h4 := bulk_mem _ e he
      rw [hd0, Rows.uptoBulk] at hz
      omega
    obtain ⟨ia, n, ic, x, e0', hx, hn, hzi, hzz⟩ := insts_open g0 (zz e0 (by simp))
    obtain ⟨st, ev1, _, _⟩ := DataW.trod_int Tryd.underlying3 g1
    obtain ⟨gr, ev2, _, _⟩ := DataW.trod_int Tryd.underlying3 g2
    obtain ⟨na, nn, nc, s, e3', hs, hnn, hzn⟩ := names_open g3 (zz e3 (by simp))
    have w1 : v1 = .int .i64 st := by simpa using ev1
    have w2 : v2 = .int .i64 gr := by simpa using ev2
    exact ⟨ia, n, ic, st, gr, na, nn, nc, x, s, by rw [e0', w1, w2, e3'], hx, hs, hzi, hzn, hzz, hn, hnn⟩


theorem plays_open {H : Type} {enc : TypeId × Value → H} {W : World} {v : Value} {d : DataW H} {p : List MemPlace} {fuel : Nat}
    (hf : DataW.trod enc Tryd.prog W 0 (fun _ => true) true fuel 22 [v] = some (d, p)) (hz : Rows.uptoBulk d ≤ 1048576) :
    ∃ (a : Option Addr) (len cap : Nat) (P : Nat → Py), v = .slice a len cap ∧ Yml W a P len ∧ len ≤ 1048576 := by
  rcases Go.Deep.open_slice Tryd.underlying22 hf with ⟨hcs, _⟩ | ⟨x, l, c, m, n, D, Pl, hcs, _, hl, hm, hmm, hd, hall⟩
  · simp at hcs
    exact ⟨none, 0, 0, fun _ => ⟨none, 0, 0, 0, 0, none, 0, 0, xP, fun _ => ByteArray.empty, ByteArray.empty⟩, hcs, .inl rfl, by omega⟩
  · simp at hcs
    have hm' : m = c := by simpa using hmm
    subst hm'
    obtain ⟨rfl, _⟩ := Prod.mk.inj hd
    have hC : Tryd.prog.cellsOf 34 = 5 := by kernel_rfl
    have each : ∀ i, i < l → ∃ u : Py, (W.cell? (x.add (i * 5)) = some (.slice u.ia u.n u.ic) ∧ W.cell? (x.add (i * 5 + 1)) = some (.int .i64 u.st) ∧ W.cell? (x.add (i * 5 + 2)) = some (.int .i64 u.gr) ∧ W.cell? (x.add (i * 5 + 3)) = some (.slice u.na u.nn u.nc) ∧ W.cell? (x.add (i * 5 + 4)) = some (.string u.tx)) ∧ PyOk W u := by
      intro i hi
      obtain ⟨cs', h1, h2⟩ := hall i (by omega)
      rw [hC] at h1
      obtain ⟨_, hlen, hcell⟩ := World.cells?_some h1
      obtain ⟨xs, k, hk, hxy, _, hxl, hff⟩ := DataW.trod_struct Tryd.underlying34 h2
      match xs, hxl, cs', hlen with
      | [(e0, p0), (e1, p1)], _, [v0, v1, v2, v3, v4], _ =>
        have g0 := hff 0 _ rfl
        have g1 := hff 1 _ rfl
        have c29 : Tryd.prog.cellsOf 29 = 4 := by kernel_rfl
        have c9 : Tryd.prog.cellsOf 9 = 1 := by kernel_rfl
        simp [c29] at g0
        simp [c9] at g1
        have hDi : D i = .agg ([(e0, p0), (e1, p1)].map (·.1)) := (Prod.mk.inj hxy).1
        have hz' := hz
        rw [Rows.uptoBulk] at hz'
        have hb := bulk_mem ((List.range l).map D) (D i) (List.mem_map.2 ⟨i, List.mem_range.2 hi, rfl⟩)
        rw [hDi, Rows.uptoBulk] at hb
        have hb0 := bulk_mem ([(e0, p0), (e1, p1)].map (·.1)) e0 (by simp)
        have hb1 := bulk_mem ([(e0, p0), (e1, p1)].map (·.1)) e1 (by simp)
        obtain ⟨ia, n', ic, st, gr, na, nn, nc, y, s, ecl, hx, hs, _, hzn, hzz, hn, hnn⟩ := prog_open g0 (by omega)
        obtain ⟨u, ev, ed, _⟩ := DataW.trod_string Tryd.underlying9 g1
        have hu : e1 = .lit (.string u.data.toList) := (Prod.mk.inj ed).1
        have hsz : u.size ≤ 1048576 := by
          have hbu : Rows.uptoBulk e1 = u.data.toList.length + 1 := by rw [hu, Rows.uptoBulk]
          have : u.size = u.data.toList.length := by simp
          omega
        have q0 := hcell 0 (by omega)
        have q1 := hcell 1 (by omega)
        have q2 := hcell 2 (by omega)
        have q3 := hcell 3 (by omega)
        have q4 := hcell 4 (by omega)
        rw [Go.Deep.add_add] at q0 q1 q2 q3 q4
        simp at ecl
        obtain ⟨w0, w1, w2, w3⟩ := ecl
        have w4 : v4 = .string u := by simpa using ev
        rw [w0] at q0
        rw [w1] at q1
        rw [w2] at q2
        rw [w3] at q3
        rw [w4] at q4
        exact ⟨⟨ia, n', ic, st, gr, na, nn, nc, y, s, u⟩, ⟨by simpa using q0, by simpa using q1, by simpa using q2, by simpa using q3, by simpa using q4⟩, hx, hs, hzn, hzz, hn, hnn, hsz⟩
    have hI : Inhabited Py := ⟨⟨none, 0, 0, 0, 0, none, 0, 0, xP, fun _ => ByteArray.empty, ByteArray.empty⟩⟩
    obtain ⟨ss, hss⟩ := Go.Deep.choose_lt each
    refine ⟨some x, l, m, ss, hcs, ?_, ?_⟩
    · by_cases h0 : l = 0
      · exact .inl h0
      · right
        obtain ⟨g, o, sp⟩ := x
        have hsp : sp = none := by
          have := (hss 0 (by omega)).1.1
          simpa [Addr.add] using World.cell?_spot this
        subst hsp
        have h00 := (hss 0 (by omega)).1.1
        rw [Go.WideShapes.add_plain] at h00
        refine ⟨g, o, rfl, block_lt_of_cell h00, fun j hj => ?_⟩
        obtain ⟨⟨q0, q1, q2, q3, q4⟩, hR⟩ := hss j hj
        rw [Go.WideShapes.add_plain] at q0 q1 q2 q3 q4
        exact ⟨q0, by rw [Nat.add_assoc]; exact q1, by rw [Nat.add_assoc]; exact q2, by rw [Nat.add_assoc]; exact q3, by rw [Nat.add_assoc]; exact q4, hR⟩
    · rw [Rows.uptoBulk] at hz
      have hc := bulk_count ((List.range l).map D)
      rw [List.length_map, List.length_range] at hc
      omega

theorem runs_laid (os : Os) : laidMet Tryd.prog laidL ((World.laidAll Tryd.prog os laidL).forCall (fun _ _ => 0) ⟨#[], #[.slice none 0 0], []⟩).memory :=
  laidMet_laidAll _ (by kernel_rfl) (by kernel_rfl)
theorem runs_reads (os : Os) {H : Type} (enc : TypeId × Value → H) : ∃ places, DataW.whole enc Tryd.prog ((World.laidAll Tryd.prog os laidL).forCall (fun _ _ => 0) ⟨#[], #[.slice none 0 0], []⟩).memory Tryd.f3.params.toList Rows.rxRunsSpec.vars false #[Value.slice none 0 0].toList 8 = some ([.nil], [], places) :=
  ⟨[], by kernel_rfl⟩

theorem runs_lifted (os : Os) (started : os.Started) (H : Type) (enc : TypeId × Value → H) (F : Stop.Interp) :
    ReturnsInHanded {} Tryd.checked os 3 .any ((Rows.OpenSpec.upto Rows.rxRunsSpec).preRow enc Tryd.prog Tryd.f3 Rows.rxRunsUptoRow.domain false laidL) (((Rows.OpenSpec.upto Rows.rxRunsSpec).at F).post enc Tryd.prog Tryd.f3 false true false false) := by
  obtain ⟨places, hx⟩ := runs_reads os enc
  have hok : Input.okWideB Tryd.checked.prog ((World.laidAll Tryd.prog os laidL).forCall (fun _ _ => 0) ⟨#[], #[.slice none 0 0], []⟩) 3 ⟨#[], #[.slice none 0 0], []⟩ = true := by kernel_rfl
  refine returnsInHanded_of_row (C := Tryd.checked) (s := Rows.OpenSpec.upto Rows.rxRunsSpec) own started (by kernel_rfl) Tryd.func3
    ⟨World.laidAll Tryd.prog os laidL, fun _ _ => 0, ⟨#[], #[.slice none 0 0], []⟩, World.laidAll_os _ _ _, World.shaped_of_ZipB (by kernel_rfl) (by kernel_rfl), (Input.okWide_of_okWideB (base := 0) hok).1, (Input.okWide_of_okWideB hok).2,
      OpenSpec.preRow_of_cond 8 hx (by kernel_rfl) (fun k hk => by cases hk; kernel_rfl) (by kernel_rfl) (runs_laid os), by
        simp only [Assume.holds]
        exact ⟨by simp, by simp, fun _ => Modest.zero, by simp, by simp⟩⟩ ?_
  intro W base args ds gs before hval0 hW _ hcond _ hL _ _
  have hval : ∀ (j : Nat) t v, Tryd.f3.params[j]? = some t → args[j]? = some v → Value.okWide Tryd.prog W .any base t v := hval0
  have hW' := hW
  obtain ⟨p, q, hA0, hV, rfl, _, _⟩ := hW
  have hA : DataW.TrodAll enc Tryd.prog W 0 (fun _ => true) true Tryd.f3.params.toList args.toList ds p := hA0
  rw [Tryd.params3] at hA hval
  obtain ⟨v0, d0, rfl, rfl, h0⟩ := trodAll_one hA
  obtain ⟨rfl, rfl⟩ := trodVars_none hV
  obtain ⟨a0, n0, c0, rfl⟩ := okWide_slice Tryd.underlying22 (hval 0 22 v0 rfl rfl)
  have k0 := h0
  have lt0 : ∀ x ∈ p, x.block < W.heap.size := by obtain ⟨m, hm⟩ := k0; exact DataW.trod_lt m _ _ _ hm
  have hT := tabs_of hL
  have hk := of_decide_eq_true (hcond _ rfl)
  simp only [Rows.uptoBulkAll, List.append_nil] at hk
  have walk : Calls Tryd.prog 3 #[.slice a0 n0 c0] W fun e w' => e = .returned (.bool true) ∧ Below W.heap.size W w' := by
    obtain ⟨fuel, hf0⟩ := h0
    have hf : DataW.trod enc Tryd.prog W 0 (fun _ => true) true fuel 22 [.slice a0 n0 c0] = some (d0, p) := hf0
    obtain ⟨a, len, cap, P, ev, hY, hlen⟩ := plays_open hf (by omega)
    rw [ev]
    exact runs_walk a len cap P W hT hY (by omega)
  refine walk.mono fun e W' ⟨he, bel⟩ => ?_
  subst he
  exact ⟨_, rfl, _, _, _, [], _, [], hW', trodAll_mk1 (shut_bool Tryd.underlying4 _), trodAll_mk1 (Below.trod laidOut (by kernel_rfl) (of_decide_eq_true (by kernel_rfl)) k0 bel lt0), rfl, bel.frame _, fun h => by cases h⟩

theorem runs_said : Rows.RxRunsUptoSaid :=
  OpenClaim.holds_of_cond 3 Tryd.f3 rfl rfl rfl rfl rfl rfl rfl ⟨rfl, rfl, rfl, rfl, rfl⟩ rfl rfl rfl rfl rfl (by kernel_rfl) Tryd.func3 (by kernel_rfl)
    (of_decide_eq_true (by kernel_rfl)) (by unfold Func.isWrapper; first | (rw [if_pos (by decide +kernel)]; kernel_rfl) | (rw [if_neg (by decide +kernel)]; exact ⟨rfl, rfl⟩))
    (fun os started H enc _ F => by rw [OpenClaim.pre_eq_preRow]; exact runs_lifted os started H enc F)

theorem runs_plain (f : FuncId) (fn : Func) (hf : Tryd.pinned.checked.prog.funcNamed Rows.rxRunsUptoRow.func = some f) (hfn : Tryd.pinned.checked.prog.funcs[f]? = some fn) :
    false = Tryd.pinned.checked.prog.looks [] ∧ ∀ (j : Nat) t, fn.params[j]? = some t → Tryd.pinned.checked.prog.wantsStandIn t = false := by
  obtain rfl : f = 3 := Option.some.inj ((show Tryd.prog.funcNamed Rows.rxRunsUptoRow.func = some 3 by kernel_rfl).symm.trans hf) |>.symm
  obtain rfl : fn = Tryd.f3 := (Option.some.inj (Tryd.func3.symm.trans hfn)).symm
  refine ⟨by kernel_rfl, fun j t ht => ?_⟩
  rw [Tryd.params3] at ht
  have hm : t ∈ [22] := by simpa using Array.mem_of_getElem? ht
  have hall : ([22].all fun u => !Tryd.prog.wantsStandIn u) = true := by kernel_rfl
  exact (show Tryd.prog.wantsStandIn t = false by simpa using List.all_eq_true.1 hall t hm)

theorem runs_card : Rows.RxRunsUptoCardSaid :=
  Claim7.holds_tied_plain_at .later [] _ _ _ _ runs_said (fun _ h => by cases h) (by kernel_rfl) (fun _ h => by cases h) rxRunsUpto_row_tie rfl ⟨rfl, rfl⟩ (by kernel_rfl) rfl runs_plain (by kernel_rfl)
#print axioms runs_card
end Go.Proofs.YtnpgkiidpeaapaaDoor
