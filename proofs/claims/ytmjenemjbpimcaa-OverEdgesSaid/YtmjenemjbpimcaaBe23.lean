/- A bundle of texts. -/
import Derived.Test.YtmjenemjbpimcaaBe22
/- OverEdges: the walk. -/
namespace Go.Proofs.Ytmjenemjbpimcaa
open Go.RowKit

theorem two_wins (W0 : World) (X Y : Obj) : (((W0.alloc X).alloc Y).drew.heap[W0.heap.size]? = some X ∧ ((W0.alloc X).alloc Y).drew.heap[W0.heap.size + 1]? = some Y) ∧ Below W0.heap.size W0 (((W0.alloc X).alloc Y).drew) ∧ (((W0.alloc X).alloc Y).drew).heap.size = W0.heap.size + 2 := by
  have f1 : (W0.alloc X).heap.size = W0.heap.size + 1 := by simp
  refine ⟨⟨((Go.MapKept.heap_alloc (W0.alloc X) Y).2 W0.heap.size (by omega)).trans (heap_alloc_new W0 X), heap_alloc_two W0 X Y⟩, (((Below.refl _ _).alloc (Nat.le_refl _) _).alloc (by simp) _).drew, by simp⟩
theorem wnC_of {w : World} {B : Nat} {a : Option Addr} {n c : Nat} {F T N : Int} (h : w.heap[B]? = some (wnX a n c F T N)) : ∀ W, Below w.heap.size w W → WnC a n c F T N B W := fun W b => by
  have hb : B < w.heap.size := (Array.getElem?_eq_some_iff.1 h).1
  exact ⟨bcell b (by unfold World.cell?; rw [h]; rfl) hb, bcell b (by unfold World.cell?; rw [h]; rfl) hb, bcell b (by unfold World.cell?; rw [h]; rfl) hb, bcell b (by unfold World.cell?; rw [h]; rfl) hb⟩
/-- A window and other edges, in a box. -/
abbrev otX (a : Option Addr) (n c : Nat) (F T N F2 T2 N2 : Int) : Obj := .cells #[.slice a n c, .int .i64 F, .int .i64 T, .int .i64 N, .int .i64 F2, .int .i64 T2, .int .i64 N2] 40
def r1 : ByteArray := ⟨#[114, 97, 116, 101]⟩
def r2 : ByteArray := ⟨#[105, 110, 99, 114, 101, 97, 115, 101]⟩
def r3 : ByteArray := ⟨#[100, 101, 108, 116, 97]⟩
theorem nm_edgy : ∀ k, k < 23 → (edgy k = true ↔ (fnAt k).1 = r1 ∨ (fnAt k).1 = r2 ∨ (fnAt k).1 = r3 ∨ (fnAt k).1 = q2) := by decide +kernel

set_option maxHeartbeats 16000000 in
set_option maxRecDepth 100000 in
theorem edges_walk (a : Option Addr) (n c : Nat) (F T N F2 T2 N2 : Int) (ss : Nat → Smp) (w : World) (h : HypW a n ss w) (hc : n ≤ c) :
    Calls Try.prog 6 #[.agg #[.slice a n c, .int .i64 F, .int .i64 T, .int .i64 N, .int .i64 F2, .int .i64 T2, .int .i64 N2]] w fun r w' => r = .returned (.bool true) ∧ Below w.heap.size w w' := by
  have HB0 : Hid (Below w.heap.size w (w.alloc (otX a n c F T N F2 T2 N2))) := (Below.refl _ w).alloc (Nat.le_refl _) _
  have e0 : (w.alloc (otX a n c F T N F2 T2 N2)).heap[w.heap.size]? = some (otX a n c F T N F2 T2 N2) := heap_alloc_new w _
  have HC : Hid (∀ W, Below (w.alloc (otX a n c F T N F2 T2 N2)).heap.size (w.alloc (otX a n c F T N F2 T2 N2)) W → W.cell? ⟨w.heap.size, 0, none⟩ = some (.slice a n c) ∧ W.cell? ⟨w.heap.size, 1, none⟩ = some (.int .i64 F) ∧ W.cell? ⟨w.heap.size, 2, none⟩ = some (.int .i64 T) ∧ W.cell? ⟨w.heap.size, 3, none⟩ = some (.int .i64 N) ∧ W.cell? ⟨w.heap.size, 4, none⟩ = some (.int .i64 F2) ∧ W.cell? ⟨w.heap.size, 5, none⟩ = some (.int .i64 T2) ∧ W.cell? ⟨w.heap.size, 6, none⟩ = some (.int .i64 N2)) := (show ∀ W, _ → _ from fun W b => by
    have hb : w.heap.size < (w.alloc (otX a n c F T N F2 T2 N2)).heap.size := by simp
    exact ⟨bcell b (by unfold World.cell?; rw [e0]; rfl) hb, bcell b (by unfold World.cell?; rw [e0]; rfl) hb, bcell b (by unfold World.cell?; rw [e0]; rfl) hb, bcell b (by unfold World.cell?; rw [e0]; rfl) hb, bcell b (by unfold World.cell?; rw [e0]; rfl) hb, bcell b (by unfold World.cell?; rw [e0]; rfl) hb, bcell b (by unfold World.cell?; rw [e0]; rfl) hb⟩)
  have HH : Hid (∀ W, Below w.heap.size w W → HypW a n ss W) := fun W b => h.below b
  have HL : Hid (n ≤ 9223372036854775807 ∧ n ≤ c ∧ 24 * n ≤ 140737488355328) := ⟨by have := h.2.2; omega, hc, h.2.2⟩
  clear e0 h hc
  go_enter Try.func6, Try.ntmps6
  go_wp2_with fail
  go_fit (alive_any _)
  rintro e w1 ⟨rfl, b1⟩
  obtain ⟨x0, x1, x2, x3, x4, x5, x6⟩ := HC.out w1 b1
  have B1 : Hid (Below w.heap.size w w1) := HB0.out.trans (b1.mono HB0.out.size)
  clear b1 HC HB0
  go_wp2_with fail
  go_region_held3 (fun w' => w'.cell? ⟨w.heap.size, 0, none⟩ = some (.slice a n c) ∧ w'.cell? ⟨w.heap.size, 1, none⟩ = some (.int .i64 F) ∧ w'.cell? ⟨w.heap.size, 2, none⟩ = some (.int .i64 T) ∧ w'.cell? ⟨w.heap.size, 3, none⟩ = some (.int .i64 N) ∧ w'.cell? ⟨w.heap.size, 4, none⟩ = some (.int .i64 F2) ∧ w'.cell? ⟨w.heap.size, 5, none⟩ = some (.int .i64 T2) ∧ w'.cell? ⟨w.heap.size, 6, none⟩ = some (.int .i64 N2)) (first | exact ⟨x0, x1, x2, x3, x4, x5, x6⟩ | assumption | go_keep) (fail)
  · rename_i hh
    clear hh
    obtain ⟨⟨g3, g4⟩, HB, hsz⟩ := two_wins w1 (wnX a n c F T N) (wnX a n c F2 T2 N2)
    obtain ⟨W1, hW1⟩ : ∃ W1, W1 = ((w1.alloc (wnX a n c F T N)).alloc (wnX a n c F2 T2 N2)).drew := ⟨_, rfl⟩
    rw [← hW1] at g3 g4 HB hsz
    dsimp only [wnX] at hW1
    rw [← hW1]
    clear hW1 x0 x1 x2 x3 x4 x5 x6
    have C3 : Hid (∀ W, Below W1.heap.size W1 W → WnC a n c F T N (w1.heap.size) W) := wnC_of g3
    have C4 : Hid (∀ W, Below W1.heap.size W1 W → WnC a n c F2 T2 N2 (w1.heap.size + 1) W) := wnC_of g4
    have BW : Hid (Below w.heap.size w W1) := B1.out.trans (HB.mono B1.out.size)
    clear g3 g4 HB hsz B1
    obtain ⟨pp, hpp⟩ : ∃ pp, pp = (w1.heap.size) := ⟨_, rfl⟩
    obtain ⟨qq, hqq⟩ : ∃ qq, qq = (w1.heap.size + 1) := ⟨_, rfl⟩
    rw [← hpp] at C3
    rw [← hqq] at C4
    rw [← hqq, ← hpp]
    clear hpp hqq
    obtain ⟨y0, y1, y2, y3⟩ := C3.out W1 (Below.refl _ _)
    have k13 := made_any a n c F T N ss W1 (HH.out W1 BW.out).1 HL.out.1
    go_wp2_with fail
    go_fit k13
    rintro e w2 ⟨m1, rfl, hm1, b2⟩
    have HM1 : Hid (m1 = true ↔ Snd ss n F T N) := hm1
    have B2 : Hid (Below W1.heap.size W1 w2) := b2
    clear k13 y0 y1 y2 y3 hm1 b2
    cases m1
    · have B9 : Hid (Below w.heap.size w w2) := BW.out.trans (B2.out.mono BW.out.size)
      go_wp2
      go_ret
      exact ⟨rfl, B9.out⟩
    obtain ⟨y0, y1, y2, y3⟩ := C4.out w2 B2.out
    have k13 := made_any a n c F2 T2 N2 ss w2 (HH.out w2 (BW.out.trans (B2.out.mono BW.out.size))).1 HL.out.1
    go_wp2_with fail
    go_fit k13
    rintro e w3 ⟨m2, rfl, hm2, b3⟩
    have HM2 : Hid (m2 = true ↔ Snd ss n F2 T2 N2) := hm2
    have B3 : Hid (Below W1.heap.size W1 w3) := B2.out.trans (b3.mono B2.out.size)
    clear k13 y0 y1 y2 y3 hm2 b3 B2
    cases m2
    · have B9 : Hid (Below w.heap.size w w3) := BW.out.trans (B3.out.mono BW.out.size)
      go_wp2
      go_ret
      exact ⟨rfl, B9.out⟩
    have HS : Hid (Snd ss n F T N ∧ Snd ss n F2 T2 N2) := ⟨by simpa using HM1.out, by simpa using HM2.out⟩
    clear HM1 HM2
    go_wp2_with fail
    go_fit (names_any _)
    rintro e w5 ⟨b5, gn, rfl, hgn, _, hcn⟩
    have B5 : Hid (Below W1.heap.size W1 w5) := B3.out.trans (b5.mono B3.out.size)
    have HNM : Hid (∀ W, Below w5.heap.size w5 W → ∀ j, j < 23 → W.cell? ⟨gn, j, none⟩ = some (.string (fnAt (piF j)).1)) := (show ∀ W, _ → _ from fun W b j hj => bcell b (hcn j hj) hgn)
    clear b5 hgn hcn B3
    go_wp2_with fail
    go_loopw [6] (fun iv W => ∃ i : Nat, iv = .int .i64 (i : Nat) ∧ i ≤ 23 ∧ Hid (Below w5.heap.size w5 W)) (fun iv _ => 23 - (RowKit.intOf iv).toNat)
    case atStart => exact ⟨0, rfl, by omega, Below.refl _ _⟩
    case round =>
      obtain ⟨i, rfl, hi, hb⟩ := hrel
      have BR : Hid (Below W1.heap.size W1 wr) := B5.out.trans (hb.out.mono B5.out.size)
      by_cases hlt : i < 23
      · have hii : (i : Int) < 23 := by omega
        have i0 : (0 : Int) ≤ (i : Int) := by omega
        have i1 : ¬ (i : Int) < 0 := by omega
        have nI := HNM.out wr hb.out i hlt
        have HI : Hid (i + 1 ≤ 23) := hlt
        have HK : Hid (piF i < 23) := pi_lt i hlt
        have HNI : Hid (∀ W, Below wr.heap.size wr W → W.cell? ⟨gn, i, none⟩ = some (.string (fnAt (piF i)).1)) := (show ∀ W, _ → _ from fun W b => HNM.out W (hb.out.trans (b.mono hb.out.size)) i hlt)
        obtain ⟨k, hk⟩ : ∃ k, k = piF i := ⟨_, rfl⟩
        rw [← hk] at nI HK HNI
        clear hk
        obtain ⟨nm, hnm⟩ : ∃ nm, nm = (fnAt k).1 := ⟨_, rfl⟩
        rw [← hnm] at nI HNI
        have HE : Hid (edgy k = true ↔ nm = r1 ∨ nm = r2 ∨ nm = r3 ∨ nm = q2) := (show _ ↔ _ by rw [hnm]; exact nm_edgy k HK.out)
        have HNm : Hid (nm = (fnAt k).1) := hnm
        clear hnm
        obtain ⟨c1, e1, t1⟩ := eqB nm r1 [114, 97, 116, 101] (by rw [Lib.toList_data]; rfl)
        obtain ⟨c2, e2, t2⟩ := eqB nm r2 [105, 110, 99, 114, 101, 97, 115, 101] (by rw [Lib.toList_data]; rfl)
        obtain ⟨c3, e3, t3⟩ := eqB nm r3 [100, 101, 108, 116, 97] (by rw [Lib.toList_data]; rfl)
        obtain ⟨c4, e4, t4⟩ := eqB nm q2 [112, 114, 101, 100, 105, 99, 116, 95, 108, 105, 110, 101, 97, 114] (by rw [Lib.toList_data]; rfl)
        rw [← t1, ← t2, ← t3, ← t4] at HE
        clear t1 t2 t3 t4
        cases c1
        rotate_left
        · go_wp2
          exact ⟨⟨i + 1, by go_num, HI.out, hb⟩, by simp [RowKit.intOf]; omega⟩
        cases c2
        rotate_left
        · go_wp2
          exact ⟨⟨i + 1, by go_num, HI.out, hb⟩, by simp [RowKit.intOf]; omega⟩
        cases c3
        rotate_left
        · go_wp2
          exact ⟨⟨i + 1, by go_num, HI.out, hb⟩, by simp [RowKit.intOf]; omega⟩
        cases c4
        rotate_left
        · go_wp2
          exact ⟨⟨i + 1, by go_num, HI.out, hb⟩, by simp [RowKit.intOf]; omega⟩
        have HEd : Hid (edgy k = false) := (show _ = _ by
          cases he : edgy k
          · rfl
          · have := HE.out.1 he
            simp at this)
        clear HE
        obtain ⟨R, hR, hRe⟩ := fn_val k HK.out ss n (nums k 4598175219545276416 4602678819172646912) HL.out.2.2
        have HReq : Hid (R F T N = R F2 T2 N2) := hRe HEd.out _ _ _ _ _ _
        have HCall : Hid (∀ (F T N : Int) W aa ca, Below w.heap.size w W → Fm W aa (nums k 4598175219545276416 4602678819172646912) → Calls Try.prog 10 #[.string nm, Wn a n c F T N, .slice aa (fnAt k).2.1 ca] W (RX W ((fnAt k).2.1 = (fnAt k).2.1 ∧ (fnAt k).2.2.1 ≤ n ∧ Snd ss n F T N) (R F T N))) := (show ∀ (F T N : Int) W aa ca, _ → _ → _ from fun F T N W aa ca b hf => call_gen k HK.out nm HNm.out a n c F T N ss aa (fnAt k).2.1 ca _ R hR W (HH.out W b) HL.out.2.1 hf (nums_len k _ _ HK.out) (by
          have h9 : ∀ k, k < 23 → (fnAt k).2.1 ≤ 2 := by decide +kernel
          have := h9 k HK.out
          omega))
        have HNum : Hid (∀ W, Calls Try.prog 16 #[.string nm, .float .f64 4598175219545276416, .float .f64 4602678819172646912] W fun r w' => Below W.heap.size W w' ∧ ∃ aa ca, r = .returned (.slice aa (fnAt k).2.1 ca) ∧ Fm w' aa (nums k 4598175219545276416 4602678819172646912)) := (show ∀ W, _ from fun W => (numbers_any k HK.out nm HNm.out _ _ W).mono (fun r w' hx => by
          obtain ⟨bx, aa, ca, e, _, hf, _⟩ := hx
          exact ⟨bx, aa, ca, e, hf⟩))
        have HPt : Hid (∀ (F T N : Int), Snd ss n F T N → (((fnAt k).2.1 = (fnAt k).2.1 ∧ (fnAt k).2.2.1 ≤ n ∧ Snd ss n F T N) ↔ (fnAt k).2.2.1 ≤ n)) := (show ∀ (F T N : Int), _ → _ from fun F T N hs => ⟨fun h => h.2.1, fun h => ⟨rfl, h, hs⟩⟩)
        clear hR hRe
        generalize nums k 4598175219545276416 4602678819172646912 = ARGS at *
        obtain ⟨P1, hP1⟩ : ∃ P1, P1 = ((fnAt k).2.1 = (fnAt k).2.1 ∧ (fnAt k).2.2.1 ≤ n ∧ Snd ss n F T N) := ⟨_, rfl⟩
        obtain ⟨P2, hP2⟩ : ∃ P2, P2 = ((fnAt k).2.1 = (fnAt k).2.1 ∧ (fnAt k).2.2.1 ≤ n ∧ Snd ss n F2 T2 N2) := ⟨_, rfl⟩
        have HP : Hid (P1 ↔ P2) := (show P1 ↔ P2 by rw [hP1, hP2]; exact (HPt.out F T N HS.out.1).trans (HPt.out F2 T2 N2 HS.out.2).symm)
        have HC1 : Hid (∀ W aa ca, Below w.heap.size w W → Fm W aa ARGS → Calls Try.prog 10 #[.string nm, Wn a n c F T N, .slice aa (fnAt k).2.1 ca] W (RX W P1 (R F T N))) := (show ∀ W aa ca, _ → _ → _ by rw [hP1]; exact HCall.out F T N)
        have HC2 : Hid (∀ W aa ca, Below w.heap.size w W → Fm W aa ARGS → Calls Try.prog 10 #[.string nm, Wn a n c F2 T2 N2, .slice aa (fnAt k).2.1 ca] W (RX W P2 (R F2 T2 N2))) := (show ∀ W aa ca, _ → _ → _ by rw [hP2]; exact HCall.out F2 T2 N2)
        clear HCall HPt hP1 hP2
        generalize (fnAt k).2.1 = sc at *
        generalize R F T N = Ra at *
        generalize R F2 T2 N2 = Rb at *
        have HRW : Hid (Below w.heap.size w wr) := BW.out.trans (BR.out.mono BW.out.size)
        have HS1 : Hid (∀ W, Below wr.heap.size wr W → (W.cell? ⟨gn, i, none⟩ = some (.string nm) ∧ WnC a n c F T N pp W) ∧ Below wr.heap.size wr W) := (show ∀ W, _ → _ from fun W b => ⟨⟨HNI.out W b, C3.out W (BR.out.trans (b.mono BR.out.size))⟩, b⟩)
        obtain ⟨⟨_, y0, y1, y2, y3⟩, _⟩ := HS1.out wr (Below.refl _ _)
        have bd : Below wr.heap.size wr wr.drew := (Below.refl _ _).drew
        unfold WnC at HS1
        go_wp2_with fail
        go_region_held3 (fun w2 => (w2.cell? ⟨gn, i, none⟩ = some (.string nm) ∧ w2.cell? ⟨pp, 0, none⟩ = some (.slice a n c) ∧ w2.cell? ⟨pp, 1, none⟩ = some (.int .i64 F) ∧ w2.cell? ⟨pp, 2, none⟩ = some (.int .i64 T) ∧ w2.cell? ⟨pp, 3, none⟩ = some (.int .i64 N)) ∧ Below wr.heap.size wr w2) (first | exact HS1.out _ (by assumption) | exact HS1.out _ (Below.drew (by assumption))) (first | (go_at_call 16; go_fit (HNum.out _); rintro e w6 ⟨b6, aa, ca, rfl, hfa⟩; have bb : Below wr.heap.size wr w6 := bd.trans (b6.mono bd.size)) | (go_at_call 10; go_fit (HC1.out _ _ _ (HRW.out.trans (bb.mono HRW.out.size)) hfa); rintro e w7 ⟨z1, b1, rfl, hz1, b7, hl1, hv1, hn1⟩; have bc : Below wr.heap.size wr w7 := bb.trans (b7.mono bb.size)))
        rename_i hh
        have HZ1 : Hid ((b1 = true ↔ P1) ∧ (b1 = true → cl z1 = Ra) ∧ (b1 = false → z1 = 0)) := ⟨hz1, hv1, hn1⟩
        have BC : Hid (Below wr.heap.size wr w7) := bc
        clear hh hz1 hv1 hn1 y0 y1 y2 y3 nI bd bb b6 b7 hfa HS1 HC1 bc
        have B75 : Hid (Below w5.heap.size w5 w7) := hb.out.trans (BC.out.mono hb.out.size)
        have B71 : Hid (Below W1.heap.size W1 w7) := BR.out.trans (BC.out.mono BR.out.size)
        have B70 : Hid (Below w.heap.size w w7) := HRW.out.trans (BC.out.mono HRW.out.size)
        have HS2 : Hid (∀ W, Below w7.heap.size w7 W → (W.cell? ⟨gn, i, none⟩ = some (.string nm) ∧ WnC a n c F2 T2 N2 qq W) ∧ Below w7.heap.size w7 W) := (show ∀ W, _ → _ from fun W b => ⟨⟨HNI.out W (BC.out.trans (b.mono BC.out.size)), C4.out W (B71.out.trans (b.mono B71.out.size))⟩, b⟩)
        obtain ⟨⟨nI, y0, y1, y2, y3⟩, _⟩ := HS2.out w7 (Below.refl _ _)
        have bd : Below w7.heap.size w7 w7.drew := (Below.refl _ _).drew
        unfold WnC at HS2
        go_wp2_with fail
        go_region_held3 (fun w2 => (w2.cell? ⟨gn, i, none⟩ = some (.string nm) ∧ w2.cell? ⟨qq, 0, none⟩ = some (.slice a n c) ∧ w2.cell? ⟨qq, 1, none⟩ = some (.int .i64 F2) ∧ w2.cell? ⟨qq, 2, none⟩ = some (.int .i64 T2) ∧ w2.cell? ⟨qq, 3, none⟩ = some (.int .i64 N2)) ∧ Below w7.heap.size w7 w2) (first | exact HS2.out _ (by assumption) | exact HS2.out _ (Below.drew (by assumption))) (first | (go_at_call 16; go_fit (HNum.out _); rintro e w8 ⟨b8, aa, ca, rfl, hfa⟩; have bb : Below w7.heap.size w7 w8 := bd.trans (b8.mono bd.size)) | (go_at_call 10; go_fit (HC2.out _ _ _ (B70.out.trans (bb.mono B70.out.size)) hfa); rintro e w9 ⟨z2, b2, rfl, hz2, b9, hl2, hv2, hn2⟩; have bc : Below w7.heap.size w7 w9 := bb.trans (b9.mono bb.size)))
        rename_i hh
        have HZ2 : Hid ((b2 = true ↔ P2) ∧ (b2 = true → cl z2 = Rb) ∧ (b2 = false → z2 = 0)) := ⟨hz2, hv2, hn2⟩
        have B95 : Hid (Below w5.heap.size w5 w9) := B75.out.trans (bc.mono B75.out.size)
        clear hh hz2 hv2 hn2 y0 y1 y2 y3 nI bd bb b8 b9 hfa HS2 HC2 bc
        have hbb : b2 = b1 := by
          have h3 : b1 = true ↔ b2 = true := HZ1.out.1.trans (HP.out.trans HZ2.out.1.symm)
          cases b1 <;> cases b2 <;> simp_all
        have HCL : Hid (smB (cl z1) (cl z2) = true) := (show _ = _ by
          have h3 : cl z1 = cl z2 := by
            subst hbb
            cases b2
            · rw [HZ1.out.2.2 rfl, HZ2.out.2.2 rfl]
            · rw [HZ1.out.2.1 rfl, HZ2.out.2.1 rfl, HReq.out]
          unfold smB
          simp [h3])
        have k15 : ∀ W, Calls Try.prog 15 #[.float .f64 z1, .float .f64 z2] W fun r w' => r = .returned (.bool true) ∧ w' = W := fun W => (same_any z1 z2 W).mono (fun r w' hx => by rw [HCL.out] at hx; exact hx)
        subst hbb
        clear HZ1 HZ2 HCL HReq
        have hxx : (b2 != b2) = false := by cases b2 <;> rfl
        go_wp2_with fail
        go_fit (k15 _)
        rintro e w10 ⟨rfl, rfl⟩
        go_wp2
        exact ⟨⟨i + 1, by go_num, HI.out, B95⟩, by simp [RowKit.intOf]; omega⟩
      · have hii : ¬ (i : Int) < 23 := by omega
        have B9 : Hid (Below w.heap.size w wr) := BW.out.trans (BR.out.mono BW.out.size)
        go_wp2
        go_ret
        exact ⟨rfl, B9.out⟩
  · rename_i hh
    clear hh
    obtain ⟨⟨g4, g3⟩, HB, hsz⟩ := two_wins w1 (wnX a n c F2 T2 N2) (wnX a n c F T N)
    obtain ⟨W1, hW1⟩ : ∃ W1, W1 = ((w1.alloc (wnX a n c F2 T2 N2)).alloc (wnX a n c F T N)).drew := ⟨_, rfl⟩
    rw [← hW1] at g3 g4 HB hsz
    dsimp only [wnX] at hW1
    rw [← hW1]
    clear hW1 x0 x1 x2 x3 x4 x5 x6
    have C3 : Hid (∀ W, Below W1.heap.size W1 W → WnC a n c F T N (w1.heap.size + 1) W) := wnC_of g3
    have C4 : Hid (∀ W, Below W1.heap.size W1 W → WnC a n c F2 T2 N2 (w1.heap.size) W) := wnC_of g4
    have BW : Hid (Below w.heap.size w W1) := B1.out.trans (HB.mono B1.out.size)
    clear g3 g4 HB hsz B1
    obtain ⟨pp, hpp⟩ : ∃ pp, pp = (w1.heap.size + 1) := ⟨_, rfl⟩
    obtain ⟨qq, hqq⟩ : ∃ qq, qq = (w1.heap.size) := ⟨_, rfl⟩
    rw [← hpp] at C3
    rw [← hqq] at C4
    rw [← hpp, ← hqq]
    clear hpp hqq
    obtain ⟨y0, y1, y2, y3⟩ := C3.out W1 (Below.refl _ _)
    have k13 := made_any a n c F T N ss W1 (HH.out W1 BW.out).1 HL.out.1
    go_wp2_with fail
    go_fit k13
    rintro e w2 ⟨m1, rfl, hm1, b2⟩
    have HM1 : Hid (m1 = true ↔ Snd ss n F T N) := hm1
    have B2 : Hid (Below W1.heap.size W1 w2) := b2
    clear k13 y0 y1 y2 y3 hm1 b2
    cases m1
    · have B9 : Hid (Below w.heap.size w w2) := BW.out.trans (B2.out.mono BW.out.size)
      go_wp2
      go_ret
      exact ⟨rfl, B9.out⟩
    obtain ⟨y0, y1, y2, y3⟩ := C4.out w2 B2.out
    have k13 := made_any a n c F2 T2 N2 ss w2 (HH.out w2 (BW.out.trans (B2.out.mono BW.out.size))).1 HL.out.1
    go_wp2_with fail
    go_fit k13
    rintro e w3 ⟨m2, rfl, hm2, b3⟩
    have HM2 : Hid (m2 = true ↔ Snd ss n F2 T2 N2) := hm2
    have B3 : Hid (Below W1.heap.size W1 w3) := B2.out.trans (b3.mono B2.out.size)
    clear k13 y0 y1 y2 y3 hm2 b3 B2
    cases m2
    · have B9 : Hid (Below w.heap.size w w3) := BW.out.trans (B3.out.mono BW.out.size)
      go_wp2
      go_ret
      exact ⟨rfl, B9.out⟩
    have HS : Hid (Snd ss n F T N ∧ Snd ss n F2 T2 N2) := ⟨by simpa using HM1.out, by simpa using HM2.out⟩
    clear HM1 HM2
    go_wp2_with fail
    go_fit (names_any _)
    rintro e w5 ⟨b5, gn, rfl, hgn, _, hcn⟩
    have B5 : Hid (Below W1.heap.size W1 w5) := B3.out.trans (b5.mono B3.out.size)
    have HNM : Hid (∀ W, Below w5.heap.size w5 W → ∀ j, j < 23 → W.cell? ⟨gn, j, none⟩ = some (.string (fnAt (piF j)).1)) := (show ∀ W, _ → _ from fun W b j hj => bcell b (hcn j hj) hgn)
    clear b5 hgn hcn B3
    go_wp2_with fail
    go_loopw [6] (fun iv W => ∃ i : Nat, iv = .int .i64 (i : Nat) ∧ i ≤ 23 ∧ Hid (Below w5.heap.size w5 W)) (fun iv _ => 23 - (RowKit.intOf iv).toNat)
    case atStart => exact ⟨0, rfl, by omega, Below.refl _ _⟩
    case round =>
      obtain ⟨i, rfl, hi, hb⟩ := hrel
      have BR : Hid (Below W1.heap.size W1 wr) := B5.out.trans (hb.out.mono B5.out.size)
      by_cases hlt : i < 23
      · have hii : (i : Int) < 23 := by omega
        have i0 : (0 : Int) ≤ (i : Int) := by omega
        have i1 : ¬ (i : Int) < 0 := by omega
        have nI := HNM.out wr hb.out i hlt
        have HI : Hid (i + 1 ≤ 23) := hlt
        have HK : Hid (piF i < 23) := pi_lt i hlt
        have HNI : Hid (∀ W, Below wr.heap.size wr W → W.cell? ⟨gn, i, none⟩ = some (.string (fnAt (piF i)).1)) := (show ∀ W, _ → _ from fun W b => HNM.out W (hb.out.trans (b.mono hb.out.size)) i hlt)
        obtain ⟨k, hk⟩ : ∃ k, k = piF i := ⟨_, rfl⟩
        rw [← hk] at nI HK HNI
        clear hk
        obtain ⟨nm, hnm⟩ : ∃ nm, nm = (fnAt k).1 := ⟨_, rfl⟩
        rw [← hnm] at nI HNI
        have HE : Hid (edgy k = true ↔ nm = r1 ∨ nm = r2 ∨ nm = r3 ∨ nm = q2) := (show _ ↔ _ by rw [hnm]; exact nm_edgy k HK.out)
        have HNm : Hid (nm = (fnAt k).1) := hnm
        clear hnm
        obtain ⟨c1, e1, t1⟩ := eqB nm r1 [114, 97, 116, 101] (by rw [Lib.toList_data]; rfl)
        obtain ⟨c2, e2, t2⟩ := eqB nm r2 [105, 110, 99, 114, 101, 97, 115, 101] (by rw [Lib.toList_data]; rfl)
        obtain ⟨c3, e3, t3⟩ := eqB nm r3 [100, 101, 108, 116, 97] (by rw [Lib.toList_data]; rfl)
        obtain ⟨c4, e4, t4⟩ := eqB nm q2 [112, 114, 101, 100, 105, 99, 116, 95, 108, 105, 110, 101, 97, 114] (by rw [Lib.toList_data]; rfl)
        rw [← t1, ← t2, ← t3, ← t4] at HE
        clear t1 t2 t3 t4
        cases c1
        rotate_left
        · go_wp2
          exact ⟨⟨i + 1, by go_num, HI.out, hb⟩, by simp [RowKit.intOf]; omega⟩
        cases c2
        rotate_left
        · go_wp2
          exact ⟨⟨i + 1, by go_num, HI.out, hb⟩, by simp [RowKit.intOf]; omega⟩
        cases c3
        rotate_left
        · go_wp2
          exact ⟨⟨i + 1, by go_num, HI.out, hb⟩, by simp [RowKit.intOf]; omega⟩
        cases c4
        rotate_left
        · go_wp2
          exact ⟨⟨i + 1, by go_num, HI.out, hb⟩, by simp [RowKit.intOf]; omega⟩
        have HEd : Hid (edgy k = false) := (show _ = _ by
          cases he : edgy k
          · rfl
          · have := HE.out.1 he
            simp at this)
        clear HE
        obtain ⟨R, hR, hRe⟩ := fn_val k HK.out ss n (nums k 4598175219545276416 4602678819172646912) HL.out.2.2
        have HReq : Hid (R F T N = R F2 T2 N2) := hRe HEd.out _ _ _ _ _ _
        have HCall : Hid (∀ (F T N : Int) W aa ca, Below w.heap.size w W → Fm W aa (nums k 4598175219545276416 4602678819172646912) → Calls Try.prog 10 #[.string nm, Wn a n c F T N, .slice aa (fnAt k).2.1 ca] W (RX W ((fnAt k).2.1 = (fnAt k).2.1 ∧ (fnAt k).2.2.1 ≤ n ∧ Snd ss n F T N) (R F T N))) := (show ∀ (F T N : Int) W aa ca, _ → _ → _ from fun F T N W aa ca b hf => call_gen k HK.out nm HNm.out a n c F T N ss aa (fnAt k).2.1 ca _ R hR W (HH.out W b) HL.out.2.1 hf (nums_len k _ _ HK.out) (by
          have h9 : ∀ k, k < 23 → (fnAt k).2.1 ≤ 2 := by decide +kernel
          have := h9 k HK.out
          omega))
        have HNum : Hid (∀ W, Calls Try.prog 16 #[.string nm, .float .f64 4598175219545276416, .float .f64 4602678819172646912] W fun r w' => Below W.heap.size W w' ∧ ∃ aa ca, r = .returned (.slice aa (fnAt k).2.1 ca) ∧ Fm w' aa (nums k 4598175219545276416 4602678819172646912)) := (show ∀ W, _ from fun W => (numbers_any k HK.out nm HNm.out _ _ W).mono (fun r w' hx => by
          obtain ⟨bx, aa, ca, e, _, hf, _⟩ := hx
          exact ⟨bx, aa, ca, e, hf⟩))
        have HPt : Hid (∀ (F T N : Int), Snd ss n F T N → (((fnAt k).2.1 = (fnAt k).2.1 ∧ (fnAt k).2.2.1 ≤ n ∧ Snd ss n F T N) ↔ (fnAt k).2.2.1 ≤ n)) := (show ∀ (F T N : Int), _ → _ from fun F T N hs => ⟨fun h => h.2.1, fun h => ⟨rfl, h, hs⟩⟩)
        clear hR hRe
        generalize nums k 4598175219545276416 4602678819172646912 = ARGS at *
        obtain ⟨P1, hP1⟩ : ∃ P1, P1 = ((fnAt k).2.1 = (fnAt k).2.1 ∧ (fnAt k).2.2.1 ≤ n ∧ Snd ss n F T N) := ⟨_, rfl⟩
        obtain ⟨P2, hP2⟩ : ∃ P2, P2 = ((fnAt k).2.1 = (fnAt k).2.1 ∧ (fnAt k).2.2.1 ≤ n ∧ Snd ss n F2 T2 N2) := ⟨_, rfl⟩
        have HP : Hid (P1 ↔ P2) := (show P1 ↔ P2 by rw [hP1, hP2]; exact (HPt.out F T N HS.out.1).trans (HPt.out F2 T2 N2 HS.out.2).symm)
        have HC1 : Hid (∀ W aa ca, Below w.heap.size w W → Fm W aa ARGS → Calls Try.prog 10 #[.string nm, Wn a n c F T N, .slice aa (fnAt k).2.1 ca] W (RX W P1 (R F T N))) := (show ∀ W aa ca, _ → _ → _ by rw [hP1]; exact HCall.out F T N)
        have HC2 : Hid (∀ W aa ca, Below w.heap.size w W → Fm W aa ARGS → Calls Try.prog 10 #[.string nm, Wn a n c F2 T2 N2, .slice aa (fnAt k).2.1 ca] W (RX W P2 (R F2 T2 N2))) := (show ∀ W aa ca, _ → _ → _ by rw [hP2]; exact HCall.out F2 T2 N2)
        clear HCall HPt hP1 hP2
        generalize (fnAt k).2.1 = sc at *
        generalize R F T N = Ra at *
        generalize R F2 T2 N2 = Rb at *
        have HRW : Hid (Below w.heap.size w wr) := BW.out.trans (BR.out.mono BW.out.size)
        have HS1 : Hid (∀ W, Below wr.heap.size wr W → (W.cell? ⟨gn, i, none⟩ = some (.string nm) ∧ WnC a n c F T N pp W) ∧ Below wr.heap.size wr W) := (show ∀ W, _ → _ from fun W b => ⟨⟨HNI.out W b, C3.out W (BR.out.trans (b.mono BR.out.size))⟩, b⟩)
        obtain ⟨⟨_, y0, y1, y2, y3⟩, _⟩ := HS1.out wr (Below.refl _ _)
        have bd : Below wr.heap.size wr wr.drew := (Below.refl _ _).drew
        unfold WnC at HS1
        go_wp2_with fail
        go_region_held3 (fun w2 => (w2.cell? ⟨gn, i, none⟩ = some (.string nm) ∧ w2.cell? ⟨pp, 0, none⟩ = some (.slice a n c) ∧ w2.cell? ⟨pp, 1, none⟩ = some (.int .i64 F) ∧ w2.cell? ⟨pp, 2, none⟩ = some (.int .i64 T) ∧ w2.cell? ⟨pp, 3, none⟩ = some (.int .i64 N)) ∧ Below wr.heap.size wr w2) (first | exact HS1.out _ (by assumption) | exact HS1.out _ (Below.drew (by assumption))) (first | (go_at_call 16; go_fit (HNum.out _); rintro e w6 ⟨b6, aa, ca, rfl, hfa⟩; have bb : Below wr.heap.size wr w6 := bd.trans (b6.mono bd.size)) | (go_at_call 10; go_fit (HC1.out _ _ _ (HRW.out.trans (bb.mono HRW.out.size)) hfa); rintro e w7 ⟨z1, b1, rfl, hz1, b7, hl1, hv1, hn1⟩; have bc : Below wr.heap.size wr w7 := bb.trans (b7.mono bb.size)))
        rename_i hh
        have HZ1 : Hid ((b1 = true ↔ P1) ∧ (b1 = true → cl z1 = Ra) ∧ (b1 = false → z1 = 0)) := ⟨hz1, hv1, hn1⟩
        have BC : Hid (Below wr.heap.size wr w7) := bc
        clear hh hz1 hv1 hn1 y0 y1 y2 y3 nI bd bb b6 b7 hfa HS1 HC1 bc
        have B75 : Hid (Below w5.heap.size w5 w7) := hb.out.trans (BC.out.mono hb.out.size)
        have B71 : Hid (Below W1.heap.size W1 w7) := BR.out.trans (BC.out.mono BR.out.size)
        have B70 : Hid (Below w.heap.size w w7) := HRW.out.trans (BC.out.mono HRW.out.size)
        have HS2 : Hid (∀ W, Below w7.heap.size w7 W → (W.cell? ⟨gn, i, none⟩ = some (.string nm) ∧ WnC a n c F2 T2 N2 qq W) ∧ Below w7.heap.size w7 W) := (show ∀ W, _ → _ from fun W b => ⟨⟨HNI.out W (BC.out.trans (b.mono BC.out.size)), C4.out W (B71.out.trans (b.mono B71.out.size))⟩, b⟩)
        obtain ⟨⟨nI, y0, y1, y2, y3⟩, _⟩ := HS2.out w7 (Below.refl _ _)
        have bd : Below w7.heap.size w7 w7.drew := (Below.refl _ _).drew
        unfold WnC at HS2
        go_wp2_with fail
        go_region_held3 (fun w2 => (w2.cell? ⟨gn, i, none⟩ = some (.string nm) ∧ w2.cell? ⟨qq, 0, none⟩ = some (.slice a n c) ∧ w2.cell? ⟨qq, 1, none⟩ = some (.int .i64 F2) ∧ w2.cell? ⟨qq, 2, none⟩ = some (.int .i64 T2) ∧ w2.cell? ⟨qq, 3, none⟩ = some (.int .i64 N2)) ∧ Below w7.heap.size w7 w2) (first | exact HS2.out _ (by assumption) | exact HS2.out _ (Below.drew (by assumption))) (first | (go_at_call 16; go_fit (HNum.out _); rintro e w8 ⟨b8, aa, ca, rfl, hfa⟩; have bb : Below w7.heap.size w7 w8 := bd.trans (b8.mono bd.size)) | (go_at_call 10; go_fit (HC2.out _ _ _ (B70.out.trans (bb.mono B70.out.size)) hfa); rintro e w9 ⟨z2, b2, rfl, hz2, b9, hl2, hv2, hn2⟩; have bc : Below w7.heap.size w7 w9 := bb.trans (b9.mono bb.size)))
        rename_i hh
        have HZ2 : Hid ((b2 = true ↔ P2) ∧ (b2 = true → cl z2 = Rb) ∧ (b2 = false → z2 = 0)) := ⟨hz2, hv2, hn2⟩
        have B95 : Hid (Below w5.heap.size w5 w9) := B75.out.trans (bc.mono B75.out.size)
        clear hh hz2 hv2 hn2 y0 y1 y2 y3 nI bd bb b8 b9 hfa HS2 HC2 bc
        have hbb : b2 = b1 := by
          have h3 : b1 = true ↔ b2 = true := HZ1.out.1.trans (HP.out.trans HZ2.out.1.symm)
          cases b1 <;> cases b2 <;> simp_all
        have HCL : Hid (smB (cl z1) (cl z2) = true) := (show _ = _ by
          have h3 : cl z1 = cl z2 := by
            subst hbb
            cases b2
            · rw [HZ1.out.2.2 rfl, HZ2.out.2.2 rfl]
            · rw [HZ1.out.2.1 rfl, HZ2.out.2.1 rfl, HReq.out]
          unfold smB
          simp [h3])
        have k15 : ∀ W, Calls Try.prog 15 #[.float .f64 z1, .float .f64 z2] W fun r w' => r = .returned (.bool true) ∧ w' = W := fun W => (same_any z1 z2 W).mono (fun r w' hx => by rw [HCL.out] at hx; exact hx)
        subst hbb
        clear HZ1 HZ2 HCL HReq
        have hxx : (b2 != b2) = false := by cases b2 <;> rfl
        go_wp2_with fail
        go_fit (k15 _)
        rintro e w10 ⟨rfl, rfl⟩
        go_wp2
        exact ⟨⟨i + 1, by go_num, HI.out, B95⟩, by simp [RowKit.intOf]; omega⟩
      · have hii : ¬ (i : Int) < 23 := by omega
        have B9 : Hid (Below w.heap.size w wr) := BW.out.trans (BR.out.mono BW.out.size)
        go_wp2
        go_ret
        exact ⟨rfl, B9.out⟩
end Go.Proofs.Ytmjenemjbpimcaa
