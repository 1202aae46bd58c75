/- A bundle of texts. -/
import Derived.Test.YtmjenemjbpimcaaBk24
import Derived.Deep.RegionWith
import Derived.Deep.QuietTactic
import Derived.BigQuiet
import Derived.BigRegion
import Derived.Deep.CutBlock
/- OverKeeps: the walk. -/
namespace Go.Proofs.Ytmjenemjbpimcaa
open Go.RowKit

def mkS : Smp := ⟨-7, 4619567317775286272, true⟩
theorem mvS_zero {ss : Nat → Smp} {n : Nat} (h : SW ss n) (hz : ∀ j, n ≤ j → ss j = ⟨0, 0, false⟩) (j : Nat) : mvS 0 (ss j) = ss j := by
  have ht : wrap64 ((ss j).t + 0) = (ss j).t := by
    by_cases hj : j < n
    · have := h j hj
      unfold wrap64
      omega
    · rw [hz j (by omega)]
      show wrap64 ((0 : Int) + 0) = 0
      unfold wrap64
      omega
  show (⟨wrap64 ((ss j).t + 0), (ss j).v, (ss j).s⟩ : Smp) = _
  rw [ht]

theorem mk_neq (W : World) : (binOp .neq 37 (.agg #[.int .i64 (-7), .float .f64 4619567317775286272, .bool true]) (.agg #[.int .i64 (-7), .float .f64 4619567317775286272, .bool true])).run Try.prog W = .ok (.bool false) W := by
  kernel_rfl

theorem d7_ : (FloatKind.f64.format.order 4619567317775286272 4619567317775286272 == some .eq) = true := by decide +kernel
theorem d77_ : (FloatKind.f64.format.order 4635118810238550016 4635118810238550016 != some .eq) = false := by decide +kernel
theorem d78_ : (FloatKind.f64.format.order 4635189178982727680 4635189178982727680 != some .eq) = false := by decide +kernel
theorem fn_two : ∀ k, k < 23 → (fnAt k).2.1 ≤ 2 := by decide +kernel
set_option maxHeartbeats 16000000 in
set_option maxRecDepth 100000 in
theorem keeps_walk (a : Option Addr) (n c : Nat) (F T N : Int) (xa xb : Nat) (ss : Nat → Smp) (w : World) (h : HypW a n ss w) (hc : n ≤ c) (hz : ∀ j, n ≤ j → ss j = ⟨0, 0, false⟩) (hbig : 24 * (n + 2) ≤ 140737488355328) :
    Calls Try.prog 7 #[Wn a n c F T N, .float .f64 xa, .float .f64 xb] w fun r w' => r = .returned (.bool true) ∧ Below w.heap.size w w' := by
  have HB0 : Hid (Below w.heap.size w (w.alloc (wnX a n c F T N))) := (Below.refl _ w).alloc (Nat.le_refl _) _
  have HC : Hid (∀ W, Below (w.alloc (wnX a n c F T N)).heap.size (w.alloc (wnX a n c F T N)) W → WnC a n c F T N w.heap.size W) := wnC_new a n c F T N w
  have HH : Hid (∀ W, Below w.heap.size w W → HypW a n ss W) := fun W b => h.below b
  have HL : Hid (n ≤ 9223372036854775807 ∧ n ≤ c ∧ 24 * (n + 2) ≤ 140737488355328) := ⟨by have := h.2.2; omega, hc, hbig⟩
  have HMV : Hid (∀ j, mvS 0 (ss j) = ss j) := mvS_zero h.2.1 hz
  clear h hc hz hbig
  go_enter Try.func7, Try.ntmps7
  go_wp2_with fail
  go_fit (alive_any _)
  rintro e w1 ⟨rfl, b1⟩
  have B1 : Hid (Below (w.alloc (wnX a n c F T N)).heap.size (w.alloc (wnX a n c F T N)) w1) := b1
  clear b1
  go_wp2_with fail
  go_fit (names_any _)
  rintro e w5 ⟨b5, gn, rfl, hgn, _, hcn⟩
  have B5 : Hid (Below (w.alloc (wnX a n c F T N)).heap.size (w.alloc (wnX a n c F T N)) w5) := B1.out.trans (b5.mono B1.out.size)
  have HNM : Hid (∀ W, Below w5.heap.size w5 W → ∀ j, j < 23 → W.cell? ⟨gn, j, none⟩ = some (.string (fnAt (piF j)).1)) := (show ∀ W, _ → _ from fun W b j hj => bcell b (hcn j hj) hgn)
  clear b5 hgn hcn B1
  go_wp2_with fail
  go_loopw [8] (fun iv W => ∃ i : Nat, iv = .int .i64 (i : Nat) ∧ i ≤ 23 ∧ Hid (Below w5.heap.size w5 W)) (fun iv _ => 23 - (RowKit.intOf iv).toNat)
  case atStart => exact ⟨0, rfl, by omega, Below.refl _ _⟩
  case round =>
    obtain ⟨i, rfl, hi, hb⟩ := hrel
    have BR : Hid (Below (w.alloc (wnX a n c F T N)).heap.size (w.alloc (wnX a n c F T N)) wr) := B5.out.trans (hb.out.mono B5.out.size)
    have BW : Hid (Below w.heap.size w wr) := HB0.out.trans (BR.out.mono HB0.out.size)
    by_cases hlt : i < 23
    · have hii : (i : Int) < 23 := by omega
      have i0 : (0 : Int) ≤ (i : Int) := by as_aux_lemma => omega
      have i1 : ¬ (i : Int) < 0 := by as_aux_lemma => omega
      have HI : Hid (i + 1 ≤ 23) := hlt
      have HK : Hid (piF i < 23) := pi_lt i hlt
      have HNI : Hid (∀ W, Below wr.heap.size wr W → W.cell? ⟨gn, i, none⟩ = some (.string (fnAt (piF i)).1)) := (show ∀ W, _ → _ from fun W b => HNM.out W (hb.out.trans (b.mono hb.out.size)) i hlt)
      obtain ⟨k, hk⟩ : ∃ k, k = piF i := ⟨_, rfl⟩
      rw [← hk] at HK HNI
      clear hk
      obtain ⟨nm, hnm⟩ : ∃ nm, nm = (fnAt k).1 := ⟨_, rfl⟩
      rw [← hnm] at HNI
      have HNm : Hid (nm = (fnAt k).1) := hnm
      clear hnm
      obtain ⟨x0, x1, x2, x3⟩ := HC.out wr BR.out
      have kcp := copied_own a n c F T N 0 ss wr (HH.out wr BW.out).1 (by have := HL.out; omega)
      go_wp2_with fail
      go_fit kcp
      rintro e w6 ⟨b6, a', c', rfl, hc', o6⟩
      have hsf := @run_store_float Try.prog
      obtain ⟨F2, hF2⟩ : ∃ F2, F2 = wrap64 (F + 0) := ⟨_, rfl⟩
      obtain ⟨T2, hT2⟩ : ∃ T2, T2 = wrap64 (T + 0) := ⟨_, rfl⟩
      obtain ⟨N2, hN2⟩ : ∃ N2, N2 = wrap64 (N + 0) := ⟨_, rfl⟩
      rw [← hF2, ← hT2, ← hN2]
      have HF2 : Hid (wrap64 (F2 + 0) = F2 ∧ wrap64 (T2 + 0) = T2 ∧ wrap64 (N2 + 0) = N2) := (show _ ∧ _ by
        rw [hF2, hT2, hN2]
        unfold wrap64
        omega)
      clear hF2 hT2 hN2
      go_upto_region 9 with fail
      have hs6 := b6.size
      have hgl : ∀ g, (Value.slice a' n c').ownBlock = some g → g < w6.heap.size := fun g e => (World.ownsRow.lt o6 g e).2
      obtain ⟨W8, hW8⟩ : ∃ W8, W8 = (w6.alloc (wnX a' n c' F2 T2 N2)).alloc (cp mkS) := ⟨_, rfl⟩
      have hPI : W8.heap[w6.heap.size]? = some (wnX a' n c' F2 T2 N2) := by
        rw [hW8]
        exact ((Go.MapKept.heap_alloc (w6.alloc (wnX a' n c' F2 T2 N2)) (cp mkS)).2 w6.heap.size (by simp)).trans (heap_alloc_new w6 _)
      have hPM : W8.heap[w6.heap.size + 1]? = some (cp mkS) := by rw [hW8]; exact heap_alloc_two w6 _ _
      have hsz : W8.heap.size = w6.heap.size + 2 := by rw [hW8]; simp
      have B8 : Hid (Below wr.heap.size wr W8) := (show Below _ _ _ by rw [hW8]; exact (b6.alloc b6.size _).alloc (by simp; omega) _)
      have o8 : Pr W8 wr.heap.size (.slice a' n c') (mvL ss 0 n) := o6.below (by rw [hW8]; exact ((Below.refl _ w6).alloc (Nat.le_refl _) _).alloc (by simp) _)
      dsimp only [wnX, cp, mkS] at hW8
      rw [← hW8]
      clear hW8 o6 b6
      obtain ⟨pi, hpi⟩ : ∃ pi, pi = w6.heap.size := ⟨_, rfl⟩
      rw [← hpi] at hPI hPM hsz ⊢
      obtain ⟨pm, hpm⟩ : ∃ pm, pm = pi + 1 := ⟨_, rfl⟩
      rw [← hpm] at hPM ⊢
      have HPI : Hid (pi < W8.heap.size ∧ pm < W8.heap.size ∧ wr.heap.size ≤ pi) := (show _ ∧ _ ∧ _ by omega)
      have HPM : Hid (pm = pi + 1) := hpm
      have C8 : Hid (∀ W : World, W.heap[pi]? = some (wnX a' n c' F2 T2 N2) → WnC a' n c' F2 T2 N2 pi W) := (show ∀ W : World, _ → _ from fun W e => ⟨by unfold World.cell?; rw [e]; rfl, by unfold World.cell?; rw [e]; rfl, by unfold World.cell?; rw [e]; rfl, by unfold World.cell?; rw [e]; rfl⟩)
      have hown : (Value.slice a' n c').ownBlock ≠ some pi ∧ (Value.slice a' n c').ownBlock ≠ some pm := ⟨fun e => by have := hgl pi e; omega, fun e => by have := hgl pm e; omega⟩
      obtain ⟨v9, w9, r9, o9, b9, kb9⟩ := append_pp W8 wr.heap.size (.slice a' n c') (mvL ss 0 n) mkS mkS B8.out.size (by rw [mvL_len]; have := HL.out; omega) o8
      dsimp only [cp2, mkS] at r9
      obtain ⟨y0, y1, y2, y3⟩ := C8.out W8 hPI
      have m0 : W8.cell? ⟨pm, 0, none⟩ = some (.int .i64 (-7)) := by unfold World.cell?; rw [hPM]; rfl
      have m1 : W8.cell? ⟨pm, 1, none⟩ = some (.float .f64 4619567317775286272) := by unfold World.cell?; rw [hPM]; rfl
      have m2 : W8.cell? ⟨pm, 2, none⟩ = some (.bool true) := by unfold World.cell?; rw [hPM]; rfl
      have hPI9 : w9.heap[pi]? = some (wnX a' n c' F2 T2 N2) := (kb9 pi HPI.out.1 hown.1).trans hPI
      have hPM9 : w9.heap[pm]? = some (cp mkS) := (kb9 pm HPI.out.2.1 hown.2).trans hPM
      have B9 : Hid (Below wr.heap.size wr w9) := B8.out.trans b9
      have hl9 := o9.1
      have o9' : Pr w9 wr.heap.size v9 (mvL ss 0 n ++ [mkS, mkS]) := o9
      rcases o9.2 with ⟨_, h0⟩ | ⟨gf, cf, cur, rfl, hgf, hcur, hlen, hcm, hcs, htk⟩
      · exact absurd h0 (by simp)
      have hll : (mvL ss 0 n ++ [mkS, mkS]).length = n + 2 := by simp [mvL_len]
      rw [hll] at r9 hlen
      have hgp1 : gf ≠ pi := fun e => by
        rw [e, hPI9] at hcur
        cases hcur
      have hgp2 : gf ≠ pm := fun e => by
        rw [e, hPM9] at hcur
        have h3 := (Obj.cells.inj (Option.some.inj hcur)).1
        rw [← h3] at hcs
        have h4 : (3 : Nat) = cf * 3 := hcs
        omega
      have hgp : gf ≠ pi ∧ gf ≠ pm := ⟨hgp1, hgp2⟩
      clear hgp1 hgp2
      clear hown kb9 hpi hpm hsz hgl hs6 o8 b9 o9 hPI hPM
      obtain ⟨xx0, xx1, xx2, xx3⟩ := HC.out w9 (BR.out.trans (B9.out.mono BR.out.size))
      obtain ⟨yy0, yy1, yy2, yy3⟩ := C8.out w9 hPI9
      have n1 : (n : Int) ≤ (cf : Int) := by as_aux_lemma => omega
      have n0 : (0 : Int) ≤ (n : Int) := by as_aux_lemma => omega
      have n2 : n ≤ cf := by as_aux_lemma => omega
      have fz9 : w9.frozen? ⟨pi, 0, none⟩ = false := by unfold World.frozen?; rw [hPI9]; rfl
      go_upto_region 11 with (at_builtin; refine wpList_append_run rfl (.tmp 35) (.tmp 38) 28 28 rfl _ _ rfl rfl r9 ?_)
      have he : w9.setCell ⟨pi, 0, none⟩ (.slice (some ⟨gf, 0, none⟩) n cf) = w9.setRow pi #[.slice (some ⟨gf, 0, none⟩) n cf, .int .i64 F2, .int .i64 T2, .int .i64 N2] := setCell_eq_setRow w9 pi 0 _ 30 _ _ hPI9
      obtain ⟨W10, hW10⟩ : ∃ W10, W10 = w9.setCell ⟨pi, 0, none⟩ (.slice (some ⟨gf, 0, none⟩) n cf) := ⟨_, rfl⟩
      have P10 : W10.heap[pi]? = some (wnX (some ⟨gf, 0, none⟩) n cf F2 T2 N2) := by rw [hW10, he]; exact setRow_heap _ _ _ _ _ _ hPI9
      have M10 : W10.heap[pm]? = some (cp mkS) := by rw [hW10, he, setRow_other _ _ _ _ (by have := HPM.out; omega)]; exact hPM9
      have G10 : W10.heap[gf]? = some (.cells cur 37) := by rw [hW10, he, setRow_other _ _ _ _ hgp.1]; exact hcur
      have B10 : Hid (Below wr.heap.size wr W10) := (show Below _ _ _ by rw [hW10]; exact B9.out.setCell (p := ⟨pi, 0, none⟩) HPI.out.2.2 _)
      rw [← hW10]
      clear hW10 he fz9 r9 xx0 xx1 xx2 xx3 yy0 yy1 yy2 yy3 y0 y1 y2 y3 m0 m1 m2 x0 x1 x2 x3 n0 n2 hPI9 hPM9 o9' hcur
      have HP10 : Hid (W10.heap[pi]? = some (wnX (some ⟨gf, 0, none⟩) n cf F2 T2 N2) ∧ W10.heap[pm]? = some (cp mkS) ∧ W10.heap[gf]? = some (.cells cur 37)) := ⟨P10, M10, G10⟩
      clear P10 M10 G10
      have kn := numbers_own k HK.out nm HNm.out xa xb W10
      have h9 : (fnAt k).2.1 ≤ 2 := fn_two k HK.out
      have nI := HNI.out W10 B10.out
      go_wp2_with fail
      go_fit kn
      rintro e w11 ⟨b11, aa, ca, rfl, o11⟩
      obtain ⟨v12, w12, r12, o12, b12⟩ := append_ff w11 W10.heap.size (.slice aa (fnAt k).2.1 ca) (nums k xa xb) 4635118810238550016 4635189178982727680 b11.size (by rw [nums_len k _ _ HK.out]; omega) o11
      have hnl : (nums k xa xb).length = (fnAt k).2.1 := nums_len k _ _ HK.out
      have o12' := o12
      rcases o12.2 with ⟨_, h0⟩ | ⟨ga, cga, cura, rfl, hga, hcura, hlena, _, _, _⟩
      · exact absurd h0 (by simp)
      have hla : (nums k xa xb ++ [4635118810238550016, 4635189178982727680]).length = (fnAt k).2.1 + 2 := by simp [hnl]
      rw [hla] at r12 hlena
      have AC : Hid (∀ W : World, W.heap[ga]? = w12.heap[ga]? → ∀ j, j < (fnAt k).2.1 + 2 → W.cell? ⟨ga, j, none⟩ = some (.float .f64 ((nums k xa xb ++ [4635118810238550016, 4635189178982727680]).getD j 0))) := (show ∀ W : World, _ → ∀ j, _ → _ from fun W e j hj => by
        have h1 := o12'.cells (g := ga) rfl j (.float .f64 ((nums k xa xb ++ [4635118810238550016, 4635189178982727680]).getD j 0)) (by
          have hjl : j < (nums k xa xb ++ [4635118810238550016, 4635189178982727680]).length := by rw [hla]; exact hj
          unfold fc
          rw [List.getElem?_map, List.getD_eq_getElem?_getD, List.getElem?_eq_getElem hjl]
          rfl)
        rw [Go.WideShapes.add_plain, Nat.zero_add] at h1
        exact (World.cell?_of_block (a := ⟨ga, j, none⟩) e).trans h1)
      have B12 : Hid (Below W10.heap.size W10 w12) := b11.trans b12
      have hga12 : ga < w12.heap.size := (Array.getElem?_eq_some_iff.1 hcura).1
      have HG12 : Hid (gf < w12.heap.size ∧ pi < w12.heap.size ∧ pm < w12.heap.size ∧ ga < w12.heap.size) := (show _ ∧ _ ∧ _ ∧ _ by
        have g1 := (Array.getElem?_eq_some_iff.1 HP10.out.1).1
        have g2 := (Array.getElem?_eq_some_iff.1 HP10.out.2.1).1
        have g3 := (Array.getElem?_eq_some_iff.1 HP10.out.2.2).1
        have := B12.out.size
        omega)
      have HP12 : Hid (∀ W, Below w12.heap.size w12 W → W.heap[pi]? = some (wnX (some ⟨gf, 0, none⟩) n cf F2 T2 N2) ∧ W.heap[pm]? = some (cp mkS) ∧ W.heap[gf]? = some (.cells cur 37) ∧ W.heap[ga]? = w12.heap[ga]? ∧ Below wr.heap.size wr W) := (show ∀ W, _ → _ from fun W b => by
        have g1 := (Array.getElem?_eq_some_iff.1 HP10.out.1).1
        have g2 := (Array.getElem?_eq_some_iff.1 HP10.out.2.1).1
        have g3 := (Array.getElem?_eq_some_iff.1 HP10.out.2.2).1
        have b' : Below W10.heap.size W10 W := B12.out.trans (b.mono B12.out.size)
        exact ⟨(b'.block pi g1).trans HP10.out.1, (b'.block pm g2).trans HP10.out.2.1, (b'.block gf g3).trans HP10.out.2.2, b.block ga hga12, B10.out.trans (b'.mono B10.out.size)⟩)
      have HPr : Hid (∀ W : World, W.heap[gf]? = some (.cells cur 37) → Pr W wr.heap.size (.slice (some ⟨gf, 0, none⟩) (n + 2) cf) (mvL ss 0 n ++ [mkS, mkS])) := (show ∀ W : World, _ → _ from fun W e => ⟨hl9, .inr ⟨gf, cf, cur, by rw [hll], hgf, e, by rw [hll]; exact hlen, hcm, hcs, htk⟩⟩)
      have HSM : Hid (∀ W : World, W.heap[gf]? = some (.cells cur 37) → SAt W gf 0 ss n ∧ SAt W gf 0 (fun j => (mvL ss 0 n ++ [mkS, mkS]).getD j ⟨0, 0, false⟩) (n + 2)) := (show ∀ W : World, _ → _ from fun W e => by
        obtain ⟨a2, c2, e2, hs, _, _⟩ := (HPr.out W e).sml
        rw [hll] at e2 hs
        obtain ⟨rfl, _⟩ : a2 = some ⟨gf, 0, none⟩ ∧ c2 = cf := by cases e2; exact ⟨rfl, rfl⟩
        rcases hs with h0 | ⟨g, o, e3, hg, hat⟩
        · omega
        · cases e3
          refine ⟨fun j hj => ?_, hat⟩
          have h1 := hat j (by omega)
          have h2 : (mvL ss 0 n ++ [mkS, mkS]).getD j ⟨0, 0, false⟩ = ss j := by
            rw [List.getD_eq_getElem?_getD, List.getElem?_append_left (by rw [mvL_len]; exact hj), ← List.getD_eq_getElem?_getD, mvL_at ss 0 n j hj, HMV.out]
          dsimp only at h1
          rw [h2] at h1
          exact h1)
      have HHf : Hid (∀ W, Below w12.heap.size w12 W → HypW (some ⟨gf, 0, none⟩) n ss W) := (show ∀ W, _ → _ from fun W b => ⟨.inr ⟨gf, 0, rfl, Nat.lt_of_lt_of_le HG12.out.1 b.size, (HSM.out W (HP12.out W b).2.2.1).1⟩, (HH.out wr BW.out).2.1, (HH.out wr BW.out).2.2⟩)
      have hk9 : IntKind.i64.wrap ((((fnAt k).2.1 + 2 : Nat) : Int) - 2) = ((fnAt k).2.1 : Int) := by as_aux_lemma => (rw [IntKind.wrap_i64]; omega)
      obtain ⟨R, hR, _⟩ := fn_val k HK.out ss n (nums k xa xb) (HH.out wr BW.out).2.2
      have hFa : Hid (∀ W, Below w12.heap.size w12 W → Fm W (some ⟨ga, 0, none⟩) (nums k xa xb)) := (show ∀ W, _ → _ from fun W b => .inr ⟨ga, 0, rfl, Nat.lt_of_lt_of_le HG12.out.2.2.2 b.size, fun j hj => by
        rw [hnl] at hj
        have h1 := AC.out W (HP12.out W b).2.2.2.1 j (by omega)
        rw [List.getD_eq_getElem?_getD, List.getElem?_append_left (by rw [hnl]; exact hj), ← List.getD_eq_getElem?_getD] at h1
        rw [Nat.zero_add]
        exact h1⟩)
      have HC1 : Hid (∀ W, Below w12.heap.size w12 W → Calls Try.prog 10 #[.string nm, Wn (some ⟨gf, 0, none⟩) n cf F2 T2 N2, .slice (some ⟨ga, 0, none⟩) (fnAt k).2.1 cga] W (RX W ((fnAt k).2.1 = (fnAt k).2.1 ∧ (fnAt k).2.2.1 ≤ n ∧ Snd ss n F2 T2 N2) (R F2 T2 N2))) := (show ∀ W, _ → _ from fun W b => call_gen k HK.out nm HNm.out (some ⟨gf, 0, none⟩) n cf F2 T2 N2 ss (some ⟨ga, 0, none⟩) (fnAt k).2.1 cga _ R hR W (HHf.out W b) (by omega) (hFa.out W b) hnl (by omega))
      have HNI12 : Hid (∀ W, Below w12.heap.size w12 W → W.cell? ⟨gn, i, none⟩ = some (.string nm)) := (show ∀ W, _ → _ from fun W b => HNI.out W (HP12.out W b).2.2.2.2)
      have HCW : Hid (∀ W, Below w12.heap.size w12 W → WnC (some ⟨gf, 0, none⟩) n cf F2 T2 N2 pi W) := (show ∀ W, _ → _ from fun W b => ⟨by unfold World.cell?; rw [(HP12.out W b).1]; rfl, by unfold World.cell?; rw [(HP12.out W b).1]; rfl, by unfold World.cell?; rw [(HP12.out W b).1]; rfl, by unfold World.cell?; rw [(HP12.out W b).1]; rfl⟩)
      have HNL : Hid ((nums k xa xb).length = (fnAt k).2.1) := hnl
      have HAC : Hid (∀ W, Below w12.heap.size w12 W → ∀ j, j < (fnAt k).2.1 + 2 → W.cell? ⟨ga, j, none⟩ = some (.float .f64 ((nums k xa xb ++ [4635118810238550016, 4635189178982727680]).getD j 0))) := (show ∀ W, _ → _ from fun W b => AC.out W (HP12.out W b).2.2.2.1)
      have HRB : Hid (∀ (s' : Nat → Smp), ∃ R', Gen k s' n (nums k xa xb) R') := (show ∀ s', _ from fun s' => by
        obtain ⟨R', h1, _⟩ := fn_val k HK.out s' n (nums k xa xb) (HH.out wr BW.out).2.2
        exact ⟨R', h1⟩)
      have HNUM : Hid (∀ W, Calls Try.prog 16 #[.string nm, .float .f64 xa, .float .f64 xb] W fun r w' => Below W.heap.size W w' ∧ ∃ aa ca, r = .returned (.slice aa (fnAt k).2.1 ca) ∧ Fr w' W.heap.size (.slice aa (fnAt k).2.1 ca) (nums k xa xb)) := (show ∀ W, _ from fun W => numbers_own k HK.out nm HNm.out xa xb W)
      have hla2 : (fnAt k).2.1 ≤ cga := by as_aux_lemma => omega
      have hla3 : ((fnAt k).2.1 : Int) ≤ (cga : Int) := by as_aux_lemma => omega
      have HRQ : ∃ RQ : World → Prop, Hid (∀ W, Below w12.heap.size w12 W → RQ W) ∧ Hid (∀ W, RQ W → ∀ q, RQ (W.drewN q)) ∧ Hid (∀ W, RQ W → ∀ j x, x < 18446744073709551616 → RQ (W.setCell ⟨gf, j * 3 + 1, none⟩ (.float .f64 x))) ∧ Hid (∀ W, RQ W → ∃ s, SW s n ∧ ∀ W', Below W.heap.size W W' → HypW (some ⟨gf, 0, none⟩) n s W' ∧ SAt W' gf 0 s n ∧ WnC (some ⟨gf, 0, none⟩) n cf F2 T2 N2 pi W' ∧ W'.cell? ⟨gn, i, none⟩ = some (.string nm) ∧ Fm W' (some ⟨ga, 0, none⟩) (nums k xa xb)) ∧ Hid (∀ W, RQ W → ∀ o, W.frozen? ⟨gf, o, none⟩ = false) ∧ Hid (∀ W, RQ W → ∀ W', Below W.heap.size W W' → Below w5.heap.size w5 W') := by as_aux_lemma =>
        have g1 := (Array.getElem?_eq_some_iff.1 HP10.out.1).1
        have g3 := (Array.getElem?_eq_some_iff.1 HP10.out.2.2).1
        have gne : gf ≠ ga := by as_aux_lemma => omega
        refine ⟨RKw gf pi ga n cf F2 T2 N2 w12.heap[ga]? wr w12.heap.size, (show ∀ W, _ → _ from fun W b => ?_), (show ∀ W, _ → ∀ q, _ from fun W h q => h.drewN q), (show ∀ W, _ → ∀ j x, _ → _ from fun W h j x hx => h.put hgp.1 gne hgf j x hx), (show ∀ W, _ → _ from fun W h => ?_), (show ∀ W, _ → ∀ o, _ from fun W h o => h.froz o), (show ∀ W, _ → ∀ W', _ → _ from fun W h W' b => ?_)⟩
        · obtain ⟨p1, p2, p3, p4, p5⟩ := HP12.out W b
          exact ⟨ss, (HSM.out W p3).1, (HH.out wr BW.out).2.1, ⟨_, p3⟩, p1, p4, p5, b.size⟩
        · obtain ⟨s, hat, hsw, ⟨cu, hcu⟩, hpi2, hga2, hb2, hm2⟩ := h
          refine ⟨s, hsw, fun W' b => ?_⟩
          have l1 : gf < W.heap.size := (Array.getElem?_eq_some_iff.1 hcu).1
          have l2 : pi < W.heap.size := (Array.getElem?_eq_some_iff.1 hpi2).1
          have l3 : ga < W.heap.size := Nat.lt_of_lt_of_le hga12 hm2
          have hat' : SAt W' gf 0 s n := fun j hj => ⟨bcell b (hat j hj).1 l1, bcell b (hat j hj).2.1 l1, bcell b (hat j hj).2.2 l1⟩
          have hpi3 := (b.block pi l2).trans hpi2
          have hga3 := (b.block ga l3).trans hga2
          refine ⟨⟨.inr ⟨gf, 0, rfl, Nat.lt_of_lt_of_le l1 b.size, hat'⟩, hsw, (HH.out wr BW.out).2.2⟩, hat', ⟨by unfold World.cell?; rw [hpi3]; rfl, by unfold World.cell?; rw [hpi3]; rfl, by unfold World.cell?; rw [hpi3]; rfl, by unfold World.cell?; rw [hpi3]; rfl⟩, HNI.out W' (hb2.trans (b.mono hb2.size)), .inr ⟨ga, 0, rfl, Nat.lt_of_lt_of_le l3 b.size, fun j hj => ?_⟩⟩
          rw [hnl] at hj
          have h1 := AC.out W' hga3 j (by omega)
          rw [List.getD_eq_getElem?_getD, List.getElem?_append_left (by rw [hnl]; exact hj), ← List.getD_eq_getElem?_getD] at h1
          rw [Nat.zero_add]
          exact h1
        · obtain ⟨s, hat, hsw, hcu, hpi2, hga2, hb2, hm2⟩ := h
          exact hb.out.trans ((hb2.trans (b.mono hb2.size)).mono hb.out.size)
      obtain ⟨RQ, HR0, HRD, HRP, HRX, HRF, HRW⟩ := HRQ
      clear hR o12 o12' b11 b12 o11 hcura hga hla hlena AC hnl hgf hcm hcs htk hl9 hll hlen hgp hFa hga12
      generalize R F2 T2 N2 = Ra at *
      generalize ((fnAt k).2.1 = (fnAt k).2.1 ∧ (fnAt k).2.2.1 ≤ n ∧ Snd ss n F2 T2 N2) = P1 at *
      go_upto_region 13 with (at_builtin; refine wpList_append_run rfl (.tmp 52) (.tmp 53) 32 32 rfl _ _ rfl rfl r12 ?_)
      clear r12
      have HS1 : Hid (∀ W, Below w12.heap.size w12 W → (W.cell? ⟨gn, i, none⟩ = some (.string nm) ∧ WnC (some ⟨gf, 0, none⟩) n cf F2 T2 N2 pi W) ∧ Below w12.heap.size w12 W) := (show ∀ W, _ → _ from fun W b => ⟨⟨HNI12.out W b, HCW.out W b⟩, b⟩)
      obtain ⟨⟨nI, y0, y1, y2, y3⟩, _⟩ := HS1.out w12 (Below.refl _ _)
      have bd : Below w12.heap.size w12 w12.drew := (Below.refl _ _).drew
      unfold WnC at HS1
      go_region_held3 (fun w2 => (w2.cell? ⟨gn, i, none⟩ = some (.string nm) ∧ w2.cell? ⟨pi, 0, none⟩ = some (.slice (some ⟨gf, 0, none⟩) n cf) ∧ w2.cell? ⟨pi, 1, none⟩ = some (.int .i64 F2) ∧ w2.cell? ⟨pi, 2, none⟩ = some (.int .i64 T2) ∧ w2.cell? ⟨pi, 3, none⟩ = some (.int .i64 N2)) ∧ Below w12.heap.size w12 w2) (first | exact HS1.out _ (by assumption) | exact HS1.out _ (Below.drew (by assumption))) (first | (go_at_call 10; go_fit (HC1.out _ (by first | exact bd | exact Below.refl _ _)); rintro e w13 ⟨z1, b1, rfl, hz1, b13, hl1, hv1, hn1⟩; have bc : Below w12.heap.size w12 w13 := by first | exact bd.trans (b13.mono bd.size) | exact b13))
      rename_i hh
      have HZ1 : Hid ((b1 = true ↔ P1) ∧ (b1 = true → cl z1 = Ra) ∧ (b1 = false → z1 = 0)) := ⟨hz1, hv1, hn1⟩
      have BC : Hid (Below w12.heap.size w12 w13) := bc
      clear hh hz1 hv1 hn1 y0 y1 y2 y3 nI bd b13 bc HS1
      have HS2 : Hid (∀ W, Below w13.heap.size w13 W → (W.cell? ⟨gn, i, none⟩ = some (.string nm) ∧ WnC (some ⟨gf, 0, none⟩) n cf F2 T2 N2 pi W) ∧ Below w13.heap.size w13 W) := (show ∀ W, _ → _ from fun W b => ⟨⟨HNI12.out W (BC.out.trans (b.mono BC.out.size)), HCW.out W (BC.out.trans (b.mono BC.out.size))⟩, b⟩)
      obtain ⟨⟨nI, y0, y1, y2, y3⟩, _⟩ := HS2.out w13 (Below.refl _ _)
      have bd : Below w13.heap.size w13 w13.drew := (Below.refl _ _).drew
      have HC2 : Hid (∀ W, Below w13.heap.size w13 W → Calls Try.prog 10 #[.string nm, Wn (some ⟨gf, 0, none⟩) n cf F2 T2 N2, .slice (some ⟨ga, 0, none⟩) (fnAt k).2.1 cga] W (RX W P1 Ra)) := (show ∀ W, _ → _ from fun W b => HC1.out W (BC.out.trans (b.mono BC.out.size)))
      unfold WnC at HS2
      go_wp2_with fail
      go_region_held3 (fun w2 => (w2.cell? ⟨gn, i, none⟩ = some (.string nm) ∧ w2.cell? ⟨pi, 0, none⟩ = some (.slice (some ⟨gf, 0, none⟩) n cf) ∧ w2.cell? ⟨pi, 1, none⟩ = some (.int .i64 F2) ∧ w2.cell? ⟨pi, 2, none⟩ = some (.int .i64 T2) ∧ w2.cell? ⟨pi, 3, none⟩ = some (.int .i64 N2)) ∧ Below w13.heap.size w13 w2) (first | exact HS2.out _ (by assumption) | exact HS2.out _ (Below.drew (by assumption))) (first | (go_at_call 10; go_fit (HC2.out _ (by first | exact bd | exact Below.refl _ _)); rintro e w14 ⟨z2, b2, rfl, hz2, b14, hl2, hv2, hn2⟩; have bc : Below w13.heap.size w13 w14 := by first | exact bd.trans (b14.mono bd.size) | exact b14))
      rename_i hh
      have HZ2 : Hid ((b2 = true ↔ P1) ∧ (b2 = true → cl z2 = Ra) ∧ (b2 = false → z2 = 0)) := ⟨hz2, hv2, hn2⟩
      have B14 : Hid (Below w12.heap.size w12 w14) := BC.out.trans (bc.mono BC.out.size)
      clear hh hz2 hv2 hn2 y0 y1 y2 y3 nI bd b14 bc HS2 HC2 BC
      have hbb : b2 = b1 := by
        have h3 : b1 = true ↔ b2 = true := HZ1.out.1.trans HZ2.out.1.symm
        cases b1 <;> cases b2 <;> simp_all
      have HCL : Hid (smB (cl z1) (cl z2) = true) := (show _ = _ by
        have h3 : cl z1 = cl z2 := by
          subst hbb
          cases b2
          · rw [HZ1.out.2.2 rfl, HZ2.out.2.2 rfl]
          · rw [HZ1.out.2.1 rfl, HZ2.out.2.1 rfl]
        unfold smB
        simp [h3])
      have k15 : ∀ W, Calls Try.prog 15 #[.float .f64 z1, .float .f64 z2] W fun r w' => r = .returned (.bool true) ∧ w' = W := fun W => (same_any z1 z2 W).mono (fun r w' hx => by rw [HCL.out] at hx; exact hx)
      subst hbb
      clear HZ1 HZ2 HCL HC1
      have hxx : (b2 != b2) = false := by cases b2 <;> rfl
      have d7 : (FloatKind.f64.format.order 4619567317775286272 4619567317775286272 == some .eq) = true := d7_
      have d77 : (FloatKind.f64.format.order 4635118810238550016 4635118810238550016 != some .eq) = false := d77_
      have d78 : (FloatKind.f64.format.order 4635189178982727680 4635189178982727680 != some .eq) = false := d78_
      have HS3 : Hid (∀ W, Below w14.heap.size w14 W → (W.cell? ⟨w.heap.size, 0, none⟩ = some (.slice a n c) ∧ (W.cell? ⟨gf, n * 3, none⟩ = some (.int .i64 (-7)) ∧ W.cell? ⟨gf, n * 3 + 1, none⟩ = some (.float .f64 4619567317775286272) ∧ W.cell? ⟨gf, n * 3 + 2, none⟩ = some (.bool true)) ∧ (W.cell? ⟨gf, (n + 1) * 3, none⟩ = some (.int .i64 (-7)) ∧ W.cell? ⟨gf, (n + 1) * 3 + 1, none⟩ = some (.float .f64 4619567317775286272) ∧ W.cell? ⟨gf, (n + 1) * 3 + 2, none⟩ = some (.bool true)) ∧ (W.cell? ⟨pm, 0, none⟩ = some (.int .i64 (-7)) ∧ W.cell? ⟨pm, 1, none⟩ = some (.float .f64 4619567317775286272) ∧ W.cell? ⟨pm, 2, none⟩ = some (.bool true)) ∧ W.cell? ⟨ga, (fnAt k).2.1, none⟩ = some (.float .f64 4635118810238550016) ∧ W.cell? ⟨ga, (fnAt k).2.1 + 1, none⟩ = some (.float .f64 4635189178982727680)) ∧ Below w14.heap.size w14 W) := (show ∀ W, _ → _ from fun W b => by
        have b' := B14.out.trans (b.mono B14.out.size)
        obtain ⟨p1, p2, p3, p4, p5⟩ := HP12.out W b'
        have hat := (HSM.out W p3).2
        have e1 : (mvL ss 0 n ++ [mkS, mkS]).getD n ⟨0, 0, false⟩ = mkS := by
          rw [List.getD_eq_getElem?_getD, List.getElem?_append_right (by rw [mvL_len]; exact Nat.le_refl _), mvL_len, Nat.sub_self]
          rfl
        have e2 : (mvL ss 0 n ++ [mkS, mkS]).getD (n + 1) ⟨0, 0, false⟩ = mkS := by
          rw [List.getD_eq_getElem?_getD, List.getElem?_append_right (by rw [mvL_len]; omega), mvL_len, show n + 1 - n = 1 by omega]
          rfl
        have h1 := hat n (by omega)
        have h2 := hat (n + 1) (by omega)
        dsimp only at h1 h2
        rw [e1] at h1
        rw [e2] at h2
        rw [Nat.zero_add] at h1 h2
        have h3 := HAC.out W b' (fnAt k).2.1 (by omega)
        have h4 := HAC.out W b' ((fnAt k).2.1 + 1) (by omega)
        rw [List.getD_eq_getElem?_getD, List.getElem?_append_right (by rw [HNL.out]; exact Nat.le_refl _), HNL.out, Nat.sub_self] at h3
        rw [List.getD_eq_getElem?_getD, List.getElem?_append_right (by rw [HNL.out]; omega), HNL.out, show (fnAt k).2.1 + 1 - (fnAt k).2.1 = 1 by omega] at h4
        exact ⟨⟨(HC.out W (BR.out.trans (p5.mono BR.out.size))).1, h1, h2, ⟨by unfold World.cell?; rw [p2]; rfl, by unfold World.cell?; rw [p2]; rfl, by unfold World.cell?; rw [p2]; rfl⟩, h3, h4⟩, b⟩)
      obtain ⟨⟨y0, ⟨q0, q1, q2⟩, ⟨r0, r1, r2⟩, ⟨m0, m1, m2⟩, t0, t1⟩, _⟩ := HS3.out w14 (Below.refl _ _)
      go_wp2_with fail
      have bd : Below w14.heap.size w14 w14.drew := (Below.refl _ _).drew
      have n0 : (0 : Int) ≤ (n : Int) := by as_aux_lemma => omega
      have nb : (n : Int) ≤ 9223372036854775805 := by have := HL.out; omega
      have sb : ((fnAt k).2.1 : Int) ≤ 2 := by as_aux_lemma => omega
      have s0 : (0 : Int) ≤ ((fnAt k).2.1 : Int) := by as_aux_lemma => omega
      have hneq := mk_neq
      have u1 : (n : Int) < (n : Int) + 2 := by as_aux_lemma => omega
      have u2 : (n : Int) + 1 < (n : Int) + 2 := by as_aux_lemma => omega
      have u3 : IntKind.i64.wrap ((n : Int) + 1) = (n : Int) + 1 := by as_aux_lemma => (rw [IntKind.wrap_i64]; omega)
      have u4 : (0 : Int) ≤ (n : Int) + 1 := by as_aux_lemma => omega
      have u5 : ((fnAt k).2.1 : Int) < ((fnAt k).2.1 : Int) + 2 := by as_aux_lemma => omega
      have u6 : ((fnAt k).2.1 : Int) + 1 < ((fnAt k).2.1 : Int) + 2 := by as_aux_lemma => omega
      have u7 : IntKind.i64.wrap (((fnAt k).2.1 : Int) + 1) = ((fnAt k).2.1 : Int) + 1 := by as_aux_lemma => (rw [IntKind.wrap_i64]; omega)
      have u8 : (0 : Int) ≤ ((fnAt k).2.1 : Int) + 1 := by as_aux_lemma => omega
      go_big_quiet (first | (go_at_call 15; refine Calls.quiet_of_same (k15 _)))
      clear y0 q0 q1 q2 r0 r1 r2 m0 m1 m2 t0 t1 d7 d77 d78 hxx k15 hneq u1 u2 u3 u4 u5 u6 u7 u8 HS3
      have HSC : Hid ((fnAt k).2.1 ≤ 2 ∧ (fnAt k).2.1 ≤ cga ∧ n ≤ cf) := ⟨h9, hla2, by omega⟩
      have HB14 : Hid (∀ W, Below w14.heap.size w14 W → Below w12.heap.size w12 W) := (show ∀ W, _ → _ from fun W b => B14.out.trans (b.mono B14.out.size))
      have HPP : Hid (∀ W, Below w14.heap.size w14 W → W.cell? ⟨w.heap.size, 0, none⟩ = some (.slice a n c)) := (show ∀ W, _ → _ from fun W b => (HC.out W (BR.out.trans ((HP12.out W (HB14.out W b)).2.2.2.2.mono BR.out.size))).1)
      go_wp2_with fail
      go_loopw [18] (fun iv W => ∃ j : Nat, iv = .int .i64 (j : Nat) ∧ j ≤ n ∧ Hid (Below w14.heap.size w14 W)) (fun iv _ => n - (RowKit.intOf iv).toNat)
      case atStart => exact ⟨0, rfl, by omega, below_drewN (Below.refl _ _) nq⟩
      case round =>
        obtain ⟨j, rfl, hj, hbj⟩ := hrel
        have hx0 := HPP.out wr hbj.out
        by_cases hjn : j < n
        · have jj : (j : Int) < (n : Int) := by omega
          have j0 : (0 : Int) ≤ (j : Int) := by as_aux_lemma => omega
          have HJ : Hid (j + 1 ≤ n) := hjn
          rcases (HH.out w (Below.refl _ _)).1 with h0 | ⟨g, o, rfl, hg, hat⟩
          · omega
          have HSJ : Hid (∀ W, Below wr.heap.size wr W → (W.cell? ⟨pi, 0, none⟩ = some (.slice (some ⟨gf, 0, none⟩) n cf) ∧ W.cell? ⟨w.heap.size, 0, none⟩ = some (.slice (some ⟨g, o, none⟩) n c) ∧ (W.cell? ⟨gf, j * 3, none⟩ = some (.int .i64 (ss j).t) ∧ W.cell? ⟨gf, j * 3 + 1, none⟩ = some (.float .f64 (ss j).v) ∧ W.cell? ⟨gf, j * 3 + 2, none⟩ = some (.bool (ss j).s)) ∧ (W.cell? ⟨g, o + j * 3, none⟩ = some (.int .i64 (ss j).t) ∧ W.cell? ⟨g, o + j * 3 + 1, none⟩ = some (.float .f64 (ss j).v) ∧ W.cell? ⟨g, o + j * 3 + 2, none⟩ = some (.bool (ss j).s))) ∧ Below wr.heap.size wr W) := (show ∀ W, _ → _ from fun W b => by
            have b14 := hbj.out.trans (b.mono hbj.out.size)
            have b12 := HB14.out W b14
            obtain ⟨p1, p2, p3, p4, p5⟩ := HP12.out W b12
            have h1 := (HSM.out W p3).1 j hjn
            rw [Nat.zero_add] at h1
            have h2 := hat j hjn
            have h3 : ∀ o v, w.cell? ⟨g, o, none⟩ = some v → W.cell? ⟨g, o, none⟩ = some v := fun o v h => bcell p5 (bcell BW.out h hg) (Nat.lt_of_lt_of_le hg BW.out.size)
            exact ⟨⟨(HCW.out W b12).1, HPP.out W b14, h1, h3 _ _ h2.1, h3 _ _ h2.2.1, h3 _ _ h2.2.2⟩, b⟩)
          clear hat
          obtain ⟨u, hu⟩ : ∃ u, ss j = u := ⟨_, rfl⟩
          rw [hu] at HSJ
          clear hu
          obtain ⟨⟨y0, y1, ⟨q0, q1, q2⟩, ⟨r0, r1, r2⟩⟩, _⟩ := HSJ.out wr (Below.refl _ _)
          have k15 : ∀ W, Calls Try.prog 15 #[.float .f64 u.v, .float .f64 u.v] W fun r w' => r = .returned (.bool true) ∧ w' = W := fun W => (same_any u.v u.v W).mono (fun r w' hx => by rw [show smB (cl u.v) (cl u.v) = true by unfold smB; simp] at hx; exact hx)
          have hss : (u.s != u.s) = false := by cases u.s <;> rfl
          have htt : (u.t != u.t) = false := by simp
          have bd : Below wr.heap.size wr wr.drew := (Below.refl _ _).drew
          have HBJ : Hid (∀ q, Below w14.heap.size w14 (wr.drewN q)) := (show ∀ q, _ from fun q => below_drewN hbj.out q)
          go_wp2_with fail
          go_big_quiet (first | (go_at_call 15; refine Calls.quiet_of_same (k15 _)))
          clear y0 y1 q0 q1 q2 r0 r1 r2 k15 hss htt bd HSJ
          go_wp2
          exact ⟨⟨j + 1, by go_num, HJ.out, HBJ.out _⟩, by simp [RowKit.intOf]; omega⟩
        · have jj : ¬ (j : Int) < (n : Int) := by omega
          have hsc0 := HSC.out.1
          go_wp2_with fail
          go_loopw [19] (fun iv W => ∃ l : Nat, iv = .int .i64 (l : Nat) ∧ l ≤ (fnAt k).2.1 ∧ Hid (Below w14.heap.size w14 W)) (fun iv _ => (fnAt k).2.1 - (RowKit.intOf iv).toNat)
          case atStart => exact ⟨0, rfl, by omega, hbj⟩
          case round =>
            obtain ⟨l, rfl, hl3, hbl⟩ := hrel
            by_cases hls : l < (fnAt k).2.1
            · have ll : (l : Int) < ((fnAt k).2.1 : Int) := by omega
              have l0 : (0 : Int) ≤ (l : Int) := by as_aux_lemma => omega
              have l1 : (l : Int) < ((fnAt k).2.1 : Int) + 2 := by as_aux_lemma => omega
              have HLL : Hid (l + 1 ≤ (fnAt k).2.1) := hls
              have HSL : Hid (∀ W, Below wr.heap.size wr W → (W.cell? ⟨gn, i, none⟩ = some (.string nm) ∧ W.cell? ⟨ga, l, none⟩ = some (.float .f64 ((nums k xa xb).getD l 0))) ∧ Below wr.heap.size wr W) := (show ∀ W, _ → _ from fun W b => by
                have b12 := HB14.out W (hbl.out.trans (b.mono hbl.out.size))
                have h1 := HAC.out W b12 l (by omega)
                rw [List.getD_eq_getElem?_getD, List.getElem?_append_left (by rw [HNL.out]; exact hls), ← List.getD_eq_getElem?_getD] at h1
                exact ⟨⟨HNI12.out W b12, h1⟩, b⟩)
              have HNJ : Hid (∀ W, Calls Try.prog 16 #[.string nm, .float .f64 xa, .float .f64 xb] W fun r w' => Below W.heap.size W w' ∧ ∃ gq cq, r = .returned (.slice (some ⟨gq, 0, none⟩) (fnAt k).2.1 cq) ∧ w'.cell? ⟨gq, l, none⟩ = some (.float .f64 ((nums k xa xb).getD l 0))) := (show ∀ W, _ from fun W => (HNUM.out W).mono fun r w' hx => by
                obtain ⟨bx, aa, ca, e, hf⟩ := hx
                rcases hf.2 with ⟨_, h1⟩ | ⟨g1, cap, cur1, h1, _⟩
                · have := HNL.out
                  omega
                · obtain ⟨rfl, _, _⟩ := Value.slice.inj h1
                  have h2 := hf.cells (g := g1) rfl l (.float .f64 ((nums k xa xb).getD l 0)) (by
                    have hjl : l < (nums k xa xb).length := by rw [HNL.out]; exact hls
                    unfold fc
                    rw [List.getElem?_map, List.getD_eq_getElem?_getD, List.getElem?_eq_getElem hjl]
                    rfl)
                  rw [Go.WideShapes.add_plain, Nat.zero_add] at h2
                  exact ⟨bx, g1, ca, e, h2⟩)
              generalize (nums k xa xb).getD l 0 = xl at HSL HNJ
              obtain ⟨⟨y0, y1⟩, _⟩ := HSL.out wr (Below.refl _ _)
              have k15 : ∀ W, Calls Try.prog 15 #[.float .f64 xl, .float .f64 xl] W fun r w' => r = .returned (.bool true) ∧ w' = W := fun W => (same_any xl xl W).mono (fun r w' hx => by rw [show smB (cl xl) (cl xl) = true by unfold smB; simp] at hx; exact hx)
              have bd : Below wr.heap.size wr wr.drew := (Below.refl _ _).drew
              go_upto_region 25 with fail
              go_cut [198] from 178 to 198 (fun s wx => s = .bool false ∧ Hid (Below w14.heap.size w14 wx))
              case first =>
                go_region_with (first | (go_at_call 16; go_fit (HNJ.out _); rintro e w20 ⟨b20, gq, cq, rfl, hq⟩; have bb : Below wr.heap.size wr w20 := (by first | exact bd.trans (b20.mono bd.size) | exact b20); obtain ⟨⟨y0', y1'⟩, _⟩ := HSL.out w20 bb; have BB : Hid (Below w14.heap.size w14 w20) := hbl.out.trans (bb.mono hbl.out.size); clear bb b20) | (go_at_call 15; go_fit (k15 _); rintro e w21 ⟨rfl, rfl⟩) )
                all_goals (go_wp2_with fail; go_meet; exact ⟨rfl, BB⟩)
              case rest =>
                obtain ⟨rfl, hbc⟩ := hcut
                go_wp2
                exact ⟨⟨l + 1, by go_num, HLL.out, hbc⟩, by simp [RowKit.intOf]; omega⟩
            · have ll : ¬ (l : Int) < ((fnAt k).2.1 : Int) := by omega
              have HQ0 : Hid (RQ wr) := HR0.out wr (HB14.out wr hbl.out)
              go_wp2_with fail
              go_loopw [20] (fun iv W => ∃ j : Nat, iv = .int .i64 (j : Nat) ∧ j ≤ n ∧ Hid (RQ W)) (fun iv _ => n - (RowKit.intOf iv).toNat)
              case atStart => exact ⟨0, rfl, by omega, HQ0⟩
              case round =>
                obtain ⟨j, rfl, hj, hq⟩ := hrel
                obtain ⟨s', hsw', hall⟩ := HRX.out wr hq.out
                obtain ⟨hyp0, hat0, ⟨y0, y1, y2, y3⟩, hni0, _⟩ := hall wr (Below.refl _ _)
                by_cases hjn : j < n
                · have jj : (j : Int) < (n : Int) := by omega
                  have j0 : (0 : Int) ≤ (j : Int) := by as_aux_lemma => omega
                  have HJ : Hid (j + 1 ≤ n) := hjn
                  obtain ⟨q0, q1, q2⟩ := hat0 j hjn
                  have lv := (hsw' j hjn).2.2
                  rw [Nat.zero_add] at q0 q1 q2
                  have fzj := HRF.out wr hq.out (j * 3 + 1)
                  have HPUT : Hid (∀ x, x < 18446744073709551616 → ∀ q, RQ ((wr.drewN q).setCell ⟨gf, j * 3 + 1, none⟩ (.float .f64 x))) := (show ∀ x, _ → ∀ q, _ from fun x hx q => HRP.out _ (HRD.out _ hq.out q) j x hx)
                  generalize s' j = u at *
                  have hsub := @run_fsub Try.prog
                  have hsf := @run_store_float Try.prog
                  clear hyp0 hat0 hni0 hall
                  go_wp2_with fail
                  go_region
                  all_goals (go_wp2_with fail; exact ⟨⟨j + 1, by go_num, HJ.out, HPUT.out _ (fz_lt _ _ _ _) _⟩, by simp [RowKit.intOf]; omega⟩)
                · have jj : ¬ (j : Int) < (n : Int) := by omega
                  have kcp2 := copied_own (some ⟨gf, 0, none⟩) n cf F2 T2 N2 0 s' wr hyp0.1 (by have := HL.out; omega)
                  rw [HF2.out.1, HF2.out.2.1, HF2.out.2.2] at kcp2
                  have HALL : Hid (∀ W', Below wr.heap.size wr W' → HypW (some ⟨gf, 0, none⟩) n s' W' ∧ SAt W' gf 0 s' n ∧ WnC (some ⟨gf, 0, none⟩) n cf F2 T2 N2 pi W' ∧ W'.cell? ⟨gn, i, none⟩ = some (.string nm) ∧ Fm W' (some ⟨ga, 0, none⟩) (nums k xa xb)) := hall
                  have HSWs : Hid (SW s' n) := hsw'
                  obtain ⟨R', hR'⟩ := HRB.out s'
                  have HGEN : Hid (Gen k s' n (nums k xa xb) R') := hR'
                  have HEW : Hid (∀ W, Below wr.heap.size wr W → Below w5.heap.size w5 W) := HRW.out wr hq.out
                  clear hall hat0 hyp0 hni0 hR' hsw'
                  go_wp2_with fail
                  go_fit kcp2
                  rintro e w16 ⟨b16, a3, c3, rfl, hc3, o16⟩
                  clear y0 y1 y2 y3 kcp2
                  go_upto_region 32 with fail
                  obtain ⟨W17, hW17⟩ : ∃ W17, W17 = w16.alloc (wnX a3 n c3 F2 T2 N2) := ⟨_, rfl⟩
                  have C17 : Hid (∀ W, Below W17.heap.size W17 W → WnC a3 n c3 F2 T2 N2 w16.heap.size W) := (show ∀ W, _ → _ from by rw [hW17]; exact wnC_new a3 n c3 F2 T2 N2 w16)
                  have b17 : Below wr.heap.size wr W17 := by rw [hW17]; exact b16.alloc b16.size _
                  have b167 : Below w16.heap.size w16 W17 := by rw [hW17]; exact (Below.refl _ w16).alloc (Nat.le_refl _) _
                  have HYP16 : Hid (HypW a3 n s' w16) := pr_hyp o16 HSWs.out (by have := HL.out; omega)
                  have H17 : Hid (∀ W, Below W17.heap.size W17 W → HypW a3 n s' W) := (show ∀ W, _ → _ from fun W b => HYP16.out.below (b167.trans (b.mono b167.size)))
                  have B17 : Hid (Below wr.heap.size wr W17) := b17
                  dsimp only [wnX] at hW17
                  rw [← hW17]
                  clear hW17 o16 b16 b17 b167
                  obtain ⟨pf, hpf⟩ : ∃ pf, pf = w16.heap.size := ⟨_, rfl⟩
                  rw [← hpf] at C17 ⊢
                  clear hpf
                  have HS4 : Hid (∀ W, Below W17.heap.size W17 W → (W.cell? ⟨gn, i, none⟩ = some (.string nm) ∧ WnC (some ⟨gf, 0, none⟩) n cf F2 T2 N2 pi W) ∧ Below W17.heap.size W17 W) := (show ∀ W, _ → _ from fun W b => by
                    have x := HALL.out W (B17.out.trans (b.mono B17.out.size))
                    exact ⟨⟨x.2.2.2.1, x.2.2.1⟩, b⟩)
                  have HNI17 : Hid (∀ W, Below W17.heap.size W17 W → W.cell? ⟨gn, i, none⟩ = some (.string nm)) := (show ∀ W, _ → _ from fun W b => (HS4.out W b).1.1)
                  have HC3 : Hid (∀ W, Below W17.heap.size W17 W → Calls Try.prog 10 #[.string nm, Wn (some ⟨gf, 0, none⟩) n cf F2 T2 N2, .slice (some ⟨ga, 0, none⟩) (fnAt k).2.1 cga] W (RX W ((fnAt k).2.1 = (fnAt k).2.1 ∧ (fnAt k).2.2.1 ≤ n ∧ Snd s' n F2 T2 N2) (R' F2 T2 N2))) := (show ∀ W, _ → _ from fun W b => by
                    have x := HALL.out W (B17.out.trans (b.mono B17.out.size))
                    exact call_gen k HK.out nm HNm.out (some ⟨gf, 0, none⟩) n cf F2 T2 N2 s' (some ⟨ga, 0, none⟩) (fnAt k).2.1 cga _ R' HGEN.out W x.1 HSC.out.2.2 x.2.2.2.2 HNL.out (by have := HSC.out.1; omega))
                  have HC4 : Hid (∀ W aa ca, Below W17.heap.size W17 W → Fm W aa (nums k xa xb) → Calls Try.prog 10 #[.string nm, Wn a3 n c3 F2 T2 N2, .slice aa (fnAt k).2.1 ca] W (RX W ((fnAt k).2.1 = (fnAt k).2.1 ∧ (fnAt k).2.2.1 ≤ n ∧ Snd s' n F2 T2 N2) (R' F2 T2 N2))) := (show ∀ W aa ca, _ → _ → _ from fun W aa ca b hf => call_gen k HK.out nm HNm.out a3 n c3 F2 T2 N2 s' aa (fnAt k).2.1 ca _ R' HGEN.out W (H17.out W b) hc3 hf HNL.out (by have := HSC.out.1; omega))
                  have HE17 : Hid (∀ W, Below W17.heap.size W17 W → Below w5.heap.size w5 W) := (show ∀ W, _ → _ from fun W b => HEW.out W (B17.out.trans (b.mono B17.out.size)))
                  generalize R' F2 T2 N2 = R2 at *
                  generalize ((fnAt k).2.1 = (fnAt k).2.1 ∧ (fnAt k).2.2.1 ≤ n ∧ Snd s' n F2 T2 N2) = P2 at *
                  obtain ⟨⟨nI, y0, y1, y2, y3⟩, _⟩ := HS4.out W17 (Below.refl _ _)
                  have bd : Below W17.heap.size W17 W17.drew := (Below.refl _ _).drew
                  unfold WnC at HS4
                  go_region_held3 (fun w2 => (w2.cell? ⟨gn, i, none⟩ = some (.string nm) ∧ w2.cell? ⟨pi, 0, none⟩ = some (.slice (some ⟨gf, 0, none⟩) n cf) ∧ w2.cell? ⟨pi, 1, none⟩ = some (.int .i64 F2) ∧ w2.cell? ⟨pi, 2, none⟩ = some (.int .i64 T2) ∧ w2.cell? ⟨pi, 3, none⟩ = some (.int .i64 N2)) ∧ Below W17.heap.size W17 w2) (first | exact HS4.out _ (by assumption) | exact HS4.out _ (Below.drew (by assumption))) (first | (go_at_call 10; go_fit (HC3.out _ (by first | exact bd | exact Below.refl _ _)); rintro e w18 ⟨z3, b3, rfl, hz3, b18, hl3', hv3, hn3⟩; have bc : Below W17.heap.size W17 w18 := by first | exact bd.trans (b18.mono bd.size) | exact b18))
                  rename_i hh
                  have HZ3 : Hid ((b3 = true ↔ P2) ∧ (b3 = true → cl z3 = R2) ∧ (b3 = false → z3 = 0)) := ⟨hz3, hv3, hn3⟩
                  have B18 : Hid (Below W17.heap.size W17 w18) := bc
                  clear hh hz3 hv3 hn3 y0 y1 y2 y3 nI bd b18 bc HS4 HC3
                  have HS5 : Hid (∀ W, Below w18.heap.size w18 W → (W.cell? ⟨gn, i, none⟩ = some (.string nm) ∧ WnC a3 n c3 F2 T2 N2 pf W) ∧ Below w18.heap.size w18 W) := (show ∀ W, _ → _ from fun W b => ⟨⟨HNI17.out W (B18.out.trans (b.mono B18.out.size)), C17.out W (B18.out.trans (b.mono B18.out.size))⟩, b⟩)
                  have HC5 : Hid (∀ W aa ca, Below w18.heap.size w18 W → Fm W aa (nums k xa xb) → Calls Try.prog 10 #[.string nm, Wn a3 n c3 F2 T2 N2, .slice aa (fnAt k).2.1 ca] W (RX W P2 R2)) := (show ∀ W aa ca, _ → _ → _ from fun W aa ca b hf => HC4.out W aa ca (B18.out.trans (b.mono B18.out.size)) hf)
                  have HE18 : Hid (∀ W, Below w18.heap.size w18 W → Below w5.heap.size w5 W) := (show ∀ W, _ → _ from fun W b => HE17.out W (B18.out.trans (b.mono B18.out.size)))
                  obtain ⟨⟨nI, y0, y1, y2, y3⟩, _⟩ := HS5.out w18 (Below.refl _ _)
                  have bd : Below w18.heap.size w18 w18.drew := (Below.refl _ _).drew
                  unfold WnC at HS5
                  go_wp2_with fail
                  go_region_held3 (fun w2 => (w2.cell? ⟨gn, i, none⟩ = some (.string nm) ∧ w2.cell? ⟨pf, 0, none⟩ = some (.slice a3 n c3) ∧ w2.cell? ⟨pf, 1, none⟩ = some (.int .i64 F2) ∧ w2.cell? ⟨pf, 2, none⟩ = some (.int .i64 T2) ∧ w2.cell? ⟨pf, 3, none⟩ = some (.int .i64 N2)) ∧ Below w18.heap.size w18 w2) (first | exact HS5.out _ (by assumption) | exact HS5.out _ (Below.drew (by assumption))) (first | (go_at_call 16; go_fit (HNUM.out _); rintro e w20 ⟨b20, aa, ca, rfl, hf20⟩; have bq : Below w18.heap.size w18 w20 := (by first | exact bd.trans (b20.mono bd.size) | exact b20); have hq20 := fr_fm hf20; clear b20 hf20) | (go_at_call 10; go_fit (HC5.out _ _ _ bq hq20); rintro e w22 ⟨z4, b4, rfl, hz4, b22, hl4', hv4, hn4⟩; have bc : Below w18.heap.size w18 w22 := bq.trans (b22.mono bq.size)))
                  rename_i hh
                  have HZ4 : Hid ((b4 = true ↔ P2) ∧ (b4 = true → cl z4 = R2) ∧ (b4 = false → z4 = 0)) := ⟨hz4, hv4, hn4⟩
                  have BE : Hid (Below w5.heap.size w5 w22) := HE18.out w22 bc
                  clear hh hz4 hv4 hn4 y0 y1 y2 y3 nI bd b22 bc bq hq20 HS5 HC5
                  have hbb2 : b4 = b3 := by
                    have h3 : b3 = true ↔ b4 = true := HZ3.out.1.trans HZ4.out.1.symm
                    cases b3 <;> cases b4 <;> simp_all
                  have HCL2 : Hid (smB (cl z3) (cl z4) = true) := (show _ = _ by
                    have h3 : cl z3 = cl z4 := by
                      subst hbb2
                      cases b4
                      · rw [HZ3.out.2.2 rfl, HZ4.out.2.2 rfl]
                      · rw [HZ3.out.2.1 rfl, HZ4.out.2.1 rfl]
                    unfold smB
                    simp [h3])
                  have k15 : ∀ W, Calls Try.prog 15 #[.float .f64 z3, .float .f64 z4] W fun r w' => r = .returned (.bool true) ∧ w' = W := fun W => (same_any z3 z4 W).mono (fun r w' hx => by rw [HCL2.out] at hx; exact hx)
                  subst hbb2
                  have hyy : (b4 != b4) = false := by cases b4 <;> rfl
                  clear HZ3 HZ4 HCL2
                  go_wp2_with fail
                  go_fit (k15 _)
                  rintro e w23 ⟨rfl, rfl⟩
                  go_wp2
                  exact ⟨⟨i + 1, by go_num, HI.out, BE⟩, by simp [RowKit.intOf]; omega⟩
    · have hii : ¬ (i : Int) < 23 := by omega
      go_wp2
      go_ret
      exact ⟨rfl, BW.out⟩
end Go.Proofs.Ytmjenemjbpimcaa
