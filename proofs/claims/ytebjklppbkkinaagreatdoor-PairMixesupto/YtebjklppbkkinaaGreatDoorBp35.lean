/- A bundle of texts. -/
import Derived.Test.YtebjklppbkkinaaGreatDoorBp31
import Derived.Test.YtebjklppbkkinaaGreatDoorBp34
import Derived.Deep.RegionHeld3
/- Pair: the reference's Negate. -/
namespace Go.Proofs.YtebjklppbkkinaaGreatDoor
open Go.RowKit Go.Lib Go.Shelf Go.Sort

attribute [local go_sem] Oper.semAt_some run_store_float

set_option maxRecDepth 100000 in
set_option maxHeartbeats 16000000 in
theorem rnegate_any (a : Option Addr) (n c : Nat) (q : Nat → El) (w : World) (hE : Em w a q n) (hz : a = none → n = 0 ∧ c = 0) (hnc : n ≤ c) (hcm : c ≤ 9223372036854775807) (hn : n ≤ 1048576) (hq : ∀ j, j < n → Hq w (q j)) :
    Calls Tryz.prog 15 #[.slice a n c] w (AN (MX ((elL q n).map core) true ngC) w) := by
  have kv := rvector_any a n c q w hE hz hnc hcm (by omega) (fun j hj => (hq j hj).eo)
  have HQ : Hid (∀ j, j < n → Hq w (q j)) := hq
  clear hq hE hz hnc hcm
  go_enter Tryz.func15, Tryz.ntmps15
  go_wp2_with fail
  go_fit kv
  rintro e w2 hR
  obtain ⟨E, N, aR, cR, r, rfl, b1, oR, hNn, hmem, hCV⟩ := RVR.wa hR
  have HB1 : Hid (Below w.heap.size w w2) := b1
  have HCV : Hid (CV ((elL q n).map core) E ((elL r N).map core)) := hCV
  have HRQ : Hid (∀ W, Below w.heap.size w W → ∀ j, j < N → Hq W (r j)) := (show ∀ W, _ → ∀ j, _ → _ from fun W b j hj => by
    obtain ⟨i, hi, e⟩ := hmem j hj
    rw [← e]
    exact (HQ.out i hi).below b)
  have HEM : Hid (∀ W, Below w2.heap.size w2 W → Em W aR r N) := (show ∀ W, _ → _ from fun W b => elM_row (kept_row oR b))
  clear kv hR b1 oR hmem
  rcases hCV with ⟨rfl, hnil, hbad⟩ | ⟨rfl, hok, hp, hs⟩
  · have HBAD : Hid (CV ((elL q n).map core) 5 []) := .inl ⟨rfl, rfl, hbad⟩
    clear hnil hbad
    go_wp2
    go_ret2
    exact ⟨none, 0, 0, r, 5, rfl, HB1.out, .inl rfl, by omega, fun j hj => absurd hj (by omega), .inl ⟨HBAD.out, rfl, rfl⟩⟩
  · have HLS : Hid (∀ j, j < N → Ls (K.ll (r j).f (r j).n)) := (show ∀ j, _ → _ from fun j hj => by
      have h1 : core (r j) ∈ (elL q n).map core := hp.subset (List.mem_map.2 ⟨r j, List.mem_of_getElem? (elL_get r N j hj), rfl⟩)
      have h2 := hok _ h1
      rw [← okE_core] at h2
      exact ls_of_va _ _ h2)
    clear hok hp hs
    have HM0 : Hid (RI w2 [] 0 (fun _ => zE) (.slice none 0 0) w2) := (show RI _ _ _ _ _ _ from ⟨World.ownsRow_nil _ _ _ _, fun m hm => absurd hm (by omega), rfl, Below.refl _ _⟩)
    have hNi : (N : Int) ≤ 1048576 := by omega
    have hNb : N ≤ 1048576 := by omega
    go_wp2_with fail
    go_loopw [5, 6] (fun ov t W => ∃ (j : Nat) (qo : Nat → El), t = .int .i64 (j : Int) ∧ j ≤ N ∧ Hid (RI w2 (((elL r j).map core).filterMap ngC) j qo ov W)) (fun _ t _ => N - (RowKit.intOf t).toNat)
    case atStart => exact ⟨0, _, rfl, by omega, HM0⟩
    case round =>
      obtain ⟨j, qo, rfl, hj, HM⟩ := hrel
      have HBW : Hid (Below w.heap.size w wr) := HB1.out.trans (HM.out.bel.mono HB1.out.size)
      by_cases hlt : j < N
      · have hjj : (j : Int) < N := by omega
        have j0 : (0 : Int) ≤ (j : Int) := by omega
        obtain ⟨g, o, rfl, hgl, x0, x1⟩ := (HEM.out wr HM.out.bel).at j hlt
        have HJ : Hid (j < N) := hlt
        have hrq := HRQ.out wr HBW.out j hlt
        have hls := HLS.out j hlt
        have HB35 : Hid (∀ W, Below wr.heap.size wr W → Calls Tryz.prog 35 #[.slice (r j).a (r j).n (r j).c] W fun e w7 => ∃ a' m c' f', e = .returned (.slice a' m c') ∧ Below wr.heap.size wr w7 ∧ ∃ g3 c3 w9, (Builtin.append_ #[22, 22] 22 #[u5, .slice (some ⟨w7.heap.size, 0, none⟩) 1 1]).run Tryz.prog (w7.alloc (elX ⟨a', m, c', f', Op.negFloat .f64 (r j).x⟩)) = .ok (.slice (some ⟨g3, 0, none⟩) (j + 1) c3) w9 ∧ RI w2 (((elL r (j + 1)).map core).filterMap ngC) (j + 1) (up qo j ⟨a', m, c', f', Op.negFloat .f64 (r j).x⟩) (.slice (some ⟨g3, 0, none⟩) (j + 1) c3) w9) := (show ∀ W, _ → _ from fun W b => by
          refine (bare_any (r j).a (r j).f (r j).n (r j).c W (by have := hrq.2.1; omega) (hrq.1.below b)).mono fun e w7 h => ?_
          obtain ⟨a', m, c', f', he, h1, h2, h3, h4⟩ := h
          have b7 : Below wr.heap.size wr w7 := b.trans (h1.mono b.size)
          have hs8 : w2.heap.size ≤ w7.heap.size := Nat.le_trans HM.out.bel.size b7.size
          obtain ⟨g3, c3, w9, r9, o9, k9, hg9⟩ := ap_el3 w7 w2.heap.size u5 j _ ⟨a', m, c', f', Op.negFloat .f64 (r j).x⟩ hs8 (by have := HJ.out; omega) (kept_row HM.out.row b7)
          obtain ⟨hEo, hLs⟩ := eo_of (f := (r j).f) (c' := c') (z := Op.negFloat .f64 (r j).x) h2 hrq.2.1 hrq.2.2.2 hls (.inr h3)
          have hst := HM.out.step (x := ⟨a', m, c', f', Op.negFloat .f64 (r j).x⟩) b7 hEo hLs (fun b' o' e' => by have := h4 b' o' e'; have := b.size; omega) o9 k9 hg9
          have e1 : ((elL r (j + 1)).map core).filterMap ngC = ((elL r j).map core).filterMap ngC ++ [kc ⟨a', m, c', f', Op.negFloat .f64 (r j).x⟩] := by
            rw [elL_succ, List.map_append, List.filterMap_append]
            have : ngC (core (r j)) = some (kc ⟨a', m, c', f', Op.negFloat .f64 (r j).x⟩) := by
              unfold ngC kc core
              simp only [h3]
            simp [this]
          rw [e1]
          exact ⟨a', m, c', f', he, b7, g3, c3, w9, r9, hst⟩)
        have HSX : Hid (∀ W, Below w2.heap.size w2 W → W.cell? ⟨g, o + j * 2, none⟩ = some (.slice (r j).a (r j).n (r j).c) ∧ W.cell? ⟨g, o + j * 2 + 1, none⟩ = some (.float .f64 (r j).x)) := (show ∀ W, _ → _ from fun W b => by
          obtain ⟨g', o', e9, _, y0, y1⟩ := (HEM.out W b).at j HJ.out
          cases e9
          exact ⟨y0, y1⟩)
        have bl0 : Below w2.heap.size w2 wr := HM.out.bel
        have bl1 : Below w2.heap.size w2 wr.drew := bl0.drew
        clear HM hls hrq
        obtain ⟨⟨ea, en, ec, ef, ex⟩, hre⟩ : ∃ x, r j = x := ⟨_, rfl⟩
        rw [hre] at x0 x1 HB35 HSX
        dsimp only at x0 x1 HB35 HSX
        clear hre
        have hneg : ∀ W, (Op.unary UnOp.neg (.float .f64 ex)).run Tryz.prog W = .ok (.float .f64 (Op.negFloat .f64 ex)) W := fun W => rfl
        generalize Op.negFloat .f64 ex = nx at *
        have bd : Below wr.heap.size wr wr.drew := (Below.refl _ _).drew
        have bd0 : Below wr.heap.size wr wr := Below.refl _ _
        go_upto_region 8 with fail
        go_region_held3 (fun w' => w'.cell? ⟨g, o + j * 2, none⟩ = some (.slice ea en ec) ∧ w'.cell? ⟨g, o + j * 2 + 1, none⟩ = some (.float .f64 ex)) (first | exact HSX.out _ (by assumption) | exact HSX.out _ (Below.drew (by assumption)) | exact HSX.out _ (Below.alloc (by assumption) (Below.size (by assumption)) _) | go_keep) (first | (go_at_call 35; go_fit (HB35.out _ (by first | exact bd | exact bd0)); rintro e w7 ⟨a', m, c', f', rfl, b7, g3, c3, w9, r9, hri⟩; have bl7 : Below w2.heap.size w2 w7 := bl0.trans (b7.mono bl0.size); have bl9 : Below w2.heap.size w2 w9 := hri.bel; have HN : Hid (RI _ _ _ _ _ _) := hri; unfold elX at r9; dsimp only at r9; clear hri b7) | (refine step_append_run rfl (.tmp 20) (.tmp 34) 22 22 rfl _ _ rfl rfl r9 ?_))
        all_goals go_wp2
        all_goals exact ⟨⟨j + 1, _, by go_num, by have := HJ.out; omega, HN⟩, by simp [RowKit.intOf]; have := HJ.out; omega⟩
      · obtain rfl : N = j := by omega
        have hjj : ¬ (N : Int) < N := by omega
        have kO := rend_any HM.out (by omega) HBW.out
        clear HM HM0
        go_wp2_with fail
        go_fit kO
        rintro e w9 ⟨a', c', N', r', E', rfl, h1, h2, h3, h4, h5⟩
        have HF : Hid (_ ∧ _ ∧ _ ∧ _ ∧ _) := ⟨h1, h2, h3, h4, h5⟩
        clear kO h1 h2 h3 h4 h5
        go_wp2
        go_ret2
        exact ⟨a', c', N', r', E', rfl, HF.out.1, HF.out.2.1, HF.out.2.2.1, HF.out.2.2.2.1, .inr (.inr ⟨rfl, _, HCV.out, HF.out.2.2.2.2⟩)⟩
end Go.Proofs.YtebjklppbkkinaaGreatDoor
