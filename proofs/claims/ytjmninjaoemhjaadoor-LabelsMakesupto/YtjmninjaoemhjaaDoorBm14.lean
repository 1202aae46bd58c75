/- A bundle of texts. -/
import Derived.Test.YtjmninjaoemhjaaDoorBm13
import Derived.Deep.RegionHeld3
import Derived.BigQuiet
/- The reference's Make, walked. -/
namespace Go.Proofs.YtjmninjaoemhjaaDoor
open Go.RowKit Go.Lib

attribute [local go_sem] Oper.semAt_some

/-- What the reference's Make answers. -/
def RmR (f : Nat → Lb) (n : Nat) (w : World) (e : Ending) (w' : World) : Prop := ∃ v, e = .returned (.tuple #[v, .int .i64 (mkE f n)]) ∧ Below w.heap.size w w' ∧ ((mkE f n ≠ 0 ∧ v = .slice none 0 0) ∨ (mkE f n = 0 ∧ w'.ownsRow w.heap.size 26 2 v (rmL f n).length (lcL (rmL f n))))
set_option maxHeartbeats 4000000 in
set_option maxRecDepth 100000 in
theorem rmake_any (a : Option Addr) (f : Nat → Lb) (n c : Nat) (w : World) (hL : Lm w a f n) (hn : n ≤ 1099511627776) (hs : ∀ j, j < n → (f j).1.size ≤ 140737488355328 ∧ (f j).2.size ≤ 140737488355328) (hc : n ≤ c) :
    Calls Tryd.prog 21 #[.slice a n c] w (RmR f n w) := by
  have HL : Hid (Lm w a f n) := hL
  have HSz : Hid (∀ j, j < n → (f j).1.size ≤ 140737488355328 ∧ (f j).2.size ≤ 140737488355328) := hs
  have hni : (n : Int) ≤ 1099511627776 := by omega
  have hci : (n : Int) ≤ (c : Int) := by omega
  have HG0 : Hid (Gd f 0) := (show Gd f 0 from fun j hj => absurd hj (by omega))
  have HR0 : Hid (w.ownsRow w.heap.size 26 2 (.slice none 0 0) (rmL f 0).length (lcL (rmL f 0)) ∧ Below w.heap.size w w) := ⟨World.ownsRow_nil _ _ _ _, Below.refl _ _⟩
  clear hL hs
  go_enter Tryd.func21, Tryd.ntmps21
  go_wp2_with fail
  go_loopw [4, 5] (fun v t w' => ∃ i : Nat, t = .int .i64 (i : Nat) ∧ i ≤ n ∧ Hid (Gd f i) ∧ Hid (w'.ownsRow w.heap.size 26 2 v (rmL f i).length (lcL (rmL f i)) ∧ Below w.heap.size w w')) (fun _ t _ => n - (RowKit.intOf t).toNat)
  case atStart => exact ⟨0, rfl, by omega, HG0, HR0⟩
  case round =>
    obtain ⟨i, rfl, hi, HG, HR⟩ := hrel
    by_cases hlt : i < n
    · have hii : (i : Int) < (n : Int) := by omega
      have i0 : (0 : Int) ≤ (i : Int) := by omega
      have hic : (i : Int) ≤ (c : Int) := by omega
      have hin : (i : Int) ≤ (n : Int) := by omega
      obtain ⟨g, o, rfl, hg, q0, q1⟩ := (HL.out.below HR.out.2).at i hlt
      obtain ⟨s1, s2⟩ := HSz.out i hlt
      have HQ1 : Hid (lbN (f i).1 = false → mkE f n = 160) := (show _ → _ from fun h => mkE_name hlt HG.out (.inl h))
      have HQ2 : Hid (R.nmd f (f i).1 i = true → mkE f n = 160) := (show _ → _ from fun h => mkE_name hlt HG.out (.inr (by
        obtain ⟨j, hj, e⟩ := (R.nmd_iff f (f i).1 i).1 h
        exact ⟨j, hj, (beq_ba _ _).2 e.symm⟩)))
      have HQ3 : Hid (lbN (f i).1 = true → R.nmd f (f i).1 i = false → vld (f i).2 (f i).2.size 0 = false → mkE f n = 4) := (show _ → _ from fun h1 h2 h3 => mkE_val hlt HG.out h1 ((nmd_no f (f i).1 i).1 h2) h3)
      have HGN : Hid (lbN (f i).1 = true → R.nmd f (f i).1 i = false → vld (f i).2 (f i).2.size 0 = true → Gd f (i + 1)) := (show _ → _ from fun h1 h2 h3 j hj => by
        rcases Nat.lt_or_ge j i with h | h
        · exact HG.out j h
        · obtain rfl : j = i := by omega
          exact ⟨h1, h3, (nmd_no f (f j).1 j).1 h2⟩)
      have HX : Hid (rmL f (i + 1) = K.rwL (K.gL (rmL f i)) (f i).1 (f i).2 (rmL f i).length) := (show _ = _ from rfl)
      have k47 : Hid (∀ W, Calls Tryd.prog 47 #[.string (f i).1] W fun e w' => e = .returned (.bool (lbN (f i).1)) ∧ w' = W) := fun W => R.rlabel_any (f i).1 W s1
      have k48 : Hid (∀ W, Below w.heap.size w W → Calls Tryd.prog 48 #[.slice (some ⟨g, o, none⟩) i c, .string (f i).1] W fun e w' => e = .returned (.bool (R.nmd f (f i).1 i)) ∧ w' = W) := (show ∀ W, _ → _ from fun W b => R.named_any _ f i c (f i).1 W (by
        rcases HL.out.below b with h0 | ⟨g', o', e', hg', hc'⟩
        · omega
        · exact .inr ⟨g', o', e', hg', fun j hj => hc' j (by omega)⟩) (by omega))
      have k49 : Hid (∀ W, Calls Tryd.prog 49 #[.string (f i).2] W fun e w' => e = .returned (.bool (vld (f i).2 (f i).2.size 0)) ∧ Below W.heap.size W w') := fun W => R.rvalidT_any (f i).2 W (by unfold maxLen; omega)
      obtain ⟨ks, hks⟩ : ∃ ks, rmL f i = ks := ⟨_, rfl⟩
      have hkn : ks.length ≤ n := by have := rmL_len f i HG.out; rw [hks] at this; omega
      rw [hks] at HX HR
      obtain ⟨va, vc, hv⟩ := row_sl HR.out.1
      subst hv
      have k50 : Hid (∀ W, Below wr.heap.size wr W → Calls Tryd.prog 50 #[.slice va ks.length vc, .string (f i).1, .string (f i).2] W fun e w' => ∃ v, e = .returned v ∧ w'.ownsRow W.heap.size 26 2 v (K.rwL (K.gL ks) (f i).1 (f i).2 ks.length).length (lcL (K.rwL (K.gL ks) (f i).1 (f i).2 ks.length)) ∧ Below W.heap.size W w') := (show ∀ W, _ → _ from fun W b => K.rwith_any va (K.gL ks) ks.length vc (f i).1 (f i).2 W (by omega) (K.row_lm ((Kp.of (M := fun _ => False) b).row HR.out.1 (fun _ _ h => h))))
      have HBW : Hid (Below w.heap.size w wr) := HR.out.2
      obtain ⟨⟨x1, x2⟩, hx⟩ : ∃ x, f i = x := ⟨_, rfl⟩
      rw [hx] at q0 q1 HQ1 HQ2 HQ3 HGN HX k47 k48 k49 k50
      dsimp only at q0 q1 HQ1 HQ2 HQ3 HGN HX k47 k48 k49 k50
      clear hx s1 s2 hks HR
      obtain ⟨A, hA⟩ : ∃ A, lbN x1 = A := ⟨_, rfl⟩
      obtain ⟨B, hB⟩ : ∃ B, R.nmd f x1 i = B := ⟨_, rfl⟩
      obtain ⟨V, hV⟩ : ∃ V, vld x2 x2.size 0 = V := ⟨_, rfl⟩
      rw [hA] at k47 HQ1 HQ3 HGN
      rw [hB] at k48 HQ2 HQ3 HGN
      rw [hV] at k49 HQ3 HGN
      clear hA hB hV
      go_upto_region 6 with fail
      obtain ⟨WX, hWX⟩ : ∃ WX, WX = wr.alloc (lbX (x1, x2)) := ⟨_, rfl⟩
      obtain ⟨gx, hgx⟩ : ∃ gx, gx = wr.heap.size := ⟨_, rfl⟩
      have e1 : WX.heap[gx]? = some (lbX (x1, x2)) := by rw [hWX, hgx]; exact heap_alloc_new wr _
      have BX : Below wr.heap.size wr WX := by rw [hWX]; exact (Below.refl _ wr).alloc (Nat.le_refl _) _
      have HN : Hid (Below wr.heap.size wr WX ∧ Below w.heap.size w WX) := ⟨BX, HBW.out.trans (BX.mono HBW.out.size)⟩
      have HSX : Hid (∀ W, Below WX.heap.size WX W → (W.cell? ⟨gx, 0, none⟩ = some (.string x1) ∧ W.cell? ⟨gx, 1, none⟩ = some (.string x2)) ∧ Below WX.heap.size WX W) := (show ∀ W, _ → _ from fun W b => ⟨⟨bcell2 b (by unfold World.cell?; rw [e1]; rfl), bcell2 b (by unfold World.cell?; rw [e1]; rfl)⟩, b⟩)
      have HK48 : Hid (∀ W, Below WX.heap.size WX W → Calls Tryd.prog 48 #[.slice (some ⟨g, o, none⟩) i c, .string x1] W fun e w' => e = .returned (.bool B) ∧ w' = W) := (show ∀ W, _ → _ from fun W b => k48.out W (HN.out.2.trans (b.mono HN.out.2.size)))
      dsimp only [lbX] at hWX
      rw [← hWX, ← hgx]
      clear hWX hgx e1 BX q0 q1 k48
      obtain ⟨⟨p0, p1⟩, _⟩ := HSX.out WX (Below.refl _ _)
      have bd : Below WX.heap.size WX WX.drew := (Below.refl _ _).drew
      have HQ47 : Hid (∀ q, Calls Tryd.prog 47 #[.string x1] (WX.drewN q) fun e w' => e = .returned (.bool A) ∧ w' = WX.drewN q) := (show ∀ q, _ from fun q => k47.out _)
      have HQ48 : Hid (∀ q, Calls Tryd.prog 48 #[.slice (some ⟨g, o, none⟩) i c, .string x1] (WX.drewN q) fun e w' => e = .returned (.bool B) ∧ w' = WX.drewN q) := (show ∀ q, _ from fun q => HK48.out _ (below_drewN (Below.refl _ _) _))
      have HNq : Hid (∀ q, Below wr.heap.size wr (WX.drewN q) ∧ Below w.heap.size w (WX.drewN q)) := (show ∀ q, _ from fun q => ⟨below_drewN HN.out.1 q, below_drewN HN.out.2 q⟩)
      clear bd HK48
      cases A
      · go_big_quiet (first | (go_at_call 47; refine Calls.quiet_of_same (HQ47.out _)))
        go_wp2
        go_ret2
        exact ⟨_, by rw [HQ1.out trivial]; rfl, (HNq.out _).2, .inl ⟨by rw [HQ1.out trivial]; decide, rfl⟩⟩
      · go_big_quiet (first | (go_at_call 47; refine Calls.quiet_of_same (HQ47.out _)) | (go_at_call 48; refine Calls.quiet_of_same (HQ48.out _)))
        obtain ⟨hb1, hb2⟩ := HNq.out nq
        have HSN : Hid (∀ W, Below (WX.drewN nq).heap.size (WX.drewN nq) W → (W.cell? ⟨gx, 0, none⟩ = some (.string x1) ∧ W.cell? ⟨gx, 1, none⟩ = some (.string x2)) ∧ Below wr.heap.size wr W ∧ Below w.heap.size w W) := (show ∀ W, _ → _ from fun W b => ⟨(HSX.out W ((below_drewN (Below.refl _ _) nq : Below WX.heap.size WX (WX.drewN nq)).trans (b.mono (below_drewN (Below.refl WX.heap.size WX) nq).size))).1, hb1.trans (b.mono hb1.size), hb2.trans (b.mono hb2.size)⟩)
        generalize WX.drewN nq = WN at *
        obtain ⟨⟨p0, p1⟩, _⟩ := HSN.out WN (Below.refl _ _)
        have HB2 : Hid (Below w.heap.size w WN) := hb2
        have k49b := k49.out WN
        clear HQ47 HQ48 HNq HSX HN k47 k49 hb1 hb2
        cases B
        · go_wp2_with fail
          go_fit k49b
          rintro e w14 ⟨rfl, b14⟩
          obtain ⟨⟨p0, p1⟩, b15, b16⟩ := HSN.out w14 b14
          have HB14 : Hid (Below w.heap.size w w14) := b16
          have k50b := k50.out w14 b15
          clear b14 b15 b16 k49b k50
          cases V
          · go_wp2
            go_ret2
            exact ⟨_, by rw [HQ3.out (by simp) (by simp) (by simp)]; rfl, HB14.out, .inl ⟨by rw [HQ3.out (by simp) (by simp) (by simp)]; decide, rfl⟩⟩
          · go_wp2_with fail
            go_fit k50b
            rintro e w15 ⟨v, rfl, o15, b15⟩
            have HR15 : Hid (w15.ownsRow w.heap.size 26 2 v (rmL f (i + 1)).length (lcL (rmL f (i + 1))) ∧ Below w.heap.size w w15) := (show _ ∧ _ by
              rw [HX.out]
              exact ⟨World.ownsRow.mono o15 HB14.out.size, HB14.out.trans (b15.mono HB14.out.size)⟩)
            clear o15 b15 k50b
            go_wp2
            exact ⟨⟨i + 1, by go_num, by omega, HGN.out (by simp) (by simp) (by simp), HR15⟩, by simp [RowKit.intOf]; omega⟩
        · go_wp2
          go_ret2
          exact ⟨_, by rw [HQ2.out (by simp)]; rfl, HB2.out, .inl ⟨by rw [HQ2.out (by simp)]; decide, rfl⟩⟩
    · have hii : ¬ (i : Int) < (n : Int) := by omega
      obtain rfl : n = i := by omega
      go_wp2
      go_ret2
      exact ⟨_, by rw [gd_mkE.1 HG.out]; rfl, HR.out.2, .inr ⟨gd_mkE.1 HG.out, HR.out.1⟩⟩
end Go.Proofs.YtjmninjaoemhjaaDoor
