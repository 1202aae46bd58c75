/- A bundle of texts. -/
import Derived.Test.YtjmninjaoemhjaaDoorBm19
import Derived.Test.YtjmninjaoemhjaaDoorBm16
import Derived.Test.YtjmninjaoemhjaaDoorBm20
/- LabelsMakes: the walk. -/
namespace Go.Proofs.YtjmninjaoemhjaaDoor
open Go.RowKit Go.Lib

attribute [local go_sem] Oper.semAt_some

/-- What stays as it is all through a round. -/
structure PP (L bx g0 ln lc : Nat) (la : Option Addr) (nm : ByteArray) (f : Nat → Lb) (v7 : Value) (W : World) : Prop where
  b0 : W.cell? ⟨bx, 0, none⟩ = some (.slice la ln lc)
  b1 : W.cell? ⟨bx, 1, none⟩ = some (.string nm)
  ls : Lm W la f ln
  inn : K.Ir W g0 (.slice (some ⟨g0, 0, none⟩) (ln + 40) (ln + 40)) (ln + 40) (K.pf f ln)
  row : W.ownsRow L 26 2 v7 (mkS f ln).length (lcL (mkS f ln))
  tabs : Lib.Utf8Tabs 1 2 W
theorem PP.below {L bx g0 ln lc : Nat} {la : Option Addr} {nm : ByteArray} {f : Nat → Lb} {v7 : Value} {W W' : World} (h : PP L bx g0 ln lc la nm f v7 W) (b : Below W.heap.size W W') : PP L bx g0 ln lc la nm f v7 W' :=
  ⟨bcell2 b h.b0, bcell2 b h.b1, h.ls.below b, h.inn.below b, row_kept h.row b, tabs_below h.tabs (tabs_size h.tabs) b⟩
theorem PP.full {L bx g0 ln lc : Nat} {la : Option Addr} {nm : ByteArray} {f : Nat → Lb} {v7 : Value} {W : World} (h : PP L bx g0 ln lc la nm f v7 W) : Lm W (some ⟨g0, 0, none⟩) (K.pf f ln) (ln + 40) := by
  obtain ⟨a, c, e, hl, _⟩ := h.inn.iml
  cases e
  exact hl
theorem PP.lin {L bx g0 ln lc : Nat} {la : Option Addr} {nm : ByteArray} {f : Nat → Lb} {v7 : Value} {W : World} (h : PP L bx g0 ln lc la nm f v7 W) : Lm W (some ⟨g0, 0, none⟩) f ln := by
  rcases h.full with h0 | ⟨g, o, e, hg, hc⟩
  · omega
  · refine .inr ⟨g, o, e, hg, fun j hj => ?_⟩
    have := hc j (by omega)
    unfold K.pf at this
    rw [if_pos hj] at this
    exact this
theorem row_same {W : World} {S S' n : Nat} {v v' : Value} {ks : List Lb} (o : W.ownsRow S 26 2 v ks.length (lcL ks)) (o' : W.ownsRow S' 26 2 v' ks.length (lcL ks)) (hn : ks.length ≤ n) (hb : n ≤ 1048576) :
    Calls Tryd.prog 9 #[v, v'] W fun r w' => r = .returned (.bool true) ∧ Below W.heap.size W w' := by
  obtain ⟨a, c, rfl⟩ := row_sl o
  obtain ⟨a', c', rfl⟩ := row_sl o'
  exact same_true a a' c c' ks.length (K.gL ks) W (K.row_lm o) (K.row_lm o') (by omega)
/-- The list, its first values grown by a sign. -/
def fx (f : Nat → Lb) (n j i : Nat) : Lb := if i < j then ((f i).1, (f i).2 ++ ⟨#[120]⟩) else K.pf f n i
def f2 (f : Nat → Lb) (i : Nat) : Lb := ((f i).1, (f i).2 ++ ⟨#[120]⟩)
/-- The list grows by a sign. -/
structure LI (g0 n : Nat) (f : Nat → Lb) (w22 : World) (j : Nat) (W : World) : Prop where
  inn : K.Ir W g0 (.slice (some ⟨g0, 0, none⟩) (n + 40) (n + 40)) (n + 40) (fx f n j)
  kp : Kp (fun b => b = g0) w22 W
theorem LI.step {g0 n j : Nat} {f : Nat → Lb} {w22 W : World} (h : LI g0 n f w22 j W) (hj : j < n) : LI g0 n f w22 (j + 1) (W.setCell ⟨g0, j * 2 + 1, none⟩ (.string ((f j).2 ++ ⟨#[120]⟩))) := by
  have h1 := K.Ir.value h.inn j (by omega) ((f j).2 ++ ⟨#[120]⟩)
  refine ⟨K.Ir.congr h1 (g := fx f n (j + 1)) (fun i hi => ?_), h.kp.setCell (p := ⟨g0, j * 2 + 1, none⟩) rfl _⟩
  unfold K.up
  by_cases e : i = j
  · subst e
    rw [if_pos rfl]
    unfold fx K.pf
    rw [if_neg (by omega), if_pos hj, if_pos (by omega)]
  · rw [if_neg e]
    unfold fx
    by_cases h1 : i < j
    · rw [if_pos h1, if_pos (by omega)]
    · rw [if_neg h1, if_neg (by omega)]
theorem LI.cell {g0 n j : Nat} {f : Nat → Lb} {w22 W : World} (h : LI g0 n f w22 j W) (hj : j < n) : W.cell? ⟨g0, j * 2 + 1, none⟩ = some (.string (f j).2) ∧ W.frozen? ⟨g0, j * 2 + 1, none⟩ = false := by
  obtain ⟨_, h1, _, h2⟩ := h.inn.cells j (by omega)
  unfold fx K.pf at h1
  rw [if_neg (by omega), if_pos hj] at h1
  exact ⟨h1, h2⟩
theorem LI.lm {g0 n : Nat} {f : Nat → Lb} {w22 W : World} (h : LI g0 n f w22 n W) : Lm W (some ⟨g0, 0, none⟩) (f2 f) n := by
  obtain ⟨a, c, e, hl, _⟩ := h.inn.iml
  cases e
  rcases hl with h0 | ⟨g, o, e, hg, hc⟩
  · omega
  · refine .inr ⟨g, o, e, hg, fun j hj => ?_⟩
    have := hc j (by omega)
    unfold fx at this
    rw [if_pos hj] at this
    exact this
set_option maxHeartbeats 16000000 in
set_option maxRecDepth 100000 in
theorem makes_walk (pa : Option Addr) (pn pc : Nat) (q : Nat → K.Ak) (w : World) (hA : K.Am w pa q pn) (hok : ∀ j, j < pn → K.Aok w (q j)) (hlc : ∀ j, j < pn → (q j).ln ≤ (q j).lc) (hpn : pn ≤ 1048576) (hT : Lib.Utf8Tabs 1 2 w) :
    Calls Tryd.prog 6 #[.slice pa pn pc] w fun e w' => e = .returned (.bool true) ∧ Below w.heap.size w w' := by
  have k0 := awake_any w
  have HA : Hid (K.Am w pa q pn) := hA
  have HO : Hid (∀ j, j < pn → K.Aok w (q j)) := hok
  have HLC : Hid (∀ j, j < pn → (q j).ln ≤ (q j).lc) := hlc
  have HT : Hid (∀ W, Below w.heap.size w W → Lib.Utf8Tabs 1 2 W) := (show ∀ W, _ → _ from fun W b => tabs_below hT (tabs_size hT) b)
  have hpi : (pn : Int) ≤ 1048576 := by omega
  clear hA hok hlc hT
  go_enter Tryd.func6, Tryd.ntmps6
  go_wp2_with fail
  go_fit k0
  rintro e w1 ⟨rfl, b1⟩
  have B1 : Hid (Below w.heap.size w w1) := b1
  clear k0 b1
  go_wp2_with fail
  go_loopw [26] (fun t w' => ∃ i : Nat, t = .int .i64 (i : Nat) ∧ i ≤ pn ∧ Hid (Below w.heap.size w w')) (fun t _ => pn - (RowKit.intOf t).toNat)
  case atStart => exact ⟨0, rfl, by omega, B1⟩
  case round =>
    obtain ⟨i, rfl, hi, HB⟩ := hrel
    by_cases hlt : i < pn
    · have hii : (i : Int) < (pn : Int) := by omega
      have i0 : (0 : Int) ≤ (i : Int) := by omega
      have HI : Hid (i + 1 ≤ pn) := hlt
      obtain ⟨g, o, rfl, hg, ⟨x0, x1, x2, x3, x4⟩, _⟩ := HA.out.at i hlt
      have ok := HO.out i hlt
      have hlc := HLC.out i hlt
      have y0 := bcell2 HB.out x0
      have y1 := bcell2 HB.out x1
      have y2 := bcell2 HB.out x2
      have y3 := bcell2 HB.out x3
      have y4 := bcell2 HB.out x4
      obtain ⟨⟨la, ln, lc, f, nm, vl, na, nn, nc, nf, wo⟩, hq⟩ : ∃ x, q i = x := ⟨_, rfl⟩
      rw [hq] at ok hlc y0 y1 y2 y3 y4
      dsimp only at hlc y0 y1 y2 y3 y4
      have HLS : Hid (Lm wr la f ln) := ok.ls.below HB.out
      have HSZ : Hid (∀ j, j < ln → (f j).1.size ≤ 1048576 ∧ (f j).2.size ≤ 1048576) := ok.sz
      have hln : ln ≤ 1048576 := ok.l0
      have hlni : (ln : Int) ≤ 1048576 := by omega
      clear x0 x1 x2 x3 x4 hq ok hg
      go_upto_region 6 with fail
      obtain ⟨WX, hWX⟩ : ∃ WX, WX = wr.alloc (.cells #[.slice la ln lc, .string nm, .string vl, .slice na nn nc, .bool wo] 31) := ⟨_, rfl⟩
      obtain ⟨bx, hbx⟩ : ∃ bx, bx = wr.heap.size := ⟨_, rfl⟩
      have e1 : WX.heap[bx]? = some (.cells #[.slice la ln lc, .string nm, .string vl, .slice na nn nc, .bool wo] 31) := by rw [hWX, hbx]; exact heap_alloc_new wr _
      have BX : Below wr.heap.size wr WX := by rw [hWX]; exact (Below.refl _ wr).alloc (Nat.le_refl _) _
      have HBX : Hid (Below w.heap.size w WX) := HB.out.trans (BX.mono HB.out.size)
      rw [← hWX, ← hbx]
      clear hWX hbx
      have HLX : Hid (Lm WX la f ln) := HLS.out.below BX
      have p0 : WX.cell? ⟨bx, 0, none⟩ = some (.slice la ln lc) := by unfold World.cell?; rw [e1]; rfl
      have p1 : WX.cell? ⟨bx, 1, none⟩ = some (.string nm) := by unfold World.cell?; rw [e1]; rfl
      have HP0 : Hid (WX.cell? ⟨bx, 0, none⟩ = some (.slice la ln lc) ∧ WX.cell? ⟨bx, 1, none⟩ = some (.string nm)) := ⟨p0, p1⟩
      have k1 := K.lent_any la lc ln f WX HLX.out (by omega)
      clear e1 BX HLS y0 y1 y2 y3 y4
      go_wp2_with fail
      go_fit k1
      rintro e w6 ⟨rfl, in6, b6⟩
      obtain ⟨g0, hg0⟩ : ∃ g0, g0 = WX.heap.size := ⟨_, rfl⟩
      rw [← hg0] at in6 ⊢
      have HG0 : Hid (w.heap.size ≤ g0) := (show _ ≤ _ by rw [hg0]; exact HBX.out.size)
      have HB6 : Hid (Below w.heap.size w w6) := HBX.out.trans (b6.mono HBX.out.size)
      have k2 := rmX la f ln lc w6 (HLX.out.below b6) (by omega) (fun j hj => by have := HSZ.out j hj; omega) hlc
      have H6 : Hid (K.Ir w6 g0 (.slice (some ⟨g0, 0, none⟩) (ln + 40) (ln + 40)) (ln + 40) (K.pf f ln) ∧ Below WX.heap.size WX w6) := ⟨in6, b6⟩
      have HG6 : Hid (g0 < w6.heap.size) := (own_bd (show w6.ownsRow _ _ _ _ _ _ from in6) g0 rfl).2
      have q0 := bcell2 b6 p0
      clear k1 in6 b6 hg0 p0 p1
      go_wp2_with fail
      go_fit k2
      rintro e w7 ⟨v7, rfl, b7, o7⟩
      have HB7 : Hid (Below w.heap.size w w7) := HB6.out.trans (b7.mono HB6.out.size)
      have HP : Hid (PP w6.heap.size bx g0 ln lc la nm f v7 w7) := (show PP _ _ _ _ _ _ _ _ _ _ from ⟨bcell2 b7 (bcell2 H6.out.2 HP0.out.1), bcell2 b7 (bcell2 H6.out.2 HP0.out.2), (HLX.out.below H6.out.2).below b7, H6.out.1.below b7, o7, HT.out w7 HB7.out⟩)
      have hml := mkS_len f ln
      have HSz : Hid (∀ j, j < ln → (f j).1.size ≤ 140737488355328 ∧ (f j).2.size ≤ 140737488355328) := (show ∀ j, _ → _ from fun j hj => by have := HSZ.out j hj; omega)
      have k3 := mkX (some ⟨g0, 0, none⟩) f ln (ln + 40) w7 HP.out.lin (by omega) HSz.out HP.out.tabs
      clear k2 b7 o7 H6 HP0 HLX HB6 q0
      go_wp2_with fail
      go_fit k3
      rintro e w8 ⟨v8, rfl, b8, o8⟩
      have HP8 : Hid (PP w6.heap.size bx g0 ln lc la nm f v7 w8 ∧ Below w7.heap.size w7 w8 ∧ w8.ownsRow w7.heap.size 26 2 v8 (mkS f ln).length (lcL (mkS f ln))) := ⟨HP.out.below b8, b8, o8⟩
      have k4 := mkX (some ⟨g0, 0, none⟩) f ln (ln + 40) w8 HP8.out.1.lin (by omega) HSz.out HP8.out.1.tabs
      clear k3 b8 o8
      go_wp2_with fail
      go_fit k4
      rintro e w9 ⟨v9, rfl, b9, o9⟩
      have HP9 : Hid (PP w6.heap.size bx g0 ln lc la nm f v7 w9 ∧ Below w8.heap.size w8 w9 ∧ w9.ownsRow w8.heap.size 26 2 v9 (mkS f ln).length (lcL (mkS f ln))) := ⟨HP8.out.1.below b9, b9, o9⟩
      have k5 := mkX (some ⟨w9.heap.size, 0, none⟩) (fun _ => (⟨#[122]⟩, ⟨#[122]⟩)) 1 1 (w9.alloc (.cells #[.string ⟨#[122]⟩, .string ⟨#[122]⟩] 26)) (.inr ⟨w9.heap.size, 0, rfl, by simp, fun j hj => by
        obtain rfl : j = 0 := by omega
        have e9 := heap_alloc_new w9 (.cells #[.string ⟨#[122]⟩, .string ⟨#[122]⟩] 26)
        exact ⟨by unfold World.cell?; rw [e9]; rfl, by unfold World.cell?; rw [e9]; rfl⟩⟩) (by omega) (fun j hj => ⟨by show (1 : Nat) ≤ _; omega, by show (1 : Nat) ≤ _; omega⟩) (HP9.out.1.below ((Below.refl _ w9).alloc (Nat.le_refl _) _)).tabs
      clear k4 b9 o9
      go_wp2_with fail
      go_fit k5
      rintro e w10 ⟨v10, rfl, b10, o10⟩
      obtain ⟨kz, hkz, hkl⟩ : ∃ kz, kz = mkS (fun _ => (⟨#[122]⟩, ⟨#[122]⟩)) 1 ∧ kz.length ≤ 1 := ⟨_, rfl, mkS_len _ _⟩
      rw [← hkz] at o10
      generalize mkE (fun _ => (⟨#[122]⟩, ⟨#[122]⟩)) 1 = EZ at *
      have b10' : Below w9.heap.size w9 w10 := ((Below.refl _ w9).alloc (Nat.le_refl _) (.cells #[.string ⟨#[122]⟩, .string ⟨#[122]⟩] 26)).trans (b10.mono (by simp))
      have HP10 : Hid (PP w6.heap.size bx g0 ln lc la nm f v7 w10 ∧ Below w9.heap.size w9 w10 ∧ w10.ownsRow w9.heap.size 26 2 v10 kz.length (lcL kz)) := ⟨HP9.out.1.below b10', b10', World.ownsRow.mono o10 (by simp)⟩
      have k6 := mkX (some ⟨g0, 0, none⟩) f ln (ln + 40) w10 HP10.out.1.lin (by omega) HSz.out HP10.out.1.tabs
      clear k5 b10 b10' o10 hkz
      go_wp2_with fail
      go_fit k6
      rintro e w11 ⟨v11, rfl, b11, o11⟩
      obtain ⟨E, hE⟩ : ∃ E, mkE f ln = E := ⟨_, rfl⟩
      obtain ⟨ks, hks⟩ : ∃ ks, mkS f ln = ks := ⟨_, rfl⟩
      rw [hE]
      rw [hks] at hml
      have HE : Hid (mkE f ln = E ∧ mkS f ln = ks) := ⟨hE, hks⟩
      have HP11 : Hid (PP w6.heap.size bx g0 ln lc la nm f v7 w11 ∧ Below w10.heap.size w10 w11) := ⟨HP10.out.1.below b11, b11⟩
      have HR11 : Hid (∀ W, Below w11.heap.size w11 W → K.Rg W w7.heap.size w8.heap.size v8 ks ∧ K.Rg W w8.heap.size w9.heap.size v9 ks ∧ K.Rg W w10.heap.size w11.heap.size v11 ks ∧ K.Rg W w9.heap.size w10.heap.size v10 kz) := (show ∀ W, _ → _ from fun W b => by
        have r8 := K.Rg.of (hks ▸ HP8.out.2.2)
        have r9 := K.Rg.of (hks ▸ HP9.out.2.2)
        have r10 := K.Rg.of HP10.out.2.2
        have r11 := K.Rg.of (hks ▸ o11)
        have c9 := HP9.out.2.1
        have c10 := HP10.out.2.1
        exact ⟨(((r8.below c9).below c10).below b11).below b, ((r9.below c10).below b11).below b, r11.below b, (r10.below b11).below b⟩)
      have HW : Hid (∀ W, Below w11.heap.size w11 W → W.ownsRow w6.heap.size 26 2 v7 ks.length (lcL ks)) := (show ∀ W, _ → _ from fun W b => row_kept (hks ▸ HP11.out.1.row) b)
      have kS : Hid (∀ W v S, Below w11.heap.size w11 W → W.ownsRow S 26 2 v ks.length (lcL ks) → Calls Tryd.prog 9 #[v, v7] W fun r w' => r = .returned (.bool true) ∧ Below W.heap.size W w') := (show ∀ W v S, _ → _ → _ from fun W v S b o => row_same o (HW.out W b) hml hln)
      have k7 := kS.out w11 v8 _ (Below.refl _ _) (HR11.out w11 (Below.refl _ _)).1.row
      clear k6 b11 o11 hE hks
      go_wp2_with fail
      go_fit k7
      rintro e w12 ⟨rfl, b12⟩
      have k8 := kS.out w12 v9 _ b12 (HR11.out w12 b12).2.1.row
      have HB12 : Hid (Below w11.heap.size w11 w12) := b12
      clear k7 b12
      go_wp2_with fail
      go_fit k8
      rintro e w13 ⟨rfl, b13⟩
      have HB13 : Hid (Below w11.heap.size w11 w13) := HB12.out.trans (b13.mono HB12.out.size)
      have k9 := kS.out w13 v11 _ HB13.out (HR11.out w13 HB13.out).2.2.1.row
      clear k8 b13 HB12
      go_wp2_with fail
      go_fit k9
      rintro e w14 ⟨rfl, b14⟩
      have HB14 : Hid (Below w11.heap.size w11 w14) := HB13.out.trans (b14.mono HB13.out.size)
      obtain ⟨a8, c8, h8⟩ := row_sl (HR11.out w14 HB14.out).1.row
      obtain ⟨a9, c9, h9⟩ := row_sl (HR11.out w14 HB14.out).2.1.row
      obtain ⟨a11, c11, h11⟩ := row_sl (HR11.out w14 HB14.out).2.2.1.row
      obtain ⟨a10, c10, h10⟩ := row_sl (HR11.out w14 HB14.out).2.2.2.row
      subst h8 h9 h11 h10
      have k10 : Calls Tryd.prog 19 #[.slice (some ⟨w14.heap.size, 0, none⟩) 4 4] (w14.alloc (.cells #[.slice a8 ks.length c8, .slice a9 ks.length c9, .slice a11 ks.length c11, .slice a10 kz.length c10] 22)) fun e w' => e = .returned (.bool true) ∧ Below w7.heap.size w14 w' := by
        obtain ⟨r0, r1, r2, r3⟩ := HR11.out w14 HB14.out
        exact K.apart4 w14 w7.heap.size w8.heap.size w9.heap.size w10.heap.size w11.heap.size _ _ _ _ ks ks ks kz r0 r1 r2 r3 HP8.out.2.1.size HP9.out.2.1.size HP10.out.2.1.size HP11.out.2.size HB14.out.size (by omega)
      clear k9 b14 HB13
      go_wp2_with fail
      go_fit k10
      rintro e w15 ⟨rfl, b15⟩
      have HB15 : Hid (Below w7.heap.size w7 w15) := (show Below _ _ _ from ((((HP8.out.2.1.trans (HP9.out.2.1.mono HP8.out.2.1.size)).trans (HP10.out.2.1.mono (HP8.out.2.1.trans (HP9.out.2.1.mono HP8.out.2.1.size)).size)).trans (HP11.out.2.mono ((HP8.out.2.1.trans (HP9.out.2.1.mono HP8.out.2.1.size)).trans (HP10.out.2.1.mono (HP8.out.2.1.trans (HP9.out.2.1.mono HP8.out.2.1.size)).size)).size)).trans (HB14.out.mono (((HP8.out.2.1.trans (HP9.out.2.1.mono HP8.out.2.1.size)).trans (HP10.out.2.1.mono (HP8.out.2.1.trans (HP9.out.2.1.mono HP8.out.2.1.size)).size)).trans (HP11.out.2.mono ((HP8.out.2.1.trans (HP9.out.2.1.mono HP8.out.2.1.size)).trans (HP10.out.2.1.mono (HP8.out.2.1.trans (HP9.out.2.1.mono HP8.out.2.1.size)).size)).size)).size)).trans b15)
      have HP15 : Hid (PP w6.heap.size bx g0 ln lc la nm f v7 w15) := HP.out.below HB15.out
      have HB15w : Hid (Below w.heap.size w w15) := HB7.out.trans (HB15.out.mono HB7.out.size)
      have k11 := K.whole_true g0 la lc (ln + 40) ln f w15 HP15.out.full HP15.out.ls (Nat.le_refl _) (by omega)
      have q0 := HP15.out.b0
      clear k10 b15 HB15 HR11 HB14 HW kS HP8 HP9 HP10 HP11
      go_wp2_with fail
      go_fit k11
      rintro e w16 ⟨rfl, b16⟩
      have HP16 : Hid (PP w6.heap.size bx g0 ln lc la nm f v7 w16 ∧ Below w.heap.size w w16) := ⟨HP15.out.below b16, HB15w.out.trans (b16.mono HB15w.out.size)⟩
      clear k11 b16 q0 HP15 HB15w
      go_upto_region 16 with fail
      obtain ⟨V, hV⟩ : ∃ V, vaF f ln 0 = V := ⟨_, rfl⟩
      obtain ⟨G, hG⟩ : ∃ G, gvF f nm ln 0 = G := ⟨_, rfl⟩
      have HC14 : Hid (∀ W, Below w16.heap.size w16 W → Calls Tryd.prog 14 #[.slice (some ⟨g0, 0, none⟩) ln (ln + 40)] W fun e w' => e = .returned (.bool V) ∧ Below W.heap.size W w') := (show ∀ W, _ → _ from fun W b => by
        rw [← hV]; exact validL_any _ f ln _ W (HP16.out.1.below b).lin (by omega) HSz.out (HP16.out.1.below b).tabs)
      have HC23 : Hid (∀ W, Below w16.heap.size w16 W → Calls Tryd.prog 23 #[.slice la ln lc] W fun e w' => e = .returned (.bool V) ∧ Below W.heap.size W w') := (show ∀ W, _ → _ from fun W b => by
        rw [← hV]; exact R.rvalid_any la f ln lc W (HP16.out.1.below b).ls (by omega) HSz.out)
      have HC12 : Hid (∀ W, Below w16.heap.size w16 W → Calls Tryd.prog 12 #[.slice (some ⟨g0, 0, none⟩) ln (ln + 40), .string nm] W fun e w' => e = .returned (.string G) ∧ Below W.heap.size W w') := (show ∀ W, _ → _ from fun W b => by
        rw [← hG]; exact get_any _ f ln _ nm W (HP16.out.1.below b).lin (by omega) (fun j hj => (HSz.out j hj).2))
      have HC24 : Hid (∀ W, Below w16.heap.size w16 W → Calls Tryd.prog 24 #[.slice la ln lc, .string nm] W fun e w' => e = .returned (.string G) ∧ w' = W) := (show ∀ W, _ → _ from fun W b => by
        rw [← hG]; exact R.rget_any la f ln lc nm W (HP16.out.1.below b).ls (by omega))
      have HC22 : Hid (∀ W, Below w16.heap.size w16 W → Calls Tryd.prog 22 #[.slice (some ⟨g0, 0, none⟩) (ln + 40) (ln + 40), .slice la ln lc] W fun e w' => e = .returned (.bool true) ∧ Below W.heap.size W w') := (show ∀ W, _ → _ from fun W b => K.whole_true g0 la lc (ln + 40) ln f W (HP16.out.1.below b).full (HP16.out.1.below b).ls (Nat.le_refl _) (by omega))
      have HSX : Hid (∀ W, Below w16.heap.size w16 W → (W.cell? ⟨bx, 0, none⟩ = some (.slice la ln lc) ∧ W.cell? ⟨bx, 1, none⟩ = some (.string nm)) ∧ Below w16.heap.size w16 W) := (show ∀ W, _ → _ from fun W b => ⟨⟨bcell2 b HP16.out.1.b0, bcell2 b HP16.out.1.b1⟩, b⟩)
      clear hV hG
      obtain ⟨⟨q0, q1⟩, _⟩ := HSX.out w16 (Below.refl _ _)
      have bd : Below w16.heap.size w16 w16.drew := (Below.refl _ _).drew
      have hvv : (V != V) = false := by cases V <;> rfl
      have hgg : (G.toList == G.toList) = true := beq_self_eq_true _
      go_region_held3 (fun w2 => (w2.cell? ⟨bx, 0, none⟩ = some (.slice la ln lc) ∧ w2.cell? ⟨bx, 1, none⟩ = some (.string nm)) ∧ Below w16.heap.size w16 w2) (first | exact HSX.out _ (by assumption) | exact HSX.out _ (Below.drew (by assumption))) (first | (go_at_call 14; go_fit (HC14.out _ (by first | exact bd | exact Below.refl _ _)); rintro e w17 ⟨rfl, b17⟩; have c17 : Below w16.heap.size w16 w17 := by first | exact bd.trans (b17.mono bd.size) | exact b17) | (go_at_call 23; go_fit (HC23.out _ c17); rintro e w18 ⟨rfl, b18⟩; have c18 := c17.trans (b18.mono c17.size)) | (go_at_call 12; go_fit (HC12.out _ c18); rintro e w19 ⟨rfl, b19⟩; have c19 := c18.trans (b19.mono c18.size)) | (go_at_call 24; go_fit (HC24.out _ c19); rintro e w20 ⟨rfl, rfl⟩) | (go_at_call 22; go_fit (HC22.out _ (by first | exact c19 | assumption)); rintro e w21 ⟨rfl, b21⟩; have c21 := c19.trans (b21.mono c19.size)))
      have HP21 : Hid (PP w6.heap.size bx g0 ln lc la nm f v7 w21 ∧ Below w.heap.size w w21) := ⟨HP16.out.1.below c21, HP16.out.2.trans (c21.mono HP16.out.2.size)⟩
      have k12 := mkX (some ⟨g0, 0, none⟩) f ln (ln + 40) w21 HP21.out.1.lin (by omega) HSz.out HP21.out.1.tabs
      clear HC14 HC23 HC12 HC24 HC22 HSX q0 q1 bd hvv hgg b17 c17 b18 c18 b19 c19 b21 c21 HP16
      go_wp2_with fail
      go_fit k12
      rintro e w22 ⟨v22, rfl, b22, o22⟩
      have HG21 : Hid (g0 < w21.heap.size) := (own_bd (show w21.ownsRow _ _ _ _ _ _ from HP21.out.1.inn) g0 rfl).2
      have HP22 : Hid (PP w6.heap.size bx g0 ln lc la nm f v7 w22 ∧ Below w.heap.size w w22) := ⟨HP21.out.1.below b22, HP21.out.2.trans (b22.mono HP21.out.2.size)⟩
      rw [HE.out.1]
      rw [HE.out.2] at o22
      have HD : Hid (∀ W, Kp (fun b => b = g0) w22 W → W.ownsRow w21.heap.size 26 2 v22 ks.length (lcL ks) ∧ W.ownsRow w6.heap.size 26 2 v7 ks.length (lcL ks) ∧ Below w.heap.size w W) := (show ∀ W, _ → _ from fun W k => by
        have r7 := HP22.out.1.row
        rw [HE.out.2] at r7
        refine ⟨k.row o22 fun b hb e => ?_, k.row r7 fun b hb e => ?_, HP22.out.2.trans (k.below HP22.out.2.size fun b hb e => ?_)⟩
        · have := (own_bd o22 b hb).1
          have := HG21.out
          omega
        · have := (own_bd r7 b hb).1
          have := HG6.out
          omega
        · have := HG0.out
          omega)
      have HL0 : Hid (LI g0 ln f w22 0 w22) := (show LI _ _ _ _ _ _ from ⟨HP22.out.1.inn.congr fun i hi => by unfold fx; rw [if_neg (by omega)], Kp.refl _ _⟩)
      clear k12 b22 o22 HP21
      go_wp2_with fail
      go_loopw [140] (fun t w' => ∃ j : Nat, t = .int .i64 (j : Nat) ∧ j ≤ ln ∧ Hid (LI g0 ln f w22 j w')) (fun t _ => ln - (RowKit.intOf t).toNat)
      case atStart => exact ⟨0, rfl, by omega, HL0⟩
      case round =>
        obtain ⟨j, rfl, hj, HLI⟩ := hrel
        by_cases hjl : j < ln
        · have jj : (j : Int) < (ln : Int) := by omega
          have j0 : (0 : Int) ≤ (j : Int) := by omega
          obtain ⟨c0, fz⟩ := HLI.out.cell hjl
          have HN : Hid (LI g0 ln f w22 (j + 1) (wr.setCell ⟨g0, j * 2 + 1, none⟩ (.string ((f j).2 ++ ⟨#[120]⟩)))) := HLI.out.step hjl
          have HJ : Hid (j + 1 ≤ ln) := hjl
          have hxs := (HSZ.out j hjl).2
          generalize (f j).2 = x at *
          have hx1 : ¬ 9223372036854775807 < x.size + 1 := by omega
          have hx2 : x.size + 1 ≤ 9223372036854775807 := by omega
          clear HLI hxs
          go_wp2
          exact ⟨⟨j + 1, by go_num, HJ.out, HN⟩, by simp [RowKit.intOf]; omega⟩
        · obtain rfl : j = ln := by omega
          have jj : ¬ (j : Int) < (j : Int) := by omega
          have HQ : Hid (∀ W, Below wr.heap.size wr W → W.ownsRow w21.heap.size 26 2 v22 ks.length (lcL ks) ∧ W.ownsRow w6.heap.size 26 2 v7 ks.length (lcL ks) ∧ Below w.heap.size w W ∧ Lm W (some ⟨g0, 0, none⟩) (f2 f) j ∧ Lib.Utf8Tabs 1 2 W) := (show ∀ W, _ → _ from fun W b => by
            obtain ⟨h1, h2, h3⟩ := HD.out wr HLI.out.kp
            have h4 := h3.trans (b.mono h3.size)
            exact ⟨row_kept h1 b, row_kept h2 b, h4, HLI.out.lm.below b, HT.out W h4⟩)
          have HZ2 : Hid (∀ i, i < j → (f2 f i).1.size ≤ 140737488355328 ∧ (f2 f i).2.size ≤ 140737488355328) := (show ∀ i, _ → _ from fun i hi => by
            have := HSZ.out i hi
            refine ⟨by unfold f2; dsimp only; omega, ?_⟩
            unfold f2
            dsimp only
            rw [ByteArray.size_append]
            show (f i).2.size + 1 ≤ _
            omega)
          have m1 := rmX (some ⟨g0, 0, none⟩) (f2 f) j (j + 40) wr (HQ.out wr (Below.refl _ _)).2.2.2.1 (by omega) HZ2.out (by omega)
          have hm2 := mkS_len (f2 f) j
          clear HLI HD HL0
          go_wp2_with fail
          go_fit m1
          rintro e w24 ⟨v24, rfl, b24, o24⟩
          have m2 := mkX (some ⟨g0, 0, none⟩) (f2 f) j (j + 40) w24 (HQ.out w24 b24).2.2.2.1 (by omega) HZ2.out (HQ.out w24 b24).2.2.2.2
          have H24 : Hid (Below wr.heap.size wr w24 ∧ w24.ownsRow wr.heap.size 26 2 v24 (mkS (f2 f) j).length (lcL (mkS (f2 f) j))) := ⟨b24, o24⟩
          clear m1 b24 o24
          go_wp2_with fail
          go_fit m2
          rintro e w25 ⟨v25, rfl, b25, o25⟩
          have H25 : Hid (Below wr.heap.size wr w25) := H24.out.1.trans (b25.mono H24.out.1.size)
          have HR25 : Hid (∀ W, Below w25.heap.size w25 W → W.ownsRow w24.heap.size 26 2 v25 (mkS (f2 f) j).length (lcL (mkS (f2 f) j)) ∧ W.ownsRow wr.heap.size 26 2 v24 (mkS (f2 f) j).length (lcL (mkS (f2 f) j))) := (show ∀ W, _ → _ from fun W b => ⟨row_kept o25 b, row_kept (row_kept H24.out.2 b25) b⟩)
          have m3 := row_same (HQ.out w25 H25.out).1 (HQ.out w25 H25.out).2.1 hml hln
          generalize mkE (f2 f) j = E2 at *
          clear m2 b25 o25
          go_wp2_with fail
          go_fit m3
          rintro e w26 ⟨rfl, b26⟩
          have H26 : Hid (Below w25.heap.size w25 w26 ∧ Below wr.heap.size wr w26) := ⟨b26, H25.out.trans (b26.mono H25.out.size)⟩
          have m4 := row_same (HR25.out w26 b26).1 (HR25.out w26 b26).2 hm2 hln
          clear m3 b26
          go_wp2_with fail
          go_fit m4
          rintro e w27 ⟨rfl, b27⟩
          have H27 : Hid (Below wr.heap.size wr w27) := H26.out.2.trans (b27.mono H26.out.2.size)
          obtain ⟨V2, hV2⟩ : ∃ V2, vaF (f2 f) j 0 = V2 := ⟨_, rfl⟩
          have m5 : Hid (∀ W, Below wr.heap.size wr W → Calls Tryd.prog 14 #[.slice (some ⟨g0, 0, none⟩) j (j + 40)] W fun e w' => e = .returned (.bool V2) ∧ Below W.heap.size W w') := (show ∀ W, _ → _ from fun W b => by
            rw [← hV2]; exact validL_any _ (f2 f) j _ W (HQ.out W b).2.2.2.1 (by omega) HZ2.out (HQ.out W b).2.2.2.2)
          have m6 : Hid (∀ W, Below wr.heap.size wr W → Calls Tryd.prog 23 #[.slice (some ⟨g0, 0, none⟩) j (j + 40)] W fun e w' => e = .returned (.bool V2) ∧ Below W.heap.size W w') := (show ∀ W, _ → _ from fun W b => by
            rw [← hV2]; exact R.rvalid_any _ (f2 f) j _ W (HQ.out W b).2.2.2.1 (by omega) HZ2.out)
          have hvv2 : (V2 != V2) = false := by cases V2 <;> rfl
          clear hV2 m4 b27
          go_wp2_with fail
          go_fit (m5.out _ H27.out)
          rintro e w28 ⟨rfl, b28⟩
          have H28 : Hid (Below wr.heap.size wr w28) := H27.out.trans (b28.mono H27.out.size)
          clear b28
          go_wp2_with fail
          go_fit (m6.out _ H28.out)
          rintro e w29 ⟨rfl, b29⟩
          have H29 : Hid (Below w.heap.size w w29) := (HQ.out w29 (H28.out.trans (b29.mono H28.out.size))).2.2.1
          clear b29
          go_wp2
          exact ⟨⟨i + 1, by go_num, HI.out, H29⟩, by simp [RowKit.intOf]; omega⟩
    · have hii : ¬ (i : Int) < (pn : Int) := by omega
      go_wp2
      go_ret
      exact ⟨rfl, HB.out⟩
end Go.Proofs.YtjmninjaoemhjaaDoor
