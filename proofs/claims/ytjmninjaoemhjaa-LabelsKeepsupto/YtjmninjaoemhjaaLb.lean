/- LabelsKeeps: the walk. -/
import Derived.Test.YtjmninjaoemhjaaLa
namespace Go.Proofs.Ytjmninjaoemhjaa
open Go.RowKit Go.Lib

attribute [local go_sem] Oper.semAt_some

def lB : ByteArray := ⟨#[108, 101, 110, 116]⟩
def eB : ByteArray := ⟨#[]⟩
def iniF : Nat → Lb := fun _ => (⟨#[99]⟩, ⟨#[51]⟩)
theorem ini_eq : wthL iniF ⟨#[98]⟩ ⟨#[50]⟩ 1 = [(⟨#[98]⟩, ⟨#[50]⟩), (⟨#[99]⟩, ⟨#[51]⟩)] := by kernel_rfl
theorem kept_len (f : Nat → Lb) (xs : List ByteArray) (wo : Bool) (n : Nat) : (keptL f xs wo n).length ≤ n := by
  unfold keptL
  refine Nat.le_trans (List.length_filter_le _ _) ?_
  simp [ll]
theorem wth_len (f : Nat → Lb) (nm vl : ByteArray) (n : Nat) : (wthL f nm vl n).length ≤ n + 1 := by
  have hd : (dropL f nm n).length ≤ n := by
    unfold dropL
    refine Nat.le_trans (List.length_filter_le _ _) ?_
    simp [ll]
  unfold wthL
  split
  · omega
  · have key : ∀ (p : Lb → Bool) (ks : List Lb), (ks.takeWhile p ++ (nm, vl) :: ks.dropWhile p).length = ks.length + 1 := fun p ks => by
      have := congrArg List.length (List.takeWhile_append_dropWhile (p := p) (l := ks))
      simp only [List.length_append, List.length_cons] at this ⊢
      omega
    unfold insL
    exact Nat.le_trans (Nat.le_of_eq (key _ _)) (by omega)
theorem pf_lm {w : World} {a : Option Addr} {f : Nat → Lb} {n : Nat} (h : Lm w a (pf f n) (n + 40)) : Lm w a f n := by
  rcases h with h | ⟨g, o, e, hg, hc⟩
  · omega
  · refine .inr ⟨g, o, e, hg, fun j hj => ?_⟩
    have := hc j (by omega)
    unfold pf at this
    rw [if_pos hj] at this
    exact this
theorem row_two {w : World} {S : Nat} {v : Value} {x y : Lb} (o : w.ownsRow S 25 2 v 2 (lcL [x, y])) : ∃ g c, v = .slice (some ⟨g, 0, none⟩) 2 c ∧ w.cell? ⟨g, 0, none⟩ = some (.string x.1) := by
  rcases o.2 with ⟨_, h⟩ | ⟨g, c, cur, e, _⟩
  · omega
  · have := World.ownsRow.cells (e ▸ o) (g := g) rfl 0 (.string x.1) rfl
    rw [Go.WideShapes.add_plain] at this
    exact ⟨g, c, e, this⟩

/-- A region that ends normally, in one of these ways. -/
def Gat (R : Act → World → Prop) : Exit → Act → World → Prop
  | .normal, a, w => R a w
  | _, _, _ => False
theorem gather {P : Program} {code : Code} {Q : Exit → Act → World → Prop} {A : Act} {w : World} (R : Act → Act → World → Prop) (h2 : ∀ a w', R A a w' → Q .normal a w') (h1 : Code.wp P code (Gat (R A)) A w) : Code.wp P code Q A w := by
  refine Code.wp_mono ?_ h1
  intro e a w' h
  cases e with
  | normal => exact h2 a w' h
  | _ => exact (show False from h).elim
/-- A value with one byte more. -/
def apX (s : ByteArray) : ByteArray := s ++ ⟨#[120]⟩
/-- The labels lent, the first k values longer by a byte. -/
def xF (f : Nat → Lb) (n k j : Nat) : Lb := if j < k then ((pf f n j).1, apX (pf f n j).2) else pf f n j
theorem xF_zero (f : Nat → Lb) (n j : Nat) : xF f n 0 j = pf f n j := if_neg (by omega)
theorem xF_here (f : Nat → Lb) (n k : Nat) : xF f n k k = pf f n k := if_neg (by omega)
theorem xF_up (f : Nat → Lb) (n k i : Nat) : up (xF f n k) k ((xF f n k k).1, apX (xF f n k k).2) i = xF f n (k + 1) i := by
  rw [xF_here]
  by_cases e : i = k
  · subst e
    rw [up_same]
    unfold xF
    rw [if_pos (by omega)]
  · rw [up_other _ _ _ _ e]
    unfold xF
    by_cases h : i < k
    · rw [if_pos h, if_pos (by omega)]
    · rw [if_neg h, if_neg (by omega)]
theorem xF_size (f : Nat → Lb) (n j : Nat) (hj : j < n) (h : (f j).1.size ≤ 1048576 ∧ (f j).2.size ≤ 1048576) : (xF f n n j).1.size ≤ 140737488355328 ∧ (xF f n n j).2.size ≤ 140737488355328 := by
  unfold xF pf
  rw [if_pos hj, if_pos hj]
  refine ⟨by show (f j).1.size ≤ _; omega, ?_⟩
  show (apX (f j).2).size ≤ _
  unfold apX
  rw [ByteArray.size_append]
  have : ByteArray.size ⟨#[120]⟩ = 1 := rfl
  omega
theorem lm_cut {w : World} {a : Option Addr} {f : Nat → Lb} {n m : Nat} (h : Lm w a f m) (hn : n ≤ m) : Lm w a f n := by
  rcases h with h | ⟨g, o, e, hg, hc⟩
  · exact .inl (by omega)
  · exact .inr ⟨g, o, e, hg, fun j hj => hc j (by omega)⟩
theorem smb_kp {w w' : World} {B g : Nat} {f : Nat → ByteArray} {n : Nat} (h : Smb w.heap.size w (some ⟨g, 0, none⟩) f n) (k : Kp (fun b => b = B) w w') (hg : g ≠ B) : Smb w'.heap.size w' (some ⟨g, 0, none⟩) f n := by
  rcases h with h | ⟨g', o, e, hl, hc⟩
  · exact .inl h
  · cases e
    exact .inr ⟨g, 0, rfl, Nat.lt_of_lt_of_le hl k.size, fun j hj => k.cell (hc j hj) hg⟩

set_option maxHeartbeats 16000000 in
set_option maxRecDepth 100000 in
theorem keeps_walk (a : Option Addr) (n c : Nat) (qs : Nat → Ak) (w : World) (hm : Am w a qs n) (hn : n ≤ 1048576) :
    Calls Try.prog 4 #[.slice a n c] w fun e w' => e = .returned (.bool true) ∧ Below w.heap.size w w' := by
  have HM : Hid (Am w a qs n) := hm
  have hni : (n : Int) ≤ 1048576 := by omega
  have bI : Below w.heap.size w (w.alloc (lbX (iniF 0))) := (Below.refl _ w).alloc (Nat.le_refl _) _
  have lI : Lm (w.alloc (lbX (iniF 0))) (some ⟨w.heap.size, 0, none⟩) iniF 1 := .inr ⟨w.heap.size, 0, rfl, by simp, fun j hj => by
    obtain rfl : j = 0 := by omega
    exact ⟨(box_new w (iniF 0)).c0, (box_new w (iniF 0)).c1⟩⟩
  have k0 := with_any (some ⟨w.heap.size, 0, none⟩) iniF 1 1 ⟨#[98]⟩ ⟨#[50]⟩ _ (by omega) (fun j _ => ⟨(show ByteArray.size ⟨#[99]⟩ ≤ _ by decide), (show ByteArray.size ⟨#[51]⟩ ≤ _ by decide)⟩) (by decide) (by decide) lI
  rw [ini_eq] at k0
  have HBI : Hid (Below w.heap.size w (w.alloc (lbX (iniF 0)))) := bI
  clear hm bI lI
  go_enter Try.func4, Try.ntmps4
  go_wp2_with fail
  go_fit k0
  rintro e w0 ⟨v0, rfl, o0, b0⟩
  obtain ⟨g0, cc0, rfl, hc0⟩ := row_two o0
  have HW0 : Hid (Below w.heap.size w w0) := (show Below _ _ _ from HBI.out.trans (b0.mono HBI.out.size))
  clear k0 o0 b0 HBI
  go_wp2_with fail
  go_loopw [35] (fun t W => ∃ i : Nat, t = .int .i64 (i : Nat) ∧ i ≤ n ∧ Hid (Below w.heap.size w W)) (fun t _ => n - (RowKit.intOf t).toNat)
  case atStart => exact ⟨0, rfl, Nat.zero_le _, HW0⟩
  case round =>
    clear hc0
    obtain ⟨i, rfl, hi, hb⟩ := hrel
    by_cases hlt : i < n
    · have hii : (i : Int) < (n : Int) := by omega
      obtain ⟨g, o, rfl, hg, ⟨z0, z1, z2, z3, z4⟩, hok⟩ := HM.out.at i hlt
      have y0 := (hb.out.cell (p := ⟨g, o + i * 5, none⟩) hg).trans z0
      have y1 := (hb.out.cell (p := ⟨g, o + i * 5 + 1, none⟩) hg).trans z1
      have y2 := (hb.out.cell (p := ⟨g, o + i * 5 + 2, none⟩) hg).trans z2
      have y3 := (hb.out.cell (p := ⟨g, o + i * 5 + 3, none⟩) hg).trans z3
      have y4 := (hb.out.cell (p := ⟨g, o + i * 5 + 4, none⟩) hg).trans z4
      have hok2 : Aok wr (qs i) := hok.below hb.out
      clear z0 z1 z2 z3 z4 hok
      obtain ⟨q, hq⟩ : ∃ q, q = qs i := ⟨_, rfl⟩
      rw [← hq] at y0 y1 y2 y3 y4 hok2
      clear hq
      obtain ⟨la, ln, lcc, f, nm, vl, na, nn, nc, nf, wo⟩ := q
      dsimp only at y0 y1 y2 y3 y4
      have HOKr : Hid (Aok wr ⟨la, ln, lcc, f, nm, vl, na, nn, nc, nf, wo⟩) := hok2
      have hln : ln ≤ 1048576 := hok2.l0
      have hnn : nn ≤ 1048576 := hok2.n0
      have hlni : (ln : Int) ≤ 1048576 := by omega
      have hnni : (nn : Int) ≤ 1048576 := by omega
      clear hok2
      go_upto_region 7 with fail
      clear y0 y1 y2 y3 y4
      obtain ⟨W0, hW0⟩ : ∃ W0, W0 = wr.alloc (akX ⟨la, ln, lcc, f, nm, vl, na, nn, nc, nf, wo⟩) := ⟨_, rfl⟩
      obtain ⟨BX, hBX⟩ : ∃ BX, BX = wr.heap.size := ⟨_, rfl⟩
      have bW0 : Below wr.heap.size wr W0 := by rw [hW0]; exact (Below.refl _ _).alloc (Nat.le_refl _) _
      have eX : W0.heap[BX]? = some (akX ⟨la, ln, lcc, f, nm, vl, na, nn, nc, nf, wo⟩) := by rw [hW0, hBX]; exact heap_alloc_new _ _
      have HXX : Hid (∀ W, Below W0.heap.size W0 W → W.cell? ⟨BX, 0, none⟩ = some (.slice la ln lcc) ∧ W.cell? ⟨BX, 1, none⟩ = some (.string nm) ∧ W.cell? ⟨BX, 2, none⟩ = some (.string vl) ∧ W.cell? ⟨BX, 3, none⟩ = some (.slice na nn nc) ∧ W.cell? ⟨BX, 4, none⟩ = some (.bool wo)) := (show ∀ W, _ → _ from fun W b => by
        have e := (b.block BX (Array.getElem?_eq_some_iff.1 eX).1).trans eX
        unfold World.cell?
        rw [e]
        exact ⟨rfl, rfl, rfl, rfl, rfl⟩)
      have HOK : Hid (Aok W0 ⟨la, ln, lcc, f, nm, vl, na, nn, nc, nf, wo⟩) := HOKr.out.below bW0
      have HBW : Hid (Below w.heap.size w W0) := hb.out.trans (bW0.mono hb.out.size)
      dsimp only [akX] at hW0
      rw [← hW0, ← hBX]
      have HBX : Hid (BX < W0.heap.size) := (show BX < _ from (Array.getElem?_eq_some_iff.1 eX).1)
      clear hW0 hBX eX bW0 hb HOKr
      obtain ⟨x0, x1, x2, x3, x4⟩ := HXX.out W0 (Below.refl _ _)
      obtain ⟨B1, hB1⟩ : ∃ B1, B1 = W0.heap.size := ⟨_, rfl⟩
      have k1 := lent_any la lcc ln f W0 HOK.out.ls (by omega)
      rw [← hB1] at k1
      have HB1 : Hid (B1 = W0.heap.size) := hB1
      clear hB1
      go_wp2_with fail
      go_fit k1
      rintro e w1 ⟨rfl, o1, b1⟩
      rw [HB1.out] at b1
      clear k1 x0 x1 x2 x3 x4
      have HO1 : Hid (Ir w1 B1 (.slice (some ⟨B1, 0, none⟩) (ln + 40) (ln + 40)) (ln + 40) (pf f ln)) := o1
      have HB01 : Hid (Below W0.heap.size W0 w1) := b1
      obtain ⟨g2, c2, w2, r2, sm2, b2, hg2⟩ := copy_n w1 na nn nc nf (HOK.out.below b1).ns HOK.out.nz hnn
      have HG2 : Hid (w1.heap.size ≤ g2) := hg2
      have x3 := (HXX.out (w1.alloc (.cells #[] 9)) (b1.alloc b1.size _)).2.2.2.1
      have b02 := b1.trans (b2.mono b1.size)
      have HB02 : Hid (Below W0.heap.size W0 w2) := b02
      have HB12 : Hid (Below w1.heap.size w1 w2) := b2
      have HS2 : Hid (Smb w2.heap.size w2 (some ⟨g2, 0, none⟩) nf nn) := sm2
      obtain ⟨Wl, hWl⟩ : ∃ Wl, Wl = wthL f nm vl ln := ⟨_, rfl⟩
      obtain ⟨nW, hnW⟩ : ∃ nW, nW = Wl.length := ⟨_, rfl⟩
      obtain ⟨Kl, hKl⟩ : ∃ Kl, Kl = keptL f (lf nf nn) wo ln := ⟨_, rfl⟩
      obtain ⟨nK, hnK⟩ : ∃ nK, nK = Kl.length := ⟨_, rfl⟩
      have k3 := rwith_any la f ln lcc nm vl w2 (by omega) (HOK.out.below b02).ls
      rw [with_eq, ← hWl, ← hnW] at k3
      have HWl : Hid (Wl = wthL f nm vl ln) := hWl
      have HnW : Hid (nW = Wl.length) := hnW
      have HKl : Hid (Kl = keptL f (lf nf nn) wo ln) := hKl
      have HnK : Hid (nK = Kl.length) := hnK
      obtain ⟨p0, p1, p2, _, _⟩ := HXX.out w2 b02
      clear o1 b1 b2 b02 sm2 hWl hnW hKl hnK
      go_wp2_with (at_builtin; refine wpList_append_run rfl (.tmp 45) (.tmp 47) 31 31 rfl _ _ rfl rfl r2 ?_)
      go_fit k3
      rintro e w3 ⟨vw, rfl, ow, b3⟩
      clear k3 r2 x3 p0 p1 p2
      obtain ⟨aw, cw, rfl, _⟩ := row_sl ow
      have b03 := HB02.out.trans (b3.mono HB02.out.size)
      have HR3 : Hid (Rg w3 w2.heap.size w3.heap.size (.slice aw nW cw) Wl) := (show Rg _ _ _ _ _ from Rg.of (by rw [HnW.out] at ow; rw [HnW.out]; exact ow))
      have k4 := rkeep_any la na f nf ln lcc nn nc wo w3 (by omega) (by omega) (HOK.out.below b03).ls (HOK.out.below b03).ns
      rw [← HKl.out, ← HnK.out] at k4
      obtain ⟨p0, _, _, p3, p4⟩ := HXX.out w3 b03
      have HB23 : Hid (Below w2.heap.size w2 w3) := b3
      have HB03 : Hid (Below W0.heap.size W0 w3) := b03
      clear ow b3 b03
      go_wp2_with fail
      go_fit k4
      rintro e w4 ⟨vk, rfl, ok, b4⟩
      clear k4 p0 p3 p4
      obtain ⟨ak, ck, rfl, _⟩ := row_sl ok
      have b04 := HB03.out.trans (b4.mono HB03.out.size)
      have b14 := HB12.out.trans ((HB23.out.trans (b4.mono HB23.out.size)).mono HB12.out.size)
      have b24 := HB23.out.trans (b4.mono HB23.out.size)
      have HRW : Hid (Rg w4 w2.heap.size w3.heap.size (.slice aw nW cw) Wl) := HR3.out.below b4
      have HRK : Hid (Rg w4 w3.heap.size w4.heap.size (.slice ak nK ck) Kl) := (show Rg _ _ _ _ _ from Rg.of (by rw [HnK.out] at ok; rw [HnK.out]; exact ok))
      have HX4 : Hid (∀ W, Below w4.heap.size w4 W → W.cell? ⟨BX, 0, none⟩ = some (.slice la ln lcc) ∧ W.cell? ⟨BX, 1, none⟩ = some (.string nm) ∧ W.cell? ⟨BX, 2, none⟩ = some (.string vl) ∧ W.cell? ⟨BX, 3, none⟩ = some (.slice na nn nc) ∧ W.cell? ⟨BX, 4, none⟩ = some (.bool wo)) := (show ∀ W, _ → _ from fun W b => HXX.out W (b04.trans (b.mono b04.size)))
      have HOK4 : Hid (Aok w4 ⟨la, ln, lcc, f, nm, vl, na, nn, nc, nf, wo⟩) := HOK.out.below b04
      have HO4 : Hid (Ir w4 B1 (.slice (some ⟨B1, 0, none⟩) (ln + 40) (ln + 40)) (ln + 40) (pf f ln)) := HO1.out.below b14
      have HFU : Hid (Lm w4 (some ⟨B1, 0, none⟩) (pf f ln) (ln + 40)) := (show Lm _ _ _ _ from Lm.of_row HO4.out)
      have HIN : Hid (Lm w4 (some ⟨B1, 0, none⟩) f ln) := (show Lm _ _ _ _ from pf_lm HFU.out)
      have HNM : Hid (Smb w4.heap.size w4 (some ⟨g2, 0, none⟩) nf nn) := HS2.out.size b24
      have HB04 : Hid (Below W0.heap.size W0 w4) := b04
      have HBw4 : Hid (Below w.heap.size w w4) := HBW.out.trans (b04.mono HBW.out.size)
      have hBl1 : B1 < w1.heap.size := (World.ownsRow.lt HO1.out B1 rfl).2
      have HZ : Hid (∀ W, Below w4.heap.size w4 W → BX < B1 ∧ B1 < w1.heap.size ∧ w1.heap.size ≤ w2.heap.size ∧ w2.heap.size ≤ w3.heap.size ∧ w3.heap.size ≤ w4.heap.size ∧ w4.heap.size ≤ W.heap.size) := (show ∀ W, _ → _ from fun W b => ⟨by have := HBX.out; have := HB1.out; omega, hBl1, HB12.out.size, HB23.out.size, b4.size, b.size⟩)
      have HZw : Hid (w.heap.size ≤ B1) := (show _ ≤ _ by have := HBW.out.size; have := HB1.out; omega)
      have HSz : Hid (∀ j, j < ln → (f j).1.size ≤ 140737488355328 ∧ (f j).2.size ≤ 140737488355328) := (show ∀ j, _ → _ from fun j hj => by have := HOK.out.sz j hj; dsimp only at this; omega)
      have hs1 : nm.size ≤ 140737488355328 := by have := HOK.out.s1; dsimp only at this; omega
      have hs2 : vl.size ≤ 140737488355328 := by have := HOK.out.s2; dsimp only at this; omega
      obtain ⟨Xl, hXl⟩ : ∃ Xl, Xl = wthL f nm eB ln := ⟨_, rfl⟩
      obtain ⟨nX, hnX⟩ : ∃ nX, nX = Xl.length := ⟨_, rfl⟩
      obtain ⟨Zl, hZl⟩ : ∃ Zl, Zl = wthL f lB vl ln := ⟨_, rfl⟩
      obtain ⟨nZ, hnZ⟩ : ∃ nZ, nZ = Zl.length := ⟨_, rfl⟩
      obtain ⟨Yl, hYl⟩ : ∃ Yl, Yl = keptL f (lf nf nn) (!wo) ln := ⟨_, rfl⟩
      obtain ⟨nY, hnY⟩ : ∃ nY, nY = Yl.length := ⟨_, rfl⟩
      have KA : Hid (∀ W, Below w4.heap.size w4 W → Calls Try.prog 8 #[.slice (some ⟨B1, 0, none⟩) ln (ln + 40), .string nm, .string vl] W fun e w' => ∃ v, e = .returned v ∧ w'.ownsRow W.heap.size 25 2 v nW (lcL Wl) ∧ Below W.heap.size W w') := (show ∀ W, _ → _ from fun W b => by
        have := with_any (some ⟨B1, 0, none⟩) f ln (ln + 40) nm vl W (by omega) HSz.out hs1 hs2 (HIN.out.below b)
        rw [← HWl.out, ← HnW.out] at this
        exact this)
      have KX : Hid (∀ W, Below w4.heap.size w4 W → Calls Try.prog 8 #[.slice (some ⟨B1, 0, none⟩) ln (ln + 40), .string nm, .string { data := #[] }] W fun e w' => ∃ v, e = .returned v ∧ w'.ownsRow W.heap.size 25 2 v nX (lcL Xl) ∧ Below W.heap.size W w') := (show ∀ W, _ → _ from fun W b => by
        have := with_any (some ⟨B1, 0, none⟩) f ln (ln + 40) nm eB W (by omega) HSz.out hs1 (by decide) (HIN.out.below b)
        rw [← hXl, ← hnX] at this
        exact this)
      have KZ : Hid (∀ W, Below w4.heap.size w4 W → Calls Try.prog 8 #[.slice (some ⟨B1, 0, none⟩) ln (ln + 40), .string { data := #[108, 101, 110, 116] }, .string vl] W fun e w' => ∃ v, e = .returned v ∧ w'.ownsRow W.heap.size 25 2 v nZ (lcL Zl) ∧ Below W.heap.size W w') := (show ∀ W, _ → _ from fun W b => by
        have := with_any (some ⟨B1, 0, none⟩) f ln (ln + 40) lB vl W (by omega) HSz.out (by decide) hs2 (HIN.out.below b)
        rw [← hZl, ← hnZ] at this
        exact this)
      have KC : Hid (∀ W, Below w4.heap.size w4 W → Calls Try.prog 12 #[.slice (some ⟨B1, 0, none⟩) ln (ln + 40), .slice (some ⟨g2, 0, none⟩) nn c2, .bool wo] W fun e w' => ∃ v, e = .returned v ∧ w'.ownsRow W.heap.size 25 2 v nK (lcL Kl) ∧ Below W.heap.size W w') := (show ∀ W, _ → _ from fun W b => by
        have := keep_any (some ⟨B1, 0, none⟩) (some ⟨g2, 0, none⟩) f nf ln (ln + 40) nn c2 wo W (by omega) (by omega) HSz.out (HIN.out.below b) (HNM.out.size b)
        rw [← HKl.out, ← HnK.out] at this
        exact this)
      have KY : Hid (∀ W, Below w4.heap.size w4 W → Calls Try.prog 12 #[.slice (some ⟨B1, 0, none⟩) ln (ln + 40), .slice (some ⟨g2, 0, none⟩) nn c2, .bool (!wo)] W fun e w' => ∃ v, e = .returned v ∧ w'.ownsRow W.heap.size 25 2 v nY (lcL Yl) ∧ Below W.heap.size W w') := (show ∀ W, _ → _ from fun W b => by
        have := keep_any (some ⟨B1, 0, none⟩) (some ⟨g2, 0, none⟩) f nf ln (ln + 40) nn c2 (!wo) W (by omega) (by omega) HSz.out (HIN.out.below b) (HNM.out.size b)
        rw [← hYl, ← hnY] at this
        exact this)
      have RX : Hid (∀ W, Below w4.heap.size w4 W → Calls Try.prog 10 #[.slice la ln lcc, .string nm, .string { data := #[] }] W fun e w' => ∃ v, e = .returned v ∧ w'.ownsRow W.heap.size 25 2 v nX (lcL Xl) ∧ Below W.heap.size W w') := (show ∀ W, _ → _ from fun W b => by
        have := rwith_any la f ln lcc nm eB W (by omega) (HOK4.out.below b).ls
        rw [with_eq, ← hXl, ← hnX] at this
        exact this)
      have RY : Hid (∀ W, Below w4.heap.size w4 W → Calls Try.prog 11 #[.slice la ln lcc, .slice na nn nc, .bool (!wo)] W fun e w' => ∃ v, e = .returned v ∧ w'.ownsRow W.heap.size 25 2 v nY (lcL Yl) ∧ Below W.heap.size W w') := (show ∀ W, _ → _ from fun W b => by
        have := rkeep_any la na f nf ln lcc nn nc (!wo) W (by omega) (by omega) (HOK4.out.below b).ls (HOK4.out.below b).ns
        rw [← hYl, ← hnY] at this
        exact this)
      have HnX : Hid (nX = Xl.length) := hnX
      have HnY : Hid (nY = Yl.length) := hnY
      have HnZ : Hid (nZ = Zl.length) := hnZ
      have HLN : Hid (nW ≤ 1073741824 ∧ nK ≤ 1073741824 ∧ nX ≤ 1073741824 ∧ nY ≤ 1073741824 ∧ nZ ≤ 1073741824) := by
        have e1 := wth_len f nm vl ln
        have e2 := wth_len f nm eB ln
        have e3 := wth_len f lB vl ln
        have e4 := kept_len f (lf nf nn) wo ln
        have e5 := kept_len f (lf nf nn) (!wo) ln
        rw [← HWl.out, ← HnW.out] at e1
        rw [← hXl, ← hnX] at e2
        rw [← hZl, ← hnZ] at e3
        rw [← HKl.out, ← HnK.out] at e4
        rw [← hYl, ← hnY] at e5
        exact ⟨by omega, by omega, by omega, by omega, by omega⟩
      clear hnX hnY hnZ hXl hYl hZl ok b4 b04 b14 b24 hs1 hs2 hBl1
      have F4 : Hid (Below w4.heap.size w4 w4) := Below.refl _ _
      obtain ⟨_, x1, x2, _, x4⟩ := HX4.out w4 F4.out
      go_wp2_with fail
      go_fit (KA.out _ F4.out)
      rintro e w5 ⟨v5, rfl, o5, b5⟩
      clear x1 x2 x4
      obtain ⟨a5, c5, rfl, _⟩ := row_sl o5
      have R5 : Hid (Rg w5 w4.heap.size w5.heap.size (.slice a5 nW c5) Wl) := (show Rg _ _ _ _ _ from Rg.of (by rw [HnW.out] at o5; rw [HnW.out]; exact o5))
      have B5 : Hid (Below w4.heap.size w4 w5) := b5
      have F5 : Hid (Below w4.heap.size w4 w5) := F4.out.trans (b5.mono F4.out.size)
      clear o5 b5
      obtain ⟨_, x1, x2, _, x4⟩ := HX4.out w5 F5.out
      go_wp2_with fail
      go_fit (KA.out _ F5.out)
      rintro e w6 ⟨v6, rfl, o6, b6⟩
      clear x1 x2 x4
      obtain ⟨a6, c6, rfl, _⟩ := row_sl o6
      have R6 : Hid (Rg w6 w5.heap.size w6.heap.size (.slice a6 nW c6) Wl) := (show Rg _ _ _ _ _ from Rg.of (by rw [HnW.out] at o6; rw [HnW.out]; exact o6))
      have B6 : Hid (Below w5.heap.size w5 w6) := b6
      have F6 : Hid (Below w4.heap.size w4 w6) := F5.out.trans (b6.mono F5.out.size)
      clear o6 b6
      obtain ⟨_, x1, x2, _, x4⟩ := HX4.out w6 F6.out
      go_wp2_with fail
      go_fit (KC.out _ F6.out)
      rintro e w7 ⟨v7, rfl, o7, b7⟩
      clear x1 x2 x4
      obtain ⟨a7, c7, rfl, _⟩ := row_sl o7
      have R7 : Hid (Rg w7 w6.heap.size w7.heap.size (.slice a7 nK c7) Kl) := (show Rg _ _ _ _ _ from Rg.of (by rw [HnK.out] at o7; rw [HnK.out]; exact o7))
      have B7 : Hid (Below w6.heap.size w6 w7) := b7
      have F7 : Hid (Below w4.heap.size w4 w7) := F6.out.trans (b7.mono F6.out.size)
      clear o7 b7
      obtain ⟨_, x1, x2, _, x4⟩ := HX4.out w7 F7.out
      go_wp2_with fail
      go_fit (KC.out _ F7.out)
      rintro e w8 ⟨v8, rfl, o8, b8⟩
      clear x1 x2 x4
      obtain ⟨a8, c8, rfl, _⟩ := row_sl o8
      have R8 : Hid (Rg w8 w7.heap.size w8.heap.size (.slice a8 nK c8) Kl) := (show Rg _ _ _ _ _ from Rg.of (by rw [HnK.out] at o8; rw [HnK.out]; exact o8))
      have B8 : Hid (Below w7.heap.size w7 w8) := b8
      have F8 : Hid (Below w4.heap.size w4 w8) := F7.out.trans (b8.mono F7.out.size)
      clear o8 b8
      obtain ⟨_, x1, x2, _, x4⟩ := HX4.out w8 F8.out
      go_wp2_with fail
      go_fit (KX.out _ F8.out)
      rintro e w9 ⟨v9, rfl, o9, b9⟩
      clear x1 x2 x4
      obtain ⟨a9, c9, rfl, _⟩ := row_sl o9
      have R9 : Hid (Rg w9 w8.heap.size w9.heap.size (.slice a9 nX c9) Xl) := (show Rg _ _ _ _ _ from Rg.of (by rw [HnX.out] at o9; rw [HnX.out]; exact o9))
      have B9 : Hid (Below w8.heap.size w8 w9) := b9
      have F9 : Hid (Below w4.heap.size w4 w9) := F8.out.trans (b9.mono F8.out.size)
      clear o9 b9
      obtain ⟨_, x1, x2, _, x4⟩ := HX4.out w9 F9.out
      go_wp2_with fail
      go_fit (KY.out _ F9.out)
      rintro e w10 ⟨v10, rfl, o10, b10⟩
      clear x1 x2 x4
      obtain ⟨a10, c10, rfl, _⟩ := row_sl o10
      have R10 : Hid (Rg w10 w9.heap.size w10.heap.size (.slice a10 nY c10) Yl) := (show Rg _ _ _ _ _ from Rg.of (by rw [HnY.out] at o10; rw [HnY.out]; exact o10))
      have B10 : Hid (Below w9.heap.size w9 w10) := b10
      have F10 : Hid (Below w4.heap.size w4 w10) := F9.out.trans (b10.mono F9.out.size)
      clear o10 b10
      obtain ⟨_, x1, x2, _, x4⟩ := HX4.out w10 F10.out
      go_wp2_with fail
      go_fit (KZ.out _ F10.out)
      rintro e w11 ⟨v11, rfl, o11, b11⟩
      clear x1 x2 x4
      obtain ⟨a11, c11, rfl, _⟩ := row_sl o11
      have R11 : Hid (Rg w11 w10.heap.size w11.heap.size (.slice a11 nZ c11) Zl) := (show Rg _ _ _ _ _ from Rg.of (by rw [HnZ.out] at o11; rw [HnZ.out]; exact o11))
      have B11 : Hid (Below w10.heap.size w10 w11) := b11
      have F11 : Hid (Below w4.heap.size w4 w11) := F10.out.trans (b11.mono F10.out.size)
      clear o11 b11
      have E11 : Hid (Below w11.heap.size w11 w11) := Below.refl _ _
      have E10 : Hid (Below w10.heap.size w10 w11) := B11.out.trans (E11.out.mono B11.out.size)
      have E9 : Hid (Below w9.heap.size w9 w11) := B10.out.trans (E10.out.mono B10.out.size)
      have E8 : Hid (Below w8.heap.size w8 w11) := B9.out.trans (E9.out.mono B9.out.size)
      have E7 : Hid (Below w7.heap.size w7 w11) := B8.out.trans (E8.out.mono B8.out.size)
      have E6 : Hid (Below w6.heap.size w6 w11) := B7.out.trans (E7.out.mono B7.out.size)
      have E5 : Hid (Below w5.heap.size w5 w11) := B6.out.trans (E6.out.mono B6.out.size)
      have E4 : Hid (Below w4.heap.size w4 w11) := B5.out.trans (E5.out.mono B5.out.size)
      have Q5 : Hid (Rg w11 w4.heap.size w5.heap.size (.slice a5 nW c5) Wl) := R5.out.below E5.out
      have Q6 : Hid (Rg w11 w5.heap.size w6.heap.size (.slice a6 nW c6) Wl) := R6.out.below E6.out
      have Q7 : Hid (Rg w11 w6.heap.size w7.heap.size (.slice a7 nK c7) Kl) := R7.out.below E7.out
      have Q8 : Hid (Rg w11 w7.heap.size w8.heap.size (.slice a8 nK c8) Kl) := R8.out.below E8.out
      have Q9 : Hid (Rg w11 w8.heap.size w9.heap.size (.slice a9 nX c9) Xl) := R9.out.below E9.out
      have Q10 : Hid (Rg w11 w9.heap.size w10.heap.size (.slice a10 nY c10) Yl) := R10.out.below E10.out
      have Q11 : Hid (Rg w11 w10.heap.size w11.heap.size (.slice a11 nZ c11) Zl) := R11.out.below E11.out
      have QW : Hid (Rg w11 w2.heap.size w3.heap.size (.slice aw nW cw) Wl) := HRW.out.below E4.out
      have QK : Hid (Rg w11 w3.heap.size w4.heap.size (.slice ak nK ck) Kl) := HRK.out.below E4.out
      clear R5 R6 R7 R8 R9 R10 R11 E5 E6 E7 E8 E9 E10
      have S1 : Hid (∀ W, Below w11.heap.size w11 W → Calls Try.prog 7 #[.slice a5 nW c5, .slice aw nW cw] W fun r w' => r = .returned (.bool true) ∧ Below W.heap.size W w') := (show ∀ W, _ → _ from fun W b => same_true a5 aw c5 cw nW (gL Wl) W ((Q5.out.below b).lm HnW.out) ((QW.out.below b).lm HnW.out) (by have := HLN.out; omega))
      have S2 : Hid (∀ W, Below w11.heap.size w11 W → Calls Try.prog 7 #[.slice a6 nW c6, .slice aw nW cw] W fun r w' => r = .returned (.bool true) ∧ Below W.heap.size W w') := (show ∀ W, _ → _ from fun W b => same_true a6 aw c6 cw nW (gL Wl) W ((Q6.out.below b).lm HnW.out) ((QW.out.below b).lm HnW.out) (by have := HLN.out; omega))
      have S3 : Hid (∀ W, Below w11.heap.size w11 W → Calls Try.prog 7 #[.slice a7 nK c7, .slice ak nK ck] W fun r w' => r = .returned (.bool true) ∧ Below W.heap.size W w') := (show ∀ W, _ → _ from fun W b => same_true a7 ak c7 ck nK (gL Kl) W ((Q7.out.below b).lm HnK.out) ((QK.out.below b).lm HnK.out) (by have := HLN.out; omega))
      have S4 : Hid (∀ W, Below w11.heap.size w11 W → Calls Try.prog 7 #[.slice a8 nK c8, .slice ak nK ck] W fun r w' => r = .returned (.bool true) ∧ Below W.heap.size W w') := (show ∀ W, _ → _ from fun W b => same_true a8 ak c8 ck nK (gL Kl) W ((Q8.out.below b).lm HnK.out) ((QK.out.below b).lm HnK.out) (by have := HLN.out; omega))
      have C11 : Hid (Below w11.heap.size w11 w11) := Below.refl _ _
      go_wp2_with fail
      go_fit (S1.out _ C11.out)
      rintro e w12 ⟨rfl, b12⟩
      have C12 : Hid (Below w11.heap.size w11 w12) := C11.out.trans (b12.mono C11.out.size)
      clear b12
      go_wp2_with fail
      go_fit (S2.out _ C12.out)
      rintro e w13 ⟨rfl, b13⟩
      have C13 : Hid (Below w11.heap.size w11 w13) := C12.out.trans (b13.mono C12.out.size)
      clear b13
      go_wp2_with fail
      go_fit (S3.out _ C13.out)
      rintro e w14 ⟨rfl, b14⟩
      have C14 : Hid (Below w11.heap.size w11 w14) := C13.out.trans (b14.mono C13.out.size)
      clear b14
      go_wp2_with fail
      go_fit (S4.out _ C14.out)
      rintro e w15 ⟨rfl, b15⟩
      have C15 : Hid (Below w11.heap.size w11 w15) := C14.out.trans (b15.mono C14.out.size)
      clear b15
      have F15 : Hid (Below w4.heap.size w4 w15) := E4.out.trans (C15.out.mono E4.out.size)
      clear S1 S2 S3 S4 C12 C13 C14
      obtain ⟨x0, x1, _, _, _⟩ := HX4.out w15 F15.out
      go_wp2_with fail
      go_fit (RX.out _ F15.out)
      rintro e w16 ⟨v16, rfl, o16, b16⟩
      clear x0 x1
      obtain ⟨a16, c16, rfl, _⟩ := row_sl o16
      have C16 : Hid (Below w11.heap.size w11 w16) := C15.out.trans (b16.mono C15.out.size)
      have S5 := same_true a9 a16 c9 c16 nX (gL Xl) w16 ((Q9.out.below C16.out).lm HnX.out) ((show Rg _ _ _ _ _ from Rg.of (by rw [HnX.out] at o16; rw [HnX.out]; exact o16) : Rg w16 w15.heap.size w16.heap.size (.slice a16 nX c16) Xl).lm HnX.out) (by have := HLN.out; omega)
      clear o16 b16
      go_wp2_with fail
      go_fit S5
      rintro e w17 ⟨rfl, b17⟩
      have C17 : Hid (Below w11.heap.size w11 w17) := C16.out.trans (b17.mono C16.out.size)
      have F17 : Hid (Below w4.heap.size w4 w17) := E4.out.trans (C17.out.mono E4.out.size)
      clear S5 b17
      obtain ⟨x0, _, _, x3, x4⟩ := HX4.out w17 F17.out
      go_wp2_with fail
      go_fit (RY.out _ F17.out)
      rintro e w18 ⟨v18, rfl, o18, b18⟩
      clear x0 x3 x4
      obtain ⟨a18, c18, rfl, _⟩ := row_sl o18
      have C18 : Hid (Below w11.heap.size w11 w18) := C17.out.trans (b18.mono C17.out.size)
      have S6 := same_true a10 a18 c10 c18 nY (gL Yl) w18 ((Q10.out.below C18.out).lm HnY.out) ((show Rg _ _ _ _ _ from Rg.of (by rw [HnY.out] at o18; rw [HnY.out]; exact o18) : Rg w18 w17.heap.size w18.heap.size (.slice a18 nY c18) Yl).lm HnY.out) (by have := HLN.out; omega)
      clear o18 b18
      go_wp2_with fail
      go_fit S6
      rintro e w19 ⟨rfl, b19⟩
      have C19 : Hid (Below w11.heap.size w11 w19) := C18.out.trans (b19.mono C18.out.size)
      have F19 : Hid (Below w4.heap.size w4 w19) := E4.out.trans (C19.out.mono E4.out.size)
      clear S6 b19
      have KP := apart7 w19 w4.heap.size w5.heap.size w6.heap.size w7.heap.size w8.heap.size w9.heap.size w10.heap.size w11.heap.size _ _ _ _ _ _ _ _ _ _ _ _ _ _ (Q5.out.below C19.out) (Q6.out.below C19.out) (Q7.out.below C19.out) (Q8.out.below C19.out) (Q9.out.below C19.out) (Q10.out.below C19.out) (Q11.out.below C19.out) B5.out.size B6.out.size B7.out.size B8.out.size B9.out.size B10.out.size B11.out.size C19.out.size (by rw [← HnW.out, ← HnK.out, ← HnX.out, ← HnY.out, ← HnZ.out]; have := HLN.out; omega)
      go_wp2_with fail
      go_fit KP
      rintro e w20 ⟨rfl, b20⟩
      have F20 : Hid (Below w4.heap.size w4 w20) := F19.out.trans b20
      clear KP b20 Q5 Q6 Q7 Q8 Q9 Q10 Q11 QW QK B5 B6 B7 B8 B9 B10 B11 C11 C15 C16 C17 C18 C19 E4 E11 F15 F17 F19 F5 F6 F7 F8 F9 F10 F11 KX KY KZ RX RY
      have x0 := (HX4.out w20 F20.out).1
      have KW := whole_true B1 la lcc (ln + 40) ln f w20 (HFU.out.below F20.out) (HOK4.out.below F20.out).ls (by omega) (by omega)
      go_wp2_with fail
      go_fit KW
      rintro e w21 ⟨rfl, b21⟩
      have F21 : Hid (Below w4.heap.size w4 w21) := F20.out.trans (b21.mono F20.out.size)
      clear KW b21 x0 F20
      go_wp2_with fail
      have G21 : Hid (Below w21.heap.size w21 w21) := Below.refl _ _
      go_loopw [161] (fun t W => ∃ j : Nat, t = .int .i64 (j : Nat) ∧ j ≤ nn ∧ Hid (Below w21.heap.size w21 W)) (fun t _ => nn - (RowKit.intOf t).toNat)
      case atStart => exact ⟨0, rfl, Nat.zero_le _, G21⟩
      case round =>
        obtain ⟨j, rfl, hj, hg21⟩ := hrel
        by_cases hjl : j < nn
        · have hji : (j : Int) < (nn : Int) := by omega
          have FW : Below w4.heap.size w4 wr := F21.out.trans (hg21.out.mono F21.out.size)
          have x3 := (HX4.out wr FW).2.2.2.1
          obtain ⟨gn, on, en, hgn, hcn⟩ : ∃ gn on, (some (⟨g2, 0, none⟩ : Addr)) = some ⟨gn, on, none⟩ ∧ gn < wr.heap.size ∧ _ := by
            rcases HNM.out.size FW with h | h
            · omega
            · exact h
          obtain ⟨gq, oq, eq, hgq, hcq⟩ : ∃ gq oq, na = some ⟨gq, oq, none⟩ ∧ gq < wr.heap.size ∧ _ := by
            rcases (HOK4.out.below FW).ns with h | h
            · have h : nn = 0 := h
              omega
            · exact h
          cases en
          subst eq
          have y1 : wr.cell? ⟨g2, j, none⟩ = some (.string (nf j)) := by have := hcn j hjl; rw [Nat.zero_add] at this; exact this
          have y2 : wr.cell? ⟨gq, oq + j, none⟩ = some (.string (nf j)) := hcq j hjl
          have HDN : Hid (∀ m, Below w21.heap.size w21 (wr.drewN m)) := (show ∀ m, _ from fun m => hg21.out.trans ⟨rfl, rfl, rfl, Nat.le_refl _, fun _ _ => rfl⟩)
          generalize nf j = sj at *
          have hse : (sj.toList == sj.toList) = true := beq_self_eq_true _
          clear hcn hcq FW
          go_upto_region 27 with fail
          go_big_quiet (fail)
          have HD2 : Hid (Below w21.heap.size w21 (wr.drewN nq)) := HDN.out nq
          go_wp2
          exact ⟨⟨j + 1, by go_num, by omega, HD2⟩, by simp [RowKit.intOf]; omega⟩
        · have hji : ¬ (j : Int) < (nn : Int) := by omega
          obtain ⟨w22, hw22⟩ : ∃ w22, w22 = wr := ⟨_, rfl⟩
          have F22 : Hid (Below w4.heap.size w4 w22) := (show Below _ _ _ by rw [hw22]; exact F21.out.trans (hg21.out.mono F21.out.size))
          rw [← hw22]
          clear hw22 hg21 hj hjl
          have HX22 : Hid (∀ W, Below w22.heap.size w22 W → W.cell? ⟨BX, 1, none⟩ = some (.string nm) ∧ W.cell? ⟨BX, 2, none⟩ = some (.string vl) ∧ W.cell? ⟨BX, 4, none⟩ = some (.bool wo)) := (show ∀ W, _ → _ from fun W b => by
            obtain ⟨_, h1, h2, _, h4⟩ := HX4.out W (F22.out.trans (b.mono F22.out.size))
            exact ⟨h1, h2, h4⟩)
          have KA2 : Hid (∀ W, Below w22.heap.size w22 W → Calls Try.prog 8 #[.slice (some ⟨B1, 0, none⟩) ln (ln + 40), .string nm, .string vl] W fun e w' => ∃ (a : Option Addr) (c : Nat), e = .returned (.slice a nW c) ∧ Below w22.heap.size w22 w' ∧ Below W.heap.size W w' ∧ Hid (∀ W', Below w'.heap.size w' W' → W'.ownsRow w22.heap.size 25 2 (.slice a nW c) nW (lcL Wl))) := (show ∀ W, _ → _ from fun W b => by
            refine (KA.out W (F22.out.trans (b.mono F22.out.size))).mono ?_
            rintro e w' ⟨v, rfl, o, b'⟩
            obtain ⟨a, c, rfl, _⟩ := row_sl o
            exact ⟨a, c, rfl, b.trans (b'.mono b.size), b', (show ∀ W', _ → _ from fun W' h => (Kp.of (M := fun _ => False) h).row (row_low o b.size) (fun _ _ => id))⟩)
          have KC2 : Hid (∀ W, Below w22.heap.size w22 W → Calls Try.prog 12 #[.slice (some ⟨B1, 0, none⟩) ln (ln + 40), .slice (some ⟨g2, 0, none⟩) nn c2, .bool wo] W fun e w' => ∃ (a : Option Addr) (c : Nat), e = .returned (.slice a nK c) ∧ Below w22.heap.size w22 w' ∧ Below W.heap.size W w' ∧ Hid (∀ W', Below w'.heap.size w' W' → W'.ownsRow w22.heap.size 25 2 (.slice a nK c) nK (lcL Kl))) := (show ∀ W, _ → _ from fun W b => by
            refine (KC.out W (F22.out.trans (b.mono F22.out.size))).mono ?_
            rintro e w' ⟨v, rfl, o, b'⟩
            obtain ⟨a, c, rfl, _⟩ := row_sl o
            exact ⟨a, c, rfl, b.trans (b'.mono b.size), b', (show ∀ W', _ → _ from fun W' h => (Kp.of (M := fun _ => False) h).row (row_low o b.size) (fun _ _ => id))⟩)
          obtain ⟨x1, x2, x4⟩ := HX22.out w22 (Below.refl _ _)
          go_upto_region 30 with fail
          refine gather (fun _ aA w' => ∃ (e175 e176 e177 e178 e179 e180 e181 e182 e183 e184 e185 : Value) (va vc : Option Addr) (ca cc3 : Nat), aA = ⟨#[Value.slice (some { block := g, off := o }) n c, undef, u2, Value.slice (some { block := g0, off := 0 }) 2 cc0, undef, Value.pointer (some { block := BX, off := 0 }), Value.slice (some { block := B1, off := 0 }) ln (ln + 40), Value.slice (some { block := B1, off := 0 }) (ln + 40) (ln + 40), Value.slice (some { block := g2, off := 0 }) nn c2, Value.slice aw nW cw, Value.slice ak nK ck, .slice va nW ca, Value.slice a6 nW c6, .slice vc nK cc3, Value.slice a8 nK c8, Value.slice a9 nX c9, Value.slice a10 nY c10, Value.slice a11 nZ c11, u18, u19, Value.agg #[Value.string { data := #[99] }, Value.string { data := #[51] }], Value.slice (some { block := w.heap.size, off := 0 }) 1 1, Value.slice (some { block := g0, off := 0 }) 2 cc0, Value.slice (some { block := g0, off := 0 }) 2 cc0, Value.int IntKind.i64 2, Value.bool false, Value.bool false, Value.slice (some { block := g0, off := 0 }) 2 cc0, Value.pointer (some { block := g0, off := 0 }), Value.pointer (some { block := g0, off := 0 }), Value.string { data := #[98] }, Value.bool false, Value.bool false, Value.slice (some { block := g, off := o }) n c, Value.int IntKind.i64 ((n : Nat) : Int), Value.int IntKind.i64 ((i : Nat) : Int), Value.bool true, Value.pointer (some { block := g, off := o + i * 5 }), Value.agg #[Value.slice la ln lcc, Value.string nm, Value.string vl, Value.slice na nn nc, Value.bool wo], Value.tuple #[Value.slice (some { block := B1, off := 0 }) ln (ln + 40), Value.slice (some { block := B1, off := 0 }) (ln + 40) (ln + 40)], Value.pointer (some { block := BX, off := 0 }), Value.slice la ln lcc, Value.tuple #[Value.slice (some { block := B1, off := 0 }) ln (ln + 40), Value.slice (some { block := B1, off := 0 }) (ln + 40) (ln + 40)], Value.slice (some { block := B1, off := 0 }) ln (ln + 40), Value.slice (some { block := B1, off := 0 }) (ln + 40) (ln + 40), Value.slice (some { block := w1.heap.size, off := 0 }) 0 0, Value.pointer (some { block := BX, off := 3 }), Value.slice na nn nc, Value.slice (some { block := g2, off := 0 }) nn c2, Value.pointer (some { block := BX, off := 0 }), Value.slice la ln lcc, Value.pointer (some { block := BX, off := 1 }), Value.string nm, Value.pointer (some { block := BX, off := 2 }), Value.string vl, Value.slice aw nW cw, Value.pointer (some { block := BX, off := 0 }), Value.slice la ln lcc, Value.pointer (some { block := BX, off := 3 }), Value.slice na nn nc, Value.pointer (some { block := BX, off := 4 }), Value.bool wo, Value.slice ak nK ck, Value.slice (some { block := B1, off := 0 }) ln (ln + 40), Value.pointer (some { block := BX, off := 1 }), Value.string nm, Value.pointer (some { block := BX, off := 2 }), Value.string vl, Value.slice a5 nW c5, Value.slice (some { block := B1, off := 0 }) ln (ln + 40), Value.pointer (some { block := BX, off := 1 }), Value.string nm, Value.pointer (some { block := BX, off := 2 }), Value.string vl, Value.slice a6 nW c6, Value.slice (some { block := B1, off := 0 }) ln (ln + 40), Value.slice (some { block := g2, off := 0 }) nn c2, Value.pointer (some { block := BX, off := 4 }), Value.bool wo, Value.slice a7 nK c7, Value.slice (some { block := B1, off := 0 }) ln (ln + 40), Value.slice (some { block := g2, off := 0 }) nn c2, Value.pointer (some { block := BX, off := 4 }), Value.bool wo, Value.slice a8 nK c8, Value.slice (some { block := B1, off := 0 }) ln (ln + 40), Value.pointer (some { block := BX, off := 1 }), Value.string nm, Value.slice a9 nX c9, Value.slice (some { block := B1, off := 0 }) ln (ln + 40), Value.slice (some { block := g2, off := 0 }) nn c2, Value.pointer (some { block := BX, off := 4 }), Value.bool wo, Value.bool (!wo), Value.slice a10 nY c10, Value.slice (some { block := B1, off := 0 }) ln (ln + 40), Value.pointer (some { block := BX, off := 2 }), Value.string vl, Value.slice a11 nZ c11, Value.slice a5 nW c5, Value.slice aw nW cw, Value.bool true, Value.bool false, Value.bool false, Value.slice a6 nW c6, Value.slice aw nW cw, Value.bool true, Value.bool false, Value.bool false, Value.bool false, Value.slice a7 nK c7, Value.slice ak nK ck, Value.bool true, Value.bool false, Value.bool false, Value.bool false, Value.slice a8 nK c8, Value.slice ak nK ck, Value.bool true, Value.bool false, Value.bool false, Value.slice a9 nX c9, Value.pointer (some { block := BX, off := 0 }), Value.slice la ln lcc, Value.pointer (some { block := BX, off := 1 }), Value.string nm, Value.slice a16 nX c16, Value.bool true, Value.bool false, Value.bool false, Value.slice a10 nY c10, Value.pointer (some { block := BX, off := 0 }), Value.slice la ln lcc, Value.pointer (some { block := BX, off := 3 }), Value.slice na nn nc, Value.pointer (some { block := BX, off := 4 }), Value.bool wo, Value.bool (!wo), Value.slice a18 nY c18, Value.bool true, Value.bool false, Value.bool false, Value.slice a5 nW c5, Value.slice a6 nW c6, Value.slice a7 nK c7, Value.slice a8 nK c8, Value.slice a9 nX c9, Value.slice a10 nY c10, Value.slice a11 nZ c11, Value.slice (some { block := w19.heap.size, off := 0 }) 7 7, Value.bool true, Value.bool false, Value.bool false, Value.slice (some { block := B1, off := 0 }) (ln + 40) (ln + 40), Value.pointer (some { block := BX, off := 0 }), Value.slice la ln lcc, Value.bool true, Value.bool false, Value.bool false, Value.slice (some { block := g2, off := 0 }) nn c2, Value.int IntKind.i64 ((nn : Nat) : Int), Value.int IntKind.i64 ((j : Nat) : Int), Value.bool false, u163, u164, u165, u166, u167, u168, u169, u170, u171, u172, u173, u174, e175, e176, e177, e178, e179, e180, e181, e182, e183, e184, e185, u186, u187, u188, u189, u190, u191, u192, u193, u194, u195, u196, u197, u198, u199, u200, u201, u202, u203, u204, u205, u206, u207, u208, u209, u210, u211, u212, u213, u214, u215, u216, u217, u218, u219, u220, u221, u222, u223, u224, u225, u226, u227, u228, u229, u230, u231, u232, u233, u234, u235, u236, u237, u238, u239, u240], []⟩ ∧ Hid (Below w22.heap.size w22 w') ∧ Hid (w'.ownsRow w22.heap.size 25 2 (.slice va nW ca) nW (lcL Wl)) ∧ Hid (w'.ownsRow w22.heap.size 25 2 (.slice vc nK cc3) nK (lcL Kl))) ?hq30 ?h30
          case h30 =>
            go_region_held3 (fun w' => w'.cell? ⟨BX, 1, none⟩ = some (.string nm) ∧ w'.cell? ⟨BX, 2, none⟩ = some (.string vl) ∧ w'.cell? ⟨BX, 4, none⟩ = some (.bool wo)) (first | exact ⟨x1, x2, x4⟩ | exact HX22.out _ (by repeat (first | exact Below.refl _ _ | assumption | refine Below.drew ?_))) (first | (go_at_call 8; go_fit (KA2.out _ (by repeat (first | exact Below.refl _ _ | assumption | refine Below.drew ?_))); rintro e wA ⟨aA, cA, rfl, bA, bA2, oA⟩) | (go_at_call 12; go_fit (KC2.out _ (by repeat (first | exact Below.refl _ _ | assumption | refine Below.drew ?_))); rintro e wC ⟨aC, cC, rfl, bC, bC2, oC⟩))
            all_goals exact ⟨_, _, _, _, _, _, _, _, _, _, _, aA, aC, cA, cC, rfl, (show Below _ _ _ from (by repeat (first | exact Below.refl _ _ | assumption | refine Below.drew ?_))), (show World.ownsRow _ _ _ _ _ _ _ from oA.out _ (by repeat (first | exact Below.refl _ _ | assumption | refine Below.drew ?_))), (show World.ownsRow _ _ _ _ _ _ _ from oC.out _ (by repeat (first | exact Below.refl _ _ | assumption | refine Below.drew ?_)))⟩
          rintro a30 w23 ⟨e175, e176, e177, e178, e179, e180, e181, e182, e183, e184, e185, va, vc, ca, cc3, rfl, G23, OA, OC⟩
          clear KA2 KC2 x1 x2 x4 HX22
          have F23 : Hid (Below w4.heap.size w4 w23) := F22.out.trans (G23.out.mono F22.out.size)
          have Z23 : Hid (BX < B1 ∧ B1 < w1.heap.size ∧ w1.heap.size ≤ w2.heap.size ∧ w2.heap.size ≤ w3.heap.size ∧ w3.heap.size ≤ w4.heap.size ∧ w4.heap.size ≤ w22.heap.size) := HZ.out w22 F22.out
          have HI23 : Hid (Ir w23 B1 (.slice (some ⟨B1, 0, none⟩) (ln + 40) (ln + 40)) (ln + 40) (xF f ln 0)) := (show Ir _ _ _ _ _ from (HO4.out.below F23.out).congr (fun k _ => (xF_zero f ln k).symm))
          have HK23 : Hid (Kp (fun b => b = B1) w23 w23) := Kp.refl _ _
          go_wp2_with fail
          go_loopw [188] (fun t W => ∃ k : Nat, t = .int .i64 (k : Nat) ∧ k ≤ ln ∧ Hid (Ir W B1 (.slice (some ⟨B1, 0, none⟩) (ln + 40) (ln + 40)) (ln + 40) (xF f ln k)) ∧ Hid (Kp (fun b => b = B1) w23 W)) (fun t _ => ln - (RowKit.intOf t).toNat)
          case atStart => exact ⟨0, rfl, Nat.zero_le _, HI23, HK23⟩
          case round =>
            obtain ⟨k, rfl, hk, ho, hkp⟩ := hrel
            by_cases hkl : k < ln
            · have hki : (k : Int) < (ln : Int) := by omega
              obtain ⟨_, q1, _, q3⟩ := Ir.cells ho.out k (by omega)
              have hsx : ¬ 9223372036854775807 < (xF f ln k k).2.size + 1 := by
                rw [xF_here]
                unfold pf
                rw [if_pos hkl]
                have := (HOK4.out.sz k hkl).2
                dsimp only at this
                omega
              have HV : Hid (∀ u, Ir (wr.setCell ⟨B1, k * 2 + 1, none⟩ (.string u)) B1 (.slice (some ⟨B1, 0, none⟩) (ln + 40) (ln + 40)) (ln + 40) (up (xF f ln k) k ((xF f ln k k).1, u))) := (show ∀ u, _ from fun u => ho.out.value k (by omega) u)
              have HP : Hid (∀ u, Hid (Kp (fun b => b = B1) w23 (wr.setCell ⟨B1, k * 2 + 1, none⟩ u))) := (show ∀ u, _ from fun u => hkp.out.setCell (p := ⟨B1, k * 2 + 1, none⟩) rfl u)
              clear ho hkp
              go_wp2
              exact ⟨⟨k + 1, by go_num, by omega, (show Ir _ _ _ _ _ from (HV.out _).congr (fun i hi => xF_up f ln k i)), HP.out _⟩, by simp [RowKit.intOf]; omega⟩
            · have hki : ¬ (k : Int) < (ln : Int) := by omega
              obtain rfl : ln = k := by omega
              obtain ⟨w24, hw24⟩ : ∃ w24, w24 = wr := ⟨_, rfl⟩
              rw [← hw24] at ho hkp ⊢
              clear hw24 hk hkl
              have z := Z23.out
              have z2 := G23.out.size
              have HX24 : Hid (∀ W, Below w24.heap.size w24 W → W.cell? ⟨BX, 1, none⟩ = some (.string nm) ∧ W.cell? ⟨BX, 2, none⟩ = some (.string vl) ∧ W.cell? ⟨BX, 4, none⟩ = some (.bool wo)) := (show ∀ W, _ → _ from fun W b => by
                obtain ⟨_, h1, h2, _, h4⟩ := HX4.out w23 F23.out
                exact ⟨bcellK b (hkp.out.cell h1 (by show ¬ BX = B1; omega)), bcellK b (hkp.out.cell h2 (by show ¬ BX = B1; omega)), bcellK b (hkp.out.cell h4 (by show ¬ BX = B1; omega))⟩)
              have RA24 : Hid (w24.ownsRow w22.heap.size 25 2 (.slice va nW ca) nW (lcL Wl)) := (show World.ownsRow _ _ _ _ _ _ _ from hkp.out.row OA.out (fun g hg e => by have := (World.ownsRow.lt OA.out g hg).1; omega))
              have RC24 : Hid (w24.ownsRow w22.heap.size 25 2 (.slice vc nK cc3) nK (lcL Kl)) := (show World.ownsRow _ _ _ _ _ _ _ from hkp.out.row OC.out (fun g hg e => by have := (World.ownsRow.lt OC.out g hg).1; omega))
              have RW24 : Hid (Rg w24 w2.heap.size w3.heap.size (.slice aw nW cw) Wl) := (show Rg _ _ _ _ _ from (HRW.out.below F23.out).kp hkp.out (fun g h1 h2 e => by omega))
              have RK24 : Hid (Rg w24 w3.heap.size w4.heap.size (.slice ak nK ck) Kl) := (show Rg _ _ _ _ _ from (HRK.out.below F23.out).kp hkp.out (fun g h1 h2 e => by omega))
              have IN24 : Hid (Lm w24 (some ⟨B1, 0, none⟩) (xF f ln ln) ln) := (show Lm _ _ _ _ from lm_cut (Lm.of_row ho.out) (by omega))
              have NM24 : Hid (Smb w24.heap.size w24 (some ⟨g2, 0, none⟩) nf nn) := (show Smb _ _ _ _ _ from smb_kp (HNM.out.size F23.out) hkp.out (by have := HG2.out; omega))
              have SZ24 : Hid (∀ j, j < ln → (xF f ln ln j).1.size ≤ 140737488355328 ∧ (xF f ln ln j).2.size ≤ 140737488355328) := (show ∀ j, _ → _ from fun j hj => xF_size f ln j hj (by have := HOK4.out.sz j hj; dsimp only at this; omega))
              have hs1 : nm.size ≤ 140737488355328 := by have := HOK4.out.s1; dsimp only at this; omega
              have hs2 : vl.size ≤ 140737488355328 := by have := HOK4.out.s2; dsimp only at this; omega
              have HBw24 : Hid (Below w.heap.size w w24) := (show Below _ _ _ from (HBw4.out.trans (F23.out.mono HBw4.out.size)).trans (hkp.out.below (Nat.le_trans HBw4.out.size F23.out.size) (fun b hb e => by have := HZw.out; omega)))
              obtain ⟨Tl, hTl⟩ : ∃ Tl, Tl = wthL (xF f ln ln) nm vl ln := ⟨_, rfl⟩
              obtain ⟨nT, hnT⟩ : ∃ nT, nT = Tl.length := ⟨_, rfl⟩
              obtain ⟨Ul, hUl⟩ : ∃ Ul, Ul = keptL (xF f ln ln) (lf nf nn) wo ln := ⟨_, rfl⟩
              obtain ⟨nU, hnU⟩ : ∃ nU, nU = Ul.length := ⟨_, rfl⟩
              have HTN : Hid (nT ≤ 1073741824 ∧ nU ≤ 1073741824) := by
                have e1 := wth_len (xF f ln ln) nm vl ln
                have e2 := kept_len (xF f ln ln) (lf nf nn) wo ln
                rw [← hTl, ← hnT] at e1
                rw [← hUl, ← hnU] at e2
                exact ⟨by omega, by omega⟩
              have HnT : Hid (nT = Tl.length) := hnT
              have HnU : Hid (nU = Ul.length) := hnU
              have KA30 : ∀ W, Below w24.heap.size w24 W → Calls Try.prog 8 #[.slice (some ⟨B1, 0, none⟩) ln (ln + 40), .string nm, .string vl] W fun e w' => ∃ v, e = .returned v ∧ w'.ownsRow W.heap.size 25 2 v nT (lcL Tl) ∧ Below W.heap.size W w' := fun W b => by
                have := with_any (some ⟨B1, 0, none⟩) (xF f ln ln) ln (ln + 40) nm vl W (by omega) SZ24.out hs1 hs2 (IN24.out.below b)
                rw [← hTl, ← hnT] at this
                exact this
              have KA3 : Hid (∀ W, Below w24.heap.size w24 W → Calls Try.prog 8 #[.slice (some ⟨B1, 0, none⟩) ln (ln + 40), .string nm, .string vl] W fun e w' => ∃ (a : Option Addr) (c : Nat), e = .returned (.slice a nT c) ∧ Below w24.heap.size w24 w' ∧ Below W.heap.size W w' ∧ Hid (∀ W', Below w'.heap.size w' W' → W'.ownsRow w24.heap.size 25 2 (.slice a nT c) nT (lcL Tl))) := (show ∀ W, _ → _ from fun W b => by
                refine (KA30 W b).mono ?_
                rintro e w' ⟨v, rfl, o, b'⟩
                obtain ⟨a, c, rfl, _⟩ := row_sl o
                exact ⟨a, c, rfl, b.trans (b'.mono b.size), b', (show ∀ W', _ → _ from fun W' h => (Kp.of (M := fun _ => False) h).row (row_low o b.size) (fun _ _ => id))⟩)
              clear KA30
              have RA30 : ∀ W, Below w24.heap.size w24 W → Calls Try.prog 10 #[.slice (some ⟨B1, 0, none⟩) ln (ln + 40), .string nm, .string vl] W fun e w' => ∃ v, e = .returned v ∧ w'.ownsRow W.heap.size 25 2 v nT (lcL Tl) ∧ Below W.heap.size W w' := fun W b => by
                have := rwith_any (some ⟨B1, 0, none⟩) (xF f ln ln) ln (ln + 40) nm vl W (by omega) (IN24.out.below b)
                rw [with_eq, ← hTl, ← hnT] at this
                exact this
              have RA3 : Hid (∀ W, Below w24.heap.size w24 W → Calls Try.prog 10 #[.slice (some ⟨B1, 0, none⟩) ln (ln + 40), .string nm, .string vl] W fun e w' => ∃ (a : Option Addr) (c : Nat), e = .returned (.slice a nT c) ∧ Below w24.heap.size w24 w' ∧ Below W.heap.size W w' ∧ Hid (∀ W', Below w'.heap.size w' W' → W'.ownsRow w24.heap.size 25 2 (.slice a nT c) nT (lcL Tl))) := (show ∀ W, _ → _ from fun W b => by
                refine (RA30 W b).mono ?_
                rintro e w' ⟨v, rfl, o, b'⟩
                obtain ⟨a, c, rfl, _⟩ := row_sl o
                exact ⟨a, c, rfl, b.trans (b'.mono b.size), b', (show ∀ W', _ → _ from fun W' h => (Kp.of (M := fun _ => False) h).row (row_low o b.size) (fun _ _ => id))⟩)
              clear RA30
              have KC30 : ∀ W, Below w24.heap.size w24 W → Calls Try.prog 12 #[.slice (some ⟨B1, 0, none⟩) ln (ln + 40), .slice (some ⟨g2, 0, none⟩) nn c2, .bool wo] W fun e w' => ∃ v, e = .returned v ∧ w'.ownsRow W.heap.size 25 2 v nU (lcL Ul) ∧ Below W.heap.size W w' := fun W b => by
                have := keep_any (some ⟨B1, 0, none⟩) (some ⟨g2, 0, none⟩) (xF f ln ln) nf ln (ln + 40) nn c2 wo W (by omega) (by omega) SZ24.out (IN24.out.below b) (NM24.out.size b)
                rw [← hUl, ← hnU] at this
                exact this
              have KC3 : Hid (∀ W, Below w24.heap.size w24 W → Calls Try.prog 12 #[.slice (some ⟨B1, 0, none⟩) ln (ln + 40), .slice (some ⟨g2, 0, none⟩) nn c2, .bool wo] W fun e w' => ∃ (a : Option Addr) (c : Nat), e = .returned (.slice a nU c) ∧ Below w24.heap.size w24 w' ∧ Below W.heap.size W w' ∧ Hid (∀ W', Below w'.heap.size w' W' → W'.ownsRow w24.heap.size 25 2 (.slice a nU c) nU (lcL Ul))) := (show ∀ W, _ → _ from fun W b => by
                refine (KC30 W b).mono ?_
                rintro e w' ⟨v, rfl, o, b'⟩
                obtain ⟨a, c, rfl, _⟩ := row_sl o
                exact ⟨a, c, rfl, b.trans (b'.mono b.size), b', (show ∀ W', _ → _ from fun W' h => (Kp.of (M := fun _ => False) h).row (row_low o b.size) (fun _ _ => id))⟩)
              clear KC30
              have RC30 : ∀ W, Below w24.heap.size w24 W → Calls Try.prog 11 #[.slice (some ⟨B1, 0, none⟩) ln (ln + 40), .slice (some ⟨g2, 0, none⟩) nn c2, .bool wo] W fun e w' => ∃ v, e = .returned v ∧ w'.ownsRow W.heap.size 25 2 v nU (lcL Ul) ∧ Below W.heap.size W w' := fun W b => by
                have := rkeep_any (some ⟨B1, 0, none⟩) (some ⟨g2, 0, none⟩) (xF f ln ln) nf ln (ln + 40) nn c2 wo W (by omega) (by omega) (IN24.out.below b) (NM24.out.size b)
                rw [← hUl, ← hnU] at this
                exact this
              have RC3 : Hid (∀ W, Below w24.heap.size w24 W → Calls Try.prog 11 #[.slice (some ⟨B1, 0, none⟩) ln (ln + 40), .slice (some ⟨g2, 0, none⟩) nn c2, .bool wo] W fun e w' => ∃ (a : Option Addr) (c : Nat), e = .returned (.slice a nU c) ∧ Below w24.heap.size w24 w' ∧ Below W.heap.size W w' ∧ Hid (∀ W', Below w'.heap.size w' W' → W'.ownsRow w24.heap.size 25 2 (.slice a nU c) nU (lcL Ul))) := (show ∀ W, _ → _ from fun W b => by
                refine (RC30 W b).mono ?_
                rintro e w' ⟨v, rfl, o, b'⟩
                obtain ⟨a, c, rfl, _⟩ := row_sl o
                exact ⟨a, c, rfl, b.trans (b'.mono b.size), b', (show ∀ W', _ → _ from fun W' h => (Kp.of (M := fun _ => False) h).row (row_low o b.size) (fun _ _ => id))⟩)
              clear RC30
              have SD : Hid (∀ (W : World) (a1 a2 : Option Addr) (c1 c2 m S1 S2 : Nat) (ks : List Lb), m = ks.length → m ≤ 1073741824 → Below w24.heap.size w24 W → W.ownsRow S1 25 2 (.slice a1 m c1) m (lcL ks) → W.ownsRow S2 25 2 (.slice a2 m c2) m (lcL ks) → Calls Try.prog 7 #[.slice a1 m c1, .slice a2 m c2] W fun r w' => r = .returned (.bool true) ∧ Below w24.heap.size w24 w' ∧ Below W.heap.size W w') := (show ∀ (W : World) (a1 a2 : Option Addr) (c1 c2 m S1 S2 : Nat) (ks : List Lb), _ from fun W a1 a2 c1 c2 m S1 S2 ks hm hm2 b o1 o2 => by
                have l1 : Lm W a1 (gL ks) m := Lm.of_row (by rw [lcL_lc, ← hm] at o1; exact o1)
                have l2 : Lm W a2 (gL ks) m := Lm.of_row (by rw [lcL_lc, ← hm] at o2; exact o2)
                exact (same_true a1 a2 c1 c2 m (gL ks) W l1 l2 (by omega)).mono fun r w' q => ⟨q.1, b.trans (q.2.mono b.size), q.2⟩)
              have SW : Hid (∀ W, Below w24.heap.size w24 W → Calls Try.prog 7 #[.slice va nW ca, .slice aw nW cw] W fun r w' => r = .returned (.bool true) ∧ Below w24.heap.size w24 w' ∧ Below W.heap.size W w') := (show ∀ W, _ → _ from fun W b => SD.out W va aw ca cw nW _ _ Wl HnW.out (by have := HLN.out; omega) b ((Kp.of (M := fun _ => False) b).row RA24.out (fun _ _ => id)) (by have := (RW24.out.below b).row; rw [← HnW.out] at this; exact this))
              have SK : Hid (∀ W, Below w24.heap.size w24 W → Calls Try.prog 7 #[.slice vc nK cc3, .slice ak nK ck] W fun r w' => r = .returned (.bool true) ∧ Below w24.heap.size w24 w' ∧ Below W.heap.size W w') := (show ∀ W, _ → _ from fun W b => SD.out W vc ak cc3 ck nK _ _ Kl HnK.out (by have := HLN.out; omega) b ((Kp.of (M := fun _ => False) b).row RC24.out (fun _ _ => id)) (by have := (RK24.out.below b).row; rw [← HnK.out] at this; exact this))
              obtain ⟨x1, x2, x4⟩ := HX24.out w24 (Below.refl _ _)
              have hT2 : nT ≤ 1073741824 := HTN.out.1
              have hU2 : nU ≤ 1073741824 := HTN.out.2
              have HT2 : Hid (nT ≤ 1073741824) := hT2
              have HU2 : Hid (nU ≤ 1073741824) := hU2
              clear hTl hnT hUl hnU hs1 hs2 z z2 ho hkp hT2 hU2 HTN
              go_upto_region 36 with fail
              go_region_held3 (fun w' => w'.cell? ⟨BX, 1, none⟩ = some (.string nm) ∧ w'.cell? ⟨BX, 2, none⟩ = some (.string vl) ∧ w'.cell? ⟨BX, 4, none⟩ = some (.bool wo)) (first | exact ⟨x1, x2, x4⟩ | exact HX24.out _ (by repeat (first | exact Below.refl _ _ | assumption | refine Below.drew ?_))) (first | (go_at_call 8; go_fit (KA3.out _ (by repeat (first | exact Below.refl _ _ | assumption | refine Below.drew ?_))); rintro e wA ⟨aA, cA, rfl, bA, bA2, oA⟩) | (go_at_call 10; go_fit (RA3.out _ (by repeat (first | exact Below.refl _ _ | assumption | refine Below.drew ?_))); rintro e wB ⟨aB, cB, rfl, bB, bB2, oB⟩) | (go_at_call 12; go_fit (KC3.out _ (by repeat (first | exact Below.refl _ _ | assumption | refine Below.drew ?_))); rintro e wC ⟨aC, cC, rfl, bC, bC2, oC⟩) | (go_at_call 11; go_fit (RC3.out _ (by repeat (first | exact Below.refl _ _ | assumption | refine Below.drew ?_))); rintro e wD ⟨aD, cD, rfl, bD, bD2, oD⟩) | (go_at_call 7; go_fit (SW.out _ (by repeat (first | exact Below.refl _ _ | assumption | refine Below.drew ?_))); rintro e wE ⟨rfl, bE, bE2⟩) | (go_at_call 7; go_fit (SK.out _ (by repeat (first | exact Below.refl _ _ | assumption | refine Below.drew ?_))); rintro e wF ⟨rfl, bF, bF2⟩) | (go_at_call 7; go_fit (SD.out _ aA aB cA cB nT _ _ Tl HnT.out HT2.out (by repeat (first | exact Below.refl _ _ | assumption | refine Below.drew ?_)) (oA.out _ (by repeat (first | exact Below.refl _ _ | assumption | refine Below.drew ?_))) (oB.out _ (by repeat (first | exact Below.refl _ _ | assumption | refine Below.drew ?_)))); rintro e wG ⟨rfl, bG, bG2⟩) | (go_at_call 7; go_fit (SD.out _ aC aD cC cD nU _ _ Ul HnU.out HU2.out (by repeat (first | exact Below.refl _ _ | assumption | refine Below.drew ?_)) (oC.out _ (by repeat (first | exact Below.refl _ _ | assumption | refine Below.drew ?_))) (oD.out _ (by repeat (first | exact Below.refl _ _ | assumption | refine Below.drew ?_)))); rintro e wH ⟨rfl, bH, bH2⟩))
              all_goals
                go_wp2
                exact ⟨⟨i + 1, by go_num, by omega, (show Below _ _ _ from HBw24.out.trans (Below.mono (by repeat (first | exact Below.refl _ _ | assumption | refine Below.drew ?_)) HBw24.out.size))⟩, by simp [RowKit.intOf]; omega⟩
    · have hii : ¬ (i : Int) < (n : Int) := by omega
      go_wp2
      go_ret
      exact ⟨rfl, hb.out⟩
end Go.Proofs.Ytjmninjaoemhjaa
