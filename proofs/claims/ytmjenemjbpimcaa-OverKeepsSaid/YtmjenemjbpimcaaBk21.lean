/- A bundle of texts. -/
import Derived.Test.YtmjenemjbpimcaaBk20
import Derived.Test.YtmjenemjbpimcaaBk10
import Derived.Test.YtmjenemjbpimcaaBk13
/- Over: the functions of the table that take numbers. -/
namespace Go.Proofs.Ytmjenemjbpimcaa
open Go.RowKit

theorem fm_at {w W : World} {aa : Option Addr} {args : List Nat} (h : Fm w aa args) (j : Nat) (hj : j < args.length) (b : Below w.heap.size w W) : ∃ g o, aa = some ⟨g, o, none⟩ ∧ W.cell? ⟨g, o + j, none⟩ = some (.float .f64 (args.getD j 0)) := by
  rcases h with rfl | ⟨g, o, rfl, hg, hat⟩
  · simp at hj
  · exact ⟨g, o, rfl, bcell b (hat j hj) hg⟩
set_option maxHeartbeats 4000000 in
set_option maxRecDepth 100000 in
theorem predict_fn (a : Option Addr) (n c : Nat) (F T N : Int) (ss : Nat → Smp) (aa : Option Addr) (ca : Nat) (args : List Nat) (w : World) (h : HypW a n ss w) (hc : n ≤ c) (hA : Fm w aa args) (hl : args.length = 1) :
    Calls Try.prog 62 #[Wn a n c F T N, .slice aa args.length ca] w (RB w (fb .add (liV (fun j => df (ss j).t N) (fun j => (ss j).v) n (lvB ss n)) (fb .mul (liS (fun j => df (ss j).t N) (fun j => (ss j).v) n (lvB ss n)) (cl (args.getD 0 0))))) := by
  have HB : Hid (Below w.heap.size w (w.alloc (wnX a n c F T N))) := (Below.refl _ w).alloc (Nat.le_refl _) _
  obtain ⟨ga, oa, rfl, hx⟩ := fm_at hA 0 (by omega) HB.out
  rw [Nat.add_zero] at hx
  obtain ⟨x0, x1, x2, x3⟩ := wnC_new a n c F T N w _ (Below.refl _ _)
  have k1 := predicts_any a n c F T N ss (args.getD 0 0) (w.alloc (wnX a n c F T N)).drew (h.below HB.out.drew) hc
  generalize (fb .add (liV (fun j => df (ss j).t N) (fun j => (ss j).v) n (lvB ss n)) (fb .mul (liS (fun j => df (ss j).t N) (fun j => (ss j).v) n (lvB ss n)) (cl (args.getD 0 0)))) = R at *
  generalize args.getD 0 0 = x at *
  rw [hl]
  clear h hc hA hl
  go_enter Try.func62, Try.ntmps62
  go_wp2_with fail
  refine region_tail 4 (by kernel_rfl) (by kernel_rfl) ?_
  simp only [List.take_succ_cons, List.take_zero, List.drop_succ_cons, List.drop_zero]
  repeat (go_big_quiet_step (fail))
  refine wpQuiet_nil ?_
  clear x0 x1 x2 x3 hx
  go_wp2_with fail
  go_fit k1
  rintro e w2 ⟨z, rfl, b2, hl, hz⟩
  have B2 : Hid (Below w.heap.size w w2) := HB.out.drew.trans (b2.mono HB.out.drew.size)
  have HZ : Hid (cl z = R) := hz
  clear b2 hz k1
  go_wp2
  go_ret
  exact ⟨z, rfl, B2.out, hl, HZ.out⟩
set_option maxHeartbeats 4000000 in
set_option maxRecDepth 100000 in
theorem beat_fn (a : Option Addr) (n c : Nat) (F T N : Int) (ss : Nat → Smp) (aa : Option Addr) (ca : Nat) (args : List Nat) (w : World) (h : HypW a n ss w) (hA : Fm w aa args) (hl : args.length = 1) :
    Calls Try.prog 66 #[Wn a n c F T N, .slice aa args.length ca] w (RB w (btF ss n (cl (args.getD 0 0)))) := by
  have HB : Hid (Below w.heap.size w (w.alloc (wnX a n c F T N))) := (Below.refl _ w).alloc (Nat.le_refl _) _
  obtain ⟨ga, oa, rfl, hx⟩ := fm_at hA 0 (by omega) HB.out
  rw [Nat.add_zero] at hx
  obtain ⟨x0, x1, x2, x3⟩ := wnC_new a n c F T N w _ (Below.refl _ _)
  have k1 := beats_any a n c ss (args.getD 0 0) (w.alloc (wnX a n c F T N)).drew (h.below HB.out.drew)
  generalize btF ss n (cl (args.getD 0 0)) = R at *
  generalize args.getD 0 0 = x at *
  rw [hl]
  clear h hA hl
  go_enter Try.func66, Try.ntmps66
  go_wp2_with fail
  refine region_tail 5 (by kernel_rfl) (by kernel_rfl) ?_
  simp only [List.take_succ_cons, List.take_zero, List.drop_succ_cons, List.drop_zero]
  repeat (go_big_quiet_step (fail))
  refine wpQuiet_nil ?_
  clear x0 x1 x2 x3 hx
  go_wp2_with fail
  go_fit k1
  rintro e w2 ⟨z, rfl, b2, hl, hz⟩
  have B2 : Hid (Below w.heap.size w w2) := HB.out.drew.trans (b2.mono HB.out.drew.size)
  have HZ : Hid (cl z = R) := hz
  clear b2 hz k1
  go_wp2
  go_ret
  exact ⟨z, rfl, B2.out, hl, HZ.out⟩
set_option maxHeartbeats 4000000 in
set_option maxRecDepth 100000 in
theorem quantile_fn (a : Option Addr) (n c : Nat) (F T N : Int) (ss : Nat → Smp) (aa : Option Addr) (ca : Nat) (args : List Nat) (C : Option Nat) (w : World) (h : HypW a n ss w) (hA : Fm w aa args) (hl : args.length = 1)
    (hq : ∀ xs, Wd xs → cs xs = cs (vls ss n) → ∀ W a c, Fm W a xs → Calls Try.prog 48 #[.float .f64 (args.getD 0 0), .slice a xs.length c] W (RB W C)) :
    Calls Try.prog 47 #[Wn a n c F T N, .slice aa args.length ca] w (RB w C) := by
  have HB : Hid (Below w.heap.size w (w.alloc (wnX a n c F T N))) := (Below.refl _ w).alloc (Nat.le_refl _) _
  obtain ⟨ga, oa, rfl, hx⟩ := fm_at hA 0 (by omega) HB.out
  rw [Nat.add_zero] at hx
  obtain ⟨x0, x1, x2, x3⟩ := wnC_new a n c F T N w _ (Below.refl _ _)
  have HX : Hid (∀ W, Below w.heap.size w W → W.cell? ⟨ga, oa, none⟩ = some (.float .f64 (args.getD 0 0))) := (show ∀ W, _ → _ from fun W b => by
    obtain ⟨g1, o1, e1, h1⟩ := fm_at hA 0 (by omega) b
    cases e1
    exact h1)
  have k1 : Hid (∀ W, Below w.heap.size w W → Calls Try.prog 36 #[.slice a n c] W fun r w' => ∃ v, r = .returned v ∧ Fr w' W.heap.size v (vls ss n) ∧ Below W.heap.size W w') := (show ∀ W, _ → _ from fun W b => values_any a n c ss W (h.below b).1 (by have := h.2.2; omega))
  have HS : Hid (∀ W v S, Fr W S v (vls ss n) → Calls Try.prog 48 #[.float .f64 (args.getD 0 0), v] W (RB W C)) := (show ∀ W v S, _ → _ from fun W v S hf => by
    obtain ⟨a', c', rfl, hm⟩ := hf.fm
    exact hq (vls ss n) (vls_wd h.2.1) rfl W a' c' hm)
  generalize args.getD 0 0 = x at *
  rw [hl]
  clear h hA hl hx hq
  go_enter Try.func47, Try.ntmps47
  go_upto_region 1 with fail
  obtain ⟨W0, hW0⟩ : ∃ W0, W0 = w.alloc (wnX a n c F T N) := ⟨_, rfl⟩
  obtain ⟨BX, hBX⟩ : ∃ BX, BX = w.heap.size := ⟨_, rfl⟩
  have hBW : BX < W0.heap.size := by rw [hBX, hW0]; simp
  rw [← hW0] at HB x0 x1 x2 x3
  rw [← hBX] at x0 x1 x2 x3
  dsimp only [wnX] at hW0
  rw [← hW0, ← hBX]
  clear hW0 hBX
  have HK : Hid (∀ W, Below W0.heap.size W0 W → (W.cell? ⟨BX, 0, none⟩ = some (.slice a n c) ∧ W.cell? ⟨ga, oa, none⟩ = some (.float .f64 x)) ∧ Below W0.heap.size W0 W) := (show ∀ W, _ → _ from fun W b => ⟨⟨bcell b x0 hBW, HX.out W (HB.out.trans (b.mono HB.out.size))⟩, b⟩)
  have K1 : Hid (∀ W, Below W0.heap.size W0 W → Calls Try.prog 36 #[.slice a n c] W fun r w' => ∃ v, r = .returned v ∧ Fr w' W.heap.size v (vls ss n) ∧ Below W.heap.size W w') := (show ∀ W, _ → _ from fun W b => k1.out W (HB.out.trans (b.mono HB.out.size)))
  have bd : Below W0.heap.size W0 W0.drew := (Below.refl _ _).drew
  obtain ⟨⟨y0, y1⟩, _⟩ := HK.out W0 (Below.refl _ _)
  clear k1 x0 x1 x2 x3 hBW HX
  go_region_held3 (fun w2 => (w2.cell? ⟨BX, 0, none⟩ = some (.slice a n c) ∧ w2.cell? ⟨ga, oa, none⟩ = some (.float .f64 x)) ∧ Below W0.heap.size W0 w2) (first | exact HK.out _ (by assumption) | exact HK.out _ (Below.drew (by assumption))) (first | (go_at_call 36; go_fit (K1.out _ (by assumption)); rintro e w1 ⟨v, rfl, hfv, b1⟩; have bb : Below W0.heap.size W0 w1 := bd.trans (b1.mono bd.size)) | (go_at_call 48; go_fit (HS.out _ _ _ (by assumption)); rintro e w3 ⟨z, rfl, b3, hzl, hz⟩; have bc : Below W0.heap.size W0 w3 := bb.trans (b3.mono bb.size)))
  rename_i hh
  have B2 : Hid (Below w.heap.size w w3) := HB.out.trans (bc.mono HB.out.size)
  have HZ : Hid (cl z = C) := hz
  clear hh bc b3 hz bb b1 hfv y0 y1
  go_wp2
  go_ret
  exact ⟨z, rfl, B2.out, hzl, HZ.out⟩
set_option maxHeartbeats 4000000 in
set_option maxRecDepth 100000 in
theorem mad_fn (a : Option Addr) (n c : Nat) (F T N : Int) (ss : Nat → Smp) (av : Value) (C1 C2 : Option Nat) (w : World) (h : HypW a n ss w) (hn : 1 ≤ n)
    (h1 : ∀ ys, Wd ys → cs ys = cs (vls ss n) → ∀ W a c, Fm W a ys → Calls Try.prog 48 #[.float .f64 4602678819172646912, .slice a ys.length c] W (RB W C1))
    (h2 : ∀ ys, Wd ys → cs ys = (List.range (vls ss n).length).map (dsF (vls ss n) C1) → ∀ W a c, Fm W a ys → Calls Try.prog 48 #[.float .f64 4602678819172646912, .slice a ys.length c] W (RB W C2)) :
    Calls Try.prog 49 #[Wn a n c F T N, av] w (RB w C2) := by
  have HB : Hid (Below w.heap.size w (w.alloc (wnX a n c F T N))) := (Below.refl _ w).alloc (Nat.le_refl _) _
  have k1 := values_any a n c ss (w.alloc (wnX a n c F T N)) (h.below HB.out).1 (by have := h.2.2; omega)
  have HS : Hid (∀ W v, Fr W (w.alloc (wnX a n c F T N)).heap.size v (vls ss n) → Calls Try.prog 50 #[v] W (RG w.heap.size W C2)) := (show ∀ W v, _ → _ from fun W v hf => by
    exact mad_any w.heap.size _ v (vls ss n) C1 C2 W HB.out.size hf (vls_wd h.2.1) (by rw [vls_len]; omega) (by rw [vls_len]; have := h.2.2; omega) h1 h2)
  clear h h1 h2 hn
  go_enter Try.func49, Try.ntmps49
  go_wp2_with fail
  go_fit k1
  rintro e w1 ⟨v, rfl, hf, b1⟩
  have k2 := HS.out w1 v hf
  have B1 : Hid (Below w.heap.size w w1) := HB.out.trans (b1.mono HB.out.size)
  clear hf b1 k1 HS HB
  go_wp2_with fail
  go_fit k2
  rintro e w2 ⟨z, rfl, b2, hl, hz⟩
  have B2 : Hid (Below w.heap.size w w2) := B1.out.trans b2
  have HZ : Hid (cl z = C2) := hz
  clear b2 hz k2
  go_wp2
  go_ret
  exact ⟨z, rfl, B2.out, hl, HZ.out⟩
set_option maxHeartbeats 4000000 in
set_option maxRecDepth 100000 in
theorem smooth_fn (a : Option Addr) (n c : Nat) (F T N : Int) (ss : Nat → Smp) (aa : Option Addr) (ca : Nat) (args : List Nat) (w : World) (h : HypW a n ss w) (hA : Fm w aa args) (hl : args.length = 2) :
    Calls Try.prog 64 #[Wn a n c F T N, .slice aa args.length ca] w (RB w (smoF (cl (args.getD 0 0)) (cl (args.getD 1 0)) (vls ss n))) := by
  have HB : Hid (Below w.heap.size w (w.alloc (wnX a n c F T N))) := (Below.refl _ w).alloc (Nat.le_refl _) _
  obtain ⟨ga, oa, rfl, hx⟩ := fm_at hA 0 (by omega) HB.out
  rw [Nat.add_zero] at hx
  have HX : Hid (∀ W, Below w.heap.size w W → W.cell? ⟨ga, oa, none⟩ = some (.float .f64 (args.getD 0 0)) ∧ W.cell? ⟨ga, oa + 1, none⟩ = some (.float .f64 (args.getD 1 0))) := (show ∀ W, _ → _ from fun W b => by
    obtain ⟨g1, o1, e1, h1⟩ := fm_at hA 0 (by omega) b
    obtain ⟨g2, o2, e2, h2⟩ := fm_at hA 1 (by omega) b
    cases e1
    cases e2
    exact ⟨h1, h2⟩)
  obtain ⟨x0, x1, x2, x3⟩ := wnC_new a n c F T N w _ (Below.refl _ _)
  have k1 : Hid (∀ W, Below w.heap.size w W → Calls Try.prog 36 #[.slice a n c] W fun r w' => ∃ v, r = .returned v ∧ Fr w' W.heap.size v (vls ss n) ∧ Below W.heap.size W w') := (show ∀ W, _ → _ from fun W b => values_any a n c ss W (h.below b).1 (by have := h.2.2; omega))
  have HS : Hid (∀ W v S, Fr W S v (vls ss n) → Calls Try.prog 65 #[v, .float .f64 (args.getD 0 0), .float .f64 (args.getD 1 0)] W (RB W (smoF (cl (args.getD 0 0)) (cl (args.getD 1 0)) (vls ss n)))) := (show ∀ W v S, _ → _ from fun W v S hf => by
    obtain ⟨a', c', rfl, hm⟩ := hf.fm
    exact (smooth_any a' c' (vls ss n) _ _ W hm (vls_wd h.2.1) (by rw [vls_len]; have := h.2.2; omega)).mono (fun r w' x => x.rb))
  generalize smoF (cl (args.getD 0 0)) (cl (args.getD 1 0)) (vls ss n) = R at *
  generalize args.getD 0 0 = x at *
  generalize args.getD 1 0 = y at *
  rw [hl]
  clear h hA hl hx
  go_enter Try.func64, Try.ntmps64
  go_upto_region 1 with fail
  obtain ⟨W0, hW0⟩ : ∃ W0, W0 = w.alloc (wnX a n c F T N) := ⟨_, rfl⟩
  obtain ⟨BX, hBX⟩ : ∃ BX, BX = w.heap.size := ⟨_, rfl⟩
  have hBW : BX < W0.heap.size := by rw [hBX, hW0]; simp
  rw [← hW0] at HB x0 x1 x2 x3
  rw [← hBX] at x0 x1 x2 x3
  dsimp only [wnX] at hW0
  rw [← hW0, ← hBX]
  clear hW0 hBX
  have HK : Hid (∀ W, Below W0.heap.size W0 W → (W.cell? ⟨BX, 0, none⟩ = some (.slice a n c) ∧ W.cell? ⟨ga, oa, none⟩ = some (.float .f64 x) ∧ W.cell? ⟨ga, oa + 1, none⟩ = some (.float .f64 y)) ∧ Below W0.heap.size W0 W) := (show ∀ W, _ → _ from fun W b => ⟨⟨bcell b x0 hBW, HX.out W (HB.out.trans (b.mono HB.out.size))⟩, b⟩)
  have K1 : Hid (∀ W, Below W0.heap.size W0 W → Calls Try.prog 36 #[.slice a n c] W fun r w' => ∃ v, r = .returned v ∧ Fr w' W.heap.size v (vls ss n) ∧ Below W.heap.size W w') := (show ∀ W, _ → _ from fun W b => k1.out W (HB.out.trans (b.mono HB.out.size)))
  have bd : Below W0.heap.size W0 W0.drew := (Below.refl _ _).drew
  obtain ⟨⟨y0, y1, y2⟩, _⟩ := HK.out W0 (Below.refl _ _)
  clear k1 x0 x1 x2 x3 hBW HX
  go_region_held3 (fun w2 => (w2.cell? ⟨BX, 0, none⟩ = some (.slice a n c) ∧ w2.cell? ⟨ga, oa, none⟩ = some (.float .f64 x) ∧ w2.cell? ⟨ga, oa + 1, none⟩ = some (.float .f64 y)) ∧ Below W0.heap.size W0 w2) (first | exact HK.out _ (by assumption) | exact HK.out _ (Below.drew (by assumption))) (first | (go_at_call 36; go_fit (K1.out _ (by assumption)); rintro e w1 ⟨v, rfl, hfv, b1⟩; have bb : Below W0.heap.size W0 w1 := bd.trans (b1.mono bd.size)) | (go_at_call 65; go_fit (HS.out _ _ _ (by assumption)); rintro e w3 ⟨z, rfl, b3, hzl, hz⟩; have bc : Below W0.heap.size W0 w3 := bb.trans (b3.mono bb.size)))
  rename_i hh
  have B2 : Hid (Below w.heap.size w w3) := HB.out.trans (bc.mono HB.out.size)
  have HZ : Hid (cl z = R) := hz
  clear hh bc b3 hz bb b1 hfv y0 y1 y2
  go_wp2
  go_ret
  exact ⟨z, rfl, B2.out, hzl, HZ.out⟩
end Go.Proofs.Ytmjenemjbpimcaa
/- Over: what is fixed. -/
namespace Go.Proofs.Ytmjenemjbpimcaa
open Go.RowKit

abbrev S4 : Nat → Smp := fourS 4607182418800017408 4611686018427387904 4613937818241073152 4616189618054758400
abbrev S5 : Nat → Smp := fourS 4617315517961601024 4607182418800017408 4611686018427387904 4613937818241073152
theorem ex4a : exF S4 4 0 60000 true false = some 4616189618054758400 := by decide +kernel
theorem ex4b : exF S4 4 0 60000 false false = some 4616189618054758400 := by decide +kernel
theorem su4 : sumF (cs (vls S4 4)) = some 4621819117588971520 := by decide +kernel
theorem in5 : inF S5 4 false = some 4607182418800017408 := by decide +kernel
theorem kn_rate : Knw ⟨#[114, 97, 116, 101]⟩ := ⟨14, by decide, rfl⟩
theorem kn_Rate : ¬ Knw ⟨#[82, 97, 116, 101]⟩ := by
  have h : ∀ i, i < 23 → ¬ (⟨#[82, 97, 116, 101]⟩ : ByteArray) = (fnAt i).1 := by decide +kernel
  rintro ⟨i, hi, h2⟩
  exact h i hi h2
theorem rx_yes {w : World} {p : Prop} {c : Nat} {r : Ending} {w' : World} (hp : p) (h : RX w p (some c) r w') : r = .returned (.tuple #[.float .f64 c, .bool true]) ∧ Below w.heap.size w w' := by
  obtain ⟨z, b, rfl, hb, b1, _, h1, _⟩ := h
  obtain rfl := hb.2 hp
  obtain ⟨rfl, _⟩ := cl_some (h1 rfl)
  exact ⟨rfl, b1⟩
theorem rx_no {w : World} {p : Prop} {c : Option Nat} {r : Ending} {w' : World} (hp : ¬ p) (h : RX w p c r w') : r = .returned (.tuple #[.float .f64 0, .bool false]) ∧ Below w.heap.size w w' := by
  obtain ⟨z, b, rfl, hb, b1, _, _, h2⟩ := h
  cases b
  · rw [h2 rfl]
    exact ⟨rfl, b1⟩
  · exact absurd (hb.1 rfl) hp
theorem rp_yes {w : World} {p : Prop} {r : Ending} {w' : World} (hp : p) (h : RP w p r w') : r = .returned (.bool true) ∧ Below w.heap.size w w' := by
  obtain ⟨b, rfl, hb, b1⟩ := h
  obtain rfl := hb.2 hp
  exact ⟨rfl, b1⟩
theorem rp_no {w : World} {p : Prop} {r : Ending} {w' : World} (hp : ¬ p) (h : RP w p r w') : r = .returned (.bool false) ∧ Below w.heap.size w w' := by
  obtain ⟨b, rfl, hb, b1⟩ := h
  cases b
  · exact ⟨rfl, b1⟩
  · exact absurd (hb.1 rfl) hp
theorem at_up {w W : World} {g n : Nat} {ss : Nat → Smp} (h : SAt w g 0 ss n) (hg : g < w.heap.size) (b : Below w.heap.size w W) : SAt W g 0 ss n := fun j hj => ⟨bcell b (h j hj).1 hg, bcell b (h j hj).2.1 hg, bcell b (h j hj).2.2 hg⟩

set_option maxHeartbeats 8000000 in
set_option maxRecDepth 100000 in
theorem alive_any (w : World) : Calls Try.prog 8 #[] w fun r w' => r = .returned (.bool true) ∧ Below w.heap.size w w' := by
  have hb0 := Below.refl w.heap.size w
  have K4 : ∀ g W, g < W.heap.size → SAt W g 0 S4 4 → HypW (some ⟨g, 0, none⟩) 4 S4 W := fun g W hg h => ⟨.inr ⟨g, 0, rfl, hg, h⟩, four_sw _ _ _ _ (by decide) (by decide) (by decide) (by decide), by decide⟩
  have K5 : ∀ g W, g < W.heap.size → SAt W g 0 S5 4 → HypW (some ⟨g, 0, none⟩) 4 S5 W := fun g W hg h => ⟨.inr ⟨g, 0, rfl, hg, h⟩, four_sw _ _ _ _ (by decide) (by decide) (by decide) (by decide), by decide⟩
  have kInc : Hid (∀ g W, g < W.heap.size → SAt W g 0 S4 4 → Calls Try.prog 10 #[.string ⟨#[105, 110, 99, 114, 101, 97, 115, 101]⟩, Wn (some ⟨g, 0, none⟩) 4 4 0 60000 60000, .slice none 0 0] W fun r w' => r = .returned (.tuple #[.float .f64 4616189618054758400, .bool true]) ∧ Below W.heap.size W w') := (show ∀ g W, _ → _ → _ from fun g W hg h => by
    refine (call_at 15 (by decide) _ rfl (some ⟨g, 0, none⟩) 4 4 0 60000 60000 S4 none 0 0 (exF S4 4 0 60000 true false) W (K4 g W hg h).1 (by decide) (by decide) (fun _ _ _ W' b => increase_fn _ _ _ _ _ _ _ _ _ ((K4 g W hg h).below b) (by decide))).mono fun r w' x => ?_
    rw [ex4a] at x
    exact rx_yes ⟨rfl, by decide, four_snd _ _ _ _⟩ x)
  have kSum : Hid (∀ g W, g < W.heap.size → SAt W g 0 S4 4 → Calls Try.prog 10 #[.string ⟨#[115, 117, 109, 95, 111, 118, 101, 114, 95, 116, 105, 109, 101]⟩, Wn (some ⟨g, 0, none⟩) 4 4 0 60000 60000, .slice none 0 0] W fun r w' => r = .returned (.tuple #[.float .f64 4621819117588971520, .bool true]) ∧ Below W.heap.size W w') := (show ∀ g W, _ → _ → _ from fun g W hg h => by
    refine (call_at 4 (by decide) _ rfl (some ⟨g, 0, none⟩) 4 4 0 60000 60000 S4 none 0 0 (sumF (cs (vls S4 4))) W (K4 g W hg h).1 (by decide) (by decide) (fun _ _ _ W' b => sum_fn _ _ _ _ _ _ _ _ _ ((K4 g W hg h).below b))).mono fun r w' x => ?_
    rw [su4] at x
    exact rx_yes ⟨rfl, by decide, four_snd _ _ _ _⟩ x)
  have kEx : Hid (∀ g W, g < W.heap.size → SAt W g 0 S4 4 → Calls Try.prog 14 #[Wn (some ⟨g, 0, none⟩) 4 4 0 60000 60000, .bool false, .bool false] W fun r w' => r = .returned (.tuple #[.float .f64 4616189618054758400, .bool true]) ∧ Below W.heap.size W w') := (show ∀ g W, _ → _ → _ from fun g W hg h => by
    refine (extrapolate_any (some ⟨g, 0, none⟩) 4 4 0 60000 60000 S4 false false W (K4 g W hg h).1 (K4 g W hg h).2.1 (by decide)).mono fun r w' x => ?_
    rw [ex4b] at x
    exact rx_yes ⟨by decide, four_snd _ _ _ _⟩ x)
  have kIn : Hid (∀ g W, g < W.heap.size → SAt W g 0 S5 4 → Calls Try.prog 18 #[Wn (some ⟨g, 0, none⟩) 4 4 0 60000 60000, .bool false] W fun r w' => r = .returned (.tuple #[.float .f64 4607182418800017408, .bool true]) ∧ Below W.heap.size W w') := (show ∀ g W, _ → _ → _ from fun g W hg h => by
    refine (instants_any (some ⟨g, 0, none⟩) 4 4 0 60000 60000 S5 false W (K5 g W hg h).1 (K5 g W hg h).2.1 (by decide)).mono fun r w' x => ?_
    rw [in5] at x
    exact rx_yes ⟨by decide, four_snd _ _ _ _⟩ x)
  have kRate : Hid (∀ W, Calls Try.prog 10 #[.string ⟨#[114, 97, 116, 101]⟩, Wn none 0 0 0 5 0, .slice none 0 0] W fun r w' => r = .returned (.tuple #[.float .f64 0, .bool false]) ∧ Below W.heap.size W w') := (show ∀ W, _ from fun W => by
    have hno : ¬ ((fnAt 14).2.2.1 ≤ 0) := by decide
    refine (call_at 14 (by decide) _ rfl none 0 0 0 5 0 S4 none 0 0 none W (.inl rfl) (by decide) (by decide) (fun _ h => absurd h hno)).mono fun r w' x => ?_
    exact rx_no (fun h => hno h.2.1) x)
  have kK1 : Hid (∀ W, Calls Try.prog 12 #[.string ⟨#[114, 97, 116, 101]⟩] W fun r w' => r = .returned (.bool true) ∧ Below W.heap.size W w') := (show ∀ W, _ from fun W => (known_any _ W).mono fun r w' x => rp_yes kn_rate x)
  have kK2 : Hid (∀ W, Calls Try.prog 12 #[.string ⟨#[82, 97, 116, 101]⟩] W fun r w' => r = .returned (.bool false) ∧ Below W.heap.size W w') := (show ∀ W, _ from fun W => (known_any _ W).mono fun r w' x => rp_no kn_Rate x)
  clear K4 K5
  go_enter Try.func8, Try.ntmps8
  go_wp2_with fail
  go_fit (four_any _ _ _ _ _)
  rintro e w1 ⟨b1, g, rfl, hg, h4⟩
  have bA := b1.alloc b1.size (wnX (some ⟨g, 0, none⟩) 4 4 0 60000 60000)
  have e1 : (w1.alloc (wnX (some ⟨g, 0, none⟩) 4 4 0 60000 60000)).heap[w1.heap.size]? = some (wnX (some ⟨g, 0, none⟩) 4 4 0 60000 60000) := heap_alloc_new w1 _
  have HC : Hid (∀ W, Below (w1.alloc (wnX (some ⟨g, 0, none⟩) 4 4 0 60000 60000)).heap.size (w1.alloc (wnX (some ⟨g, 0, none⟩) 4 4 0 60000 60000)) W → WnC (some ⟨g, 0, none⟩) 4 4 0 60000 60000 w1.heap.size W) := wnC_new _ _ _ _ _ _ w1
  have H4 : Hid (∀ W, Below (w1.alloc (wnX (some ⟨g, 0, none⟩) 4 4 0 60000 60000)).heap.size (w1.alloc (wnX (some ⟨g, 0, none⟩) 4 4 0 60000 60000)) W → g < W.heap.size ∧ SAt W g 0 S4 4) := (show ∀ W, _ → _ from fun W b => by
    have b2 : Below w1.heap.size w1 W := ((Below.refl _ w1).alloc (Nat.le_refl _) _).trans (b.mono (by simp))
    exact ⟨Nat.lt_of_lt_of_le hg b2.size, at_up h4 hg b2⟩)
  have BA : Hid (Below w.heap.size w (w1.alloc (wnX (some ⟨g, 0, none⟩) 4 4 0 60000 60000))) := bA
  clear e1 bA b1 h4 hg hb0
  have k2 := kInc.out g _ (H4.out _ (Below.refl _ _)).1 (H4.out _ (Below.refl _ _)).2
  go_wp2_with fail
  go_fit k2
  rintro e w2 ⟨rfl, b2⟩
  have B2 : Hid (Below (w1.alloc (wnX (some ⟨g, 0, none⟩) 4 4 0 60000 60000)).heap.size (w1.alloc (wnX (some ⟨g, 0, none⟩) 4 4 0 60000 60000)) w2) := b2
  obtain ⟨x0, x1, x2, x3⟩ := HC.out w2 b2
  have k3 := kSum.out g _ (H4.out _ b2).1 (H4.out _ b2).2
  clear k2 b2 kInc
  go_wp2_with fail
  go_fit k3
  rintro e w3 ⟨rfl, b3⟩
  have B3 : Hid (Below (w1.alloc (wnX (some ⟨g, 0, none⟩) 4 4 0 60000 60000)).heap.size (w1.alloc (wnX (some ⟨g, 0, none⟩) 4 4 0 60000 60000)) w3) := B2.out.trans (b3.mono B2.out.size)
  obtain ⟨y0, y1, y2, y3⟩ := HC.out w3 B3.out
  have k4 := kEx.out g _ (H4.out _ B3.out).1 (H4.out _ B3.out).2
  clear k3 b3 kSum B2 x0 x1 x2 x3
  go_wp2_with fail
  go_fit k4
  rintro e w4 ⟨rfl, b4⟩
  have B4 : Hid (Below w.heap.size w w4) := BA.out.trans ((B3.out.trans (b4.mono B3.out.size)).mono BA.out.size)
  clear k4 b4 kEx B3 y0 y1 y2 y3 HC H4 BA
  go_wp2_with fail
  go_fit (four_any _ _ _ _ _)
  rintro e w5 ⟨b5, g5, rfl, hg5, h5⟩
  have k6 := kIn.out g5 w5 hg5 h5
  have B5 : Hid (Below w.heap.size w w5) := B4.out.trans (b5.mono B4.out.size)
  clear b5 kIn B4 h5 hg5
  go_wp2_with fail
  go_fit k6
  rintro e w6 ⟨rfl, b6⟩
  have B6 : Hid (Below w.heap.size w w6) := B5.out.trans (b6.mono B5.out.size)
  have k7 := kRate.out w6
  clear k6 b6 B5 kRate
  go_wp2_with fail
  go_fit k7
  rintro e w7 ⟨rfl, b7⟩
  have B7 : Hid (Below w.heap.size w w7) := B6.out.trans (b7.mono B6.out.size)
  clear k7 b7 B6
  have k8 := kK1.out w7
  clear kK1
  go_wp2_with fail
  go_fit k8
  rintro e w8 ⟨rfl, b8⟩
  have B8 : Hid (Below w.heap.size w w8) := B7.out.trans (b8.mono B7.out.size)
  have k9 := kK2.out w8
  clear k8 b8 B7 kK2
  go_wp2_with fail
  go_fit k9
  rintro e w9 ⟨rfl, b9⟩
  have B9 : Hid (Below w.heap.size w w9) := B8.out.trans (b9.mono B8.out.size)
  clear k9 b9 B8
  go_wp2
  go_ret
  exact ⟨rfl, B9.out⟩
end Go.Proofs.Ytmjenemjbpimcaa
/- Over: every function of the table at once. -/
namespace Go.Proofs.Ytmjenemjbpimcaa
open Go.RowKit

/-- A function of the table answers by R, whatever the memory. -/
def Gen (k : Nat) (ss : Nat → Smp) (n : Nat) (args : List Nat) (R : Int → Int → Int → Option Nat) : Prop := ∀ (F T N : Int) (W : World) (a : Option Addr) (c : Nat) (aa : Option Addr) (ca : Nat), HypW a n ss W → n ≤ c → Fm W aa args → args.length = (fnAt k).2.1 → (fnAt k).2.2.1 ≤ n → Calls Try.prog (fnAt k).2.2.2 #[Wn a n c F T N, .slice aa args.length ca] W (RB W (R F T N))
/-- The functions that look at the window's ends. -/
def edgy (k : Nat) : Bool := k == 14 || k == 15 || k == 16 || k == 20
theorem fn_val (k : Nat) (hk : k < 23) (ss : Nat → Smp) (n : Nat) (args : List Nat) (hl : 24 * n ≤ 140737488355328) : ∃ R, Gen k ss n args R ∧ (edgy k = false → ∀ F T N F' T' N', R F T N = R F' T' N') := by
  have hlen : (cs (vls ss n)).length * 8 ≤ 140737488355328 := by rw [cs_len, vls_len]; omega
  rcases (show k = 0 ∨ k = 1 ∨ k = 2 ∨ k = 3 ∨ k = 4 ∨ k = 5 ∨ k = 6 ∨ k = 7 ∨ k = 8 ∨ k = 9 ∨ k = 10 ∨ k = 11 ∨ k = 12 ∨ k = 13 ∨ k = 14 ∨ k = 15 ∨ k = 16 ∨ k = 17 ∨ k = 18 ∨ k = 19 ∨ k = 20 ∨ k = 21 ∨ k = 22 by omega) with rfl | rfl | rfl | rfl | rfl | rfl | rfl | rfl | rfl | rfl | rfl | rfl | rfl | rfl | rfl | rfl | rfl | rfl | rfl | rfl | rfl | rfl | rfl
  · exact ⟨fun F T N => some (nW n), fun F T N W a c aa ca h hc hA hn1 hn2 => count_fn a n c F T N _ W, fun _ _ _ _ _ _ _ => rfl⟩
  · exact ⟨fun F T N => some 4607182418800017408, fun F T N W a c aa ca h hc hA hn1 hn2 => present_fn a n c F T N _ W, fun _ _ _ _ _ _ _ => rfl⟩
  · exact ⟨fun F T N => cl (ss 0).v, fun F T N W a c aa ca h hc hA hn1 hn2 => first_fn a n c F T N ss _ W h hn2, fun _ _ _ _ _ _ _ => rfl⟩
  · exact ⟨fun F T N => cl (ss (n - 1)).v, fun F T N W a c aa ca h hc hA hn1 hn2 => last_fn a n c F T N ss _ W h hn2, fun _ _ _ _ _ _ _ => rfl⟩
  · exact ⟨fun F T N => sumF (cs (vls ss n)), fun F T N W a c aa ca h hc hA hn1 hn2 => sum_fn a n c F T N ss _ W h, fun _ _ _ _ _ _ _ => rfl⟩
  · exact ⟨fun F T N => meanF (vls ss n), fun F T N W a c aa ca h hc hA hn1 hn2 => mean_fn a n c F T N ss _ W h, fun _ _ _ _ _ _ _ => rfl⟩
  · exact ⟨fun F T N => sprF (vls ss n), fun F T N W a c aa ca h hc hA hn1 hn2 => spread_fn a n c F T N ss _ W h, fun _ _ _ _ _ _ _ => rfl⟩
  · exact ⟨fun F T N => varF (vls ss n), fun F T N W a c aa ca h hc hA hn1 hn2 => variance_fn a n c F T N ss _ W h, fun _ _ _ _ _ _ _ => rfl⟩
  · exact ⟨fun F T N => outI true (fun j => (ss j).v) (n - 1), fun F T N W a c aa ca h hc hA hn1 hn2 => highest_fn a n c F T N ss _ W h hn2 hc, fun _ _ _ _ _ _ _ => rfl⟩
  · exact ⟨fun F T N => outI false (fun j => (ss j).v) (n - 1), fun F T N W a c aa ca h hc hA hn1 hn2 => lowest_fn a n c F T N ss _ W h hn2 hc, fun _ _ _ _ _ _ _ => rfl⟩
  · obtain ⟨C, hC⟩ := quantile_cs (args.getD 0 0) (cs (vls ss n)) hlen
    exact ⟨fun F T N => C, fun F T N W a c aa ca h hc hA hn1 hn2 => quantile_fn a n c F T N ss aa ca args C W h hA hn1 hC, fun _ _ _ _ _ _ _ => rfl⟩
  · obtain ⟨C1, h1⟩ := quantile_cs 4602678819172646912 (cs (vls ss n)) hlen
    obtain ⟨C2, h2⟩ := quantile_cs 4602678819172646912 ((List.range (vls ss n).length).map (dsF (vls ss n) C1)) (by rw [List.length_map, List.length_range, vls_len]; omega)
    exact ⟨fun F T N => C2, fun F T N W a c aa ca h hc hA hn1 hn2 => mad_fn a n c F T N ss _ C1 C2 W h hn2 h1 h2, fun _ _ _ _ _ _ _ => rfl⟩
  · exact ⟨fun F T N => some (nW (ctI chB (fun j => (ss j).v) (n - 1))), fun F T N W a c aa ca h hc hA hn1 hn2 => changes_fn a n c F T N ss _ W h hn2 hc, fun _ _ _ _ _ _ _ => rfl⟩
  · exact ⟨fun F T N => some (nW (ctI (fun x y => ltB y x) (fun j => (ss j).v) (n - 1))), fun F T N W a c aa ca h hc hA hn1 hn2 => resets_fn a n c F T N ss _ W h hn2 hc, fun _ _ _ _ _ _ _ => rfl⟩
  · exact ⟨fun F T N => exF ss n F T true true, fun F T N W a c aa ca h hc hA hn1 hn2 => rate_fn a n c F T N ss _ W h hn2, fun h => (by cases h)⟩
  · exact ⟨fun F T N => exF ss n F T true false, fun F T N W a c aa ca h hc hA hn1 hn2 => increase_fn a n c F T N ss _ W h hn2, fun h => (by cases h)⟩
  · exact ⟨fun F T N => exF ss n F T false false, fun F T N W a c aa ca h hc hA hn1 hn2 => delta_fn a n c F T N ss _ W h hn2, fun h => (by cases h)⟩
  · exact ⟨fun F T N => inF ss n true, fun F T N W a c aa ca h hc hA hn1 hn2 => irate_fn a n c F T N ss _ W h hn2, fun _ _ _ _ _ _ _ => rfl⟩
  · exact ⟨fun F T N => inF ss n false, fun F T N W a c aa ca h hc hA hn1 hn2 => idelta_fn a n c F T N ss _ W h hn2, fun _ _ _ _ _ _ _ => rfl⟩
  · exact ⟨fun F T N => liS (fun j => df (ss j).t (ss 0).t) (fun j => (ss j).v) n (lvB ss n), fun F T N W a c aa ca h hc hA hn1 hn2 => slope_fn a n c F T N ss _ W h (Nat.le_trans (by decide) hn2) hc, fun _ _ _ _ _ _ _ => rfl⟩
  · exact ⟨fun F T N => fb .add (liV (fun j => df (ss j).t N) (fun j => (ss j).v) n (lvB ss n)) (fb .mul (liS (fun j => df (ss j).t N) (fun j => (ss j).v) n (lvB ss n)) (cl (args.getD 0 0))), fun F T N W a c aa ca h hc hA hn1 hn2 => predict_fn a n c F T N ss aa ca args W h hc hA hn1, fun h => (by cases h)⟩
  · exact ⟨fun F T N => smoF (cl (args.getD 0 0)) (cl (args.getD 1 0)) (vls ss n), fun F T N W a c aa ca h hc hA hn1 hn2 => smooth_fn a n c F T N ss aa ca args W h hA hn1, fun _ _ _ _ _ _ _ => rfl⟩
  · exact ⟨fun F T N => btF ss n (cl (args.getD 0 0)), fun F T N W a c aa ca h hc hA hn1 hn2 => beat_fn a n c F T N ss aa ca args W h hA hn1, fun _ _ _ _ _ _ _ => rfl⟩
/-- Call of a function of the table. -/
theorem call_gen (k : Nat) (hk : k < 23) (nm : ByteArray) (hnm : nm = (fnAt k).1) (a : Option Addr) (n c : Nat) (F T N : Int) (ss : Nat → Smp) (aa : Option Addr) (na ca : Nat) (args : List Nat) (R : Int → Int → Int → Option Nat) (hR : Gen k ss n args R) (w : World) (h : HypW a n ss w) (hc : n ≤ c) (hA : Fm w aa args) (hna : args.length = na) (hn9 : na ≤ 9223372036854775807) :
    Calls Try.prog 10 #[.string nm, Wn a n c F T N, .slice aa na ca] w (RX w (na = (fnAt k).2.1 ∧ (fnAt k).2.2.1 ≤ n ∧ Snd ss n F T N) (R F T N)) := by
  subst hna
  exact call_at k hk nm hnm a n c F T N ss aa args.length ca (R F T N) w h.1 (by have := h.2.2; omega) hn9 (fun h1 h2 _ W b => hR F T N W a c aa ca (h.below b) hc (hA.below b) h1 h2)
end Go.Proofs.Ytmjenemjbpimcaa
