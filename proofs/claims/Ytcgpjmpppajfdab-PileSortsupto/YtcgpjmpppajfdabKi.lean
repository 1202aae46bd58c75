
/- PileSorts: the walk. -/
import Derived.Test.YtcgpjmpppajfdabKh
namespace Go.Proofs.Ytcgpjmpppajfdab
open Go.RowKit

/-- Whole numbers that a slice shows. -/
def Nml (w : World) (a : Option Addr) (s : Nat → Int) (n : Nat) : Prop := n = 0 ∨ ∃ g o, a = some ⟨g, o, none⟩ ∧ g < w.heap.size ∧ ∀ j, j < n → w.cell? ⟨g, o + j, none⟩ = some (.int .i64 (s j))
theorem Nml.at {w : World} {a : Option Addr} {f : Nat → Int} {n : Nat} (h : Nml w a f n) (j : Nat) (hj : j < n) : ∃ g o, a = some ⟨g, o, none⟩ ∧ w.cell? ⟨g, o + j, none⟩ = some (.int .i64 (f j)) := by
  rcases h with h | ⟨g, o, rfl, _, hat⟩
  · omega
  · exact ⟨g, o, rfl, hat j hj⟩
theorem AL.start {W0 w8 w9 w10 : World} {v8 v9 v10 : Value} {x8 x9 x10 : List It} (o8 : Own W0.heap.size w8 v8 x8) (b8 : Below W0.heap.size W0 w8) (o9 : Own w8.heap.size w9 v9 x9) (b9 : Below w8.heap.size w8 w9) (o10 : Own w9.heap.size w10 v10 x10) (b10 : Below w9.heap.size w9 w10) :
    AL W0.heap.size W0 (w10.alloc (.cells #[v8, v9, v10] 22)) 3 (.slice (some ⟨w10.heap.size, 0, none⟩) 3 3) (fun i => if i = 0 then v8 else if i = 1 then v9 else v10) (fun i => if i = 0 then x8 else if i = 1 then x9 else x10) := by
  have s8 := b8.size
  have s9 := b9.size
  have s10 := b10.size
  have ba := (Below.refl w10.heap.size w10).alloc (Nat.le_refl _) (.cells #[v8, v9, v10] 22)
  have k8 : Kp (fun _ => False) w8 (w10.alloc (.cells #[v8, v9, v10] 22)) := ((Kp.of b9).trans (Kp.of b10)).trans (Kp.of ba)
  have k9 : Kp (fun _ => False) w9 (w10.alloc (.cells #[v8, v9, v10] 22)) := (Kp.of b10).trans (Kp.of ba)
  have k10 : Kp (fun _ => False) w10 (w10.alloc (.cells #[v8, v9, v10] 22)) := Kp.of ba
  have p8 : Own W0.heap.size (w10.alloc (.cells #[v8, v9, v10] 22)) v8 x8 := k8.row o8 (fun _ _ => id)
  have p9 : Own W0.heap.size (w10.alloc (.cells #[v8, v9, v10] 22)) v9 x9 := row_base (k9.row o9 (fun _ _ => id)) s8
  have p10 : Own W0.heap.size (w10.alloc (.cells #[v8, v9, v10] 22)) v10 x10 := row_base (k10.row o10 (fun _ _ => id)) (Nat.le_trans s8 s9)
  have l8 := o8.blk
  have l9 := o9.blk
  have l10 := o10.blk
  have i3 : ∀ i, i < 3 → i = 0 ∨ i = 1 ∨ i = 2 := fun i hi => by omega
  refine ⟨⟨by simp, .inr ⟨w10.heap.size, 3, #[v8, v9, v10], rfl, by omega, heap_alloc_new w10 _, Nat.le_refl _, by unfold maxLen; omega, rfl, rfl⟩⟩, fun i hi => ?_, fun i j g hi hj e1 e2 => ?_, fun i g hi e => ?_, ?_, by simp; omega⟩
  · rcases i3 i hi with rfl | rfl | rfl
    · exact p8
    · exact p9
    · exact p10
  · rcases i3 i hi with rfl | rfl | rfl <;> rcases i3 j hj with rfl | rfl | rfl
    · rfl
    · have := l8 g e1; have := l9 g e2; omega
    · have := l8 g e1; have := l10 g e2; omega
    · have := l9 g e1; have := l8 g e2; omega
    · rfl
    · have := l9 g e1; have := l10 g e2; omega
    · have := l10 g e1; have := l8 g e2; omega
    · have := l10 g e1; have := l9 g e2; omega
    · rfl
  · have hg : g < w10.heap.size := by
      rcases i3 i hi with rfl | rfl | rfl
      · have := l8 g e; omega
      · have := l9 g e; omega
      · exact (l10 g e).2
    intro x
    have : w10.heap.size = g := Option.some.inj x
    omega
  · exact (b8.trans (b9.mono s8)).trans ((b10.mono (Nat.le_trans s8 s9)).trans (ba.mono (by omega)))
theorem Iml.congr {w : World} {a : Option Addr} {f g : Nat → It} {n : Nat} (h : Iml w a f n) (e : ∀ j, j < n → f j = g j) : Iml w a g n := by
  rcases h with h | ⟨g', o, rfl, hg, hat⟩
  · exact .inl h
  · exact .inr ⟨g', o, rfl, hg, fun j hj => by rw [← e j hj]; exact hat j hj⟩
def two (j : Nat) : It := if j = 0 then (2, 1) else (1, 2)
theorem two_out : outL (inO lsK) 2 (inF (inO lsK) f00 two 2) = [(1, 2), (2, 1)] := by decide
theorem ic_set1 (f : Nat → It) (j : Nat) (u : Int) : ∀ n, j < n → (ic f n).set (j * 2) (.int .i64 u) = ic (up f j (u, (f j).2)) n
  | 0, h => by omega
  | n + 1, h => by
    rw [ic_succ, ic_succ]
    by_cases hj : j < n
    · rw [List.set_append_left _ _ (by rw [ic_len]; omega), ic_set1 f j u n hj]
      congr 1
      congr 1
      exact (if_neg (by omega)).symm
    · obtain rfl : j = n := by omega
      rw [List.set_append_right _ _ (by rw [ic_len]; omega), ic_len, Nat.sub_self]
      congr 1
      · exact ic_congr _ _ _ fun i hi => (if_neg (by omega)).symm
      · have : up f j (u, (f j).2) j = (u, (f j).2) := if_pos rfl
        rw [this]
        rfl
theorem Ir.set1 {w : World} {S g c n : Nat} {f : Nat → It} (h : Ir w S (.slice (some ⟨g, 0, none⟩) n c) n f) (j : Nat) (hj : j < n) (u : Int) : Ir (w.setCell ⟨g, j * 2, none⟩ (.int .i64 u)) S (.slice (some ⟨g, 0, none⟩) n c) n (up f j (u, (f j).2)) := by
  unfold Ir
  rw [← ic_set1 f j u n hj]
  exact (World.ownsRow.stored h (j * 2) (.int .i64 u)).1
/-- A thing with its key turned round. -/
def ng (x : It) : It := (wrap64 (-x.1), x.2)
def nf (xs : Nat → It) (n i j : Nat) : It := if j < i then ng (pf xs n j) else pf xs n j
set_option maxHeartbeats 8000000 in
set_option maxRecDepth 100000 in
theorem sorts_walk (a ak : Option Addr) (c n ck m : Nat) (xs : Nat → It) (ks : Nat → Int) (w : World) (hf : Iml w a xs n) (hc : n ≤ c) (hk : Nml w ak ks m) (hn : n ≤ 16777216) (hm : m ≤ 16777216) :
    Calls Try.prog 3 #[.slice a n c, .slice ak m ck] w fun r w' => r = .returned (.bool true) ∧ Below w.heap.size w w' := by
  have hN := ne_it
  obtain ⟨G, hG⟩ : ∃ G, G = w.heap.size := ⟨_, rfl⟩
  have HG : Hid (G = w.heap.size) := hG
  have HF : Hid (Iml w a xs n) := hf
  have HK : Hid (Nml w ak ks m) := hk
  have HNB : Hid (n ≤ 16777216 ∧ m ≤ 16777216 ∧ n ≤ c) := ⟨hn, hm, hc⟩
  rw [← hG]
  clear hf hk hG
  -- Sorted of two
  obtain ⟨W3, hW3⟩ : ∃ W3, W3 = ((w.alloc (.cells #[.int .i64 2, .int .i64 1] 26)).alloc (.cells #[.int .i64 1, .int .i64 2] 26)).alloc (.cells #[.int .i64 2, .int .i64 1, .int .i64 1, .int .i64 2] 26) := ⟨_, rfl⟩
  have e3 : W3.heap[w.heap.size + 1 + 1]? = some (.cells #[.int .i64 2, .int .i64 1, .int .i64 1, .int .i64 2] 26) := by
    have e2 := heap_alloc_new ((w.alloc (.cells #[.int .i64 2, .int .i64 1] 26)).alloc (.cells #[.int .i64 1, .int .i64 2] 26)) (.cells #[.int .i64 2, .int .i64 1, .int .i64 1, .int .i64 2] 26)
    simp only [World.size_alloc] at e2
    rw [hW3]
    exact e2
  have im3 : Iml W3 (some ⟨w.heap.size + 1 + 1, 0, none⟩) two 2 := by
    refine .inr ⟨_, 0, rfl, (Array.getElem?_eq_some_iff.1 e3).1, fun j hj => ?_⟩
    have : j = 0 ∨ j = 1 := by omega
    rcases this with rfl | rfl
    · constructor <;> (unfold World.cell?; rw [e3]; rfl)
    · constructor <;> (unfold World.cell?; rw [e3]; rfl)
  have b3 : Below w.heap.size w W3 := by rw [hW3]; exact below_tri (Below.refl _ _) (Nat.le_refl _) _ _ _
  have kT := sorted_any (inO lsK) lvK lvK f00 (fun w => new_some 6 f00 w) aheadK (some ⟨w.heap.size + 1 + 1, 0, none⟩) 2 2 two W3 im3 (by omega)
  rw [two_out] at kT
  have HB3 : Hid (Below G w W3) := by rw [HG.out]; exact b3
  have HW3 : Hid (W3 = _) := hW3
  have hnd : decide ((2 : Int) = 2) = true := rfl
  clear e3 im3 b3
  rw [hW3] at kT
  clear hW3
  go_enter Try.func3, Try.ntmps3
  go_wp2_with fail
  go_fit (it_exact 2 1 _)
  rintro r w1 ⟨rfl, rfl⟩
  go_wp2_with fail
  go_fit (it_exact 1 2 _)
  rintro r w1 ⟨rfl, rfl⟩
  go_wp2_with fail
  go_fit kT
  rintro r w4 ⟨v4, rfl, o4, b4⟩
  rw [← HW3.out] at b4
  have B4 : Hid (Below G w w4) := HB3.out.trans (b4.mono (by rw [HG.out]; exact (HG.out ▸ HB3.out).size))
  obtain ⟨a4, c4, rfl, im4, _⟩ := o4.iml
  obtain ⟨g4, p4, rfl, x0, x1⟩ := im4.at 0 (by omega)
  have x0 : w4.cell? ⟨g4, p4, none⟩ = some (.int .i64 1) := by simpa [lk] using x0
  have x1 : w4.cell? ⟨g4, p4 + 1, none⟩ = some (.int .i64 2) := by simpa [lk] using x1
  have f0 := fun d os => cell_regrown x0 d os
  have f1 := fun d os => cell_regrown x1 d os
  have cO := fun d os => Calls.regrown_of (it_any 1 2 (Go.Sort.grow (redrawn w4 d) os))
  have heq : eqB ((1 : Int), (2 : Int)) (1, 2) = true := rfl
  clear o4 b4 im4 kT HW3
  go_wp2_with fail
  refine wp_region_quiet_below (by kernel_rfl) (by kernel_rfl) ?_
  repeat (first | quiet_step (fail) | quiet_step (exact cO _ _))
  refine wpQuiet_nil ?_
  intro _ hw'
  obtain ⟨⟨dq, osq⟩, hw''⟩ := hw'
  subst hw''
  have b5 : Below G w (Go.Sort.grow (redrawn w4 dq) osq) := B4.out.trans ((below_regrown w4 dq osq).mono (by rw [HG.out]; exact (HG.out ▸ B4.out).size))
  clear x0 x1 f0 f1 cO heq
  generalize Go.Sort.grow (redrawn w4 dq) osq = w5 at *
  have hb5 : Below w.heap.size w w5 := HG.out ▸ b5
  have kP := put_any a c n xs w5 (HF.out.below hb5) (by omega)
  have B5 : Hid (Below G w w5) := b5
  obtain ⟨P, hP⟩ : ∃ P, P = w5.heap.size := ⟨_, rfl⟩
  have HP : Hid (P = w5.heap.size) := hP
  have HGP : Hid (G ≤ P) := by rw [hP, HG.out]; exact hb5.size
  rw [← hP] at kP
  clear hP hb5 b5
  go_wp2_with fail
  go_fit kP
  rintro r w6 ⟨rfl, o6, b6⟩
  have hb6 : Below w.heap.size w w6 := (HG.out ▸ B5.out).trans (b6.mono (by rw [HP.out]; exact (HG.out ▸ B5.out).size))
  have kR := rsorted_any false n a c xs w6 (HF.out.below hb6) hc (by omega)
  have O6 : Hid (Ir w6 P (.slice (some ⟨P, 0, none⟩) (n + 40) (n + 40)) (n + 40) (pf xs n)) := o6
  have HPl : Hid (P < w6.heap.size) := (World.ownsRow.lt o6 P rfl).2
  have HB6 : Hid (Below w.heap.size w w6) := hb6
  clear kP o6 b6 hb6 hc hn hm
  go_wp2_with fail
  go_fit kR
  rintro r w7 ⟨v7, ys, rfl, hyl, o7, hrs, b7⟩
  obtain ⟨a7, c7, rfl, im7, _⟩ := o7.iml
  have HB7 : Hid (Below w.heap.size w w7) := HB6.out.trans (b7.mono HB6.out.size)
  have O7 : Hid (Ir w7 P (.slice (some ⟨P, 0, none⟩) (n + 40) (n + 40)) (n + 40) (pf xs n)) := (Kp.of (M := fun _ => False) b7).row O6.out (fun _ _ => id)
  have HPl7 : Hid (P < w7.heap.size) := Nat.lt_of_lt_of_le HPl.out b7.size
  have HRS : Hid (RS (Kf false) (il xs n) ys) := hrs
  have HYL : Hid (ys.length = n) := hyl
  have HA7 : Hid (∀ g o, a7 = some ⟨g, o, none⟩ → P < g) := fun g o e => by
    have := (World.ownsRow.lt o7 g (by rw [e]; rfl)).1
    have := HPl.out
    omega
  have IM7 : Hid (Iml w7 a7 (lk ys) n) := im7
  have HIN : Hid (∀ W, Below w7.heap.size w7 W → Iml W (some ⟨P, 0, none⟩) (pf xs n) (n + 40) ∧ Iml W (some ⟨P, 0, none⟩) xs n ∧ Iml W a7 (lk ys) n ∧ Iml W a xs n) := fun W hW => by
    obtain ⟨_, _, e, im, _⟩ := (O7.out).iml
    cases e
    have i2 := im.below hW
    refine ⟨i2, ?_, IM7.out.below hW, (HF.out.below HB7.out).below hW⟩
    rcases i2 with h | ⟨g, o, e, hg, hat⟩
    · omega
    · exact .inr ⟨g, o, e, hg, fun j hj => by have := hat j (by omega); unfold pf at this; rw [if_pos hj] at this; exact this⟩
  have hnb : n * 24 ≤ 140737488355328 := by have := HNB.out; omega
  have k8 := sortedK (some ⟨P, 0, none⟩) (n + 40) n xs w7 ys HRS.out HYL.out (HIN.out w7 (Below.refl _ _)).2.1 hnb
  clear o7 b7 hrs hyl im7 kR
  go_wp2_with fail
  go_fit k8
  rintro r w8 ⟨v8, rfl, o8, b8⟩
  have k9 := sortedN (some ⟨P, 0, none⟩) (n + 40) n xs w8 (HIN.out w8 b8).2.1 hnb
  go_wp2_with fail
  go_fit k9
  rintro r w9 ⟨v9, rfl, o9, b9⟩
  have b79 := b8.trans (b9.mono b8.size)
  have k10 := sortedK (some ⟨P, 0, none⟩) (n + 40) n xs w9 ys HRS.out HYL.out (HIN.out w9 b79).2.1 hnb
  go_wp2_with fail
  go_fit k10
  rintro r w10 ⟨v10, rfl, o10, b10⟩
  have al := AL.start o8 b8 o9 b9 o10 b10
  have b710 := b79.trans (b10.mono (Nat.le_trans b8.size b9.size))
  obtain ⟨a8, c8, e8, im8⟩ := o8.iml
  obtain ⟨a9, c9, e9, im9⟩ := o9.iml
  obtain ⟨a10, c10, e10, im10⟩ := o10.iml
  rw [HYL.out] at e8 im8 e10 im10
  rw [il_len] at e9 im9
  obtain ⟨W11, hW11⟩ : ∃ W11, W11 = w10.alloc (.cells #[v8, v9, v10] 22) := ⟨_, rfl⟩
  have b11 : Below w10.heap.size w10 W11 := by rw [hW11]; exact (Below.refl _ _).alloc (Nat.le_refl _) _
  rw [← hW11] at al
  have j8 := ((im8.below b9).below b10).below b11
  have j9 := ((im9.below b10).below b11).congr (g := xs) (fun j hj => lk_il xs n j hj)
  have j10 := im10.below b11
  have B711 : Hid (Below w7.heap.size w7 W11) := b710.trans (b11.mono b710.size)
  obtain ⟨_, _, i7, ia⟩ := HIN.out W11 B711.out
  have kS1 := same_true a8 a7 c8 c7 n (lk ys) W11 j8 i7 (by omega)
  have J9 : Hid (Iml W11 a9 xs n) := j9
  have J10 : Hid (Iml W11 a10 (lk ys) n) := j10
  have J8 : Hid (Iml W11 a8 (lk ys) n) := j8
  have AL0 : Hid (AL w7.heap.size w7 W11 3 (.slice (some ⟨w10.heap.size, 0, none⟩) 3 3) (fun i => if i = 0 then v8 else if i = 1 then v9 else v10) (fun i => if i = 0 then ys else if i = 1 then il xs n else ys)) := al
  have HW11 : Hid (W11 = w10.alloc (.cells #[v8, v9, v10] 22)) := hW11
  have E8 : Hid (v8 = .slice a8 n c8) := e8
  have hnn : n ≤ 1152921504606846976 := by omega
  clear al o8 b8 o9 b9 o10 b10 im8 im9 im10 b11 j8 j9 j10 b710 b79 k8 k9 k10 hW11 i7 ia
  subst e8 e9 e10
  go_wp2_with fail
  rw [← HW11.out]
  go_fit kS1
  rintro r w12 ⟨rfl, b12⟩
  obtain ⟨_, _, _, ia⟩ := HIN.out w12 (B711.out.trans (b12.mono B711.out.size))
  have kS2 := same_true a9 a c9 c n xs w12 (J9.out.below b12) ia hnn
  have B12 : Hid (Below W11.heap.size W11 w12) := b12
  clear kS1 b12 ia
  go_wp2_with fail
  go_fit kS2
  rintro r w13 ⟨rfl, b13⟩
  have b13' : Below W11.heap.size W11 w13 := B12.out.trans (b13.mono B12.out.size)
  obtain ⟨_, _, i7, _⟩ := HIN.out w13 (B711.out.trans (b13'.mono B711.out.size))
  have kS3 := same_true a10 a7 c10 c7 n (lk ys) w13 (J10.out.below b13') i7 hnn
  have B13 : Hid (Below W11.heap.size W11 w13) := b13'
  clear kS2 b13 b13' i7
  go_wp2_with fail
  go_fit kS3
  rintro r w14 ⟨rfl, b14⟩
  have b14' : Below W11.heap.size W11 w14 := B13.out.trans (b14.mono B13.out.size)
  have AL1 : Hid (∃ V X, AL w7.heap.size w7 w14 (3 + 2 * 0) (.slice (some ⟨w10.heap.size, 0, none⟩) 3 3) V X ∧ V 0 = .slice a8 n c8 ∧ X 0 = ys ∧ ∀ j, j < 3 + 2 * 0 → (X j).length ≤ 16777216) := ⟨_, _, AL0.out.later b14', rfl, rfl, fun j hj => by
    have h := HNB.out
    have : j = 0 ∨ j = 1 ∨ j = 2 := by omega
    rcases this with rfl | rfl | rfl
    · show ys.length ≤ _; rw [HYL.out]; omega
    · show (il xs n).length ≤ _; rw [il_len]; omega
    · show ys.length ≤ _; rw [HYL.out]; omega⟩
  generalize w10.heap.size = BA at *
  have hmi : (m : Int) ≤ 16777216 := by have := HNB.out; omega
  clear kS3 b14 b14' B12 B13 AL0 HW11 J8 J9 J10 B711
  go_wp2
  go_loopw [68, 12] (fun t va W => ∃ i : Nat, t = .int .i64 (i : Int) ∧ i ≤ m ∧ Hid (∃ V X, AL w7.heap.size w7 W (3 + 2 * i) va V X ∧ V 0 = .slice a8 n c8 ∧ X 0 = ys ∧ ∀ j, j < 3 + 2 * i → (X j).length ≤ 16777216)) (fun t _ _ => m - (RowKit.intOf t).toNat)
  case atStart => exact ⟨0, rfl, by omega, AL1⟩
  case round =>
    obtain ⟨i, rfl, hi, hal⟩ := hrel
    clear AL1
    obtain ⟨V, X, al, hV, hX, hXl⟩ := hal.out
    by_cases hlt : i < m
    · have hii : (i : Int) < m := by omega
      obtain ⟨gk, ok, rfl, q0⟩ := HK.out.at i hlt
      have bw : Below w.heap.size w wr := HB7.out.trans (al.below.mono HB7.out.size)
      have q1 := bcellK bw q0
      obtain ⟨kk, hkk⟩ : ∃ kk, ks i = kk := ⟨_, rfl⟩
      rw [hkk] at q1
      obtain ⟨_, iin, _, _⟩ := HIN.out wr al.below
      have kB := bestK (some ⟨P, 0, none⟩) (n + 40) n xs kk wr ys HRS.out HYL.out iin hnb
      have HAL : Hid (AL w7.heap.size w7 wr (3 + 2 * i) u12 V X) := al
      have HVX : Hid (V 0 = .slice a8 n c8 ∧ X 0 = ys ∧ ∀ j, j < 3 + 2 * i → (X j).length ≤ 16777216) := ⟨hV, hX, hXl⟩
      clear q0 bw hkk iin al hV hX hXl hal
      go_wp2_with fail
      go_fit kB
      rintro r w1 ⟨vb, rfl, ob, b1⟩
      obtain ⟨_, iin, _, _⟩ := HIN.out w1 (HAL.out.below.trans (b1.mono HAL.out.size))
      have kN := bestN (some ⟨P, 0, none⟩) (n + 40) n xs kk w1 iin hnb
      go_wp2_with fail
      go_fit kN
      rintro r w2 ⟨vp, rfl, op, b2⟩
      have b12 := b1.trans (b2.mono b1.size)
      obtain ⟨_, _, _, ia⟩ := HIN.out w2 (HAL.out.below.trans (b12.mono HAL.out.size))
      have kR := rbest_any false a c n xs kk w2 ia HNB.out.2.2 (by omega) ys HYL.out (fun ys' h => RS.uniq h HRS.out)
      obtain ⟨ab, cb, eb, imb⟩ := ob.iml
      obtain ⟨ap, cp, ep, imp⟩ := op.iml
      have OB : Hid (Own wr.heap.size w1 vb (ys.take kk.toNat)) := ob
      have OP : Hid (Own w1.heap.size w2 vp ((il xs n).take kk.toNat)) := op
      have hlb : (ys.take kk.toNat).length ≤ n := by rw [List.length_take, HYL.out]; omega
      have hlp : ((il xs n).take kk.toNat).length ≤ n := by rw [List.length_take, il_len]; omega
      have HLB : Hid ((ys.take kk.toNat).length ≤ n ∧ ((il xs n).take kk.toNat).length ≤ n) := ⟨hlb, hlp⟩
      generalize hLb : (ys.take kk.toNat).length = Lb at *
      generalize hLp : ((il xs n).take kk.toNat).length = Lp at *
      have HLb : Hid ((ys.take kk.toNat).length = Lb) := hLb
      have HLp : Hid (((il xs n).take kk.toNat).length = Lp) := hLp
      have IB : Hid (Iml w1 ab (lk (ys.take kk.toNat)) Lb) := imb
      have IP : Hid (Iml w2 ap (lk ((il xs n).take kk.toNat)) Lp) := imp
      have B1 : Hid (Below wr.heap.size wr w1) := b1
      have B2 : Hid (Below w1.heap.size w1 w2) := b2
      have hLn : Lb ≤ 1152921504606846976 ∧ Lp ≤ 1152921504606846976 := by omega
      clear ob op b1 b2 b12 imb imp kB kN hLb hLp hlb hlp iin ia
      subst eb ep
      go_wp2_with fail
      go_fit kR
      rintro r w3 ⟨a3, c3, rfl, im3, b3⟩
      have kS := same_true ab a3 cb c3 Lb (lk (ys.take kk.toNat)) w3 ((IB.out.below B2.out).below b3) im3 hLn.1
      have B3 : Hid (Below w2.heap.size w2 w3) := b3
      clear im3 b3 kR
      go_wp2_with fail
      go_fit kS
      rintro r w4 ⟨rfl, b4⟩
      have B4' : Hid (Below w2.heap.size w2 w4) := B3.out.trans (b4.mono B3.out.size)
      have B24 : Hid (Below wr.heap.size wr w4) := (B1.out.trans (B2.out.mono B1.out.size)).trans (B4'.out.mono (Nat.le_trans B1.out.size B2.out.size))
      obtain ⟨_, _, _, ia⟩ := HIN.out w4 (HAL.out.below.trans (B24.out.mono HAL.out.size))
      have kR2 := rbest_any true a c n xs kk w4 ia HNB.out.2.2 (by omega) (il xs n) (il_len xs n) (fun ys' h => RS.uniq h (flat_rs _))
      rw [HLp.out] at kR2
      clear kS b4 ia
      go_wp2_with fail
      go_fit kR2
      rintro r w5 ⟨a5, c5, rfl, im5, b5⟩
      have kS2 := same_true ap a5 cp c5 Lp (lk ((il xs n).take kk.toNat)) w5 ((IP.out.below B4'.out).below b5) im5 hLn.2
      have B5' : Hid (Below w4.heap.size w4 w5) := b5
      clear im5 b5 kR2
      go_wp2_with fail
      go_fit kS2
      rintro r w6 ⟨rfl, b6⟩
      have b46 : Below w4.heap.size w4 w6 := B5'.out.trans (b6.mono B5'.out.size)
      have b26 : Below w2.heap.size w2 w6 := B4'.out.trans (b46.mono B4'.out.size)
      have b16 : Below w1.heap.size w1 w6 := B2.out.trans (b26.mono B2.out.size)
      have br6 : Below wr.heap.size wr w6 := B1.out.trans (b16.mono B1.out.size)
      have o1 : Own wr.heap.size w6 (.slice ab Lb cb) (ys.take kk.toNat) := (Kp.of (M := fun _ => False) b16).row OB.out (fun _ _ => id)
      have o2 : Own wr.heap.size w6 (.slice ap Lp cp) ((il xs n).take kk.toNat) := row_base ((Kp.of (M := fun _ => False) b26).row OP.out (fun _ _ => id)) B1.out.size
      have al6 := HAL.out.later br6
      obtain ⟨va', w', ra, al'⟩ := al6.two (S := wr.heap.size) (fun i g hi e => ((HAL.out.own i hi).blk g e).2) (fun g e => (World.ownsRow.lt HAL.out.row g e).2) HAL.out.size o1 o2 (fun g e x => by
        have h1 := (OB.out.blk g e).2
        have h2 := (OP.out.blk g x).1
        omega) rfl rfl (by have := HNB.out; omega)
      have AL2 : Hid (∃ V X, AL w7.heap.size w7 w' (3 + 2 * (i + 1)) va' V X ∧ V 0 = .slice a8 n c8 ∧ X 0 = ys ∧ ∀ j, j < 3 + 2 * (i + 1) → (X j).length ≤ 16777216) := by
        obtain ⟨h1, h2, h3⟩ := HVX.out
        refine ⟨_, _, by rw [show 3 + 2 * (i + 1) = 3 + 2 * i + 2 by omega]; exact al', ?_, ?_, fun j hj => ?_⟩
        · show (if 0 < 3 + 2 * i then V 0 else _) = _
          rw [if_pos (by omega)]; exact h1
        · show (if 0 < 3 + 2 * i then X 0 else _) = _
          rw [if_pos (by omega)]; exact h2
        · show (if j < 3 + 2 * i then X j else if j = 3 + 2 * i then _ else _).length ≤ _
          have hnn2 := HNB.out
          have hl2 := HLB.out
          by_cases a1 : j < 3 + 2 * i
          · rw [if_pos a1]; exact h3 j a1
          · rw [if_neg a1]
            by_cases a2 : j = 3 + 2 * i
            · rw [if_pos a2, HLb.out]; omega
            · rw [if_neg a2, HLp.out]; omega
      clear al6 al' o1 o2 b46 b26 b16 br6 kS2 b6 OB OP IB IP B1 B2 B3 B4' B24 B5' HAL HVX
      go_wp2_with (at_builtin; refine wpList_append_run rfl (.tmp 92) (.tmp 95) 32 32 rfl _ _ rfl rfl ra ?_)
      exact ⟨⟨i + 1, by go_num, by omega, AL2⟩, by simp [RowKit.intOf]; omega⟩
    · have hii : ¬ (i : Int) < m := by omega
      obtain ⟨BL, cap, col, eva, st0, p1⟩ := al.colours (by omega)
      have o0 := al.own 0 (by omega)
      rw [hV, hX] at o0
      obtain ⟨a8', c8', e8, im8⟩ := o0.iml
      rw [HYL.out] at e8 im8
      cases e8
      obtain ⟨_, _, i7, _⟩ := HIN.out wr al.below
      have kS := same_true a8 a7 c8 c7 n (lk ys) wr im8 i7 hnn
      have HAL : Hid (AL w7.heap.size w7 wr (3 + 2 * i) u12 V X) := al
      have HXl : Hid (∀ j, j < 3 + 2 * i → (X j).length ≤ 16777216) := hXl
      clear st0 p1 eva col al hV hX hXl o0 im8 i7 hal
      have hva : ∃ BL cap, u12 = .slice (some ⟨BL, 0, none⟩) (3 + 2 * i) cap := by
        obtain ⟨BL, cap, col, e, _⟩ := HAL.out.colours (by omega)
        exact ⟨BL, cap, e⟩
      obtain ⟨BL', cap', hva'⟩ := hva
      subst hva'
      go_wp2_with fail
      go_fit kS
      rintro r w1 ⟨rfl, b1⟩
      obtain ⟨ip, _, _, ia⟩ := HIN.out w1 (HAL.out.below.trans (b1.mono HAL.out.size))
      have kW := whole_true P a c (n + 40) n xs w1 ip ia (Nat.le_refl _) (by have := HNB.out; omega)
      have B1 : Hid (Below wr.heap.size wr w1) := b1
      clear kS b1 ip ia
      go_wp2_with fail
      go_fit kW
      rintro r w2 ⟨rfl, b2⟩
      have b12 : Below wr.heap.size wr w2 := B1.out.trans (b2.mono B1.out.size)
      have al2 := HAL.out.later b12
      obtain ⟨BL2, cap2, col, e2, st0, p1⟩ := al2.colours (by omega)
      cases e2
      have kA := apart_any (3 + 2 * i) w7.heap.size BL' cap' V X col w2 (by have := HNB.out; omega) (fun j hj => by have := HXl.out j hj; omega) st0 p1
      have B2 : Hid (Below w7.heap.size w7 w2) := al2.below
      clear kW b2 b12 al2 st0 p1 B1 HAL HXl
      go_wp2_with fail
      go_fit kA
      rintro r w3 ⟨rfl, b3⟩
      have b73 : Below w7.heap.size w7 w3 := B2.out.trans b3
      obtain ⟨ip, _, _, ia⟩ := HIN.out w3 b73
      have kW := whole_true P a c (n + 40) n xs w3 ip ia (Nat.le_refl _) (by have := HNB.out; omega)
      have B3 : Hid (Below w7.heap.size w7 w3) := b73
      clear kA b3 b73 ip ia B2
      go_wp2_with fail
      go_fit kW
      rintro r w4 ⟨rfl, b4⟩
      have b74 : Below w7.heap.size w7 w4 := B3.out.trans (b4.mono B3.out.size)
      obtain ⟨_, iin, _, _⟩ := HIN.out w4 b74
      have kC := sortedK (some ⟨P, 0, none⟩) (n + 40) n xs w4 ys HRS.out HYL.out iin hnb
      have B74 : Hid (Below w7.heap.size w7 w4) := b74
      clear kW b4 b74 iin B3
      go_wp2_with fail
      go_fit kC
      rintro r w5 ⟨vc, rfl, oc, b5⟩
      have B75 : Hid (Below w7.heap.size w7 w5) := B74.out.trans (b5.mono B74.out.size)
      obtain ⟨ac, cc, ec, imc⟩ := oc.iml
      rw [HYL.out] at ec imc
      have OC : Hid (Own w4.heap.size w5 vc ys) := oc
      have OP5 : Hid (Ir w5 P (.slice (some ⟨P, 0, none⟩) (n + 40) (n + 40)) (n + 40) (pf xs n)) := (Kp.of (M := fun _ => False) (B75.out.mono (Nat.le_refl _))).row O7.out (fun _ _ => id)
      clear oc b5 kC
      have IMC : Hid (Iml w5 ac (lk ys) n) := imc
      have HAC : Hid (∀ g o, ac = some ⟨g, o, none⟩ → P < g) := fun g o e => by
        have := (OC.out.blk g (by rw [ec, e]; rfl)).1
        have := HPl7.out
        have := B74.out.size
        omega
      have I75 : Hid (Iml w5 a7 (lk ys) n) := (HIN.out w5 B75.out).2.2.1
      have H0 : Hid (Ir w5 P (.slice (some ⟨P, 0, none⟩) (n + 40) (n + 40)) (n + 40) (nf xs n 0)) := Ir.congr OP5.out (fun j _ => by unfold nf; rw [if_neg (by omega)])
      subst ec
      go_wp2
      go_loopw [123, 18] (fun t _ W => ∃ i : Nat, t = .int .i64 (i : Int) ∧ i ≤ n ∧ Hid (Ir W P (.slice (some ⟨P, 0, none⟩) (n + 40) (n + 40)) (n + 40) (nf xs n i)) ∧ Hid (Kp (· = P) w5 W)) (fun t _ _ => n - (RowKit.intOf t).toNat)
      case atStart => exact ⟨0, rfl, by omega, H0, Kp.refl _ _⟩
      case round =>
        obtain ⟨i, rfl, hi, ho, hkp⟩ := hrel
        by_cases hlt : i < n
        · have hii : (i : Int) < n := by omega
          obtain ⟨z0, z1, z2, z3⟩ := Ir.cells ho.out i (by omega)
          obtain ⟨⟨xk, xi⟩, hx⟩ : ∃ x, xs i = x := ⟨_, rfl⟩
          have hnf : nf xs n i i = (xk, xi) := by unfold nf pf; rw [if_neg (by omega), if_pos hlt, hx]
          rw [hnf] at z0 z1
          dsimp only at z0 z1
          have os := Ir.congr (Ir.set1 ho.out i (by omega) (wrap64 (-xk))) (g := nf xs n (i + 1)) (fun j _ => by
            by_cases hj : j = i
            · subst hj
              rw [up_same, hnf]
              unfold nf
              rw [if_pos (by omega)]
              unfold pf ng
              rw [if_pos hlt, hx]
            · rw [up_other _ _ _ _ hj]
              unfold nf
              by_cases h : j < i
              · rw [if_pos h, if_pos (by omega)]
              · rw [if_neg h, if_neg (by omega)])
          have HO : Hid _ := os
          have HKP : Hid (Kp (· = P) w5 _) := hkp.out.setCell (p := ⟨P, i * 2, none⟩) rfl (.int .i64 (wrap64 (-xk)))
          clear os ho hkp hx hnf z1 z3
          go_wp2
          exact ⟨⟨i + 1, by go_num, by omega, HO, HKP⟩, by simp [RowKit.intOf]; omega⟩
        · have hii : ¬ (i : Int) < n := by omega
          have hin : n = i := by omega
          subst hin
          obtain ⟨_, _, e, imP, _⟩ := ho.out.iml
          cases e
          have iP : Iml wr (some ⟨P, 0, none⟩) (fun j => ng (xs j)) n := by
            rcases imP with h | ⟨g, o, e, hg, hat⟩
            · omega
            · exact .inr ⟨g, o, e, hg, fun j hj => by have := hat j (by omega); unfold nf pf at this; rw [if_pos hj, if_pos hj] at this; exact this⟩
          have iC := IMC.out.kp hkp.out (fun g o e (x : g = P) => by have := HAC.out g o e; omega)
          have i7 := I75.out.kp hkp.out (fun g o e (x : g = P) => by have := HA7.out g o e; omega)
          have kS := same_true ac a7 cc c7 n (lk ys) wr iC i7 hnn
          have HIP : Hid (Iml wr (some ⟨P, 0, none⟩) (fun j => ng (xs j)) n) := iP
          have HBW : Hid (Below G w wr) := by
            have h7 := HB7.out
            have h75 := h7.trans (B75.out.mono h7.size)
            have hgp := HGP.out
            rw [HG.out] at hgp ⊢
            exact h75.trans (hkp.out.below h75.size (fun k hk (e : k = P) => by omega))
          generalize (fun j => ng (xs j)) = zs at *
          clear imP iP iC i7 ho hkp IMC HAC I75 OP5 H0 HIN O7 OC
          go_wp2_with fail
          go_fit kS
          rintro r w1 ⟨rfl, b1⟩
          have kA := sorted_any (inO lsK) lvK lvK f00 (fun w => new_some 6 f00 w) aheadK (some ⟨P, 0, none⟩) (n + 40) n zs w1 (HIP.out.below b1) hnb
          have B1 : Hid (Below wr.heap.size wr w1) := b1
          clear kS b1
          go_wp2_with fail
          go_fit kA
          rintro r w2 ⟨v2, rfl, o2, b2⟩
          have b2' : Below wr.heap.size wr w2 := B1.out.trans (b2.mono B1.out.size)
          have kR := rsorted_any false n (some ⟨P, 0, none⟩) (n + 40) zs w2 (HIP.out.below b2') (by omega) (by omega)
          obtain ⟨a2, c2, e2, im2, _⟩ := o2.iml
          have I2 : Hid (Iml w2 a2 (lk (outL (inO lsK) n (inF (inO lsK) f00 zs n))) n) := im2
          have B2 : Hid (Below wr.heap.size wr w2) := b2'
          clear kA o2 b2 b2' im2 B1
          subst e2
          go_wp2_with fail
          go_fit kR
          rintro r w3 ⟨v3, yz, rfl, hzl, o3, hrz, b3⟩
          obtain ⟨a3, c3, e3, im3, _⟩ := o3.iml
          have i2 := I2.out.below b3
          rw [out_is isK f00 zs n hrz] at i2
          have kS := same_true a2 a3 c2 c3 n (lk yz) w3 i2 im3 hnn
          have B3 : Hid (Below wr.heap.size wr w3) := B2.out.trans (b3.mono B2.out.size)
          have HRZ : Hid (RS (Kf false) (il zs n) yz) := hrz
          have HZL : Hid (yz.length = n) := hzl
          clear kR o3 b3 im3 i2 I2 hrz hzl B2
          subst e3
          go_wp2_with fail
          go_fit kS
          rintro r w4 ⟨rfl, b4⟩
          have b4' : Below wr.heap.size wr w4 := B3.out.trans (b4.mono B3.out.size)
          have kB := bestK (some ⟨P, 0, none⟩) (n + 40) n zs 2 w4 yz HRZ.out HZL.out (HIP.out.below b4') hnb
          have B4 : Hid (Below wr.heap.size wr w4) := b4'
          clear kS b4 b4' B3
          go_wp2_with fail
          go_fit kB
          rintro r w5 ⟨v5, rfl, o5, b5⟩
          have b5' : Below wr.heap.size wr w5 := B4.out.trans (b5.mono B4.out.size)
          have kR := rbest_any false (some ⟨P, 0, none⟩) (n + 40) n zs 2 w5 (HIP.out.below b5') (by omega) (by omega) yz HZL.out (fun ys' h => RS.uniq h HRZ.out)
          obtain ⟨a5, c5, e5, im5⟩ := o5.iml
          have hl5 : (yz.take (2 : Int).toNat).length ≤ 1152921504606846976 := by rw [List.length_take, HZL.out]; omega
          generalize yz.take (2 : Int).toNat = Y2 at *
          have I5 : Hid (Iml w5 a5 (lk Y2) Y2.length) := im5
          have B5 : Hid (Below wr.heap.size wr w5) := b5'
          clear kB o5 b5 b5' im5 B4
          subst e5
          go_wp2_with fail
          go_fit kR
          rintro r w6 ⟨a6, c6, rfl, im6, b6⟩
          have kS := same_true a5 a6 c5 c6 Y2.length (lk Y2) w6 (I5.out.below b6) im6 hl5
          have B6 : Hid (Below wr.heap.size wr w6) := B5.out.trans (b6.mono B5.out.size)
          clear kR im6 b6 I5 B5
          go_wp2_with fail
          go_fit kS
          rintro r w8 ⟨rfl, b8⟩
          have BF : Hid (Below G w w8) := by
            have h := HBW.out
            have hs : G ≤ wr.heap.size := by rw [HG.out]; exact (HG.out ▸ h).size
            exact h.trans ((B6.out.trans (b8.mono B6.out.size)).mono hs)
          clear kS b8 B6
          go_wp2
          go_ret
          exact ⟨rfl, BF.out⟩
end Go.Proofs.Ytcgpjmpppajfdab
