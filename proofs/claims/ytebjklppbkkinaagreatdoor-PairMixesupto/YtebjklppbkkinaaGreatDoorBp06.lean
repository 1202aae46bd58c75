/- A bundle of texts. -/
import Derived.Test.YtebjklppbkkinaaGreatDoorBp05
import Derived.Deep.RegionHeld3
import Derived.Deep.CutBlock
import Derived.Deep.QuietTactic
/- Vectors: Vector. -/
namespace Go.Proofs.YtebjklppbkkinaaGreatDoor
open Go.RowKit Go.Lib Go.Shelf Go.Sort

theorem run_store_float {P : Program} (a : Addr) (m : Mode) (n : Nat) (w : World) : (store a (.float .f64 n) m).run P w = stored P w a (.float .f64 n) m := run_store P w a _ m rfl
attribute [local go_sem] Oper.semAt_some run_store_float

theorem cfE_sym {x y : El} (h : cfE x y ≠ 0) : cfE y x ≠ 0 := by
  have := cm_anti x.f y.f x.n y.n
  unfold cfE at *
  omega
theorem pair_perm {l l' : List El} (h : l.Perm l') (k : l.Pairwise (fun x y => cfE x y ≠ 0)) : l'.Pairwise (fun x y => cfE x y ≠ 0) := (h.pairwise_iff (fun h => cfE_sym h)).1 k
theorem pair_lt {ks : List El} (hs : ks.Pairwise (fun x y => ¬ cfE y x < 0)) (hne : ∀ i (h : i + 1 < ks.length), cfE ks[i] ks[i + 1] ≠ 0) : ks.Pairwise (fun x y => cfE x y < 0) := by
  rw [List.pairwise_iff_getElem] at hs ⊢
  have step : ∀ i (h : i + 1 < ks.length), cfE ks[i] ks[i + 1] < 0 := fun i h => by
    have h1 := hs i (i + 1) (by omega) h (by omega)
    have h2 := hne i h
    have := cm_anti ks[i].f ks[i + 1].f ks[i].n ks[i + 1].n
    unfold cfE at *
    omega
  intro i j hi hj hij
  obtain ⟨d, rfl⟩ : ∃ d, j = i + 1 + d := ⟨j - i - 1, by omega⟩
  induction d with
  | zero => exact step i hj
  | succ d ih =>
    have h1 := ih (by omega) (by omega)
    have h2 := step (i + 1 + d) (by omega)
    have := (swoE (fun x : El => x)).trans ks[i] ks[i + 1 + d] ks[i + 1 + d + 1] (by simpa [ltOf] using h1) (by simpa [ltOf] using h2)
    have h9 : cfE ks[i] ks[i + 1 + d + 1] < 0 := by simpa [ltOf] using this
    exact h9
theorem lm_own {w : World} {S : Nat} {e : El} (h : Ow w S e) : Lm w e.a e.f e.n := by
  unfold Ow at h
  have hl := ll_len e.f e.n
  have h2 := K.row_lm (ks := K.ll e.f e.n) (W := w) (S := S) (c := e.c) (a := e.a) (by rw [hl]; exact h)
  rw [hl] at h2
  exact K.Lm.congr h2 fun j hj => by simp [K.gL, K.ll, hj]
theorem kept_row {W W' : World} {S e s n : Nat} {v : Value} {xs : List Value} (o : W.ownsRow S e s v n xs) (b : Below W.heap.size W W') : W'.ownsRow S e s v n xs := (Kp.of (M := fun _ => False) b).row o (fun _ _ h => h)
theorem own_kp {M : Nat → Prop} {W W' : World} {S : Nat} {e : El} (k : Kp M W W') (h : Ow W S e) (hm : ∀ b, (Value.slice e.a e.n e.c).ownBlock = some b → ¬ M b) : Ow W' S e := k.row h hm
/-- The second loop, at its i-th round. -/
structure Iv (S : Nat) (w3 : World) (v : Value) (n : Nat) (q0 r : Nat → El) (i : Nat) (W : World) : Prop where
  row : W.ownsRow S 31 2 v n (fl e2 (elL r n))
  core : ∀ j, core (r j) = core (q0 j)
  old : ∀ j, i ≤ j → r j = q0 j
  own : ∀ j, j < i → Ow W S (r j) ∧ ∀ b, v.ownBlock = some b → (Value.slice (r j).a (r j).n (r j).c).ownBlock ≠ some b
  apart : ∀ j k, j < k → k < i → Ap (r j) (r k)
  kp : Kp (fun b => v.ownBlock = some b) w3 W
theorem Iv.step {S g n c : Nat} {w3 W W4 : World} {q0 r : Nat → El} {i S' : Nat} {a' : Option Addr} {c' : Nat} (h : Iv S w3 (.slice (some ⟨g, 0, none⟩) n c) n q0 r i W) (hi : i < n) (hS : S ≤ W.heap.size) (hb : Below W.heap.size W W4)
    (o : W4.ownsRow S' 61 2 (.slice a' (r i).n c') (r i).n (lcL (K.ll (r i).f (r i).n))) (hS' : W.heap.size ≤ S') :
    Iv S w3 (.slice (some ⟨g, 0, none⟩) n c) n q0 (up r i ⟨a', (r i).n, c', (r i).f, (r i).x⟩) (i + 1) (W4.setCell ⟨g, i * 2, none⟩ (.slice a' (r i).n c')) := by
  have hg : g < W.heap.size := (own_bd h.row g rfl).2
  have k1 : Kp (fun b => (Value.slice (some ⟨g, 0, none⟩) n c).ownBlock = some b) W W4 := Kp.of hb
  have k2 : Kp (fun b => (Value.slice (some ⟨g, 0, none⟩) n c).ownBlock = some b) W (W4.setCell ⟨g, i * 2, none⟩ (.slice a' (r i).n c')) := Kp.setCell (p := ⟨g, i * 2, none⟩) k1 rfl _
  have k3 : Kp (fun b => (Value.slice (some ⟨g, 0, none⟩) n c).ownBlock = some b) W4 (W4.setCell ⟨g, i * 2, none⟩ (.slice a' (r i).n c')) := Kp.setCell (M := fun b => (Value.slice (some ⟨g, 0, none⟩) n c).ownBlock = some b) (p := ⟨g, i * 2, none⟩) (Kp.refl _ _) rfl _
  have hnew : ∀ b, (Value.slice a' (r i).n c').ownBlock = some b → W.heap.size ≤ b := fun b e => by have := (own_bd o b e).1; omega
  have u1 : up r i ⟨a', (r i).n, c', (r i).f, (r i).x⟩ i = ⟨a', (r i).n, c', (r i).f, (r i).x⟩ := if_pos rfl
  have u2 : ∀ j, j ≠ i → up r i ⟨a', (r i).n, c', (r i).f, (r i).x⟩ j = r j := fun j hj => if_neg hj
  refine ⟨?_, fun j => ?_, fun j hj => ?_, fun j hj => ?_, fun j k hjk hk => ?_, h.kp.trans k2⟩
  · rw [← fl_set r i a' c' n hi]
    exact (World.ownsRow.stored (kept_row h.row hb) (i * 2) _).1
  · by_cases e : j = i
    · rw [e, u1]
      exact h.core i
    · rw [u2 j e]
      exact h.core j
  · rw [u2 j (by omega)]
    exact h.old j (by omega)
  · by_cases e : j = i
    · rw [e, u1]
      refine ⟨?_, fun b hb1 hb2 => ?_⟩
      · exact k3.row (World.ownsRow.mono o (by omega)) fun b e1 e2 => by
          have := hnew b e1
          obtain rfl : g = b := Option.some.inj e2
          omega
      · have := hnew b hb2
        obtain rfl : g = b := Option.some.inj hb1
        omega
    · rw [u2 j e]
      obtain ⟨h1, h2⟩ := h.own j (by omega)
      exact ⟨own_kp k2 h1 fun b e1 e2 => h2 b e2 e1, h2⟩
  · rw [u2 j (by omega)]
    by_cases e : k = i
    · rw [e, u1]
      intro b h1 h2
      have := hnew b h2
      have := (own_bd (h.own j (by omega)).1 b h1).2
      omega
    · rw [u2 k e]
      exact h.apart j k hjk (by omega)
set_option maxRecDepth 100000 in
set_option maxHeartbeats 8000000 in
/-- Vector. -/
theorem vector_any (a : Option Addr) (n c : Nat) (q : Nat → El) (w : World) (h : Em w a q n) (hz : a = none → n = 0) (hE : ∀ j, j < n → Eo w (q j)) (hB : ∀ j, j < n → ∀ b o, (q j).a = some ⟨b, o, none⟩ → b < w.heap.size) (hT : Lib.Utf8Tabs 2 3 w) (hn : n ≤ 1099511627776) :
    Calls Tryz.prog 18 #[.slice a n c] w (VR q n w) := by
  have k1 := contains_el a n c q w h hE hT (by omega)
  have HK : Hid (∀ W, Below w.heap.size w W → Calls Tryz.prog 42 #[.slice a n c] W fun e w' => ∃ v, e = .returned v ∧ w'.ownsRow W.heap.size 31 2 v n (fl e2 (elL q n)) ∧ Below W.heap.size W w') := (show ∀ W, _ → _ from fun W b => clone_el a n c q W (h.below b) hz (by omega))
  have HE : Hid (∀ j, j < n → Eo w (q j)) := hE
  have HO : Hid (∀ j, j < n → ∀ b o, (q j).a = some ⟨b, o, none⟩ → b < w.heap.size) := hB
  clear h hz hE hT hB
  go_enter Tryz.func18, Tryz.ntmps18
  go_wp2_with fail
  go_fit k1
  rintro e w1 ⟨bd, rfl, hbd, b1⟩
  have B1 : Hid (Below w.heap.size w w1) := b1
  clear k1 b1
  cases bd
  · have hok : ∀ j, j < n → okE (q j) = true := fun j hj => by
      cases ho : okE (q j)
      · have := hbd.2 ⟨j, hj, ho⟩
        cases this
      · rfl
    have HOK : Hid (∀ j, j < n → okE (q j) = true) := hok
    have k2 := HK.out w1 B1.out
    clear hok hbd HK
    go_wp2_with fail
    go_fit k2
    rintro e w2 ⟨v, rfl, o2, b2⟩
    have B2 : Hid (Below w.heap.size w w2) := B1.out.trans (b2.mono B1.out.size)
    have hll := elL_len q n
    have k3 := sort_row w2 w.heap.size v (elL q n) (by omega) (by rw [hll]; exact World.ownsRow.mono o2 B1.out.size) B2.out.size (fun e he => by
      obtain ⟨j, hj, rfl⟩ : ∃ j, j < n ∧ q j = e := by simpa [elL] using he
      refine ⟨(HE.out j hj).1.below B2.out, ?_, HO.out j hj⟩
      have := (HE.out j hj).2.1
      omega)
    clear k2 o2 b2 B1
    go_wp2_with fail
    go_fit k3
    rintro e w3 ⟨rfl, ks, hp, hs, o3, b3⟩
    have hkl : ks.length = n := by rw [hp.length_eq, hll]
    obtain ⟨q0, hq0⟩ : ∃ q0 : Nat → El, elL q0 n = ks := ⟨fun j => ks.getD j ⟨none, 0, 0, fun _ => (⟨#[]⟩, ⟨#[]⟩), 0⟩, by
      apply List.ext_getElem (by simp [elL, hkl])
      intro j h1 h2
      simp [elL, h2]⟩
    obtain ⟨a0, c0, hv⟩ := row_sl o3
    subst hv
    have B3 : Hid (Below w.heap.size w w3) := B2.out.trans b3
    have HX : Hid (∀ j, j < n → Eo w (q0 j) ∧ ∀ b o, (q0 j).a = some ⟨b, o, none⟩ → b < w.heap.size) := (show ∀ j, _ → _ from fun j hj => by
      have hm : q0 j ∈ elL q n := hp.subset (by rw [← hq0]; exact List.mem_of_getElem? (elL_get q0 n j hj))
      obtain ⟨i, hi, he⟩ : ∃ i, i < n ∧ q i = q0 j := by simpa [elL] using hm
      rw [← he]
      exact ⟨HE.out i hi, HO.out i hi⟩)
    have HP : Hid ((elL q0 n).Perm (elL q n) ∧ (elL q0 n).Pairwise (fun x y => ¬ cfE y x < 0)) := (show _ ∧ _ by rw [hq0]; exact ⟨hp, hs.imp (fun h => by omega)⟩)
    rw [hkl, ← hq0] at o3
    have O3 : Hid (w3.ownsRow w.heap.size 31 2 (.slice a0 n c0) n (fl e2 (elL q0 n))) := by rw [← hkl] at o3 ⊢; exact o3
    rw [hkl]
    clear hp hs hq0 hkl o3 k3 hll B2 HE HO b3
    go_wp2_with fail
    go_loopw [16] (fun t w' => ∃ i : Nat, t = .int .i64 (i : Int) ∧ i ≤ n ∧ Hid (∀ j, j + 1 < i → cfE (q0 j) (q0 (j + 1)) ≠ 0) ∧ Hid (Below w3.heap.size w3 w')) (fun t _ => n - (RowKit.intOf t).toNat)
    case atStart => exact ⟨0, rfl, by omega, fun j hj => absurd hj (by omega), Below.refl _ _⟩
    case round =>
      obtain ⟨i, rfl, hi, HI, HW⟩ := hrel
      by_cases hlt : i < n
      · have hii : (i : Int) < n := by omega
        have i0 : (0 : Int) ≤ (i : Int) := by omega
        rcases Nat.eq_zero_or_pos i with rfl | hpos
        · go_upto_region 8 with fail
          go_quiet (fail)
          go_wp2
          exact ⟨⟨1, by go_num, by omega, (show ∀ j, _ → _ from fun j hj => absurd hj (by omega)), below_drewN HW.out _⟩, by simp [RowKit.intOf]; omega⟩
        · obtain ⟨k, rfl⟩ : ∃ k, i = k + 1 := ⟨i - 1, by omega⟩
          have g0 : (k : Int) + 1 > 0 := by omega
          have g1 : IntKind.i64.wrap ((k : Int) + 1 - 1) = (k : Int) := by rw [IntKind.wrap_i64]; omega
          have g2 : (k : Int) < n := by omega
          have g5 : IntKind.i64.wrap (k : Int) = (k : Int) := by rw [IntKind.wrap_i64]; omega
          have g3 : (0 : Int) ≤ (k : Int) := by omega
          have g4 : (0 : Int) ≤ (k : Int) + 1 := by omega
          have HO : Hid (∀ W, Below w3.heap.size w3 W → w3.ownsRow w.heap.size 31 2 (.slice a0 n c0) n (fl e2 (elL q0 n))) := fun W b => O3.out
          have HM : Hid (Em w3 a0 q0 n) := (show Em _ _ _ _ from elM_row O3.out)
          obtain ⟨g, o, rfl, hg, x0, x1⟩ := (HM.out.below HW.out).at k (by omega)
          have hM2 := HM.out.below HW.out
          obtain ⟨g', o', e9, _, y0, y1⟩ := hM2.at (k + 1) hlt
          cases e9
          have kE := fun W (b : Below w3.heap.size w3 W) => elems_gr (q0 k) (q0 (k + 1)) W (((HX.out k (by omega)).1.1.below B3.out).below b) (((HX.out (k + 1) hlt).1.1.below B3.out).below b) (by have := (HX.out k (by omega)).1.2.1; omega) (by have := (HX.out (k + 1) hlt).1.2.1; omega)
          unfold elV at kE
          have HKE : Hid (∀ W, Below wr.heap.size wr W → Calls Tryz.prog 44 #[elV (q0 k), elV (q0 (k + 1))] W fun e w' => e = .returned (.int .i64 (cfE (q0 k) (q0 (k + 1)))) ∧ Below W.heap.size W w') := (show ∀ W, _ → _ from fun W b => (kE W (HW.out.trans (b.mono HW.out.size))).mono fun e w' h => ⟨h.1, h.2.below⟩)
          clear kE hM2 HM HO
          unfold elV at HKE
          have HSX : Hid (∀ W, Below wr.heap.size wr W → (W.cell? ⟨g, o + k * 2, none⟩ = some (.slice (q0 k).a (q0 k).n (q0 k).c) ∧ W.cell? ⟨g, o + k * 2 + 1, none⟩ = some (.float .f64 (q0 k).x) ∧ W.cell? ⟨g, o + (k + 1) * 2, none⟩ = some (.slice (q0 (k + 1)).a (q0 (k + 1)).n (q0 (k + 1)).c) ∧ W.cell? ⟨g, o + (k + 1) * 2 + 1, none⟩ = some (.float .f64 (q0 (k + 1)).x)) ∧ Below wr.heap.size wr W) := (show ∀ W, _ → _ from fun W b => ⟨⟨bcell2 b x0, bcell2 b x1, bcell2 b y0, bcell2 b y1⟩, b⟩)
          obtain ⟨CF, hCF⟩ : ∃ C, cfE (q0 k) (q0 (k + 1)) = C := ⟨_, rfl⟩
          rw [hCF] at HKE
          have HCF : Hid (cfE (q0 k) (q0 (k + 1)) = CF) := hCF
          clear hCF
          generalize (q0 k).a = xa at *
          generalize (q0 k).n = xn at *
          generalize (q0 k).c = xc at *
          generalize (q0 k).x = xx at *
          generalize (q0 (k + 1)).a = ya at *
          generalize (q0 (k + 1)).n = yn at *
          generalize (q0 (k + 1)).c = yc at *
          generalize (q0 (k + 1)).x = yx at *
          have bd : Below wr.heap.size wr wr.drew := (Below.refl _ _).drew
          go_upto_region 8 with fail
          go_region_held3 (fun w2 => (w2.cell? ⟨g, o + k * 2, none⟩ = some (.slice xa xn xc) ∧ w2.cell? ⟨g, o + k * 2 + 1, none⟩ = some (.float .f64 xx) ∧ w2.cell? ⟨g, o + (k + 1) * 2, none⟩ = some (.slice ya yn yc) ∧ w2.cell? ⟨g, o + (k + 1) * 2 + 1, none⟩ = some (.float .f64 yx)) ∧ Below wr.heap.size wr w2) (first | exact HSX.out _ (by assumption) | exact HSX.out _ (Below.drew (by assumption))) (first | (go_at_call 44; go_fit (HKE.out _ (by first | exact bd | exact Below.refl _ _)); rintro e w12 ⟨rfl, b12⟩; have bc : Below wr.heap.size wr w12 := by first | exact bd.trans (b12.mono bd.size) | exact b12))
          rename_i hh
          have HB12 : Hid (Below w.heap.size w w12) := B3.out.trans ((HW.out.trans (bc.mono HW.out.size)).mono B3.out.size)
          have HB3 : Hid (Below w3.heap.size w3 w12) := HW.out.trans (bc.mono HW.out.size)
          clear hh HSX HKE bc b12 bd x0 x1 y0 y1
          by_cases hc : CF = 0
          · subst hc
            go_wp2
            go_ret2
            refine ⟨_, _, rfl, HB12.out, .inl ⟨rfl, rfl, .inr fun hpw => ?_⟩⟩
            have h9 := pair_perm HP.out.1.symm hpw
            rw [List.pairwise_iff_getElem] at h9
            have h8 := h9 k (k + 1) (by rw [elL_len]; omega) (by rw [elL_len]; omega) (by omega)
            simp only [elL, List.getElem_map, List.getElem_range] at h8
            exact h8 HCF.out
          · go_wp2
            refine ⟨⟨k + 2, by go_num, by omega, (show ∀ j, _ → _ from fun j hj => ?_), HB3⟩, by simp [RowKit.intOf]; omega⟩
            by_cases e : j = k
            · rw [e, HCF.out]
              exact hc
            · exact HI.out j (by omega)
      · obtain rfl : i = n := by omega
        have hii : ¬ (i : Int) < i := by omega
        have HIv : Hid (Iv w.heap.size w3 (.slice a0 i c0) i q0 q0 0 wr) := (show Iv _ _ _ _ _ _ _ _ from ⟨kept_row O3.out HW.out, fun _ => rfl, fun _ _ => rfl, fun j hj => absurd hj (by omega), fun j k h1 h2 => absurd h2 (by omega), Kp.of HW.out⟩)
        have HLT : Hid (∀ j, j + 1 < i → cfE (q0 j) (q0 (j + 1)) ≠ 0) := HI
        clear HI HW O3
        go_wp2_with fail
        go_loopw [37] (fun t w' => ∃ (j : Nat) (r : Nat → El), t = .int .i64 (j : Int) ∧ j ≤ i ∧ Hid (Iv w.heap.size w3 (.slice a0 i c0) i q0 r j w')) (fun t _ => i - (RowKit.intOf t).toNat)
        case atStart => exact ⟨0, q0, rfl, by omega, HIv⟩
        case round =>
          obtain ⟨j, r, rfl, hj, HV⟩ := hrel
          by_cases hlt2 : j < i
          · have hii2 : (j : Int) < i := by omega
            have j0 : (0 : Int) ≤ (j : Int) := by omega
            obtain ⟨g, o, rfl, hg, x0, x1⟩ := (elM_row HV.out.row).at j hlt2
            obtain rfl : o = 0 := by
              rcases HV.out.row.2 with ⟨e9, _⟩ | ⟨_, _, _, e9, _⟩
              · cases e9
              · cases e9
                rfl
            have hBW : Below w.heap.size w wr := B3.out.trans (HV.out.kp.below B3.out.size fun b hb e => by have := (own_bd HV.out.row b e).1; omega)
            have hX := HX.out j hlt2
            rw [← HV.out.old j (Nat.le_refl _)] at hX
            have kD := copiedList_any (r j).a (r j).f (r j).n (r j).c (wr.alloc (elX (r j))) ((hX.1.1.below hBW).below ((Below.refl _ wr).alloc (Nat.le_refl _) _)) hX.1.2.1 hX.1.2.2
            have HST : Hid (∀ W4 a' c', Below (wr.alloc (elX (r j))).heap.size (wr.alloc (elX (r j))) W4 → W4.ownsRow (wr.alloc (elX (r j))).heap.size 61 2 (.slice a' (r j).n c') (r j).n (lcL (K.ll (r j).f (r j).n)) → Iv w.heap.size w3 (.slice (some ⟨g, 0, none⟩) i c0) i q0 (up r j ⟨a', (r j).n, c', (r j).f, (r j).x⟩) (j + 1) (W4.setCell ⟨g, j * 2, none⟩ (.slice a' (r j).n c')) ∧ W4.cell? ⟨g, j * 2, none⟩ = some (.slice (r j).a (r j).n (r j).c)) := (show ∀ W4 a' c', _ → _ from fun W4 a' c' b o => by
              have b4 : Below wr.heap.size wr W4 := ((Below.refl _ wr).alloc (Nat.le_refl _) (elX (r j))).trans (b.mono (by simp))
              obtain ⟨_, _, e9, _, y0, _⟩ := ((elM_row HV.out.row).below b4).at j hlt2
              cases e9
              rw [Nat.zero_add] at y0
              exact ⟨HV.out.step hlt2 hBW.size b4 o (by simp), y0⟩)
            have HFZ : Hid (∀ W4, Below (wr.alloc (elX (r j))).heap.size (wr.alloc (elX (r j))) W4 → W4.frozen? ⟨g, j * 2, none⟩ = false) := (show ∀ W4, _ → _ from fun W4 b => by
              have b4 : Below wr.heap.size wr W4 := ((Below.refl _ wr).alloc (Nat.le_refl _) (elX (r j))).trans (b.mono (by simp))
              rcases (kept_row HV.out.row b4).2 with ⟨e, _⟩ | ⟨G, _, cur, e, _, hh, _⟩
              · cases e
              · cases e
                simp [World.frozen?, hh])
            clear hX hBW HV HX
            unfold elX at kD HST HFZ
            rw [Nat.zero_add] at x0 x1
            obtain ⟨⟨ea, en, ec, ef, ex⟩, hre⟩ : ∃ x, r j = x := ⟨_, rfl⟩
            rw [hre] at x0 x1 kD HST HFZ
            dsimp only at x0 x1 kD HST HFZ
            clear hre
            go_wp2_with fail
            go_fit kD
            rintro e w4 ⟨v4, rfl, o4, b4⟩
            obtain ⟨a', c', hv⟩ := row_sl o4
            subst hv
            obtain ⟨hiv, y0⟩ := HST.out w4 a' c' b4 o4
            have hfz := HFZ.out w4 b4
            have HV2 : Hid (Iv w.heap.size w3 (.slice (some ⟨g, 0, none⟩) i c0) i q0 (up r j ⟨a', en, c', ef, ex⟩) (j + 1) (w4.setCell ⟨g, j * 2, none⟩ (.slice a' en c'))) := hiv
            clear kD HST HFZ hiv o4 b4 x0 x1
            go_wp2
            exact ⟨⟨j + 1, _, by go_num, by omega, HV2⟩, by simp [RowKit.intOf]; omega⟩
          · obtain rfl : j = i := by omega
            have hii2 : ¬ (j : Int) < j := by omega
            go_wp2
            go_ret2
            have hb9 := B3.out.trans (HV.out.kp.below B3.out.size fun b hb e => by have := (own_bd HV.out.row b e).1; omega)
            refine ⟨_, _, rfl, hb9, .inr ⟨rfl, HOK.out, elL q0 j, r, HP.out.1, ?_, ⟨HV.out.row, HV.out.own, HV.out.apart⟩, ?_⟩⟩
            · refine pair_lt (HP.out.2.imp fun h => by omega) fun k hk => ?_
              rw [elL_len] at hk
              simp only [elL, List.getElem_map, List.getElem_range]
              exact HLT.out k hk
            · simp only [elL, List.map_map]
              exact List.map_congr_left fun k _ => HV.out.core k
  · have HbD : Hid (∃ j, j < n ∧ okE (q j) = false) := (show ∃ j, _ from hbd.1 rfl)
    clear hbd
    go_wp2
    go_ret2
    exact ⟨_, _, rfl, B1.out, .inl ⟨rfl, rfl, .inl HbD.out⟩⟩
end Go.Proofs.YtebjklppbkkinaaGreatDoor
/- The reference's sort of elements: mathematics; appends. -/
namespace Go.Proofs.YtebjklppbkkinaaGreatDoor
open Go.RowKit Go.Lib Go.Shelf Go.Sort

abbrev leE (x y : El) : Prop := cfE x y ≤ 0
theorem leE_trans {x y z : El} (h1 : leE x y) (h2 : leE y z) : leE x z := (cm_trans x.f y.f z.f x.n y.n z.n h1 h2).1
theorem leE_total {x y : El} (h : ¬ leE x y) : leE y x := by
  have := cm_anti x.f y.f x.n y.n
  unfold leE cfE at *
  omega
def zE : El := ⟨none, 0, 0, fun _ => (⟨#[]⟩, ⟨#[]⟩), 0⟩
def gE (l : List El) : Nat → El := fun j => l.getD j zE
theorem elL_gE (l : List El) : elL (gE l) l.length = l := by
  apply List.ext_getElem (by simp [elL])
  intro i h1 h2
  simp [elL, gE, h2]
theorem gE_at (l : List El) (j : Nat) (h : j < l.length) : gE l j = l[j] := by simp [gE, h]
theorem elL_split (q : Nat → El) (h k : Nat) : elL q (h + k) = elL q h ++ elL (fun j => q (h + j)) k := by
  unfold elL
  rw [List.range_add, List.map_append, List.map_map]
  rfl
/-- A merge under way. -/
structure Mg (A B L : List El) (i j : Nat) : Prop where
  perm : L.Perm (A.take i ++ B.take j)
  sort : L.Pairwise leE
  la : ∀ x ∈ L, ∀ y ∈ A.drop i, leE x y
  lb : ∀ x ∈ L, ∀ y ∈ B.drop j, leE x y
theorem Mg.zero (A B : List El) : Mg A B [] 0 0 := ⟨by simp, List.Pairwise.nil, fun x h => by simp at h, fun x h => by simp at h⟩
theorem Mg.left {A B L : List El} {i j : Nat} (h : Mg A B L i j) (hA : A.Pairwise leE) (hB : B.Pairwise leE) (hi : i < A.length) (hc : j = B.length ∨ ∃ hj : j < B.length, leE A[i] B[j]) : Mg A B (L ++ [A[i]]) (i + 1) j := by
  have eA : A.drop i = A[i] :: A.drop (i + 1) := List.drop_eq_getElem_cons hi
  have pA : (A.drop i).Pairwise leE := hA.sublist (List.drop_sublist i A)
  rw [eA] at pA
  have hB2 : ∀ y ∈ B.drop j, leE A[i] y := fun y hy => by
    rcases hc with rfl | ⟨hj, hle⟩
    · simp at hy
    · have eB : B.drop j = B[j] :: B.drop (j + 1) := List.drop_eq_getElem_cons hj
      have pB : (B.drop j).Pairwise leE := hB.sublist (List.drop_sublist j B)
      rw [eB] at pB hy
      rcases List.mem_cons.1 hy with rfl | hy
      · exact hle
      · exact leE_trans hle ((List.pairwise_cons.1 pB).1 y hy)
  refine ⟨?_, ?_, fun x hx y hy => ?_, fun x hx y hy => ?_⟩
  · rw [List.take_succ_eq_append_getElem hi]
    have h1 := h.perm.append_right [A[i]]
    refine h1.trans ?_
    rw [List.append_assoc, List.append_assoc]
    exact List.Perm.append_left _ List.perm_append_comm
  · refine List.pairwise_append.2 ⟨h.sort, List.pairwise_singleton _ _, fun x hx y hy => ?_⟩
    obtain rfl := List.mem_singleton.1 hy
    exact h.la x hx _ (eA ▸ List.mem_cons_self)
  · rcases List.mem_append.1 hx with hx | hx
    · exact h.la x hx y (by rw [eA]; exact List.mem_cons_of_mem _ hy)
    · obtain rfl := List.mem_singleton.1 hx
      exact (List.pairwise_cons.1 pA).1 y hy
  · rcases List.mem_append.1 hx with hx | hx
    · exact h.lb x hx y hy
    · obtain rfl := List.mem_singleton.1 hx
      exact hB2 y hy
theorem Mg.right {A B L : List El} {i j : Nat} (h : Mg A B L i j) (hA : A.Pairwise leE) (hB : B.Pairwise leE) (hj : j < B.length) (hc : i = A.length ∨ ∃ hi : i < A.length, leE B[j] A[i]) : Mg A B (L ++ [B[j]]) i (j + 1) := by
  have eB : B.drop j = B[j] :: B.drop (j + 1) := List.drop_eq_getElem_cons hj
  have pB : (B.drop j).Pairwise leE := hB.sublist (List.drop_sublist j B)
  rw [eB] at pB
  have hA2 : ∀ y ∈ A.drop i, leE B[j] y := fun y hy => by
    rcases hc with rfl | ⟨hi, hle⟩
    · simp at hy
    · have eA : A.drop i = A[i] :: A.drop (i + 1) := List.drop_eq_getElem_cons hi
      have pA : (A.drop i).Pairwise leE := hA.sublist (List.drop_sublist i A)
      rw [eA] at pA hy
      rcases List.mem_cons.1 hy with rfl | hy
      · exact hle
      · exact leE_trans hle ((List.pairwise_cons.1 pA).1 y hy)
  refine ⟨?_, ?_, fun x hx y hy => ?_, fun x hx y hy => ?_⟩
  · rw [List.take_succ_eq_append_getElem hj, ← List.append_assoc]
    exact h.perm.append_right _
  · refine List.pairwise_append.2 ⟨h.sort, List.pairwise_singleton _ _, fun x hx y hy => ?_⟩
    obtain rfl := List.mem_singleton.1 hy
    exact h.lb x hx _ (eB ▸ List.mem_cons_self)
  · rcases List.mem_append.1 hx with hx | hx
    · exact h.la x hx y hy
    · obtain rfl := List.mem_singleton.1 hx
      exact hA2 y hy
  · rcases List.mem_append.1 hx with hx | hx
    · exact h.lb x hx y (by rw [eB]; exact List.mem_cons_of_mem _ hy)
    · obtain rfl := List.mem_singleton.1 hx
      exact (List.pairwise_cons.1 pB).1 y hy
theorem Mg.len {A B L : List El} {i j : Nat} (h : Mg A B L i j) (hi : i ≤ A.length) (hj : j ≤ B.length) : L.length = i + j := by
  rw [h.perm.length_eq, List.length_append, List.length_take, List.length_take]
  omega
/-- One element behind a row. -/
theorem ap_el (w : World) (S : Nat) (v : Value) (n : Nat) (xs : List Value) (x : El) (hS : S ≤ w.heap.size) (hn : (n + 1) * 32 ≤ 140737488355328) (o : w.ownsRow S 31 2 v n xs) :
    ∃ g c w', (Builtin.append_ #[22, 22] 22 #[v, .slice (some ⟨w.heap.size, 0, none⟩) 1 1]).run Tryz.prog (w.alloc (elX x)) = .ok (.slice (some ⟨g, 0, none⟩) (n + 1) c) w' ∧ w'.ownsRow S 31 2 (.slice (some ⟨g, 0, none⟩) (n + 1) c) (n + 1) (xs ++ e2 x) ∧ Kp (fun k => v.ownBlock = some k) w w' := by
  obtain ⟨i0, hi, hz0, hz1, hz2⟩ := info_parts infE
  have o0 := World.ownsRow.alloc o (elX x)
  have e : (w.alloc (elX x)).heap[w.heap.size]? = some (elX x) := heap_alloc_new w _
  obtain ⟨v', w', r, o', g, _⟩ := run_append_own (P := Tryz.prog) (w.alloc (elX x)) S 22 22 31 i0 _ 2 32 Tryz.underlying22 hi hz0 hz1 hz2 rfl (by decide) _ n xs o0 ⟨w.heap.size, 0, none⟩ 1 1 (e2 x) (by rfl)
    (fun j u hj => by
      rw [Go.WideShapes.add_plain, Nat.zero_add]
      unfold World.cell?
      rw [e]
      simpa [e2] using hj) (by intro u hu; simp [e2] at hu; rcases hu with rfl | rfl <;> rfl) (by unfold maxLen; omega) hn (by simp; omega)
  rcases o'.2 with ⟨_, h0⟩ | ⟨G, C, cur, rfl, _⟩
  · omega
  · exact ⟨G, C, w', r, o', ((Kp.refl _ w).trans (Kp.of ((Below.refl _ w).alloc (Nat.le_refl _) _))).grown g (fun k hk _ => hk)⟩
/-- append(nil, v...). -/
theorem ap_all (w : World) (a : Option Addr) (n c : Nat) (q : Nat → El) (h : Em w a q n) (hz : a = none → n = 0 ∧ c = 0) (hn : n * 32 ≤ 140737488355328) :
    ∃ v' w', (Builtin.append_ #[22, 22] 22 #[.slice none 0 0, .slice a n c]).run Tryz.prog w = .ok v' w' ∧ w'.ownsRow w.heap.size 31 2 v' n (fl e2 (elL q n)) ∧ Below w.heap.size w w' := by
  obtain ⟨i0, hi, hz0, hz1, hz2⟩ := info_parts infE
  cases a with
  | none =>
    obtain ⟨rfl, rfl⟩ := hz rfl
    exact ⟨_, w, run_append_owned_none w w.heap.size 22 22 31 i0 2 Tryz.underlying22 hi _ 0 [] (World.ownsRow_nil _ _ _ _), World.ownsRow_nil _ _ _ _, Below.refl _ _⟩
  | some p =>
    obtain ⟨v', w', r, o', gr, _⟩ := run_append_own (P := Tryz.prog) w w.heap.size 22 22 31 i0 _ 2 32 Tryz.underlying22 hi hz0 hz1 hz2 rfl (by decide) _ 0 [] (World.ownsRow_nil w w.heap.size 31 2) p n c (fl e2 (elL q n)) (by rw [fl_len e2_len, elL_len])
      (fun j u hj => h.cells j u hj) (fl_cell1 _) (by unfold maxLen; omega) (by omega) (Nat.le_refl _)
    exact ⟨v', w', r, by simpa using o', (Below.refl _ w).grown gr (Nat.le_refl _) (fun k hk => by simp [Value.ownBlock] at hk)⟩
theorem Em.take {w : World} {a : Option Addr} {q : Nat → El} {n : Nat} (h : Em w a q n) (k : Nat) (hk : k ≤ n) : Em w a q k := by
  rcases h with h | ⟨g, o, e, hg, hc⟩
  · exact .inl (by omega)
  · exact .inr ⟨g, o, e, hg, fun j hj => hc j (by omega)⟩
theorem Em.drop {w : World} {g o n : Nat} {q : Nat → El} (h : Em w (some ⟨g, o, none⟩) q n) (k : Nat) (hk : k ≤ n) : Em w (some ⟨g, o + k * 2, none⟩) (fun j => q (k + j)) (n - k) := by
  rcases h with h | ⟨g', o', e, hg, hc⟩
  · exact .inl (by omega)
  · cases e
    refine .inr ⟨g, o + k * 2, rfl, hg, fun j hj => ?_⟩
    have := hc (k + j) (by omega)
    rw [show o + (k + j) * 2 = o + k * 2 + j * 2 by omega] at this
    exact this
end Go.Proofs.YtebjklppbkkinaaGreatDoor
