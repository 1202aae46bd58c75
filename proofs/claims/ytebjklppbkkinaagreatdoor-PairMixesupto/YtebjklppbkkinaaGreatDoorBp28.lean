/- A bundle of texts. -/
import Derived.Test.YtebjklppbkkinaaGreatDoorBp27
import Derived.Deep.RegionHeld3
import Derived.Deep.CutBlock
import Derived.Deep.QuietTactic
/- Pair: DeleteFunc over labels, walked; nameless. -/
namespace Go.Proofs.YtebjklppbkkinaaGreatDoor
open Go.RowKit Go.Lib Go.Shelf Go.Sort

attribute [local go_sem] Oper.semAt_some

set_option maxHeartbeats 8000000 in
set_option maxRecDepth 100000 in
theorem delete_any (S g c n : Nat) (f : Nat → Lb) (w : World) (h : K.Ir w S (.slice (some ⟨g, 0, none⟩) n c) n f) (hn : n ≤ 1099511627776) :
    Calls Tryz.prog 55 #[.slice (some ⟨g, 0, none⟩) n c, .func (.func 56) #[] #[]] w fun e w' => ∃ m, e = .returned (.slice (some ⟨g, 0, none⟩) m c) ∧ m = (dN f n).length ∧ K.Ir w' S (.slice (some ⟨g, 0, none⟩) m c) m (K.gL (dN f n)) ∧ Kp (fun b => b = g) w w' := by
  have hcap : n ≤ c ∧ c ≤ 9223372036854775807 := by
    rcases h.2 with ⟨e, _⟩ | ⟨_, cap, cur, e, _, _, h1, h2, _⟩
    · cases e
    · cases e
      unfold maxLen at h2
      exact ⟨h1, h2⟩
  obtain ⟨a9, c9, e9, hL, _⟩ := h.iml
  cases e9
  have k1 := indexN_any (some ⟨g, 0, none⟩) f n c w hL (by omega)
  have e56 : ∀ args w, (callFunc 56 args).run Tryz.prog w = .ok (.enter 56 args) w := enters_of Tryz.func56 (by kernel_rfl) rfl
  have HR : Hid (K.Ir w S (.slice (some ⟨g, 0, none⟩) n c) n f) := h
  have hni : (n : Int) ≤ 1099511627776 := by omega
  have hci : (n : Int) ≤ (c : Int) := by omega
  have hci2 : (c : Int) ≤ 9223372036854775807 := by omega
  clear h hL
  go_enter Tryz.func55, Tryz.ntmps55
  go_wp2_with fail
  go_fit k1
  rintro e w1 ⟨k, rfl, b1, ⟨rfl, hno⟩ | ⟨i0, rfl, hi0, hN, hlow⟩⟩
  · have HB : Hid (K.Ir w1 S (.slice (some ⟨g, 0, none⟩) n c) n (K.gL (dN f n)) ∧ n = (dN f n).length ∧ Kp (fun b => b = g) w w1) := (show _ ∧ _ ∧ _ by
      rw [dN_none f n hno, K.ll_len]
      exact ⟨(HR.out.below b1).congr fun j hj => (gL_ll f n j hj).symm, rfl, Kp.of b1⟩)
    clear k1 b1 hno
    go_wp2
    go_ret
    exact ⟨n, rfl, HB.out.2.1, HB.out.1, HB.out.2.2⟩
  · have HB1 : Hid (Kp (fun b => b = g) w w1) := Kp.of b1
    have HD : Hid (Dl S g c n f w1 i0 (i0 + 1) f w1) := (show Dl _ _ _ _ _ _ _ _ _ _ by
      have e1 : dN f (i0 + 1) = K.ll f i0 := by rw [dN_succ, if_pos hN, List.append_nil, dN_none f i0 hlow]
      exact ⟨HR.out.below b1, fun m hm => by rw [e1]; exact (gL_ll f i0 m hm).symm, by rw [e1, K.ll_len], fun _ _ => rfl, Kp.refl _ _⟩)
    have hne : ((i0 : Int) == -1) = false := by simp
    have hne2 : ¬ (i0 : Int) = -1 := by omega
    have HI0 : Hid (i0 + 1 ≤ n) := hi0
    have hi0i : (i0 : Int) < n := by omega
    clear k1 b1 hlow hN hi0
    go_wp2_with fail
    clear hne hne2
    go_loopw [5, 6] (fun iv jv W => ∃ (i j : Nat) (h : Nat → Lb), iv = .int .i64 (i : Int) ∧ jv = .int .i64 (j : Int) ∧ Hid (i < j) ∧ j ≤ n ∧ Hid (Dl S g c n f w1 i j h W)) (fun _ jv _ => n - (RowKit.intOf jv).toNat)
    case atStart => exact ⟨i0, i0 + 1, f, rfl, by go_num, (show i0 < i0 + 1 by omega), HI0.out, HD⟩
    case round =>
      obtain ⟨i, j, h, rfl, rfl, HIJ, hj, HX⟩ := hrel
      clear hi0i
      by_cases hlt : j < n
      · have hjj : (j : Int) < n := by omega
        have j0 : (0 : Int) ≤ (j : Int) := by omega
        have hin : i < n := by have := HIJ.out; omega
        have hii : (i : Int) < n := by omega
        have i0' : (0 : Int) ≤ (i : Int) := by omega
        obtain ⟨x0, x1, _⟩ := HX.out.row.cells j hlt
        rw [HX.out.up j (Nat.le_refl _)] at x0 x1
        have kN := nameless1_any (f j) (wr.alloc (lbX (f j)))
        have bA : Below wr.heap.size wr (wr.alloc (lbX (f j))) := (Below.refl _ wr).alloc (Nat.le_refl _) _
        have HJ : Hid (j < n ∧ i < n) := ⟨hlt, hin⟩
        have HST : Hid (∀ W', Below (wr.alloc (lbX (f j))).heap.size (wr.alloc (lbX (f j))) W' → (isN (f j) = true → Dl S g c n f w1 i (j + 1) h W') ∧ (isN (f j) = false → Dl S g c n f w1 (i + 1) (j + 1) (K.up h i (f j)) ((W'.setCell ⟨g, i * 2, none⟩ (.string (f j).1)).setCell ⟨g, i * 2 + 1, none⟩ (.string (f j).2))) ∧ (∃ u0 u1, W'.cell? ⟨g, i * 2, none⟩ = some (.string u0) ∧ W'.cell? ⟨g, i * 2 + 1, none⟩ = some (.string u1)) ∧ W'.frozen? ⟨g, i * 2, none⟩ = false ∧ W'.frozen? ⟨g, i * 2 + 1, none⟩ = false ∧ W'.cell? ⟨wr.heap.size, 0, none⟩ = some (.string (f j).1) ∧ W'.cell? ⟨wr.heap.size, 1, none⟩ = some (.string (f j).2)) := (show ∀ W', _ → _ from fun W' b => by
          have b' : Below wr.heap.size wr W' := bA.trans (b.mono (by simp))
          obtain ⟨y0, y1, y2, y3⟩ := (HX.out.row.below b').cells i hin
          have eh : (wr.alloc (lbX (f j))).heap[wr.heap.size]? = some (lbX (f j)) := heap_alloc_new wr _
          exact ⟨fun e => HX.out.skip e b', fun e => HX.out.keep e hin b', ⟨_, _, y0, y1⟩, y2, y3, bcell2 b (show (wr.alloc (lbX (f j))).cell? ⟨wr.heap.size, 0, none⟩ = some (.string (f j).1) by unfold World.cell?; rw [eh]; rfl), bcell2 b (show (wr.alloc (lbX (f j))).cell? ⟨wr.heap.size, 1, none⟩ = some (.string (f j).2) by unfold World.cell?; rw [eh]; rfl)⟩)
        have HNE : Hid (¬ g = wr.heap.size) := (show ¬ g = wr.heap.size from fun e => by have := (own_bd HX.out.row g rfl).2; omega)
        obtain ⟨b, hb⟩ : ∃ b, isN (f j) = b := ⟨_, rfl⟩
        rw [hb] at kN HST
        clear HX bA hb hin hlt HD
        obtain ⟨⟨y0, y1⟩, hy⟩ : ∃ y, f j = y := ⟨_, rfl⟩
        rw [hy] at kN x0 x1 HST
        unfold lbV at kN
        dsimp only at kN x0 x1 HST
        clear hy
        cases b
        · go_wp2_with fail
          go_fit kN
          rintro e w2 ⟨rfl, b2⟩
          obtain ⟨_, s1, ⟨u0, u1, z0, z1⟩, z2, z3, z4, z5⟩ := HST.out w2 b2
          have HN : Hid (Dl _ _ _ _ _ _ _ _ _ _) := s1 (by trivial)
          have hng := HNE.out
          clear kN b2 HST s1 x0 x1
          go_wp2
          exact ⟨⟨i + 1, j + 1, _, by go_num, by go_num, (show i + 1 < j + 1 by have := HIJ.out; omega), by have := HJ.out; omega, HN⟩, by simp [RowKit.intOf]; have := HJ.out; omega⟩
        · go_wp2_with fail
          go_fit kN
          rintro e w2 ⟨rfl, b2⟩
          have HN : Hid (Dl _ _ _ _ _ _ _ _ _ _) := (HST.out w2 b2).1 (by trivial)
          clear kN b2 HST x0 x1
          go_wp2
          exact ⟨⟨i, j + 1, _, by go_num, by go_num, (show i < j + 1 by have := HIJ.out; omega), by have := HJ.out; omega, HN⟩, by simp [RowKit.intOf]; have := HJ.out; omega⟩
      · obtain rfl : n = j := by omega
        have hjj : ¬ (n : Int) < n := by omega
        have hin : i < n := HIJ.out
        have hii : (i : Int) < n := by omega
        have i0' : (0 : Int) ≤ (i : Int) := by omega
        have cl : ∀ t, t < (n - i) * 2 → (wr.cell? ⟨g, i * 2 + t, none⟩).isSome = true ∧ wr.frozen? ⟨g, i * 2 + t, none⟩ = false := fun t ht => by
          obtain ⟨y0, y1, y2, y3⟩ := HX.out.row.cells (i + t / 2) (by omega)
          rcases Nat.mod_two_eq_zero_or_one t with e | e
          · rw [show i * 2 + t = (i + t / 2) * 2 by omega, y0]
            exact ⟨rfl, y2⟩
          · rw [show i * 2 + t = (i + t / 2) * 2 + 1 by omega, y1]
            exact ⟨rfl, y3⟩
        have rc := fun ty => run_clear_lb wr ty g (i * 2) (n - i) (c - i) (by omega) (fun t ht => (cl t ht).1) (fun t ht => (cl t ht).2)
        have hfin := HX.out.fin (by omega)
        have hl := HX.out.len
        obtain ⟨r1, r2⟩ := row_far (List.replicate ((n - i) * 2) (Value.string ⟨#[]⟩)) (i * 2) wr (show wr.ownsRow S 61 2 (.slice (some ⟨g, 0, none⟩) i c) i (lc (K.gL (dN f n)) i) by
          have := hfin
          rw [← hl] at this
          exact this) (by rw [lc_len]; exact Nat.le_refl _)
        have HF : Hid (K.Ir (wr.setCells g (i * 2) (List.replicate ((n - i) * 2) (Value.string ⟨#[]⟩))) S (.slice (some ⟨g, 0, none⟩) i c) i (K.gL (dN f n)) ∧ i = (dN f n).length ∧ Kp (fun b => b = g) w (wr.setCells g (i * 2) (List.replicate ((n - i) * 2) (Value.string ⟨#[]⟩)))) := (show _ ∧ _ ∧ _ from ⟨r1, hl, (HB1.out.trans HX.out.kp).trans r2⟩)
        clear cl hfin hl r1 r2 HX HD
        generalize wr.setCells g (i * 2) (List.replicate ((n - i) * 2) (Value.string ⟨#[]⟩)) = wE at *
        go_wp2
        go_ret
        exact ⟨i, rfl, HF.out.2.1, HF.out.1, HF.out.2.2⟩
/-- nameless over labels of one's own. -/
theorem nameless_any (S n c : Nat) (a : Option Addr) (f : Nat → Lb) (w : World) (h : K.Ir w S (.slice a n c) n f) (hn : n ≤ 1099511627776) :
    Calls Tryz.prog 26 #[.slice a n c] w fun e w' => ∃ a' m c', e = .returned (.slice a' m c') ∧ m = (dN f n).length ∧ K.Ir w' S (.slice a' m c') m (K.gL (dN f n)) ∧ Kp (fun b => (Value.slice a n c).ownBlock = some b) w w' ∧ (∀ b, (Value.slice a' m c').ownBlock = some b → (Value.slice a n c).ownBlock = some b) := by
  rcases h.2 with ⟨e, h0⟩ | ⟨g, cap, cur, e, _⟩
  · cases e
    have k1 : Calls Tryz.prog 55 #[.slice none 0 0, .func (.func 56) #[] #[]] w fun e w' => e = .returned (.slice none 0 0) ∧ Below w.heap.size w w' := by
      have k1 := indexN_any none f 0 0 w (.inl rfl) (by omega)
      go_enter Tryz.func55, Tryz.ntmps55
      go_wp2_with fail
      go_fit k1
      rintro e w1 ⟨k, rfl, b1, ⟨rfl, hno⟩ | ⟨i0, rfl, hi0, hN, hlow⟩⟩
      · have HB : Hid (Below w.heap.size w w1) := b1
        clear k1 b1 hno
        go_wp2
        go_ret
        exact ⟨rfl, HB.out⟩
      · omega
    have HR : Hid (K.Ir w S (.slice none 0 0) 0 f) := h
    clear h
    go_enter Tryz.func26, Tryz.ntmps26
    go_wp2_with fail
    go_fit k1
    rintro e w1 ⟨rfl, b1⟩
    have HB : Hid (Below w.heap.size w w1) := b1
    clear k1 b1
    go_wp2
    go_ret
    exact ⟨none, 0, 0, rfl, rfl, World.ownsRow_nil _ _ _ _, Kp.of HB.out, fun b hb => hb⟩
  · cases e
    have k1 := delete_any S g c n f w h hn
    clear h
    go_enter Tryz.func26, Tryz.ntmps26
    go_wp2_with fail
    go_fit k1
    rintro e w1 ⟨m, rfl, hm, hr, kp⟩
    have HB : Hid (m = (dN f n).length ∧ K.Ir w1 S (.slice (some ⟨g, 0, none⟩) m c) m (K.gL (dN f n)) ∧ Kp (fun b => b = g) w w1) := ⟨hm, hr, kp⟩
    clear k1 hm hr kp
    go_wp2
    go_ret
    exact ⟨_, m, c, rfl, HB.out.1, HB.out.2.1, ⟨HB.out.2.2.os, HB.out.2.2.tape, HB.out.2.2.output, HB.out.2.2.size, fun b hb hm => HB.out.2.2.block b hb fun e => hm (by rw [e]; rfl)⟩, fun b hb => hb⟩
end Go.Proofs.YtebjklppbkkinaaGreatDoor
/- Pair: ordered. -/
namespace Go.Proofs.YtebjklppbkkinaaGreatDoor
open Go.RowKit Go.Lib Go.Shelf Go.Sort

attribute [local go_sem] Oper.semAt_some run_store_float

theorem cmp53_gr (x y : El) (W : World) (hx : Lm W x.a x.f x.n) (hy : Lm W y.a y.f y.n) (hn : x.n ≤ 1152921504606846976) (hm : y.n ≤ 1152921504606846976) : Calls Tryz.prog 53 #[elV x, elV y] W fun e w' => e = .returned (.int .i64 (cfE x y)) ∧ Gr W w' := by
  obtain ⟨xa, xn, xc, xf, xx⟩ := x
  obtain ⟨ya, yn, yc, yf, yx⟩ := y
  have g0 : Gr W ((W.alloc (.cells #[.slice xa xn xc, .float .f64 xx] 31)).alloc (.cells #[.slice ya yn yc, .float .f64 yx] 31)) := ((Gr.refl W).alloc _).alloc _
  have k := compareList_gr xa ya xn yn xc yc xf yf _ (hx.below g0.below) (hy.below g0.below) hn hm
  have HG : Hid (∀ w', Gr ((W.alloc (.cells #[.slice xa xn xc, .float .f64 xx] 31)).alloc (.cells #[.slice ya yn yc, .float .f64 yx] 31)) w' → Gr W w') := (show ∀ w', _ → _ from fun w' g => g0.trans g)
  show Calls Tryz.prog 53 #[.agg #[.slice xa xn xc, .float .f64 xx], .agg #[.slice ya yn yc, .float .f64 yx]] W fun e w' => e = .returned (.int .i64 (cm xf xn yf yn)) ∧ _
  generalize cm xf xn yf yn = C at *
  clear hx hy g0
  go_enter Tryz.func53, Tryz.ntmps53
  go_wp2_with fail
  go_fit k
  rintro e w1 ⟨rfl, g1⟩
  have G1 : Hid (Gr W w1) := HG.out w1 g1
  clear k g1 HG
  go_wp2
  go_ret
  exact ⟨rfl, G1.out⟩
theorem enters53 : ∀ args w, (callFunc 53 args).run Tryz.prog w = .ok (.enter 53 args) w := enters_of Tryz.func53 (by kernel_rfl) rfl
/-- The sort of a row of elements by their labels. -/
theorem sort53 (W : World) (S : Nat) (v : Value) (ks : List El) (hn : ks.length ≤ 1099511627776) (o : W.ownsRow S 31 2 v ks.length (fl e2 ks))
    (hL : ∀ e ∈ ks, Lm W e.a e.f e.n ∧ e.n ≤ 1152921504606846976 ∧ ∀ b o, e.a = some ⟨b, o, none⟩ → v.ownBlock ≠ some b) :
    Calls Tryz.prog 43 #[v, .func (.func 53) #[] #[]] W fun e W' => e = .returned (.tuple #[]) ∧ ∃ ks' : List El, ks'.Perm ks ∧ ks'.Pairwise (fun x y => ¬ cfE y x < 0) ∧ W'.ownsRow S 31 2 v ks'.length (fl e2 ks') ∧ Kp (fun b => v.ownBlock = some b) W W' := by
  rcases o.2 with ⟨rfl, h0⟩ | ⟨g, cap, cur, rfl, hg, hh, h1, h2, h3, h4⟩
  · obtain rfl : ks = [] := List.length_eq_zero_iff.1 h0
    have h := AnyF.slices_SortFunc_none (P := Tryz.prog) (ρ := Tryz.sortEl_ren) { Tryz.sortEl with } none 0 (.func (.func 53) #[] #[]) W
    change Calls Tryz.prog 43 _ _ _ at h
    refine h.mono ?_
    rintro e w' ⟨rfl, rfl⟩
    exact ⟨rfl, [], List.Perm.refl _, List.Pairwise.nil, o, Kp.refl _ _⟩
  · refine (sort_els 53 enters53 (fun x y W h1 h2 h3 h4 => cmp53_gr x y W h1 h2 h3 h4) W S g cap cur ks hn hg hh h1 h2 h3 h4 fun e he => ⟨(hL e he).1, (hL e he).2.1, fun b p hb e => (hL _ he).2.2 b p hb (by rw [e]; rfl)⟩).mono ?_
    rintro e W' ⟨rfl, ks', hp, hs, o', k⟩
    have hl : ks'.length = ks.length := hp.length_eq
    exact ⟨rfl, ks', hp, hs, by rw [hl]; rw [hl] at o'; exact o', k⟩
/-- What ordered answers. -/
def OR (v : Value) (q : Nat → El) (n : Nat) (W : World) (e : Ending) (W' : World) : Prop := ∃ a c N r E, e = .returned (.tuple #[.slice a N c, .int .i64 E]) ∧ Kp (fun b => v.ownBlock = some b) W W' ∧ Em W' a r N ∧
  ((E = 6 ∧ N = 0 ∧ ¬ (elL q n).Pairwise (fun x y => cfE x y ≠ 0)) ∨ (E = 0 ∧ N = n ∧ (elL r n).Perm (elL q n) ∧ (elL r n).Pairwise (fun x y => cfE x y < 0)))
set_option maxRecDepth 100000 in
set_option maxHeartbeats 8000000 in
theorem ordered_any (S n c : Nat) (a : Option Addr) (q : Nat → El) (w : World) (o : w.ownsRow S 31 2 (.slice a n c) n (fl e2 (elL q n))) (hn : n ≤ 1099511627776)
    (hL : ∀ j, j < n → Lm w (q j).a (q j).f (q j).n ∧ (q j).n ≤ 4294967296 ∧ ∀ b o, (q j).a = some ⟨b, o, none⟩ → (Value.slice a n c).ownBlock ≠ some b) :
    Calls Tryz.prog 25 #[.slice a n c] w (OR (.slice a n c) q n w) := by
  have hll := elL_len q n
  have k3 := sort53 w S (.slice a n c) (elL q n) (by omega) (by rw [hll]; exact o) (fun e he => by
    obtain ⟨j, hj, rfl⟩ := mem_elL.1 he
    have := hL j hj
    exact ⟨this.1, by omega, this.2.2⟩)
  have HL : Hid (∀ j, j < n → Lm w (q j).a (q j).f (q j).n ∧ (q j).n ≤ 4294967296 ∧ ∀ b o, (q j).a = some ⟨b, o, none⟩ → (Value.slice a n c).ownBlock ≠ some b) := hL
  have hni : (n : Int) ≤ 1099511627776 := by omega
  clear o hL
  go_enter Tryz.func25, Tryz.ntmps25
  go_wp2_with fail
  go_fit k3
  rintro e w3 ⟨rfl, ks, hp, hs, o3, kp3⟩
  have hkl : ks.length = n := by rw [hp.length_eq, hll]
  obtain ⟨q0, hq0⟩ : ∃ q0 : Nat → El, elL q0 n = ks := ⟨gE ks, by rw [← hkl]; exact elL_gE ks⟩
  have HKP : Hid (Kp (fun b => (Value.slice a n c).ownBlock = some b) w w3) := kp3
  have HX : Hid (∀ j, j < n → Lm w3 (q0 j).a (q0 j).f (q0 j).n ∧ (q0 j).n ≤ 4294967296) := (show ∀ j, _ → _ from fun j hj => by
    have hm : q0 j ∈ elL q n := hp.subset (by rw [← hq0]; exact List.mem_of_getElem? (elL_get q0 n j hj))
    obtain ⟨i, hi, he⟩ := mem_elL.1 hm
    rw [← he]
    obtain ⟨h1, h2, h3⟩ := HL.out i hi
    exact ⟨lm_kp h1 kp3 fun b o e => h3 b o e, h2⟩)
  have HP : Hid ((elL q0 n).Perm (elL q n) ∧ (elL q0 n).Pairwise (fun x y => ¬ cfE y x < 0)) := (show _ ∧ _ by rw [hq0]; exact ⟨hp, hs.imp fun h => by omega⟩)
  have O3 : Hid (w3.ownsRow S 31 2 (.slice a n c) n (fl e2 (elL q0 n))) := (show World.ownsRow _ _ _ _ _ _ _ by rw [hq0]; rw [hkl] at o3; exact o3)
  clear hp hs hq0 hkl o3 k3 hll HL kp3
  go_wp2_with fail
  go_loopw [9] (fun t w' => ∃ i : Nat, t = .int .i64 (i : Int) ∧ i ≤ n ∧ Hid (∀ j, j + 1 < i → cfE (q0 j) (q0 (j + 1)) ≠ 0) ∧ Hid (Below w3.heap.size w3 w')) (fun t _ => n - (RowKit.intOf t).toNat)
  case atStart => exact ⟨0, rfl, by omega, fun j hj => absurd hj (by omega), Below.refl _ _⟩
  case round =>
    obtain ⟨i, rfl, hi, HI, HW⟩ := hrel
    by_cases hlt : i < n
    · have hii : (i : Int) < n := by omega
      have i0 : (0 : Int) ≤ (i : Int) := by omega
      rcases Nat.eq_zero_or_pos i with rfl | hpos
      · go_upto_region 5 with fail
        go_quiet (fail)
        go_wp2
        exact ⟨⟨1, by go_num, by omega, (show ∀ j, _ → _ from fun j hj => absurd hj (by omega)), below_drewN HW.out _⟩, by simp [RowKit.intOf]; omega⟩
      · obtain ⟨k, rfl⟩ : ∃ k, i = k + 1 := ⟨i - 1, by omega⟩
        have g0 : (k : Int) + 1 > 0 := by omega
        have g1 : IntKind.i64.wrap ((k : Int) + 1 - 1) = (k : Int) := by rw [IntKind.wrap_i64]; omega
        have g2 : (k : Int) < n := by omega
        have g5 : IntKind.i64.wrap (k : Int) = (k : Int) := by rw [IntKind.wrap_i64]; omega
        have g3 : (0 : Int) ≤ (k : Int) := by omega
        have g4 : (0 : Int) ≤ (k : Int) + 1 := by omega
        have HM : Hid (Em w3 a q0 n) := (show Em _ _ _ _ from elM_row O3.out)
        obtain ⟨g, o, rfl, hg, x0, x1⟩ := (HM.out.below HW.out).at k (by omega)
        have hM2 := HM.out.below HW.out
        obtain ⟨g', o', e9, _, y0, y1⟩ := hM2.at (k + 1) hlt
        cases e9
        have HKE : Hid (∀ W, Below wr.heap.size wr W → Calls Tryz.prog 54 #[.slice (q0 k).a (q0 k).n (q0 k).c, .slice (q0 (k + 1)).a (q0 (k + 1)).n (q0 (k + 1)).c] W fun e w' => e = .returned (.int .i64 (cfE (q0 k) (q0 (k + 1)))) ∧ Below W.heap.size W w') := (show ∀ W, _ → _ from fun W b => by
          have b' := HW.out.trans (b.mono HW.out.size)
          have h1 := HX.out k (by omega)
          have h2 := HX.out (k + 1) hlt
          exact (compareList_gr (q0 k).a (q0 (k + 1)).a (q0 k).n (q0 (k + 1)).n (q0 k).c (q0 (k + 1)).c (q0 k).f (q0 (k + 1)).f W (h1.1.below b') (h2.1.below b') (by omega) (by omega)).mono fun e w' h => ⟨h.1, h.2.below⟩)
        clear hM2 HM
        have HSX : Hid (∀ W, Below wr.heap.size wr W → (W.cell? ⟨g, o + k * 2, none⟩ = some (.slice (q0 k).a (q0 k).n (q0 k).c) ∧ W.cell? ⟨g, o + (k + 1) * 2, none⟩ = some (.slice (q0 (k + 1)).a (q0 (k + 1)).n (q0 (k + 1)).c)) ∧ Below wr.heap.size wr W) := (show ∀ W, _ → _ from fun W b => ⟨⟨bcell2 b x0, bcell2 b y0⟩, b⟩)
        obtain ⟨CF, hCF⟩ : ∃ C, cfE (q0 k) (q0 (k + 1)) = C := ⟨_, rfl⟩
        rw [hCF] at HKE
        have HCF : Hid (cfE (q0 k) (q0 (k + 1)) = CF) := hCF
        clear hCF x1 y1
        generalize (q0 k).a = xa at *
        generalize (q0 k).n = xn at *
        generalize (q0 k).c = xc at *
        generalize (q0 (k + 1)).a = ya at *
        generalize (q0 (k + 1)).n = yn at *
        generalize (q0 (k + 1)).c = yc at *
        have bd : Below wr.heap.size wr wr.drew := (Below.refl _ _).drew
        go_upto_region 5 with fail
        go_region_held3 (fun w2 => (w2.cell? ⟨g, o + k * 2, none⟩ = some (.slice xa xn xc) ∧ w2.cell? ⟨g, o + (k + 1) * 2, none⟩ = some (.slice ya yn yc)) ∧ Below wr.heap.size wr w2) (first | exact HSX.out _ (by assumption) | exact HSX.out _ (Below.drew (by assumption))) (first | (go_at_call 54; go_fit (HKE.out _ (by first | exact bd | exact Below.refl _ _)); rintro e w12 ⟨rfl, b12⟩; have bc : Below wr.heap.size wr w12 := by first | exact bd.trans (b12.mono bd.size) | exact b12))
        rename_i hh
        have HB12 : Hid (Below w3.heap.size w3 w12) := HW.out.trans (bc.mono HW.out.size)
        clear hh HSX HKE bc b12 bd x0 y0
        by_cases hc : CF = 0
        · subst hc
          have hfin : Kp (fun b => (Value.slice (some ⟨g, o, none⟩) n c).ownBlock = some b) w w12 := HKP.out.trans (Kp.of HB12.out)
          have HF : Hid (Kp (fun b => (Value.slice (some ⟨g, o, none⟩) n c).ownBlock = some b) w w12) := hfin
          clear hfin
          go_wp2
          go_ret2
          refine ⟨none, 0, 0, q, 6, rfl, HF.out, .inl rfl, .inl ⟨rfl, rfl, fun hpw => ?_⟩⟩
          have h9 := (HP.out.1.symm.pairwise_iff (fun {x y} h => cfE_sym h)).1 hpw
          rw [List.pairwise_iff_getElem] at h9
          have h8 := h9 k (k + 1) (by rw [elL_len]; omega) (by rw [elL_len]; omega) (by omega)
          simp only [elL, List.getElem_map, List.getElem_range] at h8
          exact h8 HCF.out
        · go_wp2
          refine ⟨⟨k + 2, by go_num, by omega, (show ∀ j, _ → _ from fun j hj => ?_), HB12⟩, by simp [RowKit.intOf]; omega⟩
          by_cases e : j = k
          · rw [e, HCF.out]
            exact hc
          · exact HI.out j (by omega)
    · obtain rfl : n = i := by omega
      have hii : ¬ (n : Int) < n := by omega
      have HF : Hid (Kp (fun b => (Value.slice a n c).ownBlock = some b) w wr ∧ Em wr a q0 n) := (show _ ∧ _ from ⟨HKP.out.trans (Kp.of HW.out), (elM_row O3.out).below HW.out⟩)
      go_wp2
      go_ret2
      refine ⟨a, c, n, q0, 0, rfl, HF.out.1, HF.out.2, .inr ⟨rfl, rfl, HP.out.1, pair_lt (HP.out.2.imp fun h => by omega) fun k hk => ?_⟩⟩
      rw [elL_len] at hk
      simp only [elL, List.getElem_map, List.getElem_range]
      exact HI.out k hk
end Go.Proofs.YtebjklppbkkinaaGreatDoor
