/- A bundle of texts. -/
import Derived.Test.YtjmninjaoemhjaaDoorBv23
import Derived.Deep.RegionLaw
import Derived.Test.YtjmninjaoemhjaaDoorBv21
import Derived.Laws.FloatArith
import Derived.Deep.Draws
import Derived.Laws.Externs
/- LabelsVectors: copied. -/
namespace Go.Proofs.YtjmninjaoemhjaaDoor
open Go.RowKit Go.Lib Go.Shelf Go.Sort

attribute [local go_sem] Oper.semAt_some run_store_float

set_option maxRecDepth 100000 in
set_option maxHeartbeats 8000000 in
theorem copied_any17 (a : Option Addr) (n c : Nat) (q : Nat → El) (w : World) (h : Em w a q n) (hH : ∀ j, j < n → V.Hy w (q j)) (hn : n ≤ 1048576) :
    Calls Tryd.prog 17 #[.slice a n c] w fun e w' => ∃ g cap r, e = .returned (.slice (some ⟨g, 0, none⟩) n cap) ∧ Below w.heap.size w w' ∧ Vo w.heap.size w' (.slice (some ⟨g, 0, none⟩) n cap) n r ∧ ∀ j, j < n → core (r j) = core (q j) := by
  obtain ⟨w1, r1, o1, b1⟩ := make_el n w.heap.size w (Nat.le_refl _) (by omega)
  have HE : Hid (Em w a q n) := h
  have HH : Hid (∀ j, j < n → V.Hy w (q j)) := hH
  have HB1 : Hid (Below w.heap.size w w1) := b1
  obtain ⟨G, hG⟩ : ∃ G, w.heap.size = G := ⟨_, rfl⟩
  rw [hG] at r1 o1 b1 HB1 ⊢
  have HC0 : Hid (Cv G w1 (.slice (some ⟨G, 0, none⟩) n n) n q (fun _ => zE) 0 w1) := (show Cv _ _ _ _ _ _ _ _ from ⟨o1, fun j hj => absurd hj (by omega), fun j hj => absurd hj (by omega), fun j k _ hk => absurd hk (by omega), Kp.refl _ _⟩)
  have HG : Hid (w.heap.size = G) := hG
  clear h hH o1 b1 hG
  go_enter Tryd.func17, Tryd.ntmps17
  go_wp2_with fail
  clear r1
  go_loopw [11] (fun t W => ∃ (i : Nat) (r : Nat → El), t = .int .i64 (i : Int) ∧ i ≤ n ∧ Hid (Cv G w1 (.slice (some ⟨G, 0, none⟩) n n) n q r i W)) (fun t _ => n - (RowKit.intOf t).toNat)
  case atStart => exact ⟨0, _, rfl, by omega, HC0⟩
  case round =>
    obtain ⟨i, r, rfl, hi, HC⟩ := hrel
    have hbw : Below G w wr := HB1.out.trans (HC.out.kp.below (by have h9 := HB1.out.size; have h8 := HG.out; omega) fun b hb e => by
      obtain rfl : G = b := Option.some.inj e
      omega)
    have HBW : Hid (Below G w wr) := hbw
    have hGs : G ≤ wr.heap.size := by rw [← HG.out]; exact hbw.size
    have HGS : Hid (G ≤ wr.heap.size) := hGs
    by_cases hlt : i < n
    · have hii : (i : Int) < n := by omega
      have i0 : (0 : Int) ≤ (i : Int) := by omega
      have hbw2 : Below w.heap.size w wr := by rw [HG.out]; exact hbw
      obtain ⟨g, o, rfl, hg, x0, x1⟩ := (HE.out.below hbw2).at i hlt
      have hy := (HH.out i hlt).below hbw2
      obtain ⟨W0, hW0⟩ : ∃ W0, W0 = wr.alloc (elX (q i)) := ⟨_, rfl⟩
      have b0 : Below wr.heap.size wr W0 := by rw [hW0]; exact (Below.refl _ wr).alloc (Nat.le_refl _) _
      have b0d : Below wr.heap.size wr W0.drew := b0.drew
      obtain ⟨g', cap', w', r', o', b', hg1, hg2⟩ := copy_ls W0.drew (q i).a (q i).n (q i).c (q i).f (hy.lm.below b0d) hy.nz (by have := hy.n0; omega)
      have hsz : W0.drew.heap.size = wr.heap.size + 1 := by rw [hW0]; simp
      have b4 : Below wr.heap.size wr w' := b0d.trans (b'.mono (by omega))
      have hlc : lc (q i).f (q i).n = lcL (K.ll (q i).f (q i).n) := by
        rw [K.lcL_lc, ll_len]
        exact K.lc_congr _ _ _ fun j hj => (gL_ll _ _ _ hj).symm
      rw [hlc] at o'
      have hst := HC.out.step hlt hGs b4 o' (by omega)
      obtain ⟨_, _, e9, _, y0, y1⟩ := ((elM_row HC.out.row).below b4).at i hlt
      cases e9
      rw [Nat.zero_add] at y0 y1
      have hfz : w'.frozen? ⟨G, i * 2, none⟩ = false ∧ w'.frozen? ⟨G, i * 2 + 1, none⟩ = false := by
        rcases (kept_row HC.out.row b4).2 with ⟨e, _⟩ | ⟨G', _, cur, e, _, hh, _⟩
        · cases e
        · cases e
          simp [World.frozen?, hh]
      obtain ⟨f0, f1⟩ := hfz
      have c0 : W0.cell? ⟨wr.heap.size, 0, none⟩ = some (.slice (q i).a (q i).n (q i).c) := by
        rw [hW0]; unfold World.cell?; rw [heap_alloc_new]; rfl
      have c1 : W0.cell? ⟨wr.heap.size, 1, none⟩ = some (.float .f64 (q i).x) := by
        rw [hW0]; unfold World.cell?; rw [heap_alloc_new]; rfl
      have bw' : Below W0.heap.size W0 w' := ((Below.refl _ W0).drew).trans b'
      have d0 := bcell2 bw' c0
      have d1 := bcell2 bw' c1
      rw [hsz] at r'
      rw [hW0] at r' c0 c1
      have HST : Hid (Cv G w1 (.slice (some ⟨G, 0, none⟩) n n) n q (up r i ⟨some ⟨g', 0, none⟩, (q i).n, cap', (q i).f, (q i).x⟩) (i + 1) ((w'.setCell ⟨G, i * 2, none⟩ (.slice (some ⟨g', 0, none⟩) (q i).n cap')).setCell ⟨G, i * 2 + 1, none⟩ (.float .f64 (q i).x))) := hst
      have hne : ¬ (G = wr.heap.size) := by
        have := (own_bd HC.out.row G rfl).2
        omega
      clear hst hy b0 b0d b4 bw' b' o' hlc hsz hW0 hbw hbw2 HBW HC hg1 hg2 hg
      unfold elX at r' c0 c1
      obtain ⟨⟨ea, en, ec, ef, ex⟩, hre⟩ : ∃ x, q i = x := ⟨_, rfl⟩
      rw [hre] at x0 x1 r' c0 c1 d0 d1 HST
      dsimp only at x0 x1 r' c0 c1 d0 d1 HST
      generalize (r i).a = za at *
      generalize (r i).n = zn at *
      generalize (r i).c = zc at *
      generalize (r i).x = zx at *
      clear hre
      go_upto_region 5 with fail
      go_region_law (refine step_append_run rfl (.tmp 18) (.tmp 20) 22 22 rfl _ _ rfl rfl r' ?_)
      all_goals go_wp2
      all_goals exact ⟨⟨i + 1, _, by go_num, by omega, HST⟩, by simp [RowKit.intOf]; omega⟩
    · obtain rfl : i = n := by omega
      have hii : ¬ (i : Int) < i := by omega
      go_wp2
      go_ret
      exact ⟨_, _, rfl, HBW.out, r, HC.out.vo, HC.out.core⟩
end Go.Proofs.YtjmninjaoemhjaaDoor
/- LabelsVectors: lists of label sets; apart over two vectors' label sets; a vector grown by two. -/
namespace Go.Proofs.YtjmninjaoemhjaaDoor
open Go.RowKit Go.Lib Go.Shelf Go.Sort

attribute [local go_sem] Oper.semAt_some

theorem append_two (S : Nat) (w : World) (v : Value) (k : Nat) (xs : List Value) (u1 u2 : Value) (h1 : u1.oneCell' = true) (h2 : u2.oneCell' = true) (o : w.ownsRow S 22 1 v k xs) (hS : S ≤ w.heap.size) (hk : k ≤ 1099511627776) :
    ∃ v' w', (Builtin.append_ #[50, 50] 50 #[v, .slice (some ⟨w.heap.size, 0, none⟩) 2 2]).run Tryd.prog (w.alloc (.cells #[u1, u2] 22)) = .ok v' w' ∧ w'.ownsRow S 22 1 v' (k + 2) (xs ++ [u1, u2]) ∧ Below S w w' := by
  obtain ⟨i0, hi, hz0, hz1, hz2⟩ := info_parts K.infBk
  obtain ⟨v', w', r, o', gr, _⟩ := run_append_own (P := Tryd.prog) (w.alloc (.cells #[u1, u2] 22)) S 50 50 22 i0 _ 1 24 Tryd.underlying50 hi hz0 hz1 hz2 rfl (by decide) v k xs (World.ownsRow.alloc o _) ⟨w.heap.size, 0, none⟩ 2 2 [u1, u2] rfl
    (fun j u hj => by
      rw [Go.WideShapes.add_plain, Nat.zero_add]
      unfold World.cell?
      rw [heap_alloc_new]
      match j, hj with
      | 0, hj => exact hj
      | 1, hj => exact hj
      | n + 2, hj => exact absurd hj (by simp)) (fun u hu => by
      rcases List.mem_cons.1 hu with rfl | hu
      · exact h1
      · rcases List.mem_cons.1 hu with rfl | hu
        · exact h2
        · cases hu) (by unfold maxLen; omega) (by omega) (by simp; omega)
  refine ⟨v', w', r, o', ?_⟩
  have b0 : Below S w (w.alloc (.cells #[u1, u2] 22)) := (Below.refl _ w).alloc hS _
  refine b0.trans ⟨gr.os, gr.tape, gr.output, gr.size, fun b hb => gr.block b (by have := b0.size; simp; omega) fun e => ?_⟩
  have := (own_bd o b e.symm).1
  omega
theorem append_el2 (S : Nat) (w : World) (v : Value) (k : Nat) (xs : List Value) (x : Nat) (o : w.ownsRow S 45 2 v k xs) (hS : S ≤ w.heap.size) (hk : k ≤ 1099511627776) :
    ∃ a' c' w', (Builtin.append_ #[40, 40] 40 #[v, .slice (some ⟨w.heap.size, 0, none⟩) 2 2]).run Tryd.prog (w.alloc (.cells #[.slice none 0 0, .float .f64 x, .slice none 0 0, .float .f64 x] 45)) = .ok (.slice a' (k + 2) c') w' ∧ Kp (fun b => v.ownBlock = some b) w w' := by
  obtain ⟨i0, hi, hz0, hz1, hz2⟩ := info_parts infE
  obtain ⟨v', w', r, o', gr, _⟩ := run_append_own (P := Tryd.prog) (w.alloc (.cells #[.slice none 0 0, .float .f64 x, .slice none 0 0, .float .f64 x] 45)) S 40 40 45 i0 _ 2 32 Tryd.underlying40 hi hz0 hz1 hz2 rfl (by decide) v k xs (World.ownsRow.alloc o _) ⟨w.heap.size, 0, none⟩ 2 2 [.slice none 0 0, .float .f64 x, .slice none 0 0, .float .f64 x] rfl
    (fun j u hj => by
      rw [Go.WideShapes.add_plain, Nat.zero_add]
      unfold World.cell?
      rw [heap_alloc_new]
      match j, hj with
      | 0, hj => exact hj
      | 1, hj => exact hj
      | 2, hj => exact hj
      | 3, hj => exact hj
      | n + 4, hj => exact absurd hj (by simp)) (fun u hu => by
      simp at hu
      rcases hu with rfl | rfl | rfl | rfl <;> rfl) (by unfold maxLen; omega) (by omega) (by simp; omega)
  obtain ⟨a', c', rfl, _⟩ := K.row_sl o'
  refine ⟨a', c', w', r, ?_⟩
  have b0 : Below w.heap.size w (w.alloc (.cells #[.slice none 0 0, .float .f64 x, .slice none 0 0, .float .f64 x] 45)) := (Below.refl _ w).alloc (Nat.le_refl _) _
  exact (Kp.of b0).trans ⟨gr.os, gr.tape, gr.output, gr.size, fun b hb hm => gr.block b hb fun e => hm e.symm⟩
/-- The label sets of two vectors, one behind the other. -/
def stV (ra rb : Nat → El) (k : Nat) : Value := if k % 2 = 0 then .slice (ra (k / 2)).a (ra (k / 2)).n (ra (k / 2)).c else .slice (rb (k / 2)).a (rb (k / 2)).n (rb (k / 2)).c
def stX (ra rb : Nat → El) (k : Nat) : List Lb := if k % 2 = 0 then K.ll (ra (k / 2)).f (ra (k / 2)).n else K.ll (rb (k / 2)).f (rb (k / 2)).n
def stL (ra rb : Nat → El) (i : Nat) : List Value := (List.range (2 * i)).map (stV ra rb)
theorem stL_next (ra rb : Nat → El) (i : Nat) : stL ra rb (i + 1) = stL ra rb i ++ [.slice (ra i).a (ra i).n (ra i).c, .slice (rb i).a (rb i).n (rb i).c] := by
  unfold stL
  rw [show 2 * (i + 1) = 2 * i + 1 + 1 by omega, List.range_succ, List.range_succ, List.map_append, List.map_append, List.append_assoc]
  congr 1
  simp only [List.map_cons, List.map_nil, List.cons_append, List.nil_append]
  unfold stV
  rw [if_pos (by omega), if_neg (by omega), show 2 * i / 2 = i by omega, show (2 * i + 1) / 2 = i by omega]
theorem below_grown {W W' : World} (h : W.grownBy W' none) : Below W.heap.size W W' := ⟨h.os, h.tape, h.output, h.size, fun k hk => h.block k hk (by simp)⟩
set_option maxRecDepth 100000 in
set_option maxHeartbeats 4000000 in
theorem apart_none (w : World) : Calls Tryd.prog 19 #[.slice none 0 0] w fun e w' => e = .returned (.bool true) ∧ Below w.heap.size w w' := by
  obtain ⟨w2, r2, _, g2⟩ := K.make_q 0 w.heap.size w (Nat.le_refl _) (by omega)
  obtain ⟨w3, r3, _, g3⟩ := K.make_q 0 w2.heap.size w2 (Nat.le_refl _) (by omega)
  have s2 : (Instr.makeSlice 50 (.int .i64 0) (.int .i64 0)).run Tryd.prog w = .ok (.slice (some ⟨w.heap.size, 0, none⟩) 0 0) w2 := r2
  have s3 : (Instr.makeSlice 50 (.int .i64 0) (.int .i64 0)).run Tryd.prog w2 = .ok (.slice (some ⟨w2.heap.size, 0, none⟩) 0 0) w3 := r3
  have b2 := below_grown g2
  have HB3 : Hid (Below w.heap.size w w3) := b2.trans ((below_grown g3).mono b2.size)
  clear r2 r3 g2 g3 b2
  go_enter Tryd.func19, Tryd.ntmps19
  go_wp2
  go_loopw [22] (fun t W => t = .int .i64 0 ∧ W = w) (fun _ _ => 0)
  case atStart => exact ⟨rfl, rfl⟩
  case round =>
    obtain ⟨rfl, rfl⟩ := hrel
    go_wp2
    clear s2
    go_loopw [44] (fun t W => t = .int .i64 0 ∧ W = w2) (fun _ _ => 0)
    case atStart => exact ⟨rfl, rfl⟩
    case round =>
      obtain ⟨rfl, rfl⟩ := hrel
      go_wp2
      clear s3
      go_loopw [68] (fun t W => t = .int .i64 0 ∧ W = w3) (fun _ _ => 0)
      case atStart => exact ⟨rfl, rfl⟩
      case round =>
        obtain ⟨rfl, rfl⟩ := hrel
        go_wp2
        go_loopw [94] (fun t W => t = .int .i64 0 ∧ W = wr) (fun _ _ => 0)
        case atStart => exact ⟨rfl, rfl⟩
        case round =>
          obtain ⟨rfl, rfl⟩ := hrel
          go_wp2
          go_ret
          exact ⟨rfl, HB3.out⟩
theorem ow_own {B S : Nat} {w : World} {e : El} (h : Ow w S e) (hB : B ≤ S) : K.Own B w (.slice e.a e.n e.c) (K.ll e.f e.n) := by
  unfold Ow at h
  rw [K.lcL_lc, ll_len] at h
  unfold K.Own K.Ir
  rw [ll_len]
  exact K.row_low h hB
theorem stV_even (ra rb : Nat → El) (j : Nat) : stV ra rb (2 * j) = .slice (ra j).a (ra j).n (ra j).c := by
  unfold stV
  rw [if_pos (by omega), show 2 * j / 2 = j by omega]
theorem stV_odd (ra rb : Nat → El) (j : Nat) : stV ra rb (2 * j + 1) = .slice (rb j).a (rb j).n (rb j).c := by
  unfold stV
  rw [if_neg (by omega), show (2 * j + 1) / 2 = j by omega]
theorem stX_even (ra rb : Nat → El) (j : Nat) : stX ra rb (2 * j) = K.ll (ra j).f (ra j).n := by
  unfold stX
  rw [if_pos (by omega), show 2 * j / 2 = j by omega]
theorem stX_odd (ra rb : Nat → El) (j : Nat) : stX ra rb (2 * j + 1) = K.ll (rb j).f (rb j).n := by
  unfold stX
  rw [if_neg (by omega), show (2 * j + 1) / 2 = j by omega]
theorem two_ways (i : Nat) : (∃ j, i = 2 * j) ∨ ∃ j, i = 2 * j + 1 := by
  rcases Nat.mod_two_eq_zero_or_one i with h | h
  · exact .inl ⟨i / 2, by omega⟩
  · exact .inr ⟨i / 2, by omega⟩
/-- apart over the label sets of two vectors. -/
theorem apart_sets (W : World) (Sa Sb S N : Nat) (av bv sv : Value) (ra rb : Nat → El) (hN : N ≤ 1048576) (ha : Vo Sa W av N ra) (hb : Vo Sb W bv N rb) (hs : W.ownsRow S 22 1 sv (2 * N) (stL ra rb N)) (h0 : N = 0 → sv = .slice none 0 0)
    (hn : ∀ j, j < N → (ra j).n ≤ 1073741824 ∧ (rb j).n ≤ 1073741824) (hab : ∀ j k, j < N → k < N → Ap (ra j) (rb k)) (hB : Sa ≤ Sb ∧ Sa ≤ W.heap.size) (hlo : ∀ j, j < N → ∀ b, ((Value.slice (ra j).a (ra j).n (ra j).c).ownBlock = some b ∨ (Value.slice (rb j).a (rb j).n (rb j).c).ownBlock = some b) → b < S) :
    Calls Tryd.prog 19 #[sv] W fun e w' => e = .returned (.bool true) ∧ Kp (fun b => S ≤ b ∨ ∃ j, j < N ∧ ((Value.slice (ra j).a (ra j).n (ra j).c).ownBlock = some b ∨ (Value.slice (rb j).a (rb j).n (rb j).c).ownBlock = some b)) W w' := by
  rcases Nat.eq_zero_or_pos N with hz | hpos
  · rw [h0 hz]
    exact (apart_none W).mono fun e w' h => ⟨h.1, Kp.of h.2⟩
  · rcases hs.2 with ⟨_, e⟩ | ⟨g, cap, cur, e, hg, hh, _⟩
    · omega
    · subst e
      have hgW := (Array.getElem?_eq_some_iff.1 hh).1
      have ex : ∀ i, i < 2 * N → (∃ j, j < N ∧ stV ra rb i = .slice (ra j).a (ra j).n (ra j).c ∧ stX ra rb i = K.ll (ra j).f (ra j).n ∧ i = 2 * j) ∨ ∃ j, j < N ∧ stV ra rb i = .slice (rb j).a (rb j).n (rb j).c ∧ stX ra rb i = K.ll (rb j).f (rb j).n ∧ i = 2 * j + 1 := fun i hi => by
        rcases two_ways i with ⟨j, rfl⟩ | ⟨j, rfl⟩
        · exact .inl ⟨j, by omega, stV_even _ _ _, stX_even _ _ _, rfl⟩
        · exact .inr ⟨j, by omega, stV_odd _ _ _, stX_odd _ _ _, rfl⟩
      refine (apart_rows (2 * N) Sa g cap (stV ra rb) (stX ra rb) W (by omega) (by omega) (fun i hi => ?_) hB.2 (fun i hi => ?_) (fun i hi => ?_) (fun i hi => ?_) (fun i j hi hj hne b h1 => ?_)).mono fun e w' h => ⟨h.1, ⟨h.2.os, h.2.tape, h.2.output, h.2.size, fun b hb hm => h.2.block b hb fun hx => hm ?_⟩⟩
      · rcases ex i hi with ⟨j, hj, _, e, _⟩ | ⟨j, hj, _, e, _⟩
        · rw [e, ll_len]; exact (hn j hj).1
        · rw [e, ll_len]; exact (hn j hj).2
      · have := World.ownsRow.cells hs (g := g) rfl i (stV ra rb i) (by simp [stL, hi])
        rw [Go.WideShapes.add_plain, Nat.zero_add] at this
        exact this
      · rcases ex i hi with ⟨j, hj, e, e', _⟩ | ⟨j, hj, e, e', _⟩
        · rw [e, e']; exact ow_own (ha.2.1 j hj).1 (Nat.le_refl _)
        · rw [e, e']; exact ow_own (hb.2.1 j hj).1 hB.1
      · intro h1
        rcases ex i hi with ⟨j, hj, e, _⟩ | ⟨j, hj, e, _⟩
        · rw [e] at h1
          have := hlo j hj g (.inl h1)
          omega
        · rw [e] at h1
          have := hlo j hj g (.inr h1)
          omega
      · rcases ex i hi with ⟨k, hk, e, _, ei⟩ | ⟨k, hk, e, _, ei⟩ <;> rcases ex j hj with ⟨m, hm, f, _, ej⟩ | ⟨m, hm, f, _, ej⟩
        · rw [e] at h1; rw [f]; exact ha.ap k m hk hm (by omega) b h1
        · rw [e] at h1; rw [f]; exact hab k m hk hm b h1
        · rw [e] at h1; rw [f]; exact (hab m k hm hk).symm b h1
        · rw [e] at h1; rw [f]; exact hb.ap k m hk hm (by omega) b h1
      · rcases hx with rfl | ⟨i, hi, h1⟩ | h1
        · exact .inl hg
        · rcases ex i hi with ⟨j, hj, e, _⟩ | ⟨j, hj, e, _⟩
          · rw [e] at h1; exact .inr ⟨j, hj, .inl h1⟩
          · rw [e] at h1; exact .inr ⟨j, hj, .inr h1⟩
        · exact .inl (by omega)
end Go.Proofs.YtjmninjaoemhjaaDoor
/- Floats by their classes: a word, or NaN (none). -/
namespace Go.Proofs.YtjmninjaoemhjaaDoor
open Ieee

/-- Is the word a NaN? -/
def nanB (n : Nat) : Bool := (Ieee.double.read n).isNaN
/-- A word's class: none for every NaN. -/
def cl (n : Nat) : Option Nat := if nanB n = true then none else some n

theorem cl_nan {n : Nat} (h : nanB n = true) : cl n = none := if_pos h
theorem cl_num {n : Nat} (h : nanB n = false) : cl n = some n := if_neg (by rw [h]; decide)
theorem cl_some {n m : Nat} (h : cl n = some m) : n = m ∧ nanB n = false := by
  unfold cl at h
  split at h
  · cases h
  · rename_i h'
    exact ⟨Option.some.inj h, by simpa using h'⟩
theorem cl_none {n : Nat} (h : cl n = none) : nanB n = true := by
  unfold cl at h
  split at h
  · assumption
  · cases h

theorem nanB_eq (n : Nat) : nanB n = decide (0x7ff0000000000000 < n % 2 ^ 63) := by
  have h1 : Ieee.double.binade = 2 ^ 52 := rfl
  have h2 : Ieee.double.infRung = 0x7ff0000000000000 := by decide
  have h3 : Ieee.double.signWeight = 2 ^ 63 := rfl
  unfold nanB Ieee.Format.read
  simp only [h1, h2, h3]
  generalize n % 2 ^ 63 = r
  split
  · simp [Datum.isNaN]; omega
  · split
    · simp [Datum.isNaN]; omega
    · split
      · simp [Datum.isNaN]; omega
      · simp [Datum.isNaN]; omega

theorem nanB_word (s : Bool) (r : Nat) (h : r ≤ Ieee.double.infRung) : nanB (Ieee.double.word s r) = false := by
  have h2 : Ieee.double.infRung = 0x7ff0000000000000 := by decide
  have h3 : Ieee.double.signWeight = 2 ^ 63 := rfl
  rw [h2] at h
  rw [nanB_eq]
  unfold Ieee.Format.word
  rw [h3]
  cases s <;> simp <;> omega
theorem nanB_write_number (s : Bool) (m : Nat) (i : Int) : nanB (Ieee.double.write (.number s m i)) = false := by
  show nanB (Ieee.double.nearest s m i) = false
  unfold Ieee.Format.nearest
  split
  · exact nanB_word s 0 (Nat.zero_le _)
  · exact nanB_word s _ (Nat.min_le_right _ _)
theorem nanB_write_inf (s : Bool) : nanB (Ieee.double.write (.infinity s)) = false := nanB_word s _ (Nat.le_refl _)
theorem nanB_write (d : Datum) (h : d.isNaN = false) : nanB (Ieee.double.write d) = false := by
  cases d with
  | number s m i => exact nanB_write_number s m i
  | infinity s => exact nanB_write_inf s
  | nan s f => simp [Datum.isNaN] at h

theorem sum_num (a b d : Datum) (h : a.sum b = some d) : d.isNaN = false := by
  unfold Datum.sum at h
  split at h <;> first | (cases h; done) | skip
  · split at h
    · cases h; rfl
    · cases h
  · cases h; rfl
  · cases h; rfl
  · cases h; rfl
theorem product_num (a b d : Datum) (h : a.product b = some d) : d.isNaN = false := by
  unfold Datum.product at h
  split at h <;> first | (cases h; done) | skip
  · cases h; rfl
  · split at h
    · cases h
    · cases h; rfl
  · split at h
    · cases h
    · cases h; rfl
  · cases h; rfl
theorem quotient_num (n : Nat) (a b d : Datum) (h : a.quotient n b = some d) : d.isNaN = false := by
  unfold Datum.quotient at h
  split at h <;> first | (cases h; done) | skip
  · cases h; rfl
  · cases h; rfl
  · split at h
    · split at h
      · cases h
      · cases h; rfl
    · cases h; rfl

/-- What an operation answers is no NaN. -/
theorem fb_num {op : BinOp} {x y r : Nat} (h : floatBits op .f64 x y = some r) : nanB r = false := by
  unfold floatBits at h
  split at h
  · change (((Ieee.double.read x).sum (Ieee.double.read y)).map Ieee.double.write) = some r at h
    obtain ⟨d, hd, rfl⟩ := Option.map_eq_some_iff.1 h
    exact nanB_write d (sum_num _ _ _ hd)
  · change (((Ieee.double.read x).sum (Ieee.double.read y).opposite).map Ieee.double.write) = some r at h
    obtain ⟨d, hd, rfl⟩ := Option.map_eq_some_iff.1 h
    exact nanB_write d (sum_num _ _ _ hd)
  · change (((Ieee.double.read x).product (Ieee.double.read y)).map Ieee.double.write) = some r at h
    obtain ⟨d, hd, rfl⟩ := Option.map_eq_some_iff.1 h
    exact nanB_write d (product_num _ _ _ hd)
  · change (((Ieee.double.read x).quotient 54 (Ieee.double.read y)).map Ieee.double.write) = some r at h
    obtain ⟨d, hd, rfl⟩ := Option.map_eq_some_iff.1 h
    exact nanB_write d (quotient_num _ _ _ _ hd)
  · cases h

theorem sum_nanL (a b : Datum) (h : a.isNaN = true) : a.sum b = none := by
  cases a <;> simp [Datum.isNaN] at h; rfl
theorem sum_nanR (a b : Datum) (h : b.isNaN = true) : a.sum b = none := by
  cases b <;> simp [Datum.isNaN] at h; cases a <;> rfl
theorem product_nanL (a b : Datum) (h : a.isNaN = true) : a.product b = none := by
  cases a <;> simp [Datum.isNaN] at h; rfl
theorem product_nanR (a b : Datum) (h : b.isNaN = true) : a.product b = none := by
  cases b <;> simp [Datum.isNaN] at h; cases a <;> rfl
theorem quotient_nanL (n : Nat) (a b : Datum) (h : a.isNaN = true) : a.quotient n b = none := by
  cases a <;> simp [Datum.isNaN] at h; rfl
theorem quotient_nanR (n : Nat) (a b : Datum) (h : b.isNaN = true) : a.quotient n b = none := by
  cases b <;> simp [Datum.isNaN] at h; cases a <;> rfl
theorem opposite_nan (a : Datum) : a.opposite.isNaN = a.isNaN := by cases a <;> rfl

theorem fb_nanL (op : BinOp) (x y : Nat) (h : nanB x = true) : floatBits op .f64 x y = none := by
  unfold nanB at h
  unfold floatBits
  split
  · show ((Ieee.double.read x).sum (Ieee.double.read y)).map Ieee.double.write = none
    rw [sum_nanL _ _ h]; rfl
  · show ((Ieee.double.read x).sum (Ieee.double.read y).opposite).map Ieee.double.write = none
    rw [sum_nanL _ _ h]; rfl
  · show ((Ieee.double.read x).product (Ieee.double.read y)).map Ieee.double.write = none
    rw [product_nanL _ _ h]; rfl
  · show ((Ieee.double.read x).quotient 54 (Ieee.double.read y)).map Ieee.double.write = none
    rw [quotient_nanL _ _ _ h]; rfl
  · rfl
theorem fb_nanR (op : BinOp) (x y : Nat) (h : nanB y = true) : floatBits op .f64 x y = none := by
  unfold nanB at h
  unfold floatBits
  split
  · show ((Ieee.double.read x).sum (Ieee.double.read y)).map Ieee.double.write = none
    rw [sum_nanR _ _ h]; rfl
  · show ((Ieee.double.read x).sum (Ieee.double.read y).opposite).map Ieee.double.write = none
    rw [sum_nanR _ _ (by rw [opposite_nan]; exact h)]; rfl
  · show ((Ieee.double.read x).product (Ieee.double.read y)).map Ieee.double.write = none
    rw [product_nanR _ _ h]; rfl
  · show ((Ieee.double.read x).quotient 54 (Ieee.double.read y)).map Ieee.double.write = none
    rw [quotient_nanR _ _ _ h]; rfl
  · rfl

/-- An operation on classes. -/
def fb (op : BinOp) (x y : Option Nat) : Option Nat := x.bind fun a => y.bind fun b => floatBits op .f64 a b
theorem fb_cl (op : BinOp) (x y : Nat) : floatBits op .f64 x y = fb op (cl x) (cl y) := by
  unfold fb cl
  by_cases hx : nanB x = true
  · rw [if_pos hx, fb_nanL _ _ _ hx]; rfl
  · rw [if_neg hx]
    by_cases hy : nanB y = true
    · rw [if_pos hy, fb_nanR _ _ _ hy]; rfl
    · rw [if_neg hy]; rfl

/-- The word that an operation answers in a world, and how often it asks the tape. -/
def fz (op : BinOp) (x y : Nat) (w : World) : Nat :=
  match floatBits op .f64 x y with
  | some r => r
  | none => (Question.nanBits .f64 x y).cut (w.tape w.drawn (.nanBits .f64 x y))
def fk (op : BinOp) (x y : Nat) : Nat :=
  match floatBits op .f64 x y with
  | some _ => 0
  | none => 1

theorem cut_nan (x y t : Nat) : nanB (Question.cut (.nanBits .f64 x y) t) = true := by
  rw [nanB_eq]
  apply decide_eq_true
  unfold Question.cut
  simp only
  have h1 : t / 2 % (2 ^ 52 - 1) < 2 ^ 52 - 1 := Nat.mod_lt _ (by decide)
  generalize t / 2 % (2 ^ 52 - 1) = u at *
  have h2 : t % 2 < 2 := Nat.mod_lt _ (by decide)
  generalize t % 2 = v at *
  rcases (show v = 0 ∨ v = 1 by omega) with rfl | rfl <;> omega

theorem cl_fz (op : BinOp) (x y : Nat) (w : World) : cl (fz op x y w) = fb op (cl x) (cl y) := by
  rw [← fb_cl]
  unfold fz
  cases h : floatBits op .f64 x y with
  | some r => exact cl_num (fb_num h)
  | none => exact cl_nan (cut_nan _ _ _)

theorem cut_lt (x y t : Nat) : Question.cut (.nanBits .f64 x y) t < 18446744073709551616 := by
  unfold Question.cut
  simp only
  have h1 : t / 2 % (2 ^ 52 - 1) < 2 ^ 52 - 1 := Nat.mod_lt _ (by decide)
  have h2 : t % 2 < 2 := Nat.mod_lt _ (by decide)
  omega
theorem fb_lt {op : BinOp} {x y r : Nat} (h : floatBits op .f64 x y = some r) : r < 18446744073709551616 := by
  have := floatBits_wf h
  simpa [Lit.wf] using this
theorem fz_lt (op : BinOp) (x y : Nat) (w : World) : fz op x y w < 18446744073709551616 := by
  unfold fz
  cases h : floatBits op .f64 x y with
  | some r => exact fb_lt h
  | none => exact cut_lt _ _ _

section
variable {P : Program}
theorem run_fl (op : BinOp) (hop : op = .add ∨ op = .sub ∨ op = .mul ∨ op = .quo) (t : TypeId) (x y : Nat) (w : World) :
    (binOp op t (.float .f64 x) (.float .f64 y)).run P w = .ok (.float .f64 (fz op x y w)) (w.drewN (fk op x y)) := by
  cases h : floatBits op .f64 x y with
  | some r =>
    have e1 : fz op x y w = r := by unfold fz; rw [h]
    have e2 : fk op x y = 0 := by unfold fk; rw [h]
    rw [e1, e2]
    exact run_float_arith w op t .f64 x y r h
  | none =>
    have e2 : fk op x y = 1 := by unfold fk; rw [h]
    rw [e2]
    unfold fz
    rw [h]
    unfold floatBits at h
    rcases hop with rfl | rfl | rfl | rfl
    all_goals
      simp only at h
      simp [binOp, Op.floatArith, h, Question.forced]
      rfl
theorem run_fadd (t : TypeId) (x y : Nat) (w : World) : (binOp .add t (.float .f64 x) (.float .f64 y)).run P w = .ok (.float .f64 (fz .add x y w)) (w.drewN (fk .add x y)) := run_fl .add (.inl rfl) t x y w
theorem run_fsub (t : TypeId) (x y : Nat) (w : World) : (binOp .sub t (.float .f64 x) (.float .f64 y)).run P w = .ok (.float .f64 (fz .sub x y w)) (w.drewN (fk .sub x y)) := run_fl .sub (.inr (.inl rfl)) t x y w
theorem run_fmul (t : TypeId) (x y : Nat) (w : World) : (binOp .mul t (.float .f64 x) (.float .f64 y)).run P w = .ok (.float .f64 (fz .mul x y w)) (w.drewN (fk .mul x y)) := run_fl .mul (.inr (.inr (.inl rfl))) t x y w
theorem run_fquo (t : TypeId) (x y : Nat) (w : World) : (binOp .quo t (.float .f64 x) (.float .f64 y)).run P w = .ok (.float .f64 (fz .quo x y w)) (w.drewN (fk .quo x y)) := run_fl .quo (.inr (.inr (.inr rfl))) t x y w
end

/-- How two classes stand. -/
def fo (x y : Option Nat) : Option Ordering := x.bind fun a => y.bind fun b => Ieee.double.order a b
theorem order_nanL (a b : Datum) (h : a.isNaN = true) : a.order b = none := by
  cases a <;> simp [Datum.isNaN] at h; rfl
theorem order_nanR (a b : Datum) (h : b.isNaN = true) : a.order b = none := by
  cases b <;> simp [Datum.isNaN] at h; cases a <;> rfl
theorem fo_cl (x y : Nat) : FloatKind.f64.format.order x y = fo (cl x) (cl y) := by
  unfold fo cl
  show Ieee.double.order x y = _
  by_cases hx : nanB x = true
  · rw [if_pos hx]
    exact order_nanL _ _ hx
  · rw [if_neg hx]
    by_cases hy : nanB y = true
    · rw [if_pos hy]
      exact order_nanR _ _ hy
    · rw [if_neg hy]; rfl
theorem fo_self (x : Nat) : FloatKind.f64.format.order x x = if nanB x = true then none else some .eq := by
  show Ieee.double.order x x = _
  unfold Ieee.Format.order nanB
  cases Ieee.double.read x with
  | nan s f => rfl
  | infinity s => cases s <;> rfl
  | number s m i =>
    simp [Datum.order, Datum.isNaN]
/-- The absolute value, of a word and of a class. -/
def ab (c : Option Nat) : Option Nat := c.map fun x => x % 9223372036854775808
theorem cl_ab (x : Nat) : cl (x % 9223372036854775808) = ab (cl x) := by
  unfold cl ab
  have e : nanB (x % 9223372036854775808) = nanB x := by
    rw [nanB_eq, nanB_eq]
    rw [show (2 : Nat) ^ 63 = 9223372036854775808 from rfl, Nat.mod_mod]
  rw [e]
  split <;> rfl
/-- Is it infinite? -/
def infB (c : Option Nat) : Bool := fo (ab c) (some 9218868437227405311) == some .gt
/-- The class of a number that is no NaN, by looking. -/
theorem cl_lit (n : Nat) (h : n % 9223372036854775808 ≤ 0x7ff0000000000000) : cl n = some n := by
  apply cl_num
  rw [nanB_eq]
  exact decide_eq_false (by rw [show (2 : Nat) ^ 63 = 9223372036854775808 from rfl]; omega)
/-- alike: both NaN, or one word. -/
theorem alike_of {a b : Nat} (h : cl a = cl b) : (nanB a = true ∧ nanB b = true) ∨ a = b := by
  unfold cl at h
  split at h
  · split at h
    · exact .inl ⟨by assumption, by assumption⟩
    · cases h
  · split at h
    · cases h
    · exact .inr (Option.some.inj h)
end Go.Proofs.YtjmninjaoemhjaaDoor
