/- A bundle of texts. -/
import Derived.Test.YtjmninjaoemhjaaDoorBv24
import Derived.Test.YtjmninjaoemhjaaDoorBv21
import Derived.Lib.QuietBelow
import Derived.BigQuiet
/- LabelsVectors: 1 by a float that is nought. -/
namespace Go.Proofs.YtjmninjaoemhjaaDoor
open Ieee

theorem one_read : FloatKind.f64.format.read 4607182418800017408 = .number false 4503599627370496 (-52) := by decide +kernel
theorem nought_read : FloatKind.f64.format.read 0 = .number false 0 (-1074) := by decide +kernel
theorem quo_one {x : Nat} (h : FloatKind.f64.format.order x 0 = some .eq) : ∃ r, floatBits .quo .f64 4607182418800017408 x = some r ∧ nanB r = false := by
  have h1 : ∃ r, floatBits .quo .f64 4607182418800017408 x = some r := by
    show ∃ r, FloatKind.f64.format.div 4607182418800017408 x = some r
    unfold Ieee.Format.div
    unfold Ieee.Format.order at h
    rw [one_read]
    rw [nought_read] at h
    generalize FloatKind.f64.format.read x = d at *
    cases d with
    | nan s n => cases h
    | infinity s => cases s <;> cases h
    | number t n j =>
      unfold Datum.quotient
      dsimp only
      by_cases hn : n = 0
      · rw [if_pos hn, if_neg (by decide)]
        exact ⟨_, rfl⟩
      · rw [if_neg hn]
        exact ⟨_, rfl⟩
  obtain ⟨r, hr⟩ := h1
  exact ⟨r, hr, fb_num hr⟩
theorem order_same (x : Nat) : FloatKind.f64.format.order x x = if nanB x = true then none else some .eq := fo_self x
theorem order_nought {x : Nat} (h : nanB x = true) : FloatKind.f64.format.order x 0 = none := by
  rw [fo_cl, cl_nan h]; rfl
end Go.Proofs.YtjmninjaoemhjaaDoor
/- LabelsVectors: alike. -/
namespace Go.Proofs.YtjmninjaoemhjaaDoor
open Go.RowKit Go.Lib Go.Shelf Go.Sort

attribute [local go_sem] Oper.semAt_some run_store_float

theorem core_eq {x y : El} (h : core x = core y) : x.n = y.n ∧ (∀ j, j < x.n → x.f j = y.f j) ∧ x.x = y.x := by
  obtain ⟨h1, h2, h3⟩ : x.n = y.n ∧ K.ll x.f x.n = K.ll y.f y.n ∧ x.x = y.x := by simpa [core] using h
  refine ⟨h1, fun j hj => ?_, h3⟩
  rw [← gL_ll x.f x.n j hj, h2, gL_ll y.f y.n j (by omega)]
set_option maxRecDepth 100000 in
set_option maxHeartbeats 8000000 in
theorem alike_any (a b : Option Addr) (n c d : Nat) (q r : Nat → El) (w : World) (ha : Em w a q n) (hb : Em w b r n) (hq : ∀ j, j < n → Lm w (q j).a (q j).f (q j).n ∧ (q j).n ≤ 4294967296) (hr : ∀ j, j < n → Lm w (r j).a (r j).f (r j).n)
    (hc : ∀ j, j < n → core (q j) = core (r j)) (hn : n ≤ 1099511627776) : Calls Tryd.prog 18 #[.slice a n c, .slice b n d] w fun e w' => e = .returned (.bool true) ∧ Below w.heap.size w w' := by
  have HA : Hid (Em w a q n ∧ Em w b r n) := ⟨ha, hb⟩
  have HQ : Hid (∀ j, j < n → (Lm w (q j).a (q j).f (q j).n ∧ (q j).n ≤ 4294967296) ∧ Lm w (r j).a (r j).f (r j).n ∧ core (q j) = core (r j)) := (show ∀ j, _ → _ from fun j hj => ⟨hq j hj, hr j hj, hc j hj⟩)
  have hni : (n : Int) ≤ 1099511627776 := by omega
  clear ha hb hq hr hc
  go_enter Tryd.func18, Tryd.ntmps18
  go_wp2
  go_loopw [15] (fun t W => ∃ i : Nat, t = .int .i64 (i : Int) ∧ i ≤ n ∧ Hid (Below w.heap.size w W)) (fun t _ => n - (RowKit.intOf t).toNat)
  case atStart => exact ⟨0, rfl, by omega, Below.refl _ _⟩
  case round =>
    obtain ⟨i, rfl, hi, HB⟩ := hrel
    by_cases hlt : i < n
    · have hii : (i : Int) < n := by omega
      have i0 : (0 : Int) ≤ (i : Int) := by omega
      obtain ⟨⟨hl1, hnn⟩, hl2, hcr⟩ := HQ.out i hlt
      obtain ⟨e1, e2, e3⟩ := core_eq hcr
      obtain ⟨g, o, rfl, hg, x0, x1⟩ := (HA.out.1.below HB.out).at i hlt
      obtain ⟨g', o', rfl, hg', y0, y1⟩ := (HA.out.2.below HB.out).at i hlt
      have hL2 : Lm w (r i).a (q i).f (q i).n := by
        rw [e1]
        exact K.Lm.congr hl2 fun j hj => e2 j (by omega)
      have hL1 : Lm w (q i).a (q i).f (q i).n := hl1
      rw [← e1] at y0
      rw [← e3] at y1
      have HL : Hid (Lm w (q i).a (q i).f (q i).n ∧ Lm w (r i).a (q i).f (q i).n ∧ (q i).n ≤ 4294967296) := ⟨hL1, hL2, hnn⟩
      clear e1 e2 e3 hcr hl1 hl2 hL1 hL2 hnn hg hg'
      generalize (q i).f = ef at *
      generalize (q i).n = en at *
      generalize (q i).a = ea at *
      generalize (q i).c = ec at *
      generalize (q i).x = ex at *
      generalize (r i).a = fa at *
      generalize (r i).c = fc at *
      go_upto_region 6 with fail
      go_big_quiet (fail)
      have z0 : (wr.drewN nq).cell? ⟨g, o + i * 2, none⟩ = some (.slice ea en ec) := x0
      have z1 : (wr.drewN nq).cell? ⟨g', o' + i * 2, none⟩ = some (.slice fa en fc) := y0
      have HB2 : Hid (Below w.heap.size w (wr.drewN nq)) := below_drewN HB.out nq
      generalize wr.drewN nq = w2 at *
      clear x0 x1 y0 y1
      have hcs : ∀ dr os, Calls Tryd.prog 9 #[.slice ea en ec, .slice fa en fc] (grow (redrawn w2 dr) os) fun e w'' => e = .returned (.bool true) ∧ ∃ p : Regrown, w'' = grow (redrawn w2 p.d) p.os := fun dr os => Calls.regrown_of (same_true ea fa ec fc en ef _ ((HL.out.1.below HB2.out).below (below_regrown w2 dr os)) ((HL.out.2.1.below HB2.out).below (below_regrown w2 dr os)) (by have := HL.out.2.2; omega))
      have q0 := fun dr os => cell_regrown z0 dr os
      have q1 := fun dr os => cell_regrown z1 dr os
      by_cases hnan : nanB ex = true
      · have o1 : FloatKind.f64.format.order ex ex = none := by rw [order_same, if_pos hnan]
        have o2 : FloatKind.f64.format.order ex 0 = none := order_nought hnan
        clear HL hnan
        go_wp2_with fail
        refine wp_region_quiet_below (by kernel_rfl) (by kernel_rfl) ?_
        iterate 10 (quiet_step (fail))
        quiet_step (exact hcs _ _)
        iterate 27 (first | go_big_quiet_skip | quiet_step (fail))
        refine wpQuiet_nil ?_
        intro _ hw'
        obtain ⟨⟨dq, osq⟩, hw''⟩ := hw'
        subst hw''
        have HB3 : Hid (Below w.heap.size w (grow (redrawn w2 dq) osq)) := HB2.out.trans ((below_regrown w2 dq osq).mono HB2.out.size)
        go_wp2
        exact ⟨⟨i + 1, by go_num, by omega, HB3⟩, by simp [RowKit.intOf]; omega⟩
      · have o1 : FloatKind.f64.format.order ex ex = some .eq := by rw [order_same, if_neg hnan]
        by_cases hz : FloatKind.f64.format.order ex 0 = some .eq
        · obtain ⟨z, hz1, hz2⟩ := quo_one hz
          have hqu : ∀ W, (binOp .quo 43 (.float .f64 4607182418800017408) (.float .f64 ex)).run Tryd.prog W = .ok (.float .f64 z) W := fun W => run_float_arith W .quo 43 .f64 4607182418800017408 ex z hz1
          have o3 : FloatKind.f64.format.order z z = some .eq := by rw [order_same, if_neg (by rw [hz2]; decide)]
          clear HL hnan hz1 hz2
          go_wp2_with fail
          refine wp_region_quiet_below (by kernel_rfl) (by kernel_rfl) ?_
          iterate 10 (quiet_step (fail))
          quiet_step (exact hcs _ _)
          iterate 27 (first | go_big_quiet_skip | quiet_step (fail))
          refine wpQuiet_nil ?_
          intro _ hw'
          obtain ⟨⟨dq, osq⟩, hw''⟩ := hw'
          subst hw''
          have HB3 : Hid (Below w.heap.size w (grow (redrawn w2 dq) osq)) := HB2.out.trans ((below_regrown w2 dq osq).mono HB2.out.size)
          go_wp2
          exact ⟨⟨i + 1, by go_num, by omega, HB3⟩, by simp [RowKit.intOf]; omega⟩
        · have hzb : (FloatKind.f64.format.order ex 0 == some .eq) = false := by simpa using hz
          clear HL hnan hz
          go_wp2_with fail
          refine wp_region_quiet_below (by kernel_rfl) (by kernel_rfl) ?_
          iterate 10 (quiet_step (fail))
          quiet_step (exact hcs _ _)
          iterate 27 (first | go_big_quiet_skip | quiet_step (fail))
          refine wpQuiet_nil ?_
          intro _ hw'
          obtain ⟨⟨dq, osq⟩, hw''⟩ := hw'
          subst hw''
          have HB3 : Hid (Below w.heap.size w (grow (redrawn w2 dq) osq)) := HB2.out.trans ((below_regrown w2 dq osq).mono HB2.out.size)
          go_wp2
          exact ⟨⟨i + 1, by go_num, by omega, HB3⟩, by simp [RowKit.intOf]; omega⟩
    · obtain rfl : i = n := by omega
      have hii : ¬ (i : Int) < i := by omega
      go_wp2
      go_ret
      exact ⟨rfl, HB.out⟩
end Go.Proofs.YtjmninjaoemhjaaDoor
/- LabelsVectors: the vector that the law looks at first; vectors that are read; Vector over one's own vector. -/
namespace Go.Proofs.YtjmninjaoemhjaaDoor
open Go.RowKit Go.Lib Go.Shelf Go.Sort

def qA (h : Nat) : Nat → El := fun j => if j = 0 then ⟨some ⟨h, 0, none⟩, 1, 1, fun _ => (⟨#[98]⟩, ⟨#[49]⟩), 4607182418800017408⟩ else ⟨none, 0, 0, fun _ => (⟨#[]⟩, ⟨#[]⟩), 4611686018427387904⟩
def coA : Co := (1, [(⟨#[98]⟩, ⟨#[49]⟩)], 4607182418800017408)
def coB : Co := (0, [], 4611686018427387904)
theorem cv_A : CV [coA, coB] 0 [coB, coA] := by
  have ok : okC coA = true ∧ okC coB = true := ⟨by kernel_rfl, by kernel_rfl⟩
  refine .inr ⟨rfl, fun c hc => ?_, List.Perm.swap _ _ _, ?_⟩
  · rcases List.mem_cons.1 hc with rfl | hc
    · exact ok.1
    · rcases List.mem_cons.1 hc with rfl | hc
      · exact ok.2
      · cases hc
  · have h : cfC coB coA = -1 := by kernel_rfl
    simp [h]
set_option maxRecDepth 100000 in
theorem awake_vec (w : World) (hT : Lib.Utf8Tabs 1 2 w) :
    Calls Tryd.prog 15 #[.slice (some ⟨w.heap.size + 1, 0, none⟩) 2 2] ((w.alloc (.cells #[.string ⟨#[98]⟩, .string ⟨#[49]⟩] 26)).alloc (.cells #[.slice (some ⟨w.heap.size, 0, none⟩) 1 1, .float .f64 4607182418800017408, .slice none 0 0, .float .f64 4611686018427387904] 45)) fun e w' => ∃ g c, e = .returned (.tuple #[.slice (some ⟨g, 0, none⟩) 2 c, .int .i64 0]) ∧ Below w.heap.size w w' ∧ w'.cell? ⟨g, 1, none⟩ = some (.float .f64 4611686018427387904) := by
  obtain ⟨W1, hW1⟩ : ∃ W1, W1 = w.alloc (.cells #[.string ⟨#[98]⟩, .string ⟨#[49]⟩] 26) := ⟨_, rfl⟩
  have s1 : W1.heap.size = w.heap.size + 1 := by rw [hW1]; simp
  have b1 : Below w.heap.size w W1 := by rw [hW1]; exact (Below.refl _ w).alloc (Nat.le_refl _) _
  have e1 : W1.heap[w.heap.size]? = some (.cells #[.string ⟨#[98]⟩, .string ⟨#[49]⟩] 26) := by rw [hW1]; exact heap_alloc_new w _
  have x0 : W1.cell? ⟨w.heap.size, 0, none⟩ = some (.string ⟨#[98]⟩) := by unfold World.cell?; rw [e1]; rfl
  have x1 : W1.cell? ⟨w.heap.size, 1, none⟩ = some (.string ⟨#[49]⟩) := by unfold World.cell?; rw [e1]; rfl
  rw [← hW1]
  obtain ⟨W, hW⟩ : ∃ W, W = W1.alloc (.cells #[.slice (some ⟨w.heap.size, 0, none⟩) 1 1, .float .f64 4607182418800017408, .slice none 0 0, .float .f64 4611686018427387904] 45) := ⟨_, rfl⟩
  have s2 : W.heap.size = w.heap.size + 2 := by rw [hW]; simp [s1]
  have b2 : Below W1.heap.size W1 W := by rw [hW]; exact (Below.refl _ W1).alloc (Nat.le_refl _) _
  have e2 : W.heap[w.heap.size + 1]? = some (.cells #[.slice (some ⟨w.heap.size, 0, none⟩) 1 1, .float .f64 4607182418800017408, .slice none 0 0, .float .f64 4611686018427387904] 45) := by rw [← s1, hW]; exact heap_alloc_new W1 _
  rw [← hW]
  have y0 := bcell2 b2 x0
  have y1 := bcell2 b2 x1
  have hEm : Em W (some ⟨w.heap.size + 1, 0, none⟩) (qA w.heap.size) 2 := by
    refine .inr ⟨w.heap.size + 1, 0, rfl, by omega, fun j hj => ?_⟩
    rcases (show j = 0 ∨ j = 1 by omega) with rfl | rfl
    · exact ⟨by unfold World.cell?; rw [e2]; rfl, by unfold World.cell?; rw [e2]; rfl⟩
    · exact ⟨by unfold World.cell?; rw [e2]; rfl, by unfold World.cell?; rw [e2]; rfl⟩
  have hEo : ∀ j, j < 2 → Eo W (qA w.heap.size j) := fun j hj => by
    rcases (show j = 0 ∨ j = 1 by omega) with rfl | rfl
    · refine ⟨.inr ⟨w.heap.size, 0, rfl, by omega, fun k hk => ?_⟩, by show 1 ≤ _; omega, fun k _ => ⟨by show 1 ≤ _; omega, by show 1 ≤ _; omega⟩⟩
      obtain rfl : k = 0 := by
        have : k < 1 := hk
        omega
      exact ⟨y0, y1⟩
    · exact ⟨.inl rfl, by show 0 ≤ _; omega, fun k hk => absurd (show k < 0 from hk) (by omega)⟩
  have hTW : Lib.Utf8Tabs 1 2 W := tabs_below hT (tabs_size hT) (b1.trans (b2.mono b1.size))
  refine (vector_any _ 2 2 (qA w.heap.size) W hEm (by intro h; cases h) hEo (fun j hj b o hb => ?_) hTW (by omega)).mono ?_
  · rcases (show j = 0 ∨ j = 1 by omega) with rfl | rfl
    · cases hb
      omega
    · cases hb
  · intro e w' hVR
    obtain ⟨v, E, N, r, rfl, b, hV, hC⟩ := hVR.cv
    obtain ⟨hE, hl⟩ := hC.uniq (show CV ((elL (qA w.heap.size) 2).map core) 0 [coB, coA] from cv_A)
    have hN : N = 2 := by
      have := congrArg List.length hl
      simpa [elL] using this
    subst hE hN
    have hr : (r 0).x = 4611686018427387904 := by
      have h0 : core (r 0) = coB := by
        have := congrArg (fun l => l[0]?) hl
        simpa [elL] using this
      exact congrArg (fun c => c.2.2) h0
    rcases hV.1.2 with ⟨_, e⟩ | ⟨g, cap, cur, hv, _⟩
    · omega
    · subst hv
      obtain ⟨g', o', e, _, _, z1⟩ := (elM_row hV.1).at 0 (by omega)
      have hrow := World.ownsRow.cells hV.1 (g := g) rfl 1 (.float .f64 (r 0).x) (by
        have := fl_get e2_len (elL r 2) 0 1 (by omega)
        rw [elL_get r 2 0 (by omega)] at this
        exact this)
      rw [Go.WideShapes.add_plain] at hrow
      rw [hr] at hrow
      exact ⟨g, cap, rfl, (b1.trans (b2.mono b1.size)).trans (b.mono (by omega)), hrow⟩
/-- A vector that is read. -/
structure RW (W : World) (v : Value) (n : Nat) (q : Nat → El) : Prop where
  sl : ∃ a c, v = .slice a n c ∧ Em W a q n
  lm : ∀ j, j < n → Lm W (q j).a (q j).f (q j).n ∧ (q j).n ≤ 4294967296
theorem RW.below {W W' : World} {v : Value} {n : Nat} {q : Nat → El} (h : RW W v n q) (b : Below W.heap.size W W') : RW W' v n q := by
  obtain ⟨a, c, e, hm⟩ := h.sl
  exact ⟨⟨a, c, e, hm.below b⟩, fun j hj => ⟨(h.lm j hj).1.below b, (h.lm j hj).2⟩⟩
theorem Vo.rw {S n : Nat} {W : World} {v : Value} {q : Nat → El} (h : Vo S W v n q) (hs : ∀ j, j < n → (q j).n ≤ 4294967296) : RW W v n q := by
  obtain ⟨a, c, rfl, _⟩ := K.row_sl h.1
  exact ⟨⟨a, c, rfl, elM_row h.1⟩, fun j hj => ⟨lm_own (h.2.1 j hj).1, hs j hj⟩⟩
theorem alike_rw {W : World} {v u : Value} {n : Nat} {q r : Nat → El} (hv : RW W v n q) (hu : RW W u n r) (hc : ∀ j, j < n → core (q j) = core (r j)) (hn : n ≤ 1099511627776) :
    Calls Tryd.prog 18 #[v, u] W fun e w' => e = .returned (.bool true) ∧ Below W.heap.size W w' := by
  obtain ⟨a, c, rfl, hm⟩ := hv.sl
  obtain ⟨b, d, rfl, hm'⟩ := hu.sl
  exact alike_any a b n c d q r W hm hm' hv.lm (fun j hj => (hu.lm j hj).1) hc hn
/-- What Vector answers, against a vector that is known. -/
def VA (E : Int) (N : Nat) (qw : Nat → El) (w : World) (e : Ending) (w' : World) : Prop := ∃ a c r, e = .returned (.tuple #[.slice a N c, .int .i64 E]) ∧ Below w.heap.size w w' ∧ Vo w.heap.size w' (.slice a N c) N r ∧ ∀ j, j < N → core (r j) = core (qw j)
theorem cores_eq {q r : Nat → El} {n m : Nat} (h : (elL q n).map core = (elL r m).map core) : n = m ∧ ∀ j, j < n → core (q j) = core (r j) := by
  have hn : n = m := by
    have := congrArg List.length h
    simpa [elL] using this
  subst hn
  refine ⟨rfl, fun j hj => ?_⟩
  have := congrArg (fun l => l[j]?) h
  simpa [elL, hj] using this
theorem eq_cores {q r : Nat → El} {n : Nat} (h : ∀ j, j < n → core (q j) = core (r j)) : (elL q n).map core = (elL r n).map core := by
  simp only [elL, List.map_map]
  exact List.map_congr_left fun j hj => h j (List.mem_range.1 hj)
theorem vec_vo {W : World} {S n c N : Nat} {a : Option Addr} {r qw : Nat → El} {E : Int} (hV : Vo S W (.slice a n c) n r) (hs : ∀ j, j < n → (r j).n ≤ 4294967296 ∧ ∀ k, k < (r j).n → ((r j).f k).1.size ≤ 140737488355328 ∧ ((r j).f k).2.size ≤ 140737488355328)
    (hT : Lib.Utf8Tabs 1 2 W) (hn : n ≤ 1099511627776) (hC : CV ((elL r n).map core) E ((elL qw N).map core)) : Calls Tryd.prog 15 #[.slice a n c] W (VA E N qw W) := by
  have ha : a = none → n = 0 := fun e => by
    rcases hV.1.2 with ⟨_, h⟩ | ⟨g, cap, cur, h, _⟩
    · exact h
    · rw [e] at h; cases h
  refine (vector_any a n c r W (elM_row hV.1) ha (fun j hj => ⟨lm_own (hV.2.1 j hj).1, (hs j hj).1, (hs j hj).2⟩) (fun j hj b o hb => ?_) hT hn).mono ?_
  · have h1 := (hV.2.1 j hj).1
    exact (own_bd h1 b (by rw [hb]; rfl)).2
  · intro e w' h
    obtain ⟨v, E', N', r', rfl, b, hV', hC'⟩ := h.cv
    obtain ⟨rfl, hl⟩ := hC'.uniq hC
    obtain ⟨rfl, hj⟩ := cores_eq hl
    obtain ⟨a', c', rfl, _⟩ := K.row_sl hV'.1
    exact ⟨a', c', r', rfl, b, hV', hj⟩
/-- What the reference's Vector answers. -/
def WA (n : Nat) (q : Nat → El) (w : World) (e : Ending) (w' : World) : Prop := ∃ E N a c qw, e = .returned (.tuple #[.slice a N c, .int .i64 E]) ∧ Below w.heap.size w w' ∧ w'.ownsRow w.heap.size 45 2 (.slice a N c) N (fl e2 (elL qw N)) ∧ N ≤ n ∧ (∀ j, j < N → ∃ k, k < n ∧ q k = qw j) ∧ CV ((elL q n).map core) E ((elL qw N).map core)
theorem RVR.wa {q : Nat → El} {n : Nat} {w w' : World} {e : Ending} (h : RVR q n w e w') : WA n q w e w' := by
  obtain ⟨v, E, ks, rfl, b, o, hm, hC⟩ := h.cv
  obtain ⟨a, c, rfl, _⟩ := K.row_sl o
  have hg := elL_gE ks
  have hl := hC.len
  rw [List.length_map, List.length_map, elL_len] at hl
  refine ⟨E, ks.length, a, c, gE ks, rfl, b, by rw [hg]; exact o, hl, fun j hj => hm _ ?_, by rw [hg]; exact hC⟩
  have : (elL (gE ks) ks.length)[j]? = some (gE ks j) := elL_get _ _ _ hj
  rw [hg] at this
  exact List.mem_of_getElem? this
end Go.Proofs.YtjmninjaoemhjaaDoor
/- LabelsVectors: the vector that is changed. -/
namespace Go.Proofs.YtjmninjaoemhjaaDoor
open Go.RowKit Go.Lib Go.Shelf Go.Sort

/-- The elements up to i are changed, and of element i the labels up to j. -/
structure Chi (S T : Nat) (w0 : World) (v : Value) (n : Nat) (r0 : Nat → El) (i j : Nat) (r : Nat → El) (W : World) : Prop where
  vo : Vo S W v n r
  pts : ∀ k, k < n → (r k).a = (r0 k).a ∧ (r k).n = (r0 k).n ∧ (r k).c = (r0 k).c ∧ ∀ m, m < (r0 k).n → ((r k).f m).1 = ((r0 k).f m).1 ∧ ((r k).f m).2.size ≤ ((r0 k).f m).2.size + 1
  left : ∀ k, i < k → r k = r0 k
  cur : ∀ m, j ≤ m → (r i).f m = (r0 i).f m
  kp : Kp (fun b => S ≤ b ∧ b < T) w0 W
theorem Chi.start {S T n : Nat} {w0 : World} {v : Value} {r0 : Nat → El} (h : Vo S w0 v n r0) : Chi S T w0 v n r0 0 0 r0 w0 :=
  ⟨h, fun k _ => ⟨rfl, rfl, rfl, fun m _ => ⟨rfl, by omega⟩⟩, fun _ _ => rfl, fun _ _ => rfl, Kp.refl _ _⟩
theorem Chi.cell {S T n i j : Nat} {w0 W : World} {v : Value} {r0 r : Nat → El} (h : Chi S T w0 v n r0 i j r W) (hi : i < n) (hj : j < (r0 i).n) :
    ∃ g, (r0 i).a = some ⟨g, 0, none⟩ ∧ W.cell? ⟨g, j * 2 + 1, none⟩ = some (.string ((r0 i).f j).2) ∧ W.frozen? ⟨g, j * 2 + 1, none⟩ = false := by
  obtain ⟨e1, e2, e3, _⟩ := h.pts i hi
  have o := ow_ir.1 (h.vo.2.1 i hi).1
  rw [e1, e2, e3] at o
  rcases o.2 with ⟨_, e⟩ | ⟨g, cap, cur, e, _⟩
  · omega
  · have ea : (r0 i).a = some ⟨g, 0, none⟩ := by
      have := congrArg (fun v => match v with | .slice a _ _ => a | _ => none) e
      exact this
    rw [ea] at o
    obtain ⟨_, h1, _, h2⟩ := o.cells j hj
    rw [h.cur j (Nat.le_refl _)] at h1
    exact ⟨g, ea, h1, h2⟩
theorem Chi.value {S T n i j g : Nat} {w0 W : World} {v : Value} {r0 r : Nat → El} (h : Chi S T w0 v n r0 i j r W) (hi : i < n) (hj : j < (r0 i).n) (hg : (r0 i).a = some ⟨g, 0, none⟩) (hb : S ≤ g ∧ g < T) :
    ∃ r', Chi S T w0 v n r0 i (j + 1) r' (W.setCell ⟨g, j * 2 + 1, none⟩ (.string (((r0 i).f j).2 ++ ⟨#[120]⟩))) := by
  obtain ⟨e1, e2, e3, e4⟩ := h.pts i hi
  have hv := h.vo.value i hi (by rw [e1]; exact hg) j (by rw [e2]; exact hj) (((r0 i).f j).2 ++ ⟨#[120]⟩)
  refine ⟨_, hv, fun k hk => ?_, fun k hk => ?_, fun m hm => ?_, h.kp.setCell (p := ⟨g, j * 2 + 1, none⟩) hb _⟩
  · by_cases e : k = i
    · subst e
      rw [up_at]
      refine ⟨e1, e2, e3, fun m hm => ?_⟩
      show (K.up (r k).f j _ m).1 = _ ∧ (K.up (r k).f j _ m).2.size ≤ _
      by_cases em : m = j
      · rw [em, K.up_same]
        refine ⟨(e4 j hj).1, ?_⟩
        rw [ByteArray.size_append]
        exact Nat.le_refl _
      · rw [K.up_other _ _ _ _ em]
        exact e4 m hm
    · rw [up_ne _ _ _ _ e]
      exact h.pts k hk
  · rw [up_ne _ _ _ _ (by omega)]
    exact h.left k hk
  · rw [up_at]
    show K.up (r i).f j _ m = _
    rw [K.up_other _ _ _ _ (by omega)]
    exact h.cur m (by omega)
theorem Chi.put {S T n i j g c : Nat} {w0 W : World} {r0 r : Nat → El} (h : Chi S T w0 (.slice (some ⟨g, 0, none⟩) n c) n r0 i j r W) (hi : i < n) (hb : S ≤ g ∧ g < T) (x : Nat) :
    ∃ r', Chi S T w0 (.slice (some ⟨g, 0, none⟩) n c) n r0 (i + 1) 0 r' (W.setCell ⟨g, i * 2 + 1, none⟩ (.float .f64 x)) := by
  refine ⟨_, h.vo.put i hi x, fun k hk => ?_, fun k hk => ?_, fun m _ => ?_, h.kp.setCell (p := ⟨g, i * 2 + 1, none⟩) hb _⟩
  · by_cases e : k = i
    · subst e
      rw [up_at]
      exact h.pts k hk
    · rw [up_ne _ _ _ _ e]
      exact h.pts k hk
  · rw [up_ne _ _ _ _ (by omega)]
    exact h.left k (by omega)
  · rw [up_ne _ _ _ _ (by omega), h.left (i + 1) (by omega)]
end Go.Proofs.YtjmninjaoemhjaaDoor
