/- A bundle of texts. -/
import Derived.Test.YtjmninjaoemhjaaDoorBv18
import Derived.Deep.DeepFit
import Derived.BigQuiet
import Derived.Deep.RegionHeld3
/- apart: the walk. -/
namespace Go.Proofs.YtjmninjaoemhjaaDoor.K
open Go.RowKit Go.Lib

attribute [local go_sem] Oper.semAt_some

theorem bcellK {W W' : World} {p : Addr} {v : Value} (b : Below W.heap.size W W') (h : W.cell? p = some v) : W'.cell? p = some v := (Kp.of (M := fun _ => False) b).cell h id
theorem Own.cells {B : Nat} {W : World} {T n c : Nat} {ys : List Lb} (h : Own B W (.slice (some ⟨T, 0, none⟩) n c) ys) : ∀ j u, (lc (gL ys) ys.length)[j]? = some u → W.cell? ⟨T, j, none⟩ = some u := fun j u hj => by
  have := World.ownsRow.cells h (g := T) rfl j u hj
  rw [Go.WideShapes.add_plain, Nat.zero_add] at this
  exact this

/-- A later step that turns only what is new. -/
theorem _root_.Go.Proofs.YtjmninjaoemhjaaDoor.Kp.transF {M M' : Nat → Prop} {A B C : World} (h : Kp M A B) (k : Kp M' B C) (hm : ∀ i, i < A.heap.size → M' i → False) : Kp M A C :=
  ⟨k.os.trans h.os, k.tape.trans h.tape, k.output.trans h.output, Nat.le_trans h.size k.size, fun b hb hs => (k.block b (Nat.lt_of_lt_of_le hb h.size) (hm b hb)).trans (h.block b hb hs)⟩
/-- A boxed label. -/
structure Bx (W : World) (B : Nat) (x : Lb) : Prop where
  c0 : W.cell? ⟨B, 0, none⟩ = some (.string x.1)
  c1 : W.cell? ⟨B, 1, none⟩ = some (.string x.2)
  f0 : W.frozen? ⟨B, 0, none⟩ = false
  f1 : W.frozen? ⟨B, 1, none⟩ = false
theorem Bx.lt {W : World} {B : Nat} {x : Lb} (h : Bx W B x) : B < W.heap.size := World.block_lt_of_cell? W _ h.c0
theorem box_new (w : World) (x : Lb) : Bx (w.alloc (lbX x)) w.heap.size x := by
  have e := heap_alloc_new w (lbX x)
  refine ⟨?_, ?_, ?_, ?_⟩
  · unfold World.cell?; rw [e]; rfl
  · unfold World.cell?; rw [e]; rfl
  · unfold World.frozen?; rw [e]; rfl
  · unfold World.frozen?; rw [e]; rfl
theorem Bx.of_block {W W' : World} {B : Nat} {x : Lb} (h : Bx W B x) (e : W'.heap[B]? = W.heap[B]?) : Bx W' B x :=
  ⟨(World.cell?_of_block (w := W) e).trans h.c0, (World.cell?_of_block (w := W) e).trans h.c1, (World.frozen?_of_block (w := W) e).trans h.f0, (World.frozen?_of_block (w := W) e).trans h.f1⟩
theorem Bx.below {W W' : World} {B : Nat} {x : Lb} (h : Bx W B x) (b : Below W.heap.size W W') : Bx W' B x := h.of_block (b.block B h.lt)
theorem Bx.put {W : World} {B : Nat} {x : Lb} (h : Bx W B x) (y : Lb) : Bx ((W.setCell ⟨B, 0, none⟩ (.string y.1)).setCell ⟨B, 1, none⟩ (.string y.2)) B y := by
  have a1 : (W.setCell ⟨B, 0, none⟩ (.string y.1)).cell? ⟨B, 1, none⟩ = some (.string x.2) := by
    rw [World.cell?_setCell_other _ _ _ _ (by intro e; cases e)]
    exact h.c1
  refine ⟨?_, World.cell?_setCell_same _ _ _ a1, ?_, ?_⟩
  · rw [World.cell?_setCell_other _ _ _ _ (by intro e; cases e)]
    exact World.cell?_setCell_same _ _ _ h.c0
  · simp [h.f0]
  · simp [h.f1]
theorem Bx.put_far {W : World} {B C : Nat} {x : Lb} (h : Bx W B x) (u v : Value) (hne : B ≠ C) : Bx ((W.setCell ⟨C, 0, none⟩ u).setCell ⟨C, 1, none⟩ v) B x := by
  have k := ((Kp.refl (fun b => b = C) W).setCell (p := ⟨C, 0, none⟩) rfl u).setCell (p := ⟨C, 1, none⟩) rfl v
  exact h.of_block (k.block B h.lt hne)
theorem bx_below (W : World) (C : Nat) {n : Nat} (x : Lb) (hn : n ≤ C) : Below n W ((W.setCell ⟨C, 0, none⟩ (.string x.1)).setCell ⟨C, 1, none⟩ (.string x.2)) :=
  ((Below.refl _ W).setCell (p := ⟨C, 0, none⟩) hn _).setCell (p := ⟨C, 1, none⟩) hn _
theorem bx_two (W w2 : World) (x y : Lb) (b : Below (W.alloc (lbX x)).heap.size (W.alloc (lbX x)) w2) : Bx (w2.alloc (lbX y)) W.heap.size x ∧ Bx (w2.alloc (lbX y)) w2.heap.size y ∧ Below W.heap.size W (w2.alloc (lbX y)) := by
  have b1 : Below W.heap.size W (W.alloc (lbX x)) := (Below.refl _ W).alloc (Nat.le_refl _) _
  have b2 := b1.trans (b.mono b1.size)
  exact ⟨((box_new W x).below b).below ((Below.refl _ _).alloc (Nat.le_refl _) _), box_new w2 y, b2.alloc b2.size _⟩

set_option maxHeartbeats 8000000 in
set_option maxRecDepth 100000 in
theorem apart_any (MM : Nat → Prop) (q B BL cap : Nat) (V : Nat → Value) (X : Nat → List Lb) (col : Nat → Nat) (w : World) (hq : q ≤ 4294967295) (hX : ∀ i, i < q → (X i).length ≤ 1073741824) (h0 : St0 MM q B BL V col w) (h1 : P1 q B V col X 0 w) :
    Calls Tryd.prog 19 #[.slice (some ⟨BL, 0, none⟩) q cap] w fun e w' => e = .returned (.bool true) ∧ Kp MM w w' := by
  have HX : Hid (∀ i, i < q → (X i).length ≤ 1073741824) := hX
  have H0 : Hid (St0 MM q B BL V col w) := h0
  have H1 : Hid (P1 q B V col X 0 w) := h1
  have hN := fun a b => ne_lb (a, b)
  clear hX h0 h1
  go_enter Tryd.func19, Tryd.ntmps19
  go_wp2
  go_loopw [22] (fun t W => ∃ p : Nat, t = .int .i64 (p : Int) ∧ p ≤ q ∧ Hid (St0 MM q B BL V col W) ∧ Hid (P1 q B V col X p W) ∧ Hid (Kp MM w W)) (fun t _ => q - (RowKit.intOf t).toNat)
  case atStart => exact ⟨0, rfl, by omega, H0, H1, Kp.refl _ _⟩
  case round =>
    obtain ⟨p, rfl, hp, hs, hh, hbw⟩ := hrel
    by_cases hlt : p < q
    · have hown := hh.out p hlt
      rw [if_neg (by omega)] at hown
      have d0 := hs.out.cells p hlt
      have hpi : (p : Int) < q := by omega
      have hxl := HX.out p hlt
      rcases Nat.eq_zero_or_pos (X p).length with hz | hpos
      · obtain ⟨a, c, hv⟩ := hown.1.rd.len
        rw [hv, hz] at d0
        have HNX : Hid (P1 q B V col X (p + 1) wr) := hh.out.step (Kp.refl _ _) (by
          have e : mk1 (fun i => (X i).length) p = X p := by
            have hx : X p = [] := List.eq_nil_of_length_eq_zero hz
            unfold mk1
            simp only [hz]
            rw [hx]; rfl
          rw [e]
          exact hown)
        clear hown hv hz hxl
        go_wp2
        go_loopw [29] (fun t W => t = .int .i64 0 ∧ W = wr) (fun _ _ => 0)
        case atStart => exact ⟨rfl, rfl⟩
        case round =>
          obtain ⟨rfl, rfl⟩ := hrel
          go_wp2
          exact ⟨⟨p + 1, by go_num, by omega, hs, HNX, hbw⟩, by simp [RowKit.intOf]; omega⟩
      · obtain ⟨g, c, hv, hg, _⟩ := hown.1.rd.at hpos
        rw [hv] at d0
        have HV : Hid (V p = .slice (some ⟨g, 0, none⟩) (X p).length c) := hv
        have HOW : Hid (OwnC B col p wr (.slice (some ⟨g, 0, none⟩) (X p).length c) (ov1 (mkB p 1) (X p) 0)) := by
          rw [hv] at hown
          rw [ov1_zero]
          exact hown
        have hcg : col g = p := by
          rw [hv] at hown
          exact hown.2 g rfl
        clear hown hv
        generalize hn : (X p).length = n at *
        have HL : Hid ((X p).length = n) := hn
        clear hn
        have hni : (n : Int) ≤ 1073741824 := by omega
        go_wp2
        go_loopw [29] (fun t W => ∃ j : Nat, t = .int .i64 (j : Int) ∧ j ≤ n ∧ Hid (OwnC B col p W (.slice (some ⟨g, 0, none⟩) n c) (ov1 (mkB p 1) (X p) j)) ∧ Hid (Kp (fun b => col b = p) wr W)) (fun t _ => n - (RowKit.intOf t).toNat)
        case atStart => exact ⟨0, rfl, by omega, HOW, Kp.refl _ _⟩
        case round =>
          obtain ⟨j, rfl, hj, ho, hc⟩ := hrel
          by_cases hjl : j < n
          · have hji : (j : Int) < n := by omega
            have MK := mark_any p 1 (by omega) (by omega) wr
            have HO1 : Hid (OwnC B col p wr (.slice (some ⟨g, 0, none⟩) n c) (ov1 (mkB p 1) (X p) j)) := ho
            have HC1 : Hid (Kp (fun b => col b = p) _ wr) := hc
            clear ho hc
            go_wp2_with fail
            go_fit MK
            rintro r w2 ⟨rfl, b2⟩
            obtain ⟨z0, z1, z2, z3, om⟩ := Own.mark ((Kp.of (M := fun _ => False) b2).row HO1.out.1 (fun _ _ => id)) HL.out hjl
            have HO2 : Hid (OwnC B col p _ _ (ov1 (mkB p 1) (X p) (j + 1))) := ⟨om, HO1.out.2⟩
            have HK2 : Hid (Kp (fun b => col b = p) _ _) := ((HC1.out.trans (Kp.of b2)).setCell (p := ⟨g, j * 2, none⟩) hcg (.string (mkB p 1).1)).setCell (p := ⟨g, j * 2 + 1, none⟩) hcg (.string (mkB p 1).2)
            generalize (gL (ov1 (mkB p 1) (X p) j) j).1 = o1 at *
            generalize (gL (ov1 (mkB p 1) (X p) j) j).2 = o2 at *
            clear om MK b2
            go_wp2
            exact ⟨⟨j + 1, by go_num, by omega, HO2, HK2⟩, by simp [RowKit.intOf]; omega⟩
          · obtain rfl : j = n := by omega
            have hji : ¬ (j : Int) < j := by omega
            have hm := ho.out
            rw [← HV.out, ← HL.out, ov1_end] at hm
            have HNX : Hid _ := hh.out.step hc.out hm
            have HS : Hid _ := hs.out.stay (by omega) hc.out
            have HB : Hid (Kp MM w _) := hbw.out.trans (hs.out.below (by omega) hc.out)
            clear hm
            go_wp2
            exact ⟨⟨p + 1, by go_num, by omega, HS, HNX, HB⟩, by simp [RowKit.intOf]; omega⟩
    · obtain rfl : p = q := by omega
      obtain ⟨w2, r2, o2, g2⟩ := make_q p B wr hs.out.size (by omega)
      have HP2 : Hid (P2 p B V (ext col wr.heap.size (p + 1)) (fun i => (X i).length) (fun _ => .slice none 0 0) 0 w2) := hh.out.next g2 _
      have HS2 : Hid (St0 MM p B BL V (ext col wr.heap.size (p + 1)) w2) := (hs.out.stay (k := p + 5) (by omega) (Kp.of_none g2)).ext hs.out
      have HH2 : Hid (Hrow p B (ext col wr.heap.size (p + 1)) wr.heap.size (p + 1) w2 (fun i => if i < 0 then (fun _ => Value.slice none 0 0) i else .slice none 0 0)) := ⟨by simpa using o2, by unfold ext; rw [if_neg (by omega)]⟩
      have hb2 : Hid (Kp MM w w2) := hbw.out.trans (hs.out.below (k := p + 2) (by omega) (Kp.of_none g2))
      have HNX : Hid (∀ i, i < p → (fun i => (X i).length) i ≤ 1073741824) := HX
      have hpi : ¬ (p : Int) < p := by omega
      generalize ext col wr.heap.size (p + 1) = col2 at *
      generalize wr.heap.size = H at *
      clear o2 g2 hs hh hbw H0 H1 HX
      generalize (fun i => (X i).length) = N at *
      go_wp2
      clear r2
      go_loopw [44] (fun t W => ∃ (m : Nat) (col : Nat → Nat) (G : Nat → Value), t = .int .i64 (m : Int) ∧ m ≤ p ∧ Hid (St0 MM p B BL V col W) ∧ Hid (P2 p B V col N G m W) ∧ Hid (Hrow p B col H (p + 1) W (fun i => if i < m then G i else .slice none 0 0)) ∧ Hid (Kp MM w W)) (fun t _ => p - (RowKit.intOf t).toNat)
      case atStart => exact ⟨0, _, _, rfl, by omega, HS2, HP2, HH2, hb2⟩
      case round =>
        obtain ⟨m, c2, G, rfl, hm, hs, hh, hr, hbw⟩ := hrel
        clear HS2 HP2 HH2 hb2
        by_cases hlt : m < p
        · have d0 := hs.out.cells m hlt
          have hmi : (m : Int) < p := by omega
          have hown := (hh.out m hlt).2 (by omega)
          have hNp := HNX.out m hlt
          have HW0 : Hid (Own B wr (V m) (mk1 N m ++ List.replicate 0 (mkB m 2))) := by
            show Own _ _ _ _
            rw [List.replicate_zero, List.append_nil]
            exact hown.1
          have HR0 : Hid (Rd wr (V m) (mk1 N m)) := hown.1.rd
          have HC0 : Hid (Cl c2 m (V m)) := hown.2
          clear hown
          go_wp2
          go_loopw [9, 50] (fun g t W => ∃ k : Nat, t = .int .i64 (k : Int) ∧ k ≤ 16 ∧ Hid (Own B W g (mk1 N m ++ List.replicate k (mkB m 2))) ∧ Hid (Rd W (V m) (mk1 N m)) ∧ Hid (Kp (fun b => c2 b = m) wr W) ∧ Hid (∀ b, g.ownBlock = some b → b < wr.heap.size → c2 b = m)) (fun _ t _ => 16 - (RowKit.intOf t).toNat)
          case atStart => exact ⟨0, rfl, by omega, HW0, HR0, Kp.refl _ _, fun b e _ => HC0.out b e⟩
          case round =>
            obtain ⟨k, rfl, hk, ho, hrd, hc, hcl⟩ := hrel
            by_cases hkl : k < 16
            · have hki : (k : Int) < 16 := by omega
              have MK := mark_any m 2 (by omega) (by omega) wr
              have HO1 : Hid (Own B wr u9 (mk1 N m ++ List.replicate k (mkB m 2))) := ho
              have HRD1 : Hid (Rd wr (V m) (mk1 N m)) := hrd
              have HC1 : Hid (Kp (fun b => c2 b = m) _ wr) := hc
              have HL1 : Hid (∀ b, u9.ownBlock = some b → _ → c2 b = m) := hcl
              clear ho hrd hc hcl
              go_wp2_with fail
              go_fit MK
              rintro r w2 ⟨rfl, b2⟩
              have kf := Kp.of (M := fun _ => False) b2
              obtain ⟨v3, w3, r3, o3, rd3, c3, l3⟩ := grow_one (m := mkB m 2) hs.out.size (by rw [List.length_append, mk1_len, List.length_replicate]; omega) (kf.row HO1.out (fun _ _ => id)) (HRD1.out.stay0 kf) rfl (HC1.out.trans (Kp.of b2)) HL1.out
              have HO3 : Hid (Own B w3 v3 (mk1 N m ++ List.replicate (k + 1) (mkB m 2))) := by
                show Own _ _ _ _
                rw [List.replicate_succ', ← List.append_assoc]
                exact o3
              have HRD : Hid _ := rd3
              have HC3 : Hid _ := c3
              have HL3 : Hid _ := l3
              clear o3 rd3 c3 l3 kf b2 MK
              go_wp2_with (at_builtin; refine wpList_append_run rfl (.tmp 52) (.tmp 55) 22 22 rfl _ _ rfl rfl r3 ?_)
              exact ⟨⟨k + 1, by go_num, by omega, HO3, HRD, HC3, HL3⟩, by simp [RowKit.intOf]; omega⟩
            · obtain rfl : k = 16 := by omega
              have hki : ¬ ((16 : Nat) : Int) < 16 := by omega
              obtain ⟨g, c, hv, _, _⟩ := ho.out.rd.at (by rw [List.length_append, List.length_replicate]; omega)
              have hH := hr.out.stay (k := m) (by omega) hc.out
              have hold := hH.cell m hlt
              rw [if_neg (by omega)] at hold
              have hfr := World.ownsRow.frozenAt hH.1 m
              have q2 := hh.out.step hlt hc.out ho.out hrd.out hcl.out
              have hput := (hH.ext (k := m) hr.out (Nat.le_refl _)).put m u9
              rw [upto_put] at hput
              have hsx := (hs.out.stay (k := m) (by omega) hc.out).ext (k := m) hs.out
              have HHP : Hid _ := q2.stay (k := p + 1) (by omega) hput.2
              have HHS : Hid _ := hsx.stay (k := p + 1) (by omega) hput.2
              have HB : Hid (Kp MM w _) := (hbw.out.trans (hs.out.below (k := m) (by omega) hc.out)).trans (hsx.below (k := p + 1) (by omega) hput.2)
              have HHH : Hid _ := hput.1
              clear hput hsx q2 hH ho hrd hc hcl HW0 HR0 HC0
              subst hv
              generalize (mk1 N m ++ List.replicate 16 (mkB m 2)).length = n16 at *
              go_wp2
              exact ⟨⟨m + 1, _, _, by go_num, by omega, HHS, HHP, HHH, HB⟩, by simp [RowKit.intOf]; omega⟩
        · obtain rfl : p = m := by omega
          have hmi : ¬ (p : Int) < p := by omega
          obtain ⟨w5, r5, o5, g5⟩ := make_q p B wr hs.out.size (by omega)
          have cg9 : Kp (fun b => c2 b = p + 5) wr w5 := Kp.of_none g5
          have HP3 : Hid (P3 p B V (ext c2 wr.heap.size (p + 2)) N G (fun _ => .slice none 0 0) 0 w5) := hh.out.next g5 _
          have HS3 : Hid (St0 MM p B BL V (ext c2 wr.heap.size (p + 2)) w5) := (hs.out.stay (k := p + 5) (by omega) cg9).ext hs.out
          have HH3 : Hid (Hrow p B (ext c2 wr.heap.size (p + 2)) H (p + 1) w5 (fun i => if i < p then G i else .slice none 0 0)) := (hr.out.stay (k := p + 5) (by omega) cg9).ext hr.out (Nat.le_refl _)
          have HM3 : Hid (Hrow p B (ext c2 wr.heap.size (p + 2)) wr.heap.size (p + 2) w5 (fun i => if i < 0 then (fun _ => Value.slice none 0 0) i else .slice none 0 0)) := ⟨by simpa using o5, by unfold ext; rw [if_neg (by omega)]⟩
          have hb3 : Hid (Kp MM w w5) := hbw.out.trans (hs.out.below (k := p + 2) (by omega) (Kp.of_none g5))
          generalize ext c2 wr.heap.size (p + 2) = c3 at *
          generalize wr.heap.size = H2 at *
          clear o5 g5 cg9 hs hh hr hbw
          go_wp2
          clear r5
          go_loopw [68] (fun t W => ∃ (m : Nat) (col : Nat → Nat) (M : Nat → Value), t = .int .i64 (m : Int) ∧ m ≤ p ∧ Hid (St0 MM p B BL V col W) ∧ Hid (P3 p B V col N G M m W) ∧ Hid (Hrow p B col H (p + 1) W (fun i => if i < p then G i else .slice none 0 0)) ∧ Hid (Hrow p B col H2 (p + 2) W (fun i => if i < m then M i else .slice none 0 0)) ∧ Hid (Kp MM w W)) (fun t _ => p - (RowKit.intOf t).toNat)
          case atStart => exact ⟨0, _, _, rfl, by omega, HS3, HP3, HH3, HM3, hb3⟩
          case round =>
            obtain ⟨m, c4, M, rfl, hm, hs, hq3, hh, hmr, hbw⟩ := hrel
            clear HS3 HP3 HH3 HM3 hb3
            by_cases hlt : m < p
            · have d0 := hh.out.cell m hlt
              rw [if_pos hlt] at d0
              have hmi : (m : Int) < p := by omega
              obtain ⟨rV, _, rG⟩ := hq3.out m hlt
              have rG' := rG (by omega)
              have hNp := HNX.out m hlt
              obtain ⟨w6, r6, o6, b6⟩ := make_i wr wr.heap.size 200 (Nat.le_refl _) (by omega)
              obtain ⟨R, hR⟩ : ∃ R, R = wr.heap.size := ⟨_, rfl⟩
              rw [← hR] at r6 o6
              have HRR : Hid (R = wr.heap.size) := hR
              clear hR
              have r6 : (Instr.makeSlice 22 (.int .i64 200) (.int .i64 200)).run Tryd.prog wr = .ok (.slice (some ⟨R, 0, none⟩) 200 200) w6 := r6
              obtain ⟨Z, hZ⟩ : ∃ Z : List Lb, Z = List.replicate 200 zL := ⟨_, rfl⟩
              have hZl : Z.length = 200 := by rw [hZ, List.length_replicate]
              have HO6 : Hid (Own R w6 (.slice (some ⟨R, 0, none⟩) 200 200) (ov1 (mkB m 3) Z 0)) := by
                show Own _ _ _ _
                rw [ov1_zero]
                unfold Own
                rw [hZl]
                exact Ir.congr o6 (fun j hj => by rw [hZ]; exact (gL_rep 200 _ j hj).symm)
              have HZL : Hid (Z.length = 200) := hZl
              clear hZ hZl
              have HC6 : Hid (Kp (fun _ => False) wr w6) := Kp.of b6
              have HRV : Hid (Rd wr (V m) (mk1 N m)) := rV.1
              have HOG : Hid (OwnC B c4 m wr (G m) (mk2 N m)) := rG'
              clear rV rG rG' o6 b6
              obtain ⟨gg, cg, hgv, _⟩ := HOG.out.1.rd.at (by rw [mk2_len]; omega)
              have HGV : Hid (G m = .slice (some ⟨gg, 0, none⟩) (mk2 N m).length cg) := hgv
              clear hgv
              go_wp2
              clear r6
              go_loopw [76] (fun t W => ∃ j : Nat, t = .int .i64 (j : Int) ∧ j ≤ 200 ∧ Hid (Own R W (.slice (some ⟨R, 0, none⟩) 200 200) (ov1 (mkB m 3) Z j)) ∧ Hid (Kp (fun _ => False) wr W)) (fun t _ => 200 - (RowKit.intOf t).toNat)
              case atStart => exact ⟨0, rfl, by omega, HO6, HC6⟩
              case round =>
                obtain ⟨j, rfl, hj, ho, hc⟩ := hrel
                by_cases hjl : j < 200
                · have hji : (j : Int) < 200 := by omega
                  have MK := mark_any m 3 (by omega) (by omega) wr
                  have HO1 : Hid (Own R wr (.slice (some ⟨R, 0, none⟩) 200 200) (ov1 (mkB m 3) Z j)) := ho
                  have HC1 : Hid (Kp (fun _ => False) _ wr) := hc
                  clear ho hc
                  go_wp2_with fail
                  go_fit MK
                  rintro r w2 ⟨rfl, b2⟩
                  obtain ⟨z0, z1, z2, z3, om⟩ := Own.mark ((Kp.of (M := fun _ => False) b2).row HO1.out (fun _ _ => id)) HZL.out hjl
                  have HO2 : Hid (Own _ _ _ (ov1 (mkB m 3) Z (j + 1))) := om
                  have kR := fun (R : Nat) (W : World) (u1 u2 : Value) => ((Kp.refl (· = R) W).setCell (p := ⟨R, j * 2, none⟩) rfl u1).setCell (p := ⟨R, j * 2 + 1, none⟩) rfl u2
                  have HK2 : Hid (Kp (fun _ => False) _ _) := (HC1.out.trans (Kp.of b2)).transF (kR R _ (.string (mkB m 3).1) (.string (mkB m 3).2)) (fun i hi e => by change i = _ at e; have := HRR.out; omega)
                  generalize (gL (ov1 (mkB m 3) Z j) j).1 = o1 at *
                  generalize (gL (ov1 (mkB m 3) Z j) j).2 = o2 at *
                  clear om kR MK b2
                  go_wp2
                  exact ⟨⟨j + 1, by go_num, by omega, HO2, HK2⟩, by simp [RowKit.intOf]; omega⟩
                · obtain rfl : j = 200 := by omega
                  have hji : ¬ ((200 : Nat) : Int) < 200 := by omega
                  have hrow := ho.out
                  have he : ov1 (mkB m 3) Z 200 = List.replicate 200 (mkB m 3) := by
                    have := ov1_end (mkB m 3) Z
                    rw [HZL.out] at this
                    exact this
                  rw [he] at hrow
                  have hOG : Own B wr (G m) (mk2 N m) := hc.out.row HOG.out.1 (fun _ _ => id)
                  obtain ⟨v7, w7, r7, o7, rd1, rd2, c7, cl7⟩ := grow_many (col := c4) (p := m) (ys := List.replicate 200 (mkB m 3)) (c := 200) hs.out.size (by rw [mk2_len, List.length_replicate]; omega) hOG hrow.cells
                    (HRV.out.stay0 hc.out) (t1 := List.replicate 16 (mkB m 2)) rfl (HOG.out.1.rd.stay0 hc.out) (t2 := []) (List.append_nil _).symm hc.out.weak (fun g e _ => HOG.out.2 g e)
                  rw [List.length_replicate] at r7
                  obtain ⟨g, c, hv, _, _⟩ := o7.rd.at (by rw [List.length_append, List.length_replicate]; omega)
                  have hmH := hmr.out.stay (k := m) (by omega) c7
                  have hold := hmH.cell m hlt
                  rw [if_neg (by omega)] at hold
                  have hfr := World.ownsRow.frozenAt hmH.1 m
                  have q3 := hq3.out.step hlt c7 o7 rd1 rd2 cl7
                  have hput := (hmH.ext (k := m) hmr.out (Nat.le_refl _)).put m v7
                  rw [upto_put] at hput
                  have hsx := (hs.out.stay (k := m) (by omega) c7).ext (k := m) hs.out
                  have HHP : Hid _ := q3.stay (k := p + 2) (by omega) hput.2
                  have HHS : Hid _ := hsx.stay (k := p + 2) (by omega) hput.2
                  have HB : Hid (Kp MM w _) := (hbw.out.trans (hs.out.below (k := m) (by omega) c7)).trans (hsx.below (k := p + 2) (by omega) hput.2)
                  have HHM : Hid _ := hput.1
                  have HHH : Hid _ := ((hh.out.stay (k := m) (by omega) c7).ext (k := m) hh.out (Nat.le_refl _)).stay (k := p + 2) (by omega) hput.2
                  clear hput hsx q3 hmH rd1 rd2 o7 hOG hrow he c7 cl7 ho hc
                  subst hv
                  generalize (mk2 N m ++ List.replicate 200 (mkB m 3)).length = n216 at *
                  go_wp2_with (at_builtin; refine wpList_append_run rfl (.tmp 87) (.tmp 88) 22 22 rfl _ _ rfl rfl r7 ?_)
                  exact ⟨⟨m + 1, _, _, by go_num, by omega, HHS, HHP, HHH, HHM, HB⟩, by simp [RowKit.intOf]; omega⟩
            · obtain rfl : p = m := by omega
              have hmi : ¬ (p : Int) < p := by omega
              have HC : Hid (∀ i, i < p → wr.cell? ⟨BL, i, none⟩ = some (V i) ∧ wr.cell? ⟨H, i, none⟩ = some (G i) ∧ wr.cell? ⟨H2, i, none⟩ = some (M i)) := fun i hi => ⟨hs.out.cells i hi, by have := hh.out.cell i hi; rw [if_pos hi] at this; exact this, by have := hmr.out.cell i hi; rw [if_pos hi] at this; exact this⟩
              have HR : Hid (∀ i, i < p → Rd wr (V i) (mk1 N i) ∧ Rd wr (G i) (mk2 N i) ∧ Rd wr (M i) (mk3 N i)) := fun i hi => ⟨(hq3.out i hi).1.1, ((hq3.out i hi).2.1 hi).1.1, ((hq3.out i hi).2.1 hi).2.1.rd⟩
              have HBS : Hid (B ≤ wr.heap.size) := hs.out.size
              clear hs hq3 hh hmr
              go_wp2
              go_loopw [94] (fun t W => ∃ i : Nat, t = .int .i64 (i : Int) ∧ i ≤ p ∧ Hid (Below wr.heap.size wr W)) (fun t _ => p - (RowKit.intOf t).toNat)
              case atStart => exact ⟨0, rfl, by omega, Below.refl _ _⟩
              case round =>
                obtain ⟨i, rfl, hi, hb⟩ := hrel
                by_cases hlt : i < p
                · have hii : (i : Int) < p := by omega
                  obtain ⟨d0, d1, d2⟩ := HC.out i hlt
                  obtain ⟨rV, rG, rM⟩ := HR.out i hlt
                  have hNp := HNX.out i hlt
                  obtain ⟨a, cv, hv⟩ := rV.len
                  obtain ⟨gg, cg, hgv, hgl, xg⟩ := rG.at (by rw [mk2_len]; omega)
                  obtain ⟨gm, cm, hmv, hml, xm⟩ := rM.at (by rw [mk3_len]; omega)
                  rw [hv, mk1_len] at d0
                  rw [hgv, mk2_len] at d1
                  rw [hmv, mk3_len] at d2
                  have HV : Hid (V i = .slice a (N i) cv) := by rw [mk1_len] at hv; exact hv
                  have HXG : Hid (∀ j, j < N i + 16 → _ = some (Value.string (gL (mk2 N i) j).1) ∧ _ = some (Value.string (gL (mk2 N i) j).2)) := fun j hj => xg j (by rw [mk2_len]; exact hj)
                  have HXM : Hid (∀ j, j < N i + 216 → _ = some (Value.string (gL (mk3 N i) j).1) ∧ _ = some (Value.string (gL (mk3 N i) j).2)) := fun j hj => xm j (by rw [mk3_len]; exact hj)
                  have HRV : Hid (Rd _ (V i) (mk1 N i)) := rV
                  have HD1 : Hid _ := d1
                  have hNi : (N i : Int) ≤ 1073741824 := by omega
                  have e0 := bcellK hb.out d0
                  have e2 := bcellK hb.out d2
                  clear hv hgv hmv xg xm rV rG rM d0 d1 d2
                  go_wp2
                  go_loopw [104] (fun t W => ∃ j : Nat, t = .int .i64 (j : Int) ∧ j ≤ N i + 216 ∧ Hid (Below wr.heap.size wr W)) (fun t _ => N i + 216 - (RowKit.intOf t).toNat)
                  case atStart => exact ⟨0, rfl, by omega, Below.refl _ _⟩
                  case round =>
                    obtain ⟨j, rfl, hj, hb2⟩ := hrel
                    by_cases hjl : j < N i + 216
                    · have hji : (j : Int) < (N i : Int) + 216 := by omega
                      have bb := hb.out.trans (hb2.out.mono hb.out.size)
                      obtain ⟨m0, m1⟩ := HXM.out j hjl
                      have em0 := bcellK bb m0
                      have em1 := bcellK bb m1
                      have HF0 : Hid _ := bcellK bb HD1.out
                      have MK1 : Hid (∀ W, Calls Tryd.prog 46 #[.int .i64 (i : Int), .int .i64 1] W fun e w' => e = .returned (lbV (mkB i 1)) ∧ Below W.heap.size W w') := fun W => mark_any i 1 (by omega) (by omega) W
                      have MK2 : Hid (∀ W, Calls Tryd.prog 46 #[.int .i64 (i : Int), .int .i64 2] W fun e w' => e = .returned (lbV (mkB i 2)) ∧ Below W.heap.size W w') := fun W => mark_any i 2 (by omega) (by omega) W
                      have MK3 : Hid (∀ W, Calls Tryd.prog 46 #[.int .i64 (i : Int), .int .i64 3] W fun e w' => e = .returned (lbV (mkB i 3)) ∧ Below W.heap.size W w') := fun W => mark_any i 3 (by omega) (by omega) W
                      have HBB : Hid (Below _ _ wr) := hb2
                      by_cases h1 : j < N i
                      · have i1 : (j : Int) < N i := by omega
                        have i2 : (j : Int) < (N i : Int) + 16 := by omega
                        have i3 : ¬ (N i : Int) ≤ j := by omega
                        have i4 : ¬ (N i : Int) + 16 ≤ j := by omega
                        have di : decide ((j : Int) < N i) = true := decide_eq_true i1
                        have dj : decide ((j : Int) < (N i : Int) + 16) = true := decide_eq_true i2
                        rw [mk3_lo N i j (by omega), mk2_lo N i j h1] at em0 em1
                        obtain ⟨gv, cv2, hv2, hvl, xv⟩ := HRV.out.at (by rw [mk1_len]; omega)
                        obtain ⟨v0, v1⟩ := xv j (by rw [mk1_len]; exact h1)
                        obtain ⟨g0, g1⟩ := HXG.out j (by omega)
                        rw [HV.out, mk1_len] at hv2
                        simp only [Value.slice.injEq, true_and] at hv2
                        obtain ⟨rfl, rfl⟩ := hv2
                        rw [mk2_lo N i j h1] at g0 g1
                        rw [mk1_at N i j h1] at v0 v1
                        have HG0 : Hid _ := bcellK bb g0
                        have HG1 : Hid _ := bcellK bb g1
                        have HV0 : Hid _ := bcellK bb v0
                        have HV1 : Hid _ := bcellK bb v1
                        clear v0 v1 g0 g1 xv
                        clear m0 m1 bb hb2
                        have XB := box_new wr (mkB i 1)
                        go_wp2_with fail
                        go_fit (MK1.out _)
                        rintro e w2 ⟨rfl, b2⟩
                        have S2 : Hid (wr.heap.size + 1 ≤ w2.heap.size) := (show _ ≤ _ by have := b2.size; simpa using this)
                        have F2 : Hid (Bx (w2.alloc (lbX (mkB i 1))) wr.heap.size (mkB i 1) ∧ Bx (w2.alloc (lbX (mkB i 1))) w2.heap.size (mkB i 1) ∧ Below wr.heap.size wr (w2.alloc (lbX (mkB i 1)))) := bx_two wr w2 (mkB i 1) (mkB i 1) b2
                        clear XB b2
                        go_upto_region 44 with fail
                        obtain ⟨A2, hA2⟩ : ∃ A2, A2 = w2.alloc (lbX (mkB i 1)) := ⟨_, rfl⟩
                        rw [← hA2] at F2 ⊢
                        clear hA2
                        obtain ⟨fx, fw, fb⟩ := F2.out
                        have p0 := fx.c0
                        have p1 := fx.c1
                        have p2 := fw.c0
                        have p3 := fw.c1
                        have c0 := bcellK fb HF0.out
                        have c1 := bcellK fb HG0.out
                        have c2 := bcellK fb HG1.out
                        have c3 := bcellK fb HV0.out
                        have c4 := bcellK fb HV1.out
                        have HB4 : Hid (∀ n, Below _ _ (A2.drewN n)) := fun n => (HBB.out.trans (fb.mono HBB.out.size)).trans ⟨rfl, rfl, rfl, Nat.le_refl _, fun _ _ => rfl⟩
                        skip
                        clear fx fw fb
                        have heq := hN (mkB i 1).1 (mkB i 1).2
                        generalize (mkB i 1).1 = s1 at *
                        generalize (mkB i 1).2 = s2 at *
                        go_big_quiet (fail)
                        have HB5 : Hid _ := HB4.out nq
                        generalize A2.drewN nq = W6 at *
                        go_wp2
                        exact ⟨⟨j + 1, by go_num, by omega, HB5⟩, by simp [RowKit.intOf]; omega⟩
                      · by_cases h2 : j < N i + 16
                        · have i1 : ¬ (j : Int) < N i := by omega
                          have i2 : (j : Int) < (N i : Int) + 16 := by omega
                          have i3 : (N i : Int) ≤ j := by omega
                          have i4 : ¬ (N i : Int) + 16 ≤ j := by omega
                          have di : decide ((j : Int) < N i) = false := decide_eq_false i1
                          have dj : decide ((j : Int) < (N i : Int) + 16) = true := decide_eq_true i2
                          rw [mk3_lo N i j h2, mk2_hi N i j (by omega) h2] at em0 em1
                          obtain ⟨g0, g1⟩ := HXG.out j h2
                          rw [mk2_hi N i j (by omega) h2] at g0 g1
                          have HG0 : Hid _ := bcellK bb g0
                          have HG1 : Hid _ := bcellK bb g1
                          clear g0 g1
                          clear m0 m1 bb hb2
                          have XB := box_new wr (mkB i 2)
                          go_wp2_with fail
                          go_fit (MK1.out _)
                          rintro e w2 ⟨rfl, b2⟩
                          have S2 : Hid (wr.heap.size + 1 ≤ w2.heap.size) := (show _ ≤ _ by have := b2.size; simpa using this)
                          have F2 : Hid (Bx (w2.alloc (lbX (mkB i 1))) wr.heap.size (mkB i 2) ∧ Bx (w2.alloc (lbX (mkB i 1))) w2.heap.size (mkB i 1) ∧ Below wr.heap.size wr (w2.alloc (lbX (mkB i 1)))) := bx_two wr w2 (mkB i 2) (mkB i 1) b2
                          clear XB b2
                          go_wp2_with fail
                          go_fit (MK2.out _)
                          rintro e w3 ⟨rfl, b3⟩
                          have S3 : Hid (w2.heap.size + 1 ≤ w3.heap.size) := (show _ ≤ _ by have := b3.size; simpa using this)
                          have F3 : Hid (Bx w3 wr.heap.size (mkB i 2) ∧ Bx w3 w2.heap.size (mkB i 1) ∧ Below wr.heap.size wr w3) := ⟨F2.out.1.below b3, F2.out.2.1.below b3, F2.out.2.2.trans (b3.mono F2.out.2.2.size)⟩
                          have q0 := F3.out.2.1.c0
                          have q1 := F3.out.2.1.c1
                          have q2 := F3.out.2.1.f0
                          have q3 := F3.out.2.1.f1
                          obtain ⟨A3, hA3⟩ : ∃ A3, A3 = (w3.setCell ⟨w2.heap.size, 0, none⟩ (.string (mkB i 2).1)).setCell ⟨w2.heap.size, 1, none⟩ (.string (mkB i 2).2) := ⟨_, rfl⟩
                          have G3 : Hid (Bx A3 wr.heap.size (mkB i 2) ∧ Bx A3 w2.heap.size (mkB i 2) ∧ Below wr.heap.size wr A3) := by
                            rw [hA3]
                            exact ⟨F3.out.1.put_far _ _ (by have := S2.out; omega), F3.out.2.1.put _, F3.out.2.2.trans (bx_below w3 w2.heap.size _ (by have := S2.out; omega))⟩
                          have EA3 : Hid (A3 = _) := hA3
                          clear b3 hA3
                          go_upto_region 44 with fail
                          rw [← EA3.out]
                          obtain ⟨fx, fw, fb⟩ := G3.out
                          have p0 := fx.c0
                          have p1 := fx.c1
                          have p2 := fw.c0
                          have p3 := fw.c1
                          have c0 := bcellK fb HF0.out
                          have c1 := bcellK fb HG0.out
                          have c2 := bcellK fb HG1.out
                          have HB4 : Hid (∀ n, Below _ _ (A3.drewN n)) := fun n => (HBB.out.trans (fb.mono HBB.out.size)).trans ⟨rfl, rfl, rfl, Nat.le_refl _, fun _ _ => rfl⟩
                          clear q0 q1 q2 q3
                          clear fx fw fb
                          have heq := hN (mkB i 2).1 (mkB i 2).2
                          generalize (mkB i 2).1 = s1 at *
                          generalize (mkB i 2).2 = s2 at *
                          go_big_quiet (fail)
                          have HB5 : Hid _ := HB4.out nq
                          generalize A3.drewN nq = W6 at *
                          go_wp2
                          exact ⟨⟨j + 1, by go_num, by omega, HB5⟩, by simp [RowKit.intOf]; omega⟩
                        · have i1 : ¬ (j : Int) < N i := by omega
                          have i2 : ¬ (j : Int) < (N i : Int) + 16 := by omega
                          have i3 : (N i : Int) ≤ j := by omega
                          have i4 : (N i : Int) + 16 ≤ j := by omega
                          have di : decide ((j : Int) < N i) = false := decide_eq_false i1
                          have dj : decide ((j : Int) < (N i : Int) + 16) = false := decide_eq_false i2
                          rw [mk3_hi N i j (by omega) hjl] at em0 em1
                          clear m0 m1 bb hb2
                          have XB := box_new wr (mkB i 3)
                          go_wp2_with fail
                          go_fit (MK1.out _)
                          rintro e w2 ⟨rfl, b2⟩
                          have S2 : Hid (wr.heap.size + 1 ≤ w2.heap.size) := (show _ ≤ _ by have := b2.size; simpa using this)
                          have F2 : Hid (Bx (w2.alloc (lbX (mkB i 1))) wr.heap.size (mkB i 3) ∧ Bx (w2.alloc (lbX (mkB i 1))) w2.heap.size (mkB i 1) ∧ Below wr.heap.size wr (w2.alloc (lbX (mkB i 1)))) := bx_two wr w2 (mkB i 3) (mkB i 1) b2
                          clear XB b2
                          go_wp2_with fail
                          go_fit (MK2.out _)
                          rintro e w3 ⟨rfl, b3⟩
                          have S3 : Hid (w2.heap.size + 1 ≤ w3.heap.size) := (show _ ≤ _ by have := b3.size; simpa using this)
                          have F3 : Hid (Bx w3 wr.heap.size (mkB i 3) ∧ Bx w3 w2.heap.size (mkB i 1) ∧ Below wr.heap.size wr w3) := ⟨F2.out.1.below b3, F2.out.2.1.below b3, F2.out.2.2.trans (b3.mono F2.out.2.2.size)⟩
                          have q0 := F3.out.2.1.c0
                          have q1 := F3.out.2.1.c1
                          have q2 := F3.out.2.1.f0
                          have q3 := F3.out.2.1.f1
                          obtain ⟨A3, hA3⟩ : ∃ A3, A3 = (w3.setCell ⟨w2.heap.size, 0, none⟩ (.string (mkB i 2).1)).setCell ⟨w2.heap.size, 1, none⟩ (.string (mkB i 2).2) := ⟨_, rfl⟩
                          have G3 : Hid (Bx A3 wr.heap.size (mkB i 3) ∧ Bx A3 w2.heap.size (mkB i 2) ∧ Below wr.heap.size wr A3) := by
                            rw [hA3]
                            exact ⟨F3.out.1.put_far _ _ (by have := S2.out; omega), F3.out.2.1.put _, F3.out.2.2.trans (bx_below w3 w2.heap.size _ (by have := S2.out; omega))⟩
                          have EA3 : Hid (A3 = _) := hA3
                          clear b3 hA3
                          go_upto_region 43 with fail
                          rw [← EA3.out]
                          go_wp2_with fail
                          go_fit (MK3.out _)
                          rintro e w4 ⟨rfl, b4⟩
                          clear q0 q1 q2 q3
                          have F4 : Hid (Bx w4 wr.heap.size (mkB i 3) ∧ Bx w4 w2.heap.size (mkB i 2) ∧ Below wr.heap.size wr w4) := ⟨G3.out.1.below b4, G3.out.2.1.below b4, G3.out.2.2.trans (b4.mono G3.out.2.2.size)⟩
                          have q0 := F4.out.2.1.c0
                          have q1 := F4.out.2.1.c1
                          have q2 := F4.out.2.1.f0
                          have q3 := F4.out.2.1.f1
                          obtain ⟨A4, hA4⟩ : ∃ A4, A4 = (w4.setCell ⟨w2.heap.size, 0, none⟩ (.string (mkB i 3).1)).setCell ⟨w2.heap.size, 1, none⟩ (.string (mkB i 3).2) := ⟨_, rfl⟩
                          have G4 : Hid (Bx A4 wr.heap.size (mkB i 3) ∧ Bx A4 w2.heap.size (mkB i 3) ∧ Below wr.heap.size wr A4) := by
                            rw [hA4]
                            exact ⟨F4.out.1.put_far _ _ (by have := S2.out; omega), F4.out.2.1.put _, F4.out.2.2.trans (bx_below w4 w2.heap.size _ (by have := S2.out; omega))⟩
                          have EA4 : Hid (A4 = _) := hA4
                          clear b4 hA4
                          go_upto_region 44 with fail
                          rw [← EA4.out]
                          obtain ⟨fx, fw, fb⟩ := G4.out
                          have p0 := fx.c0
                          have p1 := fx.c1
                          have p2 := fw.c0
                          have p3 := fw.c1
                          have c0 := bcellK fb HF0.out
                          have HB4 : Hid (∀ n, Below _ _ (A4.drewN n)) := fun n => (HBB.out.trans (fb.mono HBB.out.size)).trans ⟨rfl, rfl, rfl, Nat.le_refl _, fun _ _ => rfl⟩
                          clear q0 q1 q2 q3
                          clear fx fw fb
                          have heq := hN (mkB i 3).1 (mkB i 3).2
                          generalize (mkB i 3).1 = s1 at *
                          generalize (mkB i 3).2 = s2 at *
                          go_big_quiet (fail)
                          have HB5 : Hid _ := HB4.out nq
                          generalize A4.drewN nq = W6 at *
                          go_wp2
                          exact ⟨⟨j + 1, by go_num, by omega, HB5⟩, by simp [RowKit.intOf]; omega⟩
                    · have hji : ¬ (j : Int) < (N i : Int) + 216 := by omega
                      have HB3 : Hid (Below _ _ _) := hb.out.trans (hb2.out.mono hb.out.size)
                      clear hb hb2
                      go_wp2
                      exact ⟨⟨i + 1, by go_num, by omega, HB3⟩, by simp [RowKit.intOf]; omega⟩
                · have hii : ¬ (i : Int) < p := by omega
                  have HBB : Hid (Kp MM w _) := hbw.out.trans (Kp.of hb.out)
                  clear hb
                  go_wp2
                  go_ret
                  exact ⟨rfl, HBB.out⟩
end Go.Proofs.YtjmninjaoemhjaaDoor.K
