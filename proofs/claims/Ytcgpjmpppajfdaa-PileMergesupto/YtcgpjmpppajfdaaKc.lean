
/- apart: the walk. -/
import Derived.Test.YtcgpjmpppajfdaaKb
import Derived.Deep.DeepFit
import Derived.BigQuiet
namespace Go.Proofs.Ytcgpjmpppajfdaa
open Go.RowKit

theorem it_exact (a b : Int) (w : World) : Calls Try.prog 9 #[.int .i64 a, .int .i64 b] w fun r w' => r = .returned (.agg #[.int .i64 a, .int .i64 b]) ∧ w' = w.alloc (.cells #[.int .i64 a, .int .i64 b] 24) := by
  have HG : Hid ((w.alloc (.cells #[.int .i64 a, .int .i64 b] 24)).heap[w.heap.size]? = some (.cells #[.int .i64 a, .int .i64 b] 24)) := heap_alloc_new w _
  go_enter Try.func9, Try.ntmps9
  go_wp2
  refine bodyPost_ret (results_cell_row rfl _ _ w.heap.size 24 #[.int .i64 a, .int .i64 b] (0, 0) _ rfl HG.out Try.underlying24 rfl infIs) rfl ?_
  exact ⟨rfl, rfl⟩
theorem bcellK {W W' : World} {p : Addr} {v : Value} (b : Below W.heap.size W W') (h : W.cell? p = some v) : W'.cell? p = some v := (Kp.of (M := fun _ => False) b).cell h id
theorem Own.cells {B : Nat} {W : World} {T n c : Nat} {ys : List It} (h : Own B W (.slice (some ⟨T, 0, none⟩) n c) ys) : ∀ j u, (ic (lk ys) ys.length)[j]? = some u → W.cell? ⟨T, j, none⟩ = some u := fun j u hj => by
  have := World.ownsRow.cells h (g := T) rfl j u hj
  rw [Go.WideShapes.add_plain, Nat.zero_add] at this
  exact this

theorem tri (W : World) (a0 a1 b0 b1 c0 c1 : Value) : let W3 := ((W.alloc (.cells #[a0, a1] 24)).alloc (.cells #[b0, b1] 24)).alloc (.cells #[c0, c1] 24)
    W3.cell? ⟨W.heap.size, 0, none⟩ = some a0 ∧ W3.cell? ⟨W.heap.size, 1, none⟩ = some a1 ∧ W3.heap[W.heap.size + 1 + 1]? = some (.cells #[c0, c1] 24) := by
  have e0 : (((W.alloc (.cells #[a0, a1] 24)).alloc (.cells #[b0, b1] 24)).alloc (.cells #[c0, c1] 24)).heap[W.heap.size]? = some (.cells #[a0, a1] 24) := (Below.heap_alloc _ _ _ (by simp; omega)).trans ((Below.heap_alloc _ _ _ (by simp)).trans (heap_alloc_new W _))
  have e2 := heap_alloc_new ((W.alloc (.cells #[a0, a1] 24)).alloc (.cells #[b0, b1] 24)) (.cells #[c0, c1] 24)
  simp only [World.size_alloc] at e2
  refine ⟨?_, ?_, e2⟩
  · unfold World.cell?; rw [e0]; rfl
  · unfold World.cell?; rw [e0]; rfl
theorem below_tri {W0 W : World} {n : Nat} (h : Below n W0 W) (hn : n ≤ W.heap.size) (A B C : Obj) : Below n W0 (((W.alloc A).alloc B).alloc C) := ((h.alloc hn A).alloc (by simp; omega) B).alloc (by simp; omega) C

set_option maxHeartbeats 8000000 in
set_option maxRecDepth 100000 in
theorem apart_any (q B BL cap : Nat) (V : Nat → Value) (X : Nat → List It) (col : Nat → Nat) (w : World) (hq : q ≤ 1073741824) (hX : ∀ i, i < q → (X i).length ≤ 1073741824) (h0 : St0 q B BL V col w) (h1 : P1 q B V col X 0 w) :
    Calls Try.prog 38 #[.slice (some ⟨BL, 0, none⟩) q cap] w fun e w' => e = .returned (.bool true) ∧ Below B w w' := by
  have HX : Hid (∀ i, i < q → (X i).length ≤ 1073741824) := hX
  have H0 : Hid (St0 q B BL V col w) := h0
  have H1 : Hid (P1 q B V col X 0 w) := h1
  have hN := ne_it
  clear hX h0 h1
  go_enter Try.func38, Try.ntmps38
  go_wp2
  go_loopw [22] (fun t W => ∃ p : Nat, t = .int .i64 (p : Int) ∧ p ≤ q ∧ Hid (St0 q B BL V col W) ∧ Hid (P1 q B V col X p W) ∧ Hid (Below B w W)) (fun t _ => q - (RowKit.intOf t).toNat)
  case atStart => exact ⟨0, rfl, by omega, H0, H1, Below.refl _ _⟩
  case round =>
    obtain ⟨p, rfl, hp, hs, hh, hbw⟩ := hrel
    by_cases hlt : p < q
    · have hown := hh.out p hlt
      rw [if_neg (by omega)] at hown
      have d0 := hs.out.cells p hlt
      have hpi : (p : Int) < q := by omega
      have hxl := HX.out p hlt
      rcases Nat.eq_zero_or_pos (X p).length with hz | hpos
      · obtain ⟨a, c, hv⟩ := hown.1.rd.len
        rw [hv, hz] at d0
        have HNX : Hid (P1 q B V col X (p + 1) wr) := hh.out.step (Kp.refl _ _) (by
          have e : mk1 (fun i => (X i).length) p = X p := by
            have hx : X p = [] := List.eq_nil_of_length_eq_zero hz
            unfold mk1
            simp only [hz]
            rw [hx]; rfl
          rw [e]
          exact hown)
        clear hown hv hz hxl
        go_wp2
        go_loopw [29] (fun t W => t = .int .i64 0 ∧ W = wr) (fun _ _ => 0)
        case atStart => exact ⟨rfl, rfl⟩
        case round =>
          obtain ⟨rfl, rfl⟩ := hrel
          go_wp2
          exact ⟨⟨p + 1, by go_num, by omega, hs, HNX, hbw⟩, by simp [RowKit.intOf]; omega⟩
      · obtain ⟨g, c, hv, hg, _⟩ := hown.1.rd.at hpos
        rw [hv] at d0
        have HV : Hid (V p = .slice (some ⟨g, 0, none⟩) (X p).length c) := hv
        have HOW : Hid (OwnC B col p wr (.slice (some ⟨g, 0, none⟩) (X p).length c) (ov1 (1000 + (p : Int), 1) (X p) 0)) := by
          rw [hv] at hown
          rw [ov1_zero]
          exact hown
        have hcg : col g = p := by
          rw [hv] at hown
          exact hown.2 g rfl
        clear hown hv
        generalize hn : (X p).length = n at *
        have HL : Hid ((X p).length = n) := hn
        clear hn
        have hni : (n : Int) ≤ 1073741824 := by omega
        go_wp2
        go_loopw [29] (fun t W => ∃ j : Nat, t = .int .i64 (j : Int) ∧ j ≤ n ∧ Hid (OwnC B col p W (.slice (some ⟨g, 0, none⟩) n c) (ov1 (1000 + (p : Int), 1) (X p) j)) ∧ Hid (Kp (fun b => col b = p) wr W)) (fun t _ => n - (RowKit.intOf t).toNat)
        case atStart => exact ⟨0, rfl, by omega, HOW, Kp.refl _ _⟩
        case round =>
          obtain ⟨j, rfl, hj, ho, hc⟩ := hrel
          by_cases hjl : j < n
          · have hji : (j : Int) < n := by omega
            obtain ⟨z0, z1, z2, z3, om⟩ := Own.mark (World.ownsRow.alloc ho.out.1 (iX (1000 + (p : Int), 1))) HL.out hjl
            have HO2 : Hid (OwnC B col p _ _ (ov1 (1000 + (p : Int), 1) (X p) (j + 1))) := ⟨om, ho.out.2⟩
            have HK2 : Hid (Kp (fun b => col b = p) _ _) := ((hc.out.alloc (iX (1000 + (p : Int), 1))).setCell (p := ⟨g, j * 2, none⟩) hcg (.int .i64 (1000 + (p : Int)))).setCell (p := ⟨g, j * 2 + 1, none⟩) hcg (.int .i64 1)
            generalize (lk (ov1 (1000 + (p : Int), 1) (X p) j) j).1 = o1 at *
            generalize (lk (ov1 (1000 + (p : Int), 1) (X p) j) j).2 = o2 at *
            clear om ho hc
            go_wp2_with fail
            go_fit (it_exact _ _ _)
            rintro r w2 ⟨rfl, rfl⟩
            go_wp2
            exact ⟨⟨j + 1, by go_num, by omega, HO2, HK2⟩, by simp [RowKit.intOf]; omega⟩
          · obtain rfl : j = n := by omega
            have hji : ¬ (j : Int) < j := by omega
            have hm := ho.out
            rw [← HV.out, ← HL.out, ov1_end] at hm
            have HNX : Hid _ := hh.out.step hc.out hm
            have HS : Hid _ := hs.out.stay (by omega) hc.out
            have HB : Hid (Below B w _) := hbw.out.trans (hs.out.below (by omega) hc.out)
            clear hm
            go_wp2
            exact ⟨⟨p + 1, by go_num, by omega, HS, HNX, HB⟩, by simp [RowKit.intOf]; omega⟩
    · obtain rfl : p = q := by omega
      obtain ⟨w2, r2, o2, g2⟩ := make_q p B wr hs.out.size (by omega)
      have HP2 : Hid (P2 p B V (ext col wr.heap.size (p + 1)) (fun i => (X i).length) (fun _ => .slice none 0 0) 0 w2) := hh.out.next g2 _
      have HS2 : Hid (St0 p B BL V (ext col wr.heap.size (p + 1)) w2) := (hs.out.stay (k := p + 5) (by omega) (Kp.of_none g2)).ext hs.out
      have HH2 : Hid (Hrow p B (ext col wr.heap.size (p + 1)) wr.heap.size (p + 1) w2 (fun i => if i < 0 then (fun _ => Value.slice none 0 0) i else .slice none 0 0)) := ⟨by simpa using o2, by unfold ext; rw [if_neg (by omega)]⟩
      have hb2 : Hid (Below B w w2) := hbw.out.trans (hs.out.below (k := p + 2) (by omega) (Kp.of_none g2))
      have HNX : Hid (∀ i, i < p → (fun i => (X i).length) i ≤ 1073741824) := HX
      have hpi : ¬ (p : Int) < p := by omega
      generalize ext col wr.heap.size (p + 1) = col2 at *
      generalize wr.heap.size = H at *
      clear o2 g2 hs hh hbw H0 H1 HX
      generalize (fun i => (X i).length) = N at *
      go_wp2
      clear r2
      go_loopw [45] (fun t W => ∃ (m : Nat) (col : Nat → Nat) (G : Nat → Value), t = .int .i64 (m : Int) ∧ m ≤ p ∧ Hid (St0 p B BL V col W) ∧ Hid (P2 p B V col N G m W) ∧ Hid (Hrow p B col H (p + 1) W (fun i => if i < m then G i else .slice none 0 0)) ∧ Hid (Below B w W)) (fun t _ => p - (RowKit.intOf t).toNat)
      case atStart => exact ⟨0, _, _, rfl, by omega, HS2, HP2, HH2, hb2⟩
      case round =>
        obtain ⟨m, c2, G, rfl, hm, hs, hh, hr, hbw⟩ := hrel
        clear HS2 HP2 HH2 hb2
        by_cases hlt : m < p
        · have d0 := hs.out.cells m hlt
          have hmi : (m : Int) < p := by omega
          have hown := (hh.out m hlt).2 (by omega)
          have hNp := HNX.out m hlt
          have HW0 : Hid (Own B wr (V m) (mk1 N m ++ List.replicate 0 (1000 + (m : Int), 2))) := by
            show Own _ _ _ _
            rw [List.replicate_zero, List.append_nil]
            exact hown.1
          have HR0 : Hid (Rd wr (V m) (mk1 N m)) := hown.1.rd
          have HC0 : Hid (Cl c2 m (V m)) := hown.2
          clear hown
          go_wp2
          go_loopw [9, 51] (fun g t W => ∃ k : Nat, t = .int .i64 (k : Int) ∧ k ≤ 16 ∧ Hid (Own B W g (mk1 N m ++ List.replicate k (1000 + (m : Int), 2))) ∧ Hid (Rd W (V m) (mk1 N m)) ∧ Hid (Kp (fun b => c2 b = m) wr W) ∧ Hid (∀ b, g.ownBlock = some b → b < wr.heap.size → c2 b = m)) (fun _ t _ => 16 - (RowKit.intOf t).toNat)
          case atStart => exact ⟨0, rfl, by omega, HW0, HR0, Kp.refl _ _, fun b e _ => HC0.out b e⟩
          case round =>
            obtain ⟨k, rfl, hk, ho, hrd, hc, hcl⟩ := hrel
            by_cases hkl : k < 16
            · have hki : (k : Int) < 16 := by omega
              have ga := World.grownBy_alloc wr (iX (1000 + (m : Int), 2)) none
              obtain ⟨v3, w3, r3, o3, rd3, c3, l3⟩ := grow_one (m := (1000 + (m : Int), 2)) hs.out.size (by rw [List.length_append, mk1_len, List.length_replicate]; omega) (World.ownsRow.alloc ho.out (iX (1000 + (m : Int), 2))) (hrd.out.grown ga) rfl (hc.out.alloc (iX (1000 + (m : Int), 2))) hcl.out
              have HO3 : Hid (Own B w3 v3 (mk1 N m ++ List.replicate (k + 1) (1000 + (m : Int), 2))) := by
                show Own _ _ _ _
                rw [List.replicate_succ', ← List.append_assoc]
                exact o3
              have HRD : Hid _ := rd3
              have HC3 : Hid _ := c3
              have HL3 : Hid _ := l3
              rw [World.size_alloc] at r3
              clear o3 rd3 c3 l3 ga ho hrd hc hcl
              go_wp2_with fail
              go_fit (it_exact _ _ _)
              rintro r w2 ⟨rfl, rfl⟩
              go_wp2_with (at_builtin; refine wpList_append_run rfl (.tmp 53) (.tmp 57) 22 22 rfl _ _ rfl rfl r3 ?_)
              exact ⟨⟨k + 1, by go_num, by omega, HO3, HRD, HC3, HL3⟩, by simp [RowKit.intOf]; omega⟩
            · obtain rfl : k = 16 := by omega
              have hki : ¬ ((16 : Nat) : Int) < 16 := by omega
              obtain ⟨g, c, hv, _, _⟩ := ho.out.rd.at (by rw [List.length_append, List.length_replicate]; omega)
              have hH := hr.out.stay (k := m) (by omega) hc.out
              have hold := hH.cell m hlt
              rw [if_neg (by omega)] at hold
              have hfr := World.ownsRow.frozenAt hH.1 m
              have q2 := hh.out.step hlt hc.out ho.out hrd.out hcl.out
              have hput := (hH.ext (k := m) hr.out (Nat.le_refl _)).put m u9
              rw [upto_put] at hput
              have hsx := (hs.out.stay (k := m) (by omega) hc.out).ext (k := m) hs.out
              have HHP : Hid _ := q2.stay (k := p + 1) (by omega) hput.2
              have HHS : Hid _ := hsx.stay (k := p + 1) (by omega) hput.2
              have HB : Hid (Below B w _) := (hbw.out.trans (hs.out.below (k := m) (by omega) hc.out)).trans (hsx.below (k := p + 1) (by omega) hput.2)
              have HHH : Hid _ := hput.1
              clear hput hsx q2 hH ho hrd hc hcl HW0 HR0 HC0
              subst hv
              generalize (mk1 N m ++ List.replicate 16 (1000 + (m : Int), (2 : Int))).length = n16 at *
              go_wp2
              exact ⟨⟨m + 1, _, _, by go_num, by omega, HHS, HHP, HHH, HB⟩, by simp [RowKit.intOf]; omega⟩
        · obtain rfl : p = m := by omega
          have hmi : ¬ (p : Int) < p := by omega
          obtain ⟨w5, r5, o5, g5⟩ := make_q p B wr hs.out.size (by omega)
          have cg9 : Kp (fun b => c2 b = p + 5) wr w5 := Kp.of_none g5
          have HP3 : Hid (P3 p B V (ext c2 wr.heap.size (p + 2)) N G (fun _ => .slice none 0 0) 0 w5) := hh.out.next g5 _
          have HS3 : Hid (St0 p B BL V (ext c2 wr.heap.size (p + 2)) w5) := (hs.out.stay (k := p + 5) (by omega) cg9).ext hs.out
          have HH3 : Hid (Hrow p B (ext c2 wr.heap.size (p + 2)) H (p + 1) w5 (fun i => if i < p then G i else .slice none 0 0)) := (hr.out.stay (k := p + 5) (by omega) cg9).ext hr.out (Nat.le_refl _)
          have HM3 : Hid (Hrow p B (ext c2 wr.heap.size (p + 2)) wr.heap.size (p + 2) w5 (fun i => if i < 0 then (fun _ => Value.slice none 0 0) i else .slice none 0 0)) := ⟨by simpa using o5, by unfold ext; rw [if_neg (by omega)]⟩
          have hb3 : Hid (Below B w w5) := hbw.out.trans (hs.out.below (k := p + 2) (by omega) (Kp.of_none g5))
          generalize ext c2 wr.heap.size (p + 2) = c3 at *
          generalize wr.heap.size = H2 at *
          clear o5 g5 cg9 hs hh hr hbw
          go_wp2
          clear r5
          go_loopw [70] (fun t W => ∃ (m : Nat) (col : Nat → Nat) (M : Nat → Value), t = .int .i64 (m : Int) ∧ m ≤ p ∧ Hid (St0 p B BL V col W) ∧ Hid (P3 p B V col N G M m W) ∧ Hid (Hrow p B col H (p + 1) W (fun i => if i < p then G i else .slice none 0 0)) ∧ Hid (Hrow p B col H2 (p + 2) W (fun i => if i < m then M i else .slice none 0 0)) ∧ Hid (Below B w W)) (fun t _ => p - (RowKit.intOf t).toNat)
          case atStart => exact ⟨0, _, _, rfl, by omega, HS3, HP3, HH3, HM3, hb3⟩
          case round =>
            obtain ⟨m, c4, M, rfl, hm, hs, hq3, hh, hmr, hbw⟩ := hrel
            clear HS3 HP3 HH3 HM3 hb3
            by_cases hlt : m < p
            · have d0 := hh.out.cell m hlt
              rw [if_pos hlt] at d0
              have hmi : (m : Int) < p := by omega
              obtain ⟨rV, _, rG⟩ := hq3.out m hlt
              have rG' := rG (by omega)
              have hNp := HNX.out m hlt
              obtain ⟨w6, r6, o6, b6⟩ := make_i wr wr.heap.size 200 (Nat.le_refl _) (by omega)
              obtain ⟨R, hR⟩ : ∃ R, R = wr.heap.size := ⟨_, rfl⟩
              rw [← hR] at r6 o6
              have HRR : Hid (R = wr.heap.size) := hR
              clear hR
              have r6 : (Instr.makeSlice 22 (.int .i64 200) (.int .i64 200)).run Try.prog wr = .ok (.slice (some ⟨R, 0, none⟩) 200 200) w6 := r6
              obtain ⟨Z, hZ⟩ : ∃ Z : List It, Z = List.replicate 200 (0, 0) := ⟨_, rfl⟩
              have hZl : Z.length = 200 := by rw [hZ, List.length_replicate]
              have HO6 : Hid (Own R w6 (.slice (some ⟨R, 0, none⟩) 200 200) (ov1 (1000 + (m : Int), 3) Z 0)) := by
                show Own _ _ _ _
                rw [ov1_zero]
                unfold Own
                rw [hZl]
                exact Ir.congr o6 (fun j hj => by rw [hZ]; exact (lk_rep 200 _ j hj).symm)
              have HZL : Hid (Z.length = 200) := hZl
              clear hZ hZl
              have HC6 : Hid (Kp (fun _ => False) wr w6) := Kp.of b6
              have HRV : Hid (Rd wr (V m) (mk1 N m)) := rV.1
              have HOG : Hid (OwnC B c4 m wr (G m) (mk2 N m)) := rG'
              clear rV rG rG' o6 b6
              obtain ⟨gg, cg, hgv, _⟩ := HOG.out.1.rd.at (by rw [mk2_len]; omega)
              have HGV : Hid (G m = .slice (some ⟨gg, 0, none⟩) (mk2 N m).length cg) := hgv
              clear hgv
              go_wp2
              clear r6
              go_loopw [78] (fun t W => ∃ j : Nat, t = .int .i64 (j : Int) ∧ j ≤ 200 ∧ Hid (Own R W (.slice (some ⟨R, 0, none⟩) 200 200) (ov1 (1000 + (m : Int), 3) Z j)) ∧ Hid (Kp (fun _ => False) wr W)) (fun t _ => 200 - (RowKit.intOf t).toNat)
              case atStart => exact ⟨0, rfl, by omega, HO6, HC6⟩
              case round =>
                obtain ⟨j, rfl, hj, ho, hc⟩ := hrel
                by_cases hjl : j < 200
                · have hji : (j : Int) < 200 := by omega
                  obtain ⟨z0, z1, z2, z3, om⟩ := Own.mark (World.ownsRow.alloc ho.out (iX (1000 + (m : Int), 3))) HZL.out hjl
                  have HO2 : Hid (Own _ _ _ (ov1 (1000 + (m : Int), 3) Z (j + 1))) := om
                  have kR := fun (R : Nat) (W : World) (u1 u2 : Value) => ((Kp.refl (· = R) W).setCell (p := ⟨R, j * 2, none⟩) rfl u1).setCell (p := ⟨R, j * 2 + 1, none⟩) rfl u2
                  have HK2 : Hid (Kp (fun _ => False) _ _) := (hc.out.alloc (iX (1000 + (m : Int), 3))).trans' (kR R _ (.int .i64 (1000 + (m : Int))) (.int .i64 3)) (fun i hi e => by change i = _ at e; have := HRR.out; omega)
                  generalize (lk (ov1 (1000 + (m : Int), 3) Z j) j).1 = o1 at *
                  generalize (lk (ov1 (1000 + (m : Int), 3) Z j) j).2 = o2 at *
                  clear om ho hc kR
                  go_wp2_with fail
                  go_fit (it_exact _ _ _)
                  rintro r w2 ⟨rfl, rfl⟩
                  go_wp2
                  exact ⟨⟨j + 1, by go_num, by omega, HO2, HK2⟩, by simp [RowKit.intOf]; omega⟩
                · obtain rfl : j = 200 := by omega
                  have hji : ¬ ((200 : Nat) : Int) < 200 := by omega
                  have hrow := ho.out
                  have he : ov1 (1000 + (m : Int), 3) Z 200 = List.replicate 200 (1000 + (m : Int), 3) := by
                    have := ov1_end (1000 + (m : Int), 3) Z
                    rw [HZL.out] at this
                    exact this
                  rw [he] at hrow
                  have hOG : Own B wr (G m) (mk2 N m) := hc.out.row HOG.out.1 (fun _ _ => id)
                  obtain ⟨v7, w7, r7, o7, rd1, rd2, c7, cl7⟩ := grow_many (col := c4) (p := m) (ys := List.replicate 200 (1000 + (m : Int), 3)) (c := 200) hs.out.size (by rw [mk2_len, List.length_replicate]; omega) hOG hrow.cells
                    (HRV.out.stay0 hc.out) (t1 := List.replicate 16 (1000 + (m : Int), 2)) rfl (HOG.out.1.rd.stay0 hc.out) (t2 := []) (List.append_nil _).symm hc.out.weak (fun g e _ => HOG.out.2 g e)
                  rw [List.length_replicate] at r7
                  obtain ⟨g, c, hv, _, _⟩ := o7.rd.at (by rw [List.length_append, List.length_replicate]; omega)
                  have hmH := hmr.out.stay (k := m) (by omega) c7
                  have hold := hmH.cell m hlt
                  rw [if_neg (by omega)] at hold
                  have hfr := World.ownsRow.frozenAt hmH.1 m
                  have q3 := hq3.out.step hlt c7 o7 rd1 rd2 cl7
                  have hput := (hmH.ext (k := m) hmr.out (Nat.le_refl _)).put m v7
                  rw [upto_put] at hput
                  have hsx := (hs.out.stay (k := m) (by omega) c7).ext (k := m) hs.out
                  have HHP : Hid _ := q3.stay (k := p + 2) (by omega) hput.2
                  have HHS : Hid _ := hsx.stay (k := p + 2) (by omega) hput.2
                  have HB : Hid (Below B w _) := (hbw.out.trans (hs.out.below (k := m) (by omega) c7)).trans (hsx.below (k := p + 2) (by omega) hput.2)
                  have HHM : Hid _ := hput.1
                  have HHH : Hid _ := ((hh.out.stay (k := m) (by omega) c7).ext (k := m) hh.out (Nat.le_refl _)).stay (k := p + 2) (by omega) hput.2
                  clear hput hsx q3 hmH rd1 rd2 o7 hOG hrow he c7 cl7 ho hc
                  subst hv
                  generalize (mk2 N m ++ List.replicate 200 (1000 + (m : Int), (3 : Int))).length = n216 at *
                  go_wp2_with (at_builtin; refine wpList_append_run rfl (.tmp 90) (.tmp 91) 22 22 rfl _ _ rfl rfl r7 ?_)
                  exact ⟨⟨m + 1, _, _, by go_num, by omega, HHS, HHP, HHH, HHM, HB⟩, by simp [RowKit.intOf]; omega⟩
            · obtain rfl : p = m := by omega
              have hmi : ¬ (p : Int) < p := by omega
              have HC : Hid (∀ i, i < p → wr.cell? ⟨BL, i, none⟩ = some (V i) ∧ wr.cell? ⟨H, i, none⟩ = some (G i) ∧ wr.cell? ⟨H2, i, none⟩ = some (M i)) := fun i hi => ⟨hs.out.cells i hi, by have := hh.out.cell i hi; rw [if_pos hi] at this; exact this, by have := hmr.out.cell i hi; rw [if_pos hi] at this; exact this⟩
              have HR : Hid (∀ i, i < p → Rd wr (V i) (mk1 N i) ∧ Rd wr (G i) (mk2 N i) ∧ Rd wr (M i) (mk3 N i)) := fun i hi => ⟨(hq3.out i hi).1.1, ((hq3.out i hi).2.1 hi).1.1, ((hq3.out i hi).2.1 hi).2.1.rd⟩
              have HBS : Hid (B ≤ wr.heap.size) := hs.out.size
              clear hs hq3 hh hmr
              go_wp2
              go_loopw [97] (fun t W => ∃ i : Nat, t = .int .i64 (i : Int) ∧ i ≤ p ∧ Hid (Below wr.heap.size wr W)) (fun t _ => p - (RowKit.intOf t).toNat)
              case atStart => exact ⟨0, rfl, by omega, Below.refl _ _⟩
              case round =>
                obtain ⟨i, rfl, hi, hb⟩ := hrel
                by_cases hlt : i < p
                · have hii : (i : Int) < p := by omega
                  obtain ⟨d0, d1, d2⟩ := HC.out i hlt
                  obtain ⟨rV, rG, rM⟩ := HR.out i hlt
                  have hNp := HNX.out i hlt
                  obtain ⟨a, cv, hv⟩ := rV.len
                  obtain ⟨gg, cg, hgv, hgl, xg⟩ := rG.at (by rw [mk2_len]; omega)
                  obtain ⟨gm, cm, hmv, hml, xm⟩ := rM.at (by rw [mk3_len]; omega)
                  rw [hv, mk1_len] at d0
                  rw [hgv, mk2_len] at d1
                  rw [hmv, mk3_len] at d2
                  have HV : Hid (V i = .slice a (N i) cv) := by rw [mk1_len] at hv; exact hv
                  have HXG : Hid (∀ j, j < N i + 16 → _ = some (Value.int .i64 (lk (mk2 N i) j).1) ∧ _ = some (Value.int .i64 (lk (mk2 N i) j).2)) := fun j hj => xg j (by rw [mk2_len]; exact hj)
                  have HXM : Hid (∀ j, j < N i + 216 → _ = some (Value.int .i64 (lk (mk3 N i) j).1) ∧ _ = some (Value.int .i64 (lk (mk3 N i) j).2)) := fun j hj => xm j (by rw [mk3_len]; exact hj)
                  have HRV : Hid (Rd _ (V i) (mk1 N i)) := rV
                  have HD1 : Hid _ := d1
                  have hNi : (N i : Int) ≤ 1073741824 := by omega
                  have e0 := bcellK hb.out d0
                  have e2 := bcellK hb.out d2
                  clear hv hgv hmv xg xm rV rG rM d0 d1 d2
                  go_wp2
                  go_loopw [107] (fun t W => ∃ j : Nat, t = .int .i64 (j : Int) ∧ j ≤ N i + 216 ∧ Hid (Below wr.heap.size wr W)) (fun t _ => N i + 216 - (RowKit.intOf t).toNat)
                  case atStart => exact ⟨0, rfl, by omega, Below.refl _ _⟩
                  case round =>
                    obtain ⟨j, rfl, hj, hb2⟩ := hrel
                    by_cases hjl : j < N i + 216
                    · have hji : (j : Int) < (N i : Int) + 216 := by omega
                      have bb := hb.out.trans (hb2.out.mono hb.out.size)
                      obtain ⟨m0, m1⟩ := HXM.out j hjl
                      have em0 := bcellK bb m0
                      have em1 := bcellK bb m1
                      have HF0 : Hid _ := bcellK bb HD1.out
                      by_cases h1 : j < N i
                      · have i1 : (j : Int) < N i := by omega
                        have i2 : (j : Int) < (N i : Int) + 16 := by omega
                        have i3 : ¬ (N i : Int) ≤ j := by omega
                        have i4 : ¬ (N i : Int) + 16 ≤ j := by omega
                        have di : decide ((j : Int) < N i) = true := decide_eq_true i1
                        have dj : decide ((j : Int) < (N i : Int) + 16) = true := decide_eq_true i2
                        rw [mk3_lo N i j (by omega), mk2_lo N i j h1] at em0 em1
                        dsimp only at em0 em1
                        obtain ⟨gv, cv2, hv2, hvl, xv⟩ := HRV.out.at (by rw [mk1_len]; omega)
                        obtain ⟨v0, v1⟩ := xv j (by rw [mk1_len]; exact h1)
                        obtain ⟨g0, g1⟩ := HXG.out j (by omega)
                        rw [HV.out, mk1_len] at hv2
                        simp only [Value.slice.injEq, true_and] at hv2
                        obtain ⟨rfl, rfl⟩ := hv2
                        rw [mk2_lo N i j h1] at g0 g1
                        rw [mk1_at N i j h1] at v0 v1
                        dsimp only at g0 g1 v0 v1
                        obtain ⟨x0, x1, ew⟩ := tri wr (.int .i64 (1000 + (i : Int))) (.int .i64 1) (.int .i64 (1000 + (i : Int))) (.int .i64 1) (.int .i64 (1000 + (i : Int))) (.int .i64 1)
                        obtain ⟨W3, hW3⟩ : ∃ W3, W3 = ((wr.alloc (.cells #[.int .i64 (1000 + (i : Int)), .int .i64 1] 24)).alloc (.cells #[.int .i64 (1000 + (i : Int)), .int .i64 1] 24)).alloc (.cells #[.int .i64 (1000 + (i : Int)), .int .i64 1] 24) := ⟨_, rfl⟩
                        have b3 : Below wr.heap.size wr W3 := by rw [hW3]; exact below_tri (Below.refl _ _) (Nat.le_refl _) _ _ _
                        rw [← hW3] at x0 x1 ew
                        have hE3 : Hid (W3 = _) := hW3
                        have w0 : W3.cell? ⟨wr.heap.size + 1 + 1, 0, none⟩ = some (.int .i64 (1000 + (i : Int))) := by unfold World.cell?; rw [ew]; rfl
                        have w1 : W3.cell? ⟨wr.heap.size + 1 + 1, 1, none⟩ = some (.int .i64 1) := by unfold World.cell?; rw [ew]; rfl
                        have c0 := bcellK b3 (HF0.out)
                        have c1 := bcellK b3 (bcellK bb g0)
                        have c2 := bcellK b3 (bcellK bb g1)
                        have c3 := bcellK b3 (bcellK bb v0)
                        have c4 := bcellK b3 (bcellK bb v1)
                        have HB4 : Hid (∀ n, Below _ _ (W3.drewN n)) := fun n => below_drewN (hb2.out.trans (b3.mono hb2.out.size)) n
                        clear m0 m1 bb ew b3 hW3 hb2 g0 g1 v0 v1 xv
                        go_wp2_with fail
                        go_fit (it_exact _ _ _)
                        rintro r w2 ⟨rfl, rfl⟩
                        go_wp2_with fail
                        rw [← hE3.out]
                        have heq : eqB (1000 + (i : Int), 1) (1000 + (i : Int), 1) = true := (eqB_iff _ _).2 rfl
                        go_big_quiet (fail)
                        have HB5 : Hid _ := HB4.out nq
                        generalize W3.drewN nq = W6 at *
                        go_wp2
                        exact ⟨⟨j + 1, by go_num, by omega, HB5⟩, by simp [RowKit.intOf]; omega⟩
                      · by_cases h2 : j < N i + 16
                        · have i1 : ¬ (j : Int) < N i := by omega
                          have i2 : (j : Int) < (N i : Int) + 16 := by omega
                          have i3 : (N i : Int) ≤ j := by omega
                          have i4 : ¬ (N i : Int) + 16 ≤ j := by omega
                          have di : decide ((j : Int) < N i) = false := decide_eq_false i1
                          have dj : decide ((j : Int) < (N i : Int) + 16) = true := decide_eq_true i2
                          rw [mk3_lo N i j h2, mk2_hi N i j (by omega) h2] at em0 em1
                          dsimp only at em0 em1
                          obtain ⟨g0, g1⟩ := HXG.out j h2
                          rw [mk2_hi N i j (by omega) h2] at g0 g1
                          dsimp only at g0 g1
                          obtain ⟨x0, x1, ew⟩ := tri wr (.int .i64 (1000 + (i : Int))) (.int .i64 2) (.int .i64 (1000 + (i : Int))) (.int .i64 1) (.int .i64 (1000 + (i : Int))) (.int .i64 2)
                          obtain ⟨W3, hW3⟩ : ∃ W3, W3 = ((wr.alloc (.cells #[.int .i64 (1000 + (i : Int)), .int .i64 2] 24)).alloc (.cells #[.int .i64 (1000 + (i : Int)), .int .i64 1] 24)).alloc (.cells #[.int .i64 (1000 + (i : Int)), .int .i64 2] 24) := ⟨_, rfl⟩
                          have b3 : Below wr.heap.size wr W3 := by rw [hW3]; exact below_tri (Below.refl _ _) (Nat.le_refl _) _ _ _
                          rw [← hW3] at x0 x1 ew
                          have hE3 : Hid (W3 = _) := hW3
                          have w0 : W3.cell? ⟨wr.heap.size + 1 + 1, 0, none⟩ = some (.int .i64 (1000 + (i : Int))) := by unfold World.cell?; rw [ew]; rfl
                          have w1 : W3.cell? ⟨wr.heap.size + 1 + 1, 1, none⟩ = some (.int .i64 2) := by unfold World.cell?; rw [ew]; rfl
                          have c0 := bcellK b3 (HF0.out)
                          have c1 := bcellK b3 (bcellK bb g0)
                          have c2 := bcellK b3 (bcellK bb g1)
                          have HB4 : Hid (∀ n, Below _ _ (W3.drewN n)) := fun n => below_drewN (hb2.out.trans (b3.mono hb2.out.size)) n
                          clear m0 m1 bb ew b3 hW3 hb2 g0 g1
                          go_wp2_with fail
                          go_fit (it_exact _ _ _)
                          rintro r w2 ⟨rfl, rfl⟩
                          go_wp2_with fail
                          rw [← hE3.out]
                          have heq : eqB (1000 + (i : Int), 2) (1000 + (i : Int), 2) = true := (eqB_iff _ _).2 rfl
                          go_big_quiet (fail)
                          have HB5 : Hid _ := HB4.out nq
                          generalize W3.drewN nq = W6 at *
                          go_wp2
                          exact ⟨⟨j + 1, by go_num, by omega, HB5⟩, by simp [RowKit.intOf]; omega⟩
                        · have i1 : ¬ (j : Int) < N i := by omega
                          have i2 : ¬ (j : Int) < (N i : Int) + 16 := by omega
                          have i3 : (N i : Int) ≤ j := by omega
                          have i4 : (N i : Int) + 16 ≤ j := by omega
                          have di : decide ((j : Int) < N i) = false := decide_eq_false i1
                          have dj : decide ((j : Int) < (N i : Int) + 16) = false := decide_eq_false i2
                          rw [mk3_hi N i j (by omega) hjl] at em0 em1
                          dsimp only at em0 em1
                          obtain ⟨x0, x1, ew⟩ := tri wr (.int .i64 (1000 + (i : Int))) (.int .i64 3) (.int .i64 (1000 + (i : Int))) (.int .i64 1) (.int .i64 (1000 + (i : Int))) (.int .i64 3)
                          obtain ⟨W3, hW3⟩ : ∃ W3, W3 = ((wr.alloc (.cells #[.int .i64 (1000 + (i : Int)), .int .i64 3] 24)).alloc (.cells #[.int .i64 (1000 + (i : Int)), .int .i64 1] 24)).alloc (.cells #[.int .i64 (1000 + (i : Int)), .int .i64 3] 24) := ⟨_, rfl⟩
                          have b3 : Below wr.heap.size wr W3 := by rw [hW3]; exact below_tri (Below.refl _ _) (Nat.le_refl _) _ _ _
                          rw [← hW3] at x0 x1 ew
                          have hE3 : Hid (W3 = _) := hW3
                          have w0 : W3.cell? ⟨wr.heap.size + 1 + 1, 0, none⟩ = some (.int .i64 (1000 + (i : Int))) := by unfold World.cell?; rw [ew]; rfl
                          have w1 : W3.cell? ⟨wr.heap.size + 1 + 1, 1, none⟩ = some (.int .i64 3) := by unfold World.cell?; rw [ew]; rfl
                          have c0 := bcellK b3 (HF0.out)
                          have HB4 : Hid (∀ n, Below _ _ (W3.drewN n)) := fun n => below_drewN (hb2.out.trans (b3.mono hb2.out.size)) n
                          clear m0 m1 bb ew b3 hW3 hb2
                          go_wp2_with fail
                          go_fit (it_exact _ _ _)
                          rintro r w2 ⟨rfl, rfl⟩
                          go_wp2_with fail
                          rw [← hE3.out]
                          have heq : eqB (1000 + (i : Int), 3) (1000 + (i : Int), 3) = true := (eqB_iff _ _).2 rfl
                          go_big_quiet (fail)
                          have HB5 : Hid _ := HB4.out nq
                          generalize W3.drewN nq = W6 at *
                          go_wp2
                          exact ⟨⟨j + 1, by go_num, by omega, HB5⟩, by simp [RowKit.intOf]; omega⟩
                    · have hji : ¬ (j : Int) < (N i : Int) + 216 := by omega
                      have HB3 : Hid (Below _ _ _) := hb.out.trans (hb2.out.mono hb.out.size)
                      clear hb hb2
                      go_wp2
                      exact ⟨⟨i + 1, by go_num, by omega, HB3⟩, by simp [RowKit.intOf]; omega⟩
                · have hii : ¬ (i : Int) < p := by omega
                  have HBB : Hid (Below B w _) := hbw.out.trans (hb.out.mono HBS.out)
                  clear hb
                  go_wp2
                  go_ret
                  exact ⟨rfl, HBB.out⟩
end Go.Proofs.Ytcgpjmpppajfdaa
