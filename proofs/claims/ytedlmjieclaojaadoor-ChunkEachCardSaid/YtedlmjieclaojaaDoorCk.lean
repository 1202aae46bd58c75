/- A packer: New, Len, Bytes. -/
import Derived.Test.YtedlmjieclaojaaDoorCj
namespace Go.Proofs.YtedlmjieclaojaaDoor
open Go.RowKit

theorem qb_nil : qb [] = 0 := rfl
theorem lf_nil : lf [] = 0 := rfl
theorem info64 : ∀ w : World, (zeroValue 64).run Tryd.prog w = .ok (.agg #[.slice none 0 0, .int .i64 0]) w := Tryd.zeroValue64
/-- A new stream. -/
theorem stm_new (w : World) (o : Obj) (c : Array Value) (t : TypeId) (ho : o = .cells c t) (h0 : c[0]? = some (.slice none 0 0)) (h1 : c[1]? = some (.int .i64 0)) : Stm w.heap.size (w.alloc o) w.heap.size (.slice none 0 0) [] := by
  subst ho
  have hg : (w.alloc (.cells c t)).heap[w.heap.size]? = some (.cells c t) := heap_alloc_new w _
  refine ⟨?_, ?_, fun i => by simp, World.ownsRow_nil _ _ _ _, fun e => (by cases e), bin_nil, by simp⟩
  · unfold World.cell?; rw [hg]; simpa using h0
  · rw [lf_nil]; unfold World.cell?; rw [hg]; simpa using h1
set_option maxHeartbeats 1000000 in
set_option maxRecDepth 100000 in
theorem new_any (w : World) (hw : 3 ≤ w.heap.size) : Calls Tryd.prog 16 #[] w fun e w' => e = .returned (.pointer (some ⟨w.heap.size, 0, none⟩)) ∧ ∃ v, Hd w.heap.size w' w.heap.size v [] ∧ Below w.heap.size w w' := by
  have hS := stm_new w (.cells #[.slice none 0 0, .int .i64 0, .int .i64 0, .int .i64 0, .int .i64 0, .int .u64 0, .int .i64 0, .int .i64 0] 70) _ _ rfl rfl rfl
  have hT : Tc (w.alloc (.cells #[.slice none 0 0, .int .i64 0, .int .i64 0, .int .i64 0, .int .i64 0, .int .u64 0, .int .i64 0, .int .i64 0] 70)) w.heap.size 2 t0 := by
    refine ⟨?_, ?_, ?_, ?_, ?_, ?_⟩ <;> simp [t0]
  have k := put_any w.heap.size w.heap.size _ [] 0 17 _ hS (by decide) (by decide) (by decide)
  have HB : Hid (Below w.heap.size w (w.alloc (.cells #[.slice none 0 0, .int .i64 0, .int .i64 0, .int .i64 0, .int .i64 0, .int .u64 0, .int .i64 0, .int .i64 0] 70))) := (Below.refl _ _).alloc (Nat.le_refl _) _
  have HT : Hid _ := hT
  clear hS hT
  go_enter Tryd.func16, Tryd.ntmps16
  go_wp2_with fail
  go_fit k
  rintro e w1 ⟨rfl, v1, hS1, hsub, hkp, hrs⟩
  have HR : Hid (∃ v, Hd w.heap.size w1 w.heap.size v [] ∧ Below w.heap.size w w1) := by
    refine ⟨v1, ⟨⟨?_, HT.out.rst hrs, hw, Nat.le_refl _⟩, fun x hx => (by cases hx), by simp⟩, ?_⟩
    · exact hS1
    · refine HB.out.trans (hkp.below (by simp) ?_)
      rintro i hi (e | e)
      · omega
      · cases e
  clear k hS1 hsub hkp hrs HT HB
  go_wp2
  go_ret
  exact ⟨rfl, HR.out⟩
set_option maxHeartbeats 1000000 in
theorem len_any (S B : Nat) (v : Value) (l : List Smp) (w : World) (h : Hd S w B v l) : Calls Tryd.prog 19 #[.pointer (some ⟨B, 0, none⟩)] w fun e w' => e = .returned (.int .i64 (l.length : Nat)) ∧ w' = w := by
  have c0 := h.pk.tc.c0
  rw [fin_len] at c0
  go_enter Tryd.func19, Tryd.ntmps19
  go_wp2
  go_ret
  exact ⟨rfl, rfl⟩
set_option maxHeartbeats 1000000 in
theorem len_nil (w : World) : Calls Tryd.prog 19 #[.pointer none] w fun e w' => e = .returned (.int .i64 0) ∧ w' = w := by
  go_enter Tryd.func19, Tryd.ntmps19
  go_wp2
  go_ret
  exact ⟨rfl, rfl⟩
theorem bc_one (l : List Int) : ∀ u ∈ bc l, u.oneCell' = true := by
  intro u hu
  obtain ⟨x, _, rfl⟩ := List.mem_map.1 hu
  rfl
set_option maxHeartbeats 1000000 in
set_option maxRecDepth 100000 in
theorem clone_any (S G n C : Nat) (xs : List Int) (w : World) (o : w.ownsRow S 5 1 (.slice (some ⟨G, 0, none⟩) n C) n (bc xs)) (hn : n ≤ 100000000) :
    Calls Tryd.prog 36 #[.slice (some ⟨G, 0, none⟩) n C] w fun e w' => ∃ g c, e = .returned (.slice (some ⟨g, 0, none⟩) n c) ∧ w'.ownsRow w.heap.size 5 1 (.slice (some ⟨g, 0, none⟩) n c) n (bc xs) ∧ Below w.heap.size w w' := by
  have hl : (bc xs).length = n * 1 := o.1
  obtain ⟨g, c, w', r, o', b, _, _⟩ := fresh_copy (P := Tryd.prog) w 25 5 (.int .u8 0) 1 1 Tryd.underlying25 info5 rfl (by decide) (some ⟨G, 0, none⟩) n C (bc xs) (fun e => (by cases e)) hl
    (fun p e j u hj => by cases e; exact World.ownsRow.cells o (g := G) rfl j u hj) (bc_one xs) (by unfold maxLen; omega) (by omega)
  have HO : Hid _ := o'
  have HB : Hid _ := b
  have hnil : ∀ W : World, (binOp BinOp.eql 25 (.slice (some ⟨G, 0, none⟩) n C) (.slice none 0 0)).run Tryd.prog W = .ok (.bool false) W := fun _ => by kernel_rfl
  clear o o' b hl
  go_enter Tryd.func36, Tryd.ntmps36
  go_wp2_with (at_builtin; refine wpList_append_run rfl (.tmp 5) (.tmp 6) 25 25 rfl _ _ rfl rfl r ?_)
  go_ret
  exact ⟨g, c, rfl, HO.out, HB.out⟩

/-- The bytes with the number of samples in them, up to the byte i. -/
def nf (n : Nat) (X : List Int) (i j : Nat) : Nat := if j < i then bv (fb (nb n 17 ++ X)) (8 * j) 8 else bv (fb (nb 0 17 ++ X)) (8 * j) 8
def nfL (n : Nat) (X : List Int) (i Q : Nat) : List Int := (List.range Q).map fun j => ((nf n X i j : Nat) : Int)
theorem nfL_zero (n : Nat) (X : List Int) (Q : Nat) : nfL n X 0 Q = gr (fb (nb 0 17 ++ X)) 8 Q := by
  unfold nfL gr nf
  simp
theorem nfL_len (n : Nat) (X : List Int) (i Q : Nat) : (nfL n X i Q).length = Q := by simp [nfL]
theorem nfL_three (n : Nat) (X : List Int) (Q : Nat) : nfL n X 3 Q = gr (fb (nb n 17 ++ X)) 8 Q := by
  unfold nfL gr nf
  refine List.map_congr_left fun j _ => ?_
  split
  · rfl
  · congr 1
    refine bv_congr _ _ _ _ (fun i h1 _ => ?_)
    rw [fb_right' _ _ _ (by rw [nb_len]; omega), fb_right' _ _ _ (by rw [nb_len]; omega), nb_len, nb_len]
theorem nfL_set (n : Nat) (X : List Int) (i Q : Nat) : nfL n X (i + 1) Q = (nfL n X i Q).set i ((bv (fb (nb n 17 ++ X)) (8 * i) 8 : Nat) : Int) := by
  refine List.ext_getElem (by simp [nfL]) fun j h1 h2 => ?_
  rw [List.getElem_set]
  simp only [nfL, List.getElem_map, List.getElem_range, nf]
  by_cases hj : i = j
  · subst hj
    rw [if_pos (by omega), if_pos rfl]
  · rw [if_neg hj]
    by_cases h3 : j < i
    · rw [if_pos (by omega), if_pos h3]
    · rw [if_neg (by omega), if_neg h3]
theorem or_zero (y : Nat) (hy : y < 256) : bits BinOp.or IntKind.u8 ((0 : Nat) : Int) (y : Int) = (y : Int) := by
  rw [(bits_nat .u8 8 (by decide) wraps_u8s 0 y (by decide) hy).2, Nat.zero_or]
theorem num_or (n : Nat) (X : List Int) (hX : Bin X) (i : Nat) (hi : i < 3) :
    bits BinOp.or IntKind.u8 ((bv (fb (nb 0 17 ++ X)) (8 * i) 8 : Nat) : Int) ((bv (fb (nb n 17)) (8 * i) 8 : Nat) : Int) = ((bv (fb (nb n 17 ++ X)) (8 * i) 8 : Nat) : Int) := by
  have hz : ∀ k, fb (nb 0 17) k = 0 := fun k => by
    by_cases hk : k < 17
    · rw [fb_nb _ _ _ hk]; simp
    · exact fb_out _ _ (by rw [nb_len]; omega)
  by_cases h2 : i < 2
  · have e1 : bv (fb (nb 0 17 ++ X)) (8 * i) 8 = 0 := bv_zero _ _ _ (fun k _ h => by rw [fb_left _ _ _ (by rw [nb_len]; omega), hz])
    have e2 : bv (fb (nb n 17 ++ X)) (8 * i) 8 = bv (fb (nb n 17)) (8 * i) 8 := bv_congr _ _ _ _ (fun k _ h => fb_left _ _ _ (by rw [nb_len]; omega))
    rw [e1, e2]
    exact or_zero _ (bv_lt _ (bin_nb n 17).lt _ 8)
  · obtain rfl : i = 2 := by omega
    have a1 := bv_add (fb (nb 0 17 ++ X)) (8 * 2) 1 7
    have a2 := bv_add (fb (nb n 17 ++ X)) (8 * 2) 1 7
    have a3 := bv_add (fb (nb n 17)) (8 * 2) 1 7
    have e1 : bv (fb (nb 0 17 ++ X)) (8 * 2) 1 = 0 := bv_zero _ _ _ (fun k _ h => by rw [fb_left _ _ _ (by rw [nb_len]; omega), hz])
    have e2 : bv (fb (nb n 17 ++ X)) (8 * 2) 1 = bv (fb (nb n 17)) (8 * 2) 1 := bv_congr _ _ _ _ (fun k _ h => fb_left _ _ _ (by rw [nb_len]; omega))
    have e3 : bv (fb (nb n 17)) (8 * 2 + 1) 7 = 0 := bv_zero _ _ _ (fun k h _ => fb_out _ _ (by rw [nb_len]; omega))
    have e4 : bv (fb (nb n 17 ++ X)) (8 * 2 + 1) 7 = bv (fb (nb 0 17 ++ X)) (8 * 2 + 1) 7 := bv_congr _ _ _ _ (fun k h _ => by
      rw [fb_right' _ _ _ (by rw [nb_len]; omega), fb_right' _ _ _ (by rw [nb_len]; omega), nb_len, nb_len])
    have l1 := bv_lt (fb (nb 0 17 ++ X)) (bin_app (bin_nb 0 17) hX).lt (8 * 2 + 1) 7
    have l2 := bv_lt (fb (nb n 17)) (bin_nb n 17).lt (8 * 2) 1
    rw [e1] at a1
    rw [e2, e4] at a2
    rw [e3] at a3
    rw [show 1 + 7 = 8 from rfl] at a1 a2 a3
    rw [a1, a2, a3]
    generalize bv (fb (nb 0 17 ++ X)) (8 * 2 + 1) 7 = x at *
    generalize bv (fb (nb n 17)) (8 * 2) 1 = y at *
    rw [Nat.zero_mul, Nat.zero_add, Nat.add_zero, (bits_nat .u8 8 (by decide) wraps_u8s x (y * 2 ^ 7) (by omega) (by omega)).2, Nat.or_comm, Nat.mul_comm y, Nat.two_pow_add_eq_or_of_lt l1]
set_option maxHeartbeats 2000000 in
set_option maxRecDepth 100000 in
theorem bytes_any (S B : Nat) (v : Value) (l : List Smp) (w : World) (h : Hd S w B v l) :
    Calls Tryd.prog 21 #[.pointer (some ⟨B, 0, none⟩)] w fun e w' => ∃ g c, e = .returned (.slice (some ⟨g, 0, none⟩) (pk (frm l)).length c) ∧ w'.ownsRow w.heap.size 5 1 (.slice (some ⟨g, 0, none⟩) (pk (frm l)).length c) (pk (frm l)).length (bc (pk (frm l))) ∧ Below w.heap.size w w' := by
  have hlen := h.len
  have hle := h.le
  have c2 := h.pk.tc.c0
  rw [fin_len] at c2
  have hXb := bin_bod l t0
  have HPk : Hid (pk (frm l) = nfL l.length (bod t0 l) 3 (qb (nb 0 17 ++ bod t0 l))) := by
    show _ = _
    rw [nfL_three]
    unfold pk frm qb
    rw [List.length_append, List.length_append, nb_len, nb_len]
  have hql : (pk (frm l)).length = qb (nb 0 17 ++ bod t0 l) := by rw [HPk.out, nfL_len]
  rw [hql, HPk.out]
  have hS := h.pk.stm
  have hq3 : 3 ≤ qb (nb 0 17 ++ bod t0 l) := by unfold qb; rw [List.length_append, nb_len]; omega
  have hq9 : qb (nb 0 17 ++ bod t0 l) ≤ 100000000 := by unfold qb; omega
  obtain ⟨G, C, rfl⟩ : ∃ G C, v = .slice (some ⟨G, 0, none⟩) (qb (nb 0 17 ++ bod t0 l)) C := by
    rcases hS.row.2 with ⟨_, e2⟩ | ⟨G, C, cur, e, _⟩
    · omega
    · exact ⟨G, C, e⟩
  have HS : Hid (Stm S w B _ (nb 0 17 ++ bod t0 l)) := hS
  have c0 := hS.c0
  clear h hS hlen hql HPk
  generalize l.length = n at *
  have HZ := nfL_zero n (bod t0 l) (qb (nb 0 17 ++ bod t0 l))
  generalize hX : bod t0 l = X at *
  generalize hQ : qb (nb 0 17 ++ X) = Q at *
  have HQ : Hid (qb (nb 0 17 ++ X) = Q) := hQ
  have HZ' : Hid (_ = _) := HZ
  have HN := fun i hi => num_or n X (hX ▸ hXb) i hi
  have HN' : Hid _ := HN
  clear HZ HN hX hXb hQ
  have hbN : Below w.heap.size w (w.alloc (.cells #[.slice none 0 0, .int .i64 0] 64)) := (Below.refl _ _).alloc (Nat.le_refl _) _
  have HBN : Hid _ := hbN
  have hSN := stm_new w (.cells #[.slice none 0 0, .int .i64 0] 64) _ _ rfl rfl rfl
  have k := put_any w.heap.size w.heap.size _ [] n 17 _ hSN (by omega) (by decide) (by decide)
  have hlt := HS.out.lt
  have wn : IntKind.u64.wrap (n : Int) = (n : Int) := by rw [IntKind.wrap_u64]; omega
  clear hSN hbN
  go_enter Tryd.func21, Tryd.ntmps21
  go_wp2_with fail
  go_fit k
  rintro e w1 ⟨rfl, v1, hS1, _, hkp, _⟩
  have hb1 : Below w.heap.size w w1 := HBN.out.trans (hkp.below (by simp) (by
    rintro i hi (e | e)
    · omega
    · cases e))
  have HB1 : Hid (Below w.heap.size w w1) := hb1
  rw [List.nil_append] at hS1
  have hq17 : qb (nb n 17) = 3 := by unfold qb; rw [nb_len]
  have hr1 := hS1.row
  rw [hq17] at hr1
  obtain ⟨G1, C1, rfl⟩ : ∃ G C, v1 = .slice (some ⟨G, 0, none⟩) 3 C := by
    rcases hr1.2 with ⟨_, e2⟩ | ⟨G, C, cur, e, _⟩
    · omega
    · exact ⟨G, C, e⟩
  have d0 := hS1.c0
  have HO1 : Hid (w1.ownsRow w.heap.size 5 1 (.slice (some ⟨G1, 0, none⟩) 3 C1) 3 (bc (gr (fb (nb n 17)) 8 3))) := hr1
  have e0 : w1.cell? ⟨B, 0, none⟩ = _ := bcell2 hb1 c0
  have hS' := HS.out.below hb1
  have kc := clone_any S G Q C _ w1 (by have := hS'.row; rw [HQ.out] at this; exact this) hq9
  clear k hS1 hkp hb1 c0 c2 HS hS' hlt hr1 hq17
  go_wp2_with fail
  go_fit kc
  rintro e w2 ⟨g, c, rfl, o2, b2⟩
  have HO2 : Hid (w2.ownsRow w.heap.size 5 1 (.slice (some ⟨g, 0, none⟩) Q c) Q (bc (nfL n X 0 Q))) := by
    rw [HZ'.out]
    exact ⟨o2.1, o2.2.imp id (fun ⟨g', cap, cur, h1, h2, h3⟩ => ⟨g', cap, cur, h1, Nat.le_trans HB1.out.size h2, h3⟩)⟩
  have hgw : w1.heap.size ≤ g := by
    rcases o2.2 with ⟨h, _⟩ | ⟨g', _, _, e, h, _⟩
    · cases h
    · cases e; exact h
  have HB2 : Hid (Below w.heap.size w w2) := HB1.out.trans (b2.mono HB1.out.size)
  have HR2 : Hid (w2.ownsRow w.heap.size 5 1 (.slice (some ⟨G1, 0, none⟩) 3 C1) 3 (bc (gr (fb (nb n 17)) 8 3))) := Kp.row (M := fun _ => False) (Kp.of b2) HO1.out (fun _ _ => id)
  have hG1 : G1 < w1.heap.size := by
    rcases HO1.out.2 with ⟨h, _⟩ | ⟨g', _, _, e, _, h, _⟩
    · cases h
    · cases e; exact (Array.getElem?_eq_some_iff.1 h).1
  have d0' := bcell2 b2 d0
  have hgG : G1 ≠ g := by omega
  clear kc o2 b2 HO1 HB1 d0 e0 hgw hG1
  go_wp2_with fail
  go_loopw [26] (fun iv w' => ∃ i : Nat, i ≤ 3 ∧ iv = .int .i64 (i : Nat) ∧ Hid (w'.ownsRow w.heap.size 5 1 (.slice (some ⟨g, 0, none⟩) Q c) Q (bc (nfL n X i Q))) ∧ Hid (w'.ownsRow w.heap.size 5 1 (.slice (some ⟨G1, 0, none⟩) 3 C1) 3 (bc (gr (fb (nb n 17)) 8 3))) ∧ Hid (Below w.heap.size w w')) (fun iv _ => 3 - (RowKit.intOf iv).toNat)
  case atStart => exact ⟨0, by decide, rfl, HO2, HR2, HB2⟩
  case round =>
    obtain ⟨i, hi, rfl, ho, hr, hb⟩ := hrel
    by_cases hlt : i < 3
    · have hii : (i : Int) < 3 := by omega
      have hiQ : (i : Int) < (Q : Int) := by omega
      have r1 : wr.cell? ⟨G1, i, none⟩ = some (.int .u8 ((bv (fb (nb n 17)) (8 * i) 8 : Nat) : Int)) := by
        have := hr.out.cells (g := G1) rfl i (.int .u8 ((gr (fb (nb n 17)) 8 3).getD i 0)) (by simp [bc, List.getD, gr_len, hlt])
        rw [Go.WideShapes.add_plain, Nat.zero_add, gr_getD _ _ _ _ hlt] at this
        exact this
      have hnf : nf n X i i = bv (fb (nb 0 17 ++ X)) (8 * i) 8 := by unfold nf; rw [if_neg (by omega)]
      have r2 : wr.cell? ⟨g, i, none⟩ = some (.int .u8 ((bv (fb (nb 0 17 ++ X)) (8 * i) 8 : Nat) : Int)) := by
        have := ho.out.cells (g := g) rfl i (.int .u8 ((nf n X i i : Nat) : Int)) (by rw [bc, List.getElem?_map, nfL, List.getElem?_map, List.getElem?_range (by omega)]; rfl)
        rw [Go.WideShapes.add_plain, Nat.zero_add, hnf] at this
        exact this
      have f2 := World.ownsRow.frozenAt ho.out i
      have hor := HN'.out i hlt
      have st := (World.ownsRow.stored ho.out i (.int .u8 ((bv (fb (nb n 17 ++ X)) (8 * i) 8 : Nat) : Int))).1
      rw [← bc_set, ← nfL_set] at st
      have HST : Hid _ := st
      have HSR : Hid (World.ownsRow (wr.setCell ⟨g, i, none⟩ (.int .u8 ((bv (fb (nb n 17 ++ X)) (8 * i) 8 : Nat) : Int))) w.heap.size 5 1 (.slice (some ⟨G1, 0, none⟩) 3 C1) 3 (bc (gr (fb (nb n 17)) 8 3))) :=
        ((Kp.refl (fun k => k = g) wr).setCell (p := ⟨g, i, none⟩) rfl _).row hr.out (fun k e e2 => hgG ((Option.some.inj e).trans e2))
      have HSB : Hid (Below w.heap.size w (wr.setCell ⟨g, i, none⟩ (.int .u8 ((bv (fb (nb n 17 ++ X)) (8 * i) 8 : Nat) : Int)))) := hb.out.setCell (p := ⟨g, i, none⟩) (by
        rcases ho.out.2 with ⟨h, _⟩ | ⟨g', _, _, e, h, _⟩
        · cases h
        · cases e; exact h) _
      clear ho hr hb hnf st
      generalize ((bv (fb (nb n 17 ++ X)) (8 * i) 8 : Nat) : Int) = Y at *
      generalize ((bv (fb (nb 0 17 ++ X)) (8 * i) 8 : Nat) : Int) = Y0 at *
      generalize ((bv (fb (nb n 17)) (8 * i) 8 : Nat) : Int) = Y1 at *
      go_wp2
      exact ⟨⟨i + 1, by omega, by go_num, HST, HSR, HSB⟩, by simp [RowKit.intOf]; omega⟩
    · have hii : ¬ (i : Int) < 3 := by omega
      have HF : Hid (wr.ownsRow w.heap.size 5 1 (.slice (some ⟨g, 0, none⟩) Q c) Q (bc (nfL n X 3 Q))) := by
        have e : i = 3 := by omega
        rw [← e]; exact ho.out
      clear ho hr
      go_wp2
      go_ret
      exact ⟨g, c, rfl, HF.out, hb.out⟩
end Go.Proofs.YtedlmjieclaojaaDoor
