/- A bundle of texts. -/
import Derived.Test.YtebjklppbkkinaaGreatDoorBp34
import Derived.Test.YtebjklppbkkinaaGreatDoorBp35
import Derived.Deep.RegionHeld3
/- Pair: PairMixes' walk. -/
namespace Go.Proofs.YtebjklppbkkinaaGreatDoor
open Go.RowKit Go.Lib Go.Shelf Go.Sort

attribute [local go_sem] Oper.semAt_some run_store_float

/-- Two answers that say the same. -/
theorem an_same {cs : List Co} {tk : Bool} {mp : Co → Option Kc} {E E' : Int} {N N' : Nat} {r r' : Nat → El} (h : MX cs tk mp E ((elL r N).map kc)) (h' : MX cs tk mp E' ((elL r' N').map kc)) : E = E' ∧ N = N' ∧ (elL r N).map kc = (elL r' N').map kc := by
  obtain ⟨h1, h2⟩ := h.uniq h'
  have := congrArg List.length h2
  refine ⟨h1, by simpa [elL] using this, h2⟩
set_option maxRecDepth 100000 in
set_option maxHeartbeats 16000000 in
theorem mixes_walk (s : ByteArray) (a : Option Addr) (n c X : Nat) (left yes : Bool) (q : Nat → El) (w : World) (hE : Em w a q n) (hz : a = none → n = 0 ∧ c = 0) (hnc : n ≤ c) (hcm : c ≤ 9223372036854775807) (hn : n ≤ 1048576)
    (hq : ∀ j, j < n → Hq w (q j) ∧ ((q j).a = none → (q j).n = 0 ∧ (q j).c = 0)) (hX : X < 18446744073709551616) (hT : Lib.Utf8Tabs 2 3 w) :
    Calls Tryz.prog 3 #[.agg #[.string s, .slice a n c, .float .f64 X, .bool left, .bool yes]] w fun e w' => e = .returned (.bool true) ∧ Below w.heap.size w w' := by
  obtain ⟨k, hk⟩ : ∃ k, F.opN s = k := ⟨_, rfl⟩
  have hk16 : k < 16 := by rw [← hk]; exact F.opN_le s
  have hop : F.OpK s k := by rw [← hk]; exact F.opK s
  have hVx : ∀ x y, ∃ cc : Option Nat, k < 6 → x < 18446744073709551616 → y < 18446744073709551616 → F.BothV 50 60 s x y cc := fun x y => by
    by_cases h : k < 6 ∧ x < 18446744073709551616 ∧ y < 18446744073709551616
    · obtain ⟨cc, h2⟩ := F.value_both s k h.1 hop x y h.2.1 h.2.2
      exact ⟨cc, fun _ _ _ => h2⟩
    · exact ⟨none, fun h1 h2 h3 => absurd ⟨h1, h2, h3⟩ h⟩
  obtain ⟨V, hV⟩ : ∃ V : Nat → Nat → Option Nat, ∀ x y, k < 6 → x < 18446744073709551616 → y < 18446744073709551616 → F.BothV 50 60 s x y (V x y) := ⟨fun x y => Classical.choose (hVx x y), fun x y => Classical.choose_spec (hVx x y)⟩
  have HT : Hid (∀ W, Below w.heap.size w W → Lib.Utf8Tabs 2 3 W) := (show ∀ W, _ → _ from fun W b => tabs_below hT (tabs_size hT) b)
  have HRM : Hid (∀ W, Below w.heap.size w W → Calls Tryz.prog 13 #[.string s, .slice a n c, .float .f64 X, .bool left, .bool yes] W (AN (MX ((elL q n).map core) (decide (k < 12)) (outC V k yes left X)) W)) := (show ∀ W, _ → _ from fun W b => rmixed_any s k hk16 hop V (fun h x y => hV x y h) X hX left yes a n c q W (hE.below b) hz hnc hcm hn (fun j hj => (hq j hj).1.below b))
  have HRN : Hid (∀ W, Below w.heap.size w W → Calls Tryz.prog 15 #[.slice a n c] W (AN (MX ((elL q n).map core) true ngC) W)) := (show ∀ W, _ → _ from fun W b => rnegate_any a n c q W (hE.below b) hz hnc hcm hn (fun j hj => (hq j hj).1.below b))
  have HCP : Hid (∀ W, Below w.heap.size w W → Calls Tryz.prog 14 #[.slice a n c] W fun e w' => ∃ a' c', e = .returned (.slice a' n c') ∧ Below W.heap.size W w' ∧ (Calls Tryz.prog 8 #[.string s, .slice a' n c', .float .f64 X, .bool left, .bool yes] w' (AN (MX ((elL q n).map core) (decide (k < 12)) (outC V k yes left X)) w')) ∧ Calls Tryz.prog 10 #[.slice a' n c'] w' (AN (MX ((elL q n).map core) true ngC) w')) := (show ∀ W, _ → _ from fun W b => by
    refine (copied14_any a n c q W (hE.below b) (fun j hj => (hq j hj).1.below b) (fun j hj => (hq j hj).2) hn).mono fun e w' h => ?_
    obtain ⟨a', c', r, rfl, hC⟩ := h
    obtain ⟨h1, h2, h3⟩ := row_none hC.row
    have bw : Below w.heap.size w w' := b.trans (hC.bel.mono b.size)
    have kv := vector_any a' n c' r w' (elM_row hC.row) (fun e => (h1 e).1) (fun j hj => (hC.lab j hj).1.eo) (fun j hj b' o e => ((hC.lab j hj).2.2 b' o e).2) (HT.out w' bw) (by omega)
    have hcs : (elL r n).map core = (elL q n).map core := by
      simp only [elL, List.map_map]
      exact List.map_congr_left fun j hj => (hC.lab j (List.mem_range.1 hj)).2.1
    have hrq : ∀ j, j < n → (r j).n ≤ 1048576 ∧ (r j).x < 18446744073709551616 := fun j hj => ⟨(hC.lab j hj).1.2.1, (hC.lab j hj).1.2.2.1⟩
    have m1 := mixed_any s k hk16 hop V (fun h x y => hV x y h) X hX left yes a' n c' r w' kv hn hrq
    have m2 := negate_any a' n c' r w' kv hn hrq
    rw [hcs] at m1 m2
    exact ⟨a', c', rfl, hC.bel, m1, m2⟩)
  clear hE hz hnc hcm hn hq hX hT hk hk16 hop hVx hV
  have kE2 := fun W => elem_up 4611686018427387904 W
  have kE0 := fun W => elem_up 0 W
  have kN8 := fun W => elem_no 4620693217682128896 W
  have kNm := fun W => elem_no 9223372036854775808 W
  have kCs := fun W => copysign_any W
  generalize (elL q n).map core = cs at *
  generalize outC V k yes left X = mp at *
  generalize decide (k < 12) = tk at *
  obtain ⟨w0, hw0⟩ : ∃ w0, w0 = w.alloc (.cells #[.string s, .slice a n c, .float .f64 X, .bool left, .bool yes] 25) := ⟨_, rfl⟩
  have b0 : Below w.heap.size w w0 := by rw [hw0]; exact (Below.refl _ w).alloc (Nat.le_refl _) _
  have eh : w0.heap[w.heap.size]? = some (.cells #[.string s, .slice a n c, .float .f64 X, .bool left, .bool yes] 25) := by rw [hw0]; exact heap_alloc_new w _
  have HBX : Hid (∀ W, Below w0.heap.size w0 W → (W.cell? ⟨w.heap.size, 0, none⟩ = some (.string s) ∧ W.cell? ⟨w.heap.size, 1, none⟩ = some (.slice a n c) ∧ W.cell? ⟨w.heap.size, 2, none⟩ = some (.float .f64 X) ∧ W.cell? ⟨w.heap.size, 3, none⟩ = some (.bool left) ∧ W.cell? ⟨w.heap.size, 4, none⟩ = some (.bool yes)) ∧ Below w.heap.size w W) := (show ∀ W, _ → _ from fun W b => ⟨⟨bcell2 b (by unfold World.cell?; rw [eh]; rfl), bcell2 b (by unfold World.cell?; rw [eh]; rfl), bcell2 b (by unfold World.cell?; rw [eh]; rfl), bcell2 b (by unfold World.cell?; rw [eh]; rfl), bcell2 b (by unfold World.cell?; rw [eh]; rfl)⟩, b0.trans (b.mono b0.size)⟩)
  have HB0 : Hid (Below w0.heap.size w0 w0) := Below.refl _ _
  rw [hw0] at HBX HB0
  clear b0 eh hw0
  go_enter Tryz.func3, Tryz.ntmps3
  go_wp2_with fail
  go_fit (kE2 _)
  rintro e w1 ⟨g1, c1, rfl, b1, hL1, hg1⟩
  have H1 : Hid (Below _ _ w1) := HB0.out.trans b1
  have k1 := chk1 w1 g1 c1 hL1 hg1 (HT.out w1 (HBX.out w1 H1.out).2)
  have b1a : Below w1.heap.size w1 (w1.alloc (.cells #[.slice (some ⟨g1, 0, none⟩) 2 c1, .float .f64 4611686018427387904] 31)) := (Below.refl _ w1).alloc (Nat.le_refl _) _
  have H1a : Hid (Below _ _ (w1.alloc (.cells #[.slice (some ⟨g1, 0, none⟩) 2 c1, .float .f64 4611686018427387904] 31))) := H1.out.trans (b1a.mono H1.out.size)
  clear b1 hL1 hg1 b1a kE2
  go_wp2_with fail
  go_fit k1
  rintro e w2 ⟨av, cv, rv, rfl, b2, hEv, hlv, hkv⟩
  have H2 : Hid (Below _ _ w2) := H1a.out.trans (b2.mono H1a.out.size)
  have HV2 : Hid (Em w2 av rv 1 ∧ (∀ j, j < 1 → Lm w2 (rv j).a (rv j).f (rv j).n ∧ (rv j).n ≤ 4294967296) ∧ (elL rv 1).map kc = [([aL], some 4620693217682128896)]) := ⟨hEv, hlv, hkv⟩
  clear k1 b2 hEv hlv hkv H1a
  go_wp2_with fail
  go_fit (kE0 _)
  rintro e w3 ⟨g3, c3, rfl, b3, hL3, hg3⟩
  have H3 : Hid (Below _ _ w3 ∧ Below w2.heap.size w2 w3) := (show _ ∧ _ from ⟨H2.out.trans (b3.mono H2.out.size), b3⟩)
  have k3 := chk2 w3 g3 c3 hL3 hg3 (HT.out w3 (HBX.out w3 H3.out.1).2)
  have b3a : Below w3.heap.size w3 (w3.alloc (.cells #[.slice (some ⟨g3, 0, none⟩) 2 c3, .float .f64 0] 31)) := (Below.refl _ w3).alloc (Nat.le_refl _) _
  have H3a : Hid (Below w3.heap.size w3 (w3.alloc (.cells #[.slice (some ⟨g3, 0, none⟩) 2 c3, .float .f64 0] 31))) := b3a
  clear b3 hL3 hg3 b3a kE0
  go_wp2_with fail
  go_fit k3
  rintro e w4 ⟨an, cn, rn, rfl, b4, hEn, hln, hkn⟩
  have b34 : Below w3.heap.size w3 w4 := H3a.out.trans (b4.mono H3a.out.size)
  have H4 : Hid (Below _ _ w4 ∧ Below w2.heap.size w2 w4) := (show _ ∧ _ from ⟨H3.out.1.trans (b34.mono H3.out.1.size), H3.out.2.trans (b34.mono H3.out.2.size)⟩)
  have HV4 : Hid (Em w4 an rn 1 ∧ (∀ j, j < 1 → Lm w4 (rn j).a (rn j).f (rn j).n ∧ (rn j).n ≤ 4294967296) ∧ (elL rn 1).map kc = [([aL], some 9223372036854775808)]) := ⟨hEn, hln, hkn⟩
  clear k3 b4 hEn hln hkn b34 H3a
  go_wp2_with fail
  go_fit (kN8 _)
  rintro e w5 ⟨g5, c5, rfl, b5, hL5, hg5⟩
  have H5 : Hid (Below w4.heap.size w4 w5) := b5
  have b25 : Below w2.heap.size w2 w5 := H4.out.2.trans (b5.mono H4.out.2.size)
  have e8 : F.cl 4620693217682128896 = some 4620693217682128896 := by decide +kernel
  have k5 := lit_same (c' := cv) (c := c5) (HV2.out.1.below b25) (fun j hj => ⟨(HV2.out.2.1 j hj).1.below b25, (HV2.out.2.1 j hj).2⟩) HV2.out.2.2 e8 hL5
  clear b5 hL5 hg5 b25 e8 kN8
  go_wp2_with fail
  go_fit k5
  rintro e w6 ⟨rfl, b6⟩
  have H6 : Hid (Below w4.heap.size w4 w6) := H5.out.trans (b6.mono H5.out.size)
  clear k5 b6 H5
  go_wp2_with fail
  go_fit (kCs _)
  rintro e w7 ⟨rfl, rfl⟩
  go_wp2_with fail
  go_fit (kNm _)
  rintro e w8 ⟨g8, c8, rfl, b8, hL8, hg8⟩
  have H8 : Hid (Below w4.heap.size w4 w8) := H6.out.trans (b8.mono H6.out.size)
  have e9 : F.cl 9223372036854775808 = some 9223372036854775808 := by decide +kernel
  have k8 := lit_same (c' := cn) (c := c8) (HV4.out.1.below H8.out) (fun j hj => ⟨(HV4.out.2.1 j hj).1.below H8.out, (HV4.out.2.1 j hj).2⟩) HV4.out.2.2 e9 hL8
  clear b8 hL8 hg8 e9 kNm kCs
  go_wp2_with fail
  go_fit k8
  rintro e w9 ⟨rfl, b9⟩
  have b49 : Below w4.heap.size w4 w9 := H8.out.trans (b9.mono H8.out.size)
  have H9 : Hid (Below _ _ w9) := H4.out.1.trans (b49.mono H4.out.1.size)
  clear k8 b9 b49 H8 H6 H4 H3 H2 H1 HV2 HV4
  obtain ⟨⟨p0, p1, p2, p3, p4⟩, hbw9⟩ := HBX.out w9 H9.out
  have k13 := HRM.out w9 hbw9
  go_wp2_with fail
  clear p0 p1 p2 p3 p4 hbw9
  go_fit k13
  rintro e w10 ⟨aw, cw, N, rw', E, rfl, b10, hEw, hNw, hlw, hxw⟩
  have H10 : Hid (Below _ _ w10) := H9.out.trans (b10.mono H9.out.size)
  have HW10 : Hid (Em w10 aw rw' N ∧ N ≤ 1099511627776 ∧ (∀ j, j < N → Lm w10 (rw' j).a (rw' j).f (rw' j).n ∧ (rw' j).n ≤ 4294967296) ∧ MX cs tk mp E ((elL rw' N).map kc)) := ⟨hEw, hNw, hlw, hxw⟩
  clear k13 b10 hEw hNw hlw hxw H9
  obtain ⟨⟨p0, p1, p2, p3, p4⟩, hbw10⟩ := HBX.out w10 H10.out
  have HCP10 : Hid (∀ W, Below w10.heap.size w10 W → Calls Tryz.prog 14 #[.slice a n c] W fun e w' => ∃ a' c', e = .returned (.slice a' n c') ∧ Below w10.heap.size w10 w' ∧ Calls Tryz.prog 8 #[.string s, .slice a' n c', .float .f64 X, .bool left, .bool yes] w' (AN (MX cs tk mp) w')) := (show ∀ W, _ → _ from fun W b => (HCP.out W (hbw10.trans (b.mono hbw10.size))).mono fun e w' h => by
    obtain ⟨a', c', h1, h2, h3, _⟩ := h
    exact ⟨a', c', h1, b.trans (h2.mono b.size), h3⟩)
  have HSX : Hid (∀ W, Below w10.heap.size w10 W → W.cell? ⟨w.heap.size, 0, none⟩ = some (.string s) ∧ W.cell? ⟨w.heap.size, 1, none⟩ = some (.slice a n c) ∧ W.cell? ⟨w.heap.size, 2, none⟩ = some (.float .f64 X) ∧ W.cell? ⟨w.heap.size, 3, none⟩ = some (.bool left) ∧ W.cell? ⟨w.heap.size, 4, none⟩ = some (.bool yes)) := (show ∀ W, _ → _ from fun W b => (HBX.out W (H10.out.trans (b.mono H10.out.size))).1)
  have bl0 : Below w10.heap.size w10 w10 := Below.refl _ _
  have bl1 : Below w10.heap.size w10 w10.drew := bl0.drew
  clear hbw10
  go_upto_region 6 with fail
  go_region_held3 (fun W => W.cell? ⟨w.heap.size, 0, none⟩ = some (.string s) ∧ W.cell? ⟨w.heap.size, 1, none⟩ = some (.slice a n c) ∧ W.cell? ⟨w.heap.size, 2, none⟩ = some (.float .f64 X) ∧ W.cell? ⟨w.heap.size, 3, none⟩ = some (.bool left) ∧ W.cell? ⟨w.heap.size, 4, none⟩ = some (.bool yes)) (first | exact HSX.out _ (by assumption) | exact HSX.out _ (Below.drew (by assumption))) (first | (go_at_call 14; go_fit (HCP10.out _ (by assumption)); rintro e w11 ⟨a', c', rfl, bl11, k8⟩) | (go_at_call 8; go_fit k8; rintro e w12 ⟨a2, c2, N2, r2, E2, rfl, b12, hE2, hN2, hl2, hx2⟩; have bl12 : Below w10.heap.size w10 w12 := bl11.trans (b12.mono bl11.size)))
  obtain ⟨rfl, rfl, hkk⟩ := an_same hx2 HW10.out.2.2.2
  have H12 : Hid (Below _ _ w12) := H10.out.trans (bl12.mono H10.out.size)
  have k11 := same_an (c := c2) (d := cw) hE2 (HW10.out.1.below bl12) hl2 (fun j hj => ⟨(HW10.out.2.2.1 j hj).1.below bl12, (HW10.out.2.2.1 j hj).2⟩) hkk hN2
  clear k8 b12 hE2 hN2 hl2 hx2 bl11 bl12 bl0 bl1 hkk HCP10 HSX p0 p1 p2 p3 p4 HW10 H10
  go_wp2_with fail
  go_fit k11
  rintro e w13 ⟨rfl, b13⟩
  have H13 : Hid (Below _ _ w13) := H12.out.trans (b13.mono H12.out.size)
  obtain ⟨⟨p0, p1, p2, p3, p4⟩, hbw13⟩ := HBX.out w13 H13.out
  have k15 := HRN.out w13 hbw13
  clear k11 b13 H12 hbw13
  go_wp2_with fail
  clear p0 p1 p2 p3 p4
  go_fit k15
  rintro e w14 ⟨aw, cw, N, rw', E, rfl, b14, hEw, hNw, hlw, hxw⟩
  have H14 : Hid (Below _ _ w14) := H13.out.trans (b14.mono H13.out.size)
  have HW14 : Hid (Em w14 aw rw' N ∧ N ≤ 1099511627776 ∧ (∀ j, j < N → Lm w14 (rw' j).a (rw' j).f (rw' j).n ∧ (rw' j).n ≤ 4294967296) ∧ MX cs true ngC E ((elL rw' N).map kc)) := ⟨hEw, hNw, hlw, hxw⟩
  clear k15 b14 hEw hNw hlw hxw H13
  obtain ⟨⟨p0, p1, p2, p3, p4⟩, hbw14⟩ := HBX.out w14 H14.out
  have k14 := HCP.out w14 hbw14
  go_wp2_with fail
  clear p0 p1 p2 p3 p4 hbw14
  go_fit k14
  rintro e w15 ⟨a', c', rfl, b15, _, k10⟩
  clear k14
  go_wp2_with fail
  go_fit k10
  rintro e w16 ⟨a3, c3, N3, r3, E3, rfl, b16, hE3, hN3, hl3, hx3⟩
  obtain ⟨rfl, rfl, hkk⟩ := an_same hx3 HW14.out.2.2.2
  have b46 : Below w14.heap.size w14 w16 := b15.trans (b16.mono b15.size)
  have H16 : Hid (Below w.heap.size w w16) := (HBX.out w16 (H14.out.trans (b46.mono H14.out.size))).2
  have k11 := same_an (c := c3) (d := cw) hE3 (HW14.out.1.below b46) hl3 (fun j hj => ⟨(HW14.out.2.2.1 j hj).1.below b46, (HW14.out.2.2.1 j hj).2⟩) hkk hN3
  clear k10 b15 b16 hE3 hN3 hl3 hx3 b46 hkk HW14 H14
  go_wp2_with fail
  go_fit k11
  rintro e w17 ⟨rfl, b17⟩
  have HBE : Hid (Below w.heap.size w w17) := (show Below _ _ _ from H16.out.trans (b17.mono H16.out.size))
  clear k11 b17 H16
  go_wp2
  go_ret
  exact ⟨rfl, HBE.out⟩
end Go.Proofs.YtebjklppbkkinaaGreatDoor
