/- A bundle of texts. -/
import Derived.Test.YtbciclnffokjjaaGreatDoorBt46
import Derived.Test.YtbciclnffokjjaaGreatDoorBt32
import Derived.Test.YtbciclnffokjjaaGreatDoorBt44
import Derived.Test.YtbciclnffokjjaaGreatDoorBt24
/- The reference's prefix: the small kinds and rows. -/
namespace Go.Proofs.YtbciclnffokjjaaGreatDoor
open Go.RowKit Go.Lib

theorem fr_eq (m : Nat) (t : Tr) : frF cmC (m + 1) t = if (t []).kind = 2 then (if Utf8.valid (t []).r = true then ((Utf8.encode (t []).r).data.toList, true) else ([], false))
    else if (t []).kind = 3 then ([], false)
    else if (t []).kind = 4 then rowF (fun q => frF cmC m (kid t q)) (t []).kn
    else if (t []).kind = 5 then comF cmC (fun q => frF cmC m (kid t q)) ((t []).kn - 1)
    else if (t []).kind = 6 then repF (frF cmC m (kid t 0)) (t []).mn (t []).mx
    else if (t []).kind = 7 then frF cmC m (kid t 0)
    else ([], true) := rfl
/-- What the reference's prefix is at, behind its first step. -/
structure Px0 (w : World) (d : Nd) (W : World) : Prop where
  eq : w.alloc (ndX d) = W
  lo : Below w.heap.size w W
  cs : ∀ V, Below W.heap.size W V → Cs V w.heap.size 0 d ∧ Below w.heap.size w V
theorem Px0.start (w : World) (d : Nd) : Px0 w d (w.alloc (ndX d)) := by
  have hb : Below w.heap.size w (w.alloc (ndX d)) := (Below.refl _ w).alloc (Nat.le_refl _) _
  exact ⟨rfl, hb, fun V b => ⟨box_lo w d b, hb.trans (b.mono hb.size)⟩⟩
set_option maxHeartbeats 4000000 in
set_option maxRecDepth 100000 in
theorem prefix_2 (t : Tr) (w : World) (kk : (t []).kind = 2) (h1 : 0 ≤ (t []).r) (h2 : (t []).r ≤ 1114111) : Calls Tryz.prog 22 #[ndV (t [])] w fun e w' => e = .returned (pxV (if Utf8.valid (t []).r = true then ((Utf8.encode (t []).r).data.toList, true) else ([], false))) ∧ Below w.heap.size w w' := by
  have h0 := Px0.start w (t [])
  obtain ⟨W, hW⟩ : ∃ W, W = w.alloc (ndX (t [])) := ⟨_, rfl⟩
  rw [← hW] at h0
  have HW : Hid (w.alloc (ndX (t [])) = W) := hW.symm
  obtain ⟨x0, x1, x2, x3, x4, x5, x6, x7, x8⟩ := (h0.cs W (Below.refl _ _)).1
  simp only [Nat.zero_add] at x0 x1 x2 x3 x4 x5 x6 x7 x8
  rw [kk] at x0
  have HB : Hid _ := h0.lo
  have hrv : Utf8.valid (t []).r = isRune (t []).r := valid_iff _
  rw [hrv]
  have kF := form_any (t []).r W
  clear hW h0 kk hrv
  generalize t [] = d at *
  by_cases hs : 55296 ≤ d.r ∧ d.r ≤ 57343
  · obtain ⟨s1, s2⟩ := hs
    have hn : isRune d.r = false := by
      cases e : isRune d.r with
      | false => rfl
      | true =>
        have := (isRune_iff d.r).1 e
        omega
    rw [hn]
    clear kF hn
    go_enter Tryz.func22, Tryz.ntmps22
    go_upto_region 1 with fail
    rw [HW.out]
    go_wp2
    go_ret2
    exact ⟨rfl, HB.out⟩
  · have hn : isRune d.r = true := (isRune_iff d.r).2 (by omega)
    rw [hn, if_pos rfl]
    rw [form_enc d.r hn] at kF
    by_cases s1 : 55296 ≤ d.r
    · have s2 : ¬ d.r ≤ 57343 := by omega
      clear hs hn
      go_enter Tryz.func22, Tryz.ntmps22
      go_upto_region 1 with fail
      rw [HW.out]
      go_wp2_with fail
      go_fit kF
      rintro e w1 ⟨rfl, b1⟩
      have HB1 : Hid _ := HB.out.trans (b1.mono HB.out.size)
      clear b1 kF
      go_wp2
      go_ret2
      exact ⟨ret_tup (by unfold pxV; rw [bA_enc]; rfl), HB1.out⟩
    · clear hs hn
      go_enter Tryz.func22, Tryz.ntmps22
      go_upto_region 1 with fail
      rw [HW.out]
      go_wp2_with fail
      go_fit kF
      rintro e w1 ⟨rfl, b1⟩
      have HB1 : Hid _ := HB.out.trans (b1.mono HB.out.size)
      clear b1 kF
      go_wp2
      go_ret2
      exact ⟨ret_tup (by unfold pxV; rw [bA_enc]; rfl), HB1.out⟩
set_option maxHeartbeats 4000000 in
set_option maxRecDepth 100000 in
theorem prefix_3 (t : Tr) (w : World) (kk : (t []).kind = 3) : Calls Tryz.prog 22 #[ndV (t [])] w fun e w' => e = .returned (pxV ([], false)) ∧ Below w.heap.size w w' := by
  have h0 := Px0.start w (t [])
  obtain ⟨W, hW⟩ : ∃ W, W = w.alloc (ndX (t [])) := ⟨_, rfl⟩
  rw [← hW] at h0
  have HW : Hid (w.alloc (ndX (t [])) = W) := hW.symm
  obtain ⟨x0, x1, x2, x3, x4, x5, x6, x7, x8⟩ := (h0.cs W (Below.refl _ _)).1
  simp only [Nat.zero_add] at x0 x1 x2 x3 x4 x5 x6 x7 x8
  rw [kk] at x0
  have HB : Hid _ := h0.lo
  clear hW h0 kk
  generalize t [] = d at *
  go_enter Tryz.func22, Tryz.ntmps22
  go_upto_region 1 with fail
  rw [HW.out]
  go_wp2
  go_ret2
  exact ⟨rfl, HB.out⟩
set_option maxHeartbeats 4000000 in
set_option maxRecDepth 100000 in
theorem prefix_8 (t : Tr) (w : World) (kk : (t []).kind = 1 ∨ 8 ≤ (t []).kind) : Calls Tryz.prog 22 #[ndV (t [])] w fun e w' => e = .returned (pxV ([], true)) ∧ Below w.heap.size w w' := by
  have h0 := Px0.start w (t [])
  obtain ⟨W, hW⟩ : ∃ W, W = w.alloc (ndX (t [])) := ⟨_, rfl⟩
  rw [← hW] at h0
  have HW : Hid (w.alloc (ndX (t [])) = W) := hW.symm
  obtain ⟨x0, x1, x2, x3, x4, x5, x6, x7, x8⟩ := (h0.cs W (Below.refl _ _)).1
  simp only [Nat.zero_add] at x0 x1 x2 x3 x4 x5 x6 x7 x8
  have HB : Hid _ := h0.lo
  have hq : ((t []).kind == 2) = false ∧ ((t []).kind == 3) = false ∧ ((t []).kind == 4) = false ∧ ((t []).kind == 5) = false ∧ ((t []).kind == 6) = false ∧ ((t []).kind == 7) = false := by
    simp only [beq_eq_false_iff_ne, ne_eq]
    omega
  obtain ⟨q1, q2, q3, q4, q5, q6⟩ := hq
  clear hW h0 kk
  generalize t [] = d at *
  go_enter Tryz.func22, Tryz.ntmps22
  go_upto_region 1 with fail
  rw [HW.out]
  go_wp2
  go_ret2
  exact ⟨rfl, HB.out⟩
set_option maxHeartbeats 4000000 in
set_option maxRecDepth 100000 in
theorem prefix_6 (t : Tr) (w : World) (F : Fr) (kk : (t []).kind = 6) (hR : ∀ V, Below w.heap.size w V → Calls Tryz.prog 48 #[ndV (t [])] V fun e w' => e = .returned (pxV F) ∧ Below V.heap.size V w') : Calls Tryz.prog 22 #[ndV (t [])] w fun e w' => e = .returned (pxV F) ∧ Below w.heap.size w w' := by
  have h0 := Px0.start w (t [])
  obtain ⟨W, hW⟩ : ∃ W, W = w.alloc (ndX (t [])) := ⟨_, rfl⟩
  rw [← hW] at h0
  have HW : Hid (w.alloc (ndX (t [])) = W) := hW.symm
  obtain ⟨x0, x1, x2, x3, x4, x5, x6, x7, x8⟩ := (h0.cs W (Below.refl _ _)).1
  simp only [Nat.zero_add] at x0 x1 x2 x3 x4 x5 x6 x7 x8
  have HB : Hid _ := h0.lo
  have kR := hR W h0.lo
  have HK : Hid ((t []).kind = 6) := kk
  unfold pxV at *
  clear hW h0 hR kk
  generalize t [] = d at *
  obtain ⟨q1, q2, q3, q4, q5⟩ : (d.kind == 2) = false ∧ (d.kind == 3) = false ∧ (d.kind == 4) = false ∧ (d.kind == 5) = false ∧ (d.kind == 7) = false := by
    rw [HK.out]
    decide
  have q6 : (d.kind == 6) = true := by rw [HK.out]; rfl
  go_enter Tryz.func22, Tryz.ntmps22
  go_upto_region 1 with fail
  rw [HW.out]
  go_wp2_with fail
  go_fit kR
  rintro e w1 ⟨rfl, b1⟩
  have HB1 : Hid _ := HB.out.trans (b1.mono HB.out.size)
  clear b1 kR
  go_wp2
  go_ret2
  exact ⟨rfl, HB1.out⟩
set_option maxHeartbeats 4000000 in
set_option maxRecDepth 100000 in
theorem prefix_7 (t : Tr) (w : World) (F : Fr) (kk : (t []).kind = 7) (hkn : (t []).kn = 1) (ht : Tat w.heap.size w t) (hK : ∀ V, Below w.heap.size w V → Calls Tryz.prog 22 #[ndV (t [0])] V fun e w' => e = .returned (pxV F) ∧ Below V.heap.size V w') : Calls Tryz.prog 22 #[ndV (t [])] w fun e w' => e = .returned (pxV F) ∧ Below w.heap.size w w' := by
  have h0 := Px0.start w (t [])
  obtain ⟨W, hW⟩ : ∃ W, W = w.alloc (ndX (t [])) := ⟨_, rfl⟩
  rw [← hW] at h0
  have HW : Hid (w.alloc (ndX (t [])) = W) := hW.symm
  obtain ⟨x0, x1, x2, x3, x4, x5, x6, x7, x8⟩ := (h0.cs W (Below.refl _ _)).1
  simp only [Nat.zero_add] at x0 x1 x2 x3 x4 x5 x6 x7 x8
  rw [kk] at x0
  have HB : Hid _ := h0.lo
  have kC := hK W h0.lo
  obtain ⟨g, o, hka, hg, hcs⟩ := (ht.below h0.lo).kids.at 0 (by omega)
  obtain ⟨p0, p1, p2, p3, p4, p5, p6, p7, p8⟩ := hcs
  simp only [Nat.zero_mul, Nat.add_zero] at p0 p1 p2 p3 p4 p5 p6 p7 p8
  rw [hka, hkn] at x8
  unfold pxV at *
  clear hW h0 hK kk ht hka hkn hg
  generalize t [0] = dk at *
  generalize t [] = d at *
  go_enter Tryz.func22, Tryz.ntmps22
  go_upto_region 1 with fail
  rw [HW.out]
  go_wp2_with fail
  go_fit kC
  rintro e w1 ⟨rfl, b1⟩
  have HB1 : Hid _ := HB.out.trans (b1.mono HB.out.size)
  clear b1 kC
  go_wp2
  go_ret2
  exact ⟨rfl, HB1.out⟩
end Go.Proofs.YtbciclnffokjjaaGreatDoor
/- The reference's prefix: rows and choices. -/
namespace Go.Proofs.YtbciclnffokjjaaGreatDoor
open Go.RowKit Go.Lib

theorem bA_beq (l m : List UInt8) : ((bA l).toList == (bA m).toList) = (m == l) := by
  rw [toList_eq, Bool.eq_iff_iff]
  simp only [decide_eq_true_iff, beq_iff_eq]
  constructor
  · intro e
    have := congrArg (fun x : ByteArray => x.data.toList) e
    rw [bA_list, bA_list] at this
    exact this.symm
  · intro e
    rw [e]
/-- What a row's or a choice's walk knows of the kids. -/
structure PxK (w : World) (d : Nd) (x : Nat → Nd) (G : Nat → Fr) (W : World) : Prop where
  p0 : Px0 w d W
  km : Kmb W.heap.size W d.ka x d.kn
  kc : ∀ j, j < d.kn → ∀ V, Below W.heap.size W V → Calls Tryz.prog 22 #[ndV (x j)] V fun e w' => e = .returned (.tuple #[.string (bA (G j).1), .bool (G j).2]) ∧ Below V.heap.size V w'
  ln : ∀ j, j < d.kn → (G j).1.length ≤ 40000 ∧ VL (G j).1
theorem PxK.at {w : World} {d : Nd} {x : Nat → Nd} {G : Nat → Fr} {W V : World} (h : PxK w d x G W) (b : Below W.heap.size W V) {j : Nat} (hj : j < d.kn) : ∃ g o, d.ka = some ⟨g, o, none⟩ ∧ Cs V g (o + j * 9) (x j) ∧ V.cell? ⟨w.heap.size, 8, none⟩ = some (.slice (some ⟨g, o, none⟩) d.kn d.kc) ∧ Calls Tryz.prog 22 #[ndV (x j)] V fun e w' => e = .returned (.tuple #[.string (bA (G j).1), .bool (G j).2]) ∧ Below W.heap.size W w' := by
  obtain ⟨g, o, hka, _, hcs⟩ := (h.km.below b).at j hj
  have x8 := (h.p0.cs V b).1.c8
  rw [Nat.zero_add, hka] at x8
  exact ⟨g, o, hka, hcs, x8, (h.kc j hj V b).mono (fun e w' ⟨h1, h2⟩ => ⟨h1, b.trans (h2.mono b.size)⟩)⟩
set_option maxHeartbeats 4000000 in
set_option maxRecDepth 100000 in
theorem prefix_4 (d : Nd) (x : Nat → Nd) (G : Nat → Fr) (w : World) (kk : d.kind = 4) (hkn : d.kn ≤ 8194) (hP : PxK w d x G (w.alloc (ndX d))) : Calls Tryz.prog 22 #[ndV d] w fun e w' => e = .returned (pxV (rowF G d.kn)) ∧ Below w.heap.size w w' := by
  obtain ⟨W, hW⟩ : ∃ W, W = w.alloc (ndX d) := ⟨_, rfl⟩
  rw [← hW] at hP
  have HW : Hid (w.alloc (ndX d) = W) := hW.symm
  obtain ⟨x0, x1, x2, x3, x4, x5, x6, x7, x8⟩ := (hP.p0.cs W (Below.refl _ _)).1
  simp only [Nat.zero_add] at x0 x1 x2 x3 x4 x5 x6 x7 x8
  rw [kk] at x0
  have HP : Hid (PxK w d x G W) := hP
  have hnI : (d.kn : Int) ≤ 8194 := by omega
  clear hW kk hP hkn
  unfold pxV
  go_enter Tryz.func22, Tryz.ntmps22
  go_upto_region 1 with fail
  rw [HW.out]
  go_wp2_with fail
  clear x0 x1 x2 x3 x4 x5 x6 x7 x8
  go_loopw [4, 5] (fun sv ivv w' => ∃ i : Nat, ivv = .int .i64 (i : Int) ∧ i ≤ d.kn ∧ sv = .string (bA (rowF G i).1) ∧ Hid ((rowF G i).2 = true) ∧ Hid (Below W.heap.size W w')) (fun _ ivv _ => d.kn - (RowKit.intOf ivv).toNat)
  case atStart => exact ⟨0, rfl, Nat.zero_le _, rfl, rfl, Below.refl _ _⟩
  case round =>
    obtain ⟨i, rfl, hi, rfl, hex, hbw⟩ := hrel
    by_cases hlt : i < d.kn
    · have hii : (i : Int) < d.kn := by omega
      obtain ⟨g, o, hka, hcs, x8, kC⟩ := HP.out.at hbw.out hlt
      obtain ⟨p0, p1, p2, p3, p4, p5, p6, p7, p8⟩ := hcs
      have hadd : ∀ V, (Op.stringOp .add (bA (rowF G i).1) (bA (G i).1)).run Tryz.prog V = .ok (.string (bA (rowF G (i + 1)).1)) V := fun V => by
        rw [str_add _ _ (by
          rw [bA_size, bA_size]
          have h1 := row_le (G := G) (b := 40000) i (fun q hq => (HP.out.ln q (by omega)).1)
          have h2 := (HP.out.ln i hlt).1
          have h3 : i * 40000 ≤ 8194 * 40000 := Nat.mul_le_mul_right _ (by omega)
          omega) V, ← bA_app]
        show _ = Result.ok (Value.string (bA (if (rowF G i).2 = true then ((rowF G i).1 ++ (G i).1, (G i).2) else rowF G i).1)) V
        rw [if_pos hex.out]
      have HX : Hid ((rowF G (i + 1)).2 = (G i).2) := by
        show (if (rowF G i).2 = true then ((rowF G i).1 ++ (G i).1, (G i).2) else rowF G i).2 = _
        rw [if_pos hex.out]
      have HST : Hid ((rowF G (i + 1)).2 = false → rowF G d.kn = rowF G (i + 1)) := fun e => by
        have := row_stop e (d.kn - (i + 1))
        rwa [show i + 1 + (d.kn - (i + 1)) = d.kn by omega] at this
      clear hka hex
      generalize x i = dk at *
      generalize (rowF G i).1 = s0 at *
      generalize G i = gi at *
      obtain ⟨tl, te⟩ := gi
      cases te with
      | false =>
        have HE : Hid (rowF G d.kn = ((rowF G (i + 1)).1, false)) := by
          unfold Hid
          rw [HST.out HX.out]
          exact Prod.ext rfl HX.out
        have HBB : Hid (∀ V, Below W.heap.size W V → Below w.heap.size w V) := fun V b => (HP.out.p0.cs V b).2
        clear HST HX HP
        generalize (rowF G (i + 1)).1 = s1 at *
        go_wp2_with fail
        go_fit kC
        rintro e w5 ⟨rfl, b5⟩
        have B5 : Hid _ := HBB.out w5 b5
        clear b5 kC HBB
        go_wp2
        go_ret2
        exact ⟨ret_tup (by rw [HE.out]; rfl), B5.out⟩
      | true =>
        clear HST
        have HX' : Hid ((rowF G (i + 1)).2 = true) := HX.out
        go_wp2_with fail
        go_fit kC
        rintro e w5 ⟨rfl, b5⟩
        have B5 : Hid _ := b5
        clear b5 kC HX
        go_wp2
        exact ⟨⟨i + 1, by go_num, by omega, by first | rfl | trivial, HX', B5⟩, by simp [RowKit.intOf]; omega⟩
    · have hii : ¬ (i : Int) < d.kn := by omega
      obtain rfl : i = d.kn := by omega
      obtain ⟨hc, hbb⟩ := HP.out.p0.cs wr hbw.out
      have x8 := hc.c8
      rw [Nat.zero_add] at x8
      have HBB : Hid _ := hbb
      clear hc hbb HP
      go_wp2
      go_ret2
      exact ⟨ret_tup (by rw [hex.out]; rfl), HBB.out⟩
end Go.Proofs.YtbciclnffokjjaaGreatDoor
/- The reference's prefix: choices. -/
namespace Go.Proofs.YtbciclnffokjjaaGreatDoor
open Go.RowKit Go.Lib

theorem rcommon_list (a b : List UInt8) (ha : a.length ≤ 40000) (hb : b.length ≤ 40000) (hv : VL a) (w : World) : Calls Tryz.prog 47 #[.string (bA a), .string (bA b)] w fun e w' => e = .returned (.string (bA (cmC a b))) ∧ Below w.heap.size w w' := by
  have h := rcommon_any (bA a) (bA b) (by rw [bA_size]; omega) (by rw [bA_size]; omega) (by rw [bA_size]; exact hv) w
  rw [common_list a b hv] at h
  exact h
set_option maxHeartbeats 8000000 in
set_option maxRecDepth 100000 in
theorem prefix_5 (d : Nd) (x : Nat → Nd) (G : Nat → Fr) (w : World) (kk : d.kind = 5) (hkn : d.kn ≤ 8194) (hk1 : 1 ≤ d.kn) (hP : PxK w d x G (w.alloc (ndX d))) : Calls Tryz.prog 22 #[ndV d] w fun e w' => e = .returned (pxV (comF cmC G (d.kn - 1))) ∧ Below w.heap.size w w' := by
  obtain ⟨W, hW⟩ : ∃ W, W = w.alloc (ndX d) := ⟨_, rfl⟩
  rw [← hW] at hP
  have HW : Hid (w.alloc (ndX d) = W) := hW.symm
  obtain ⟨x0, x1, x2, x3, x4, x5, x6, x7, x8⟩ := (hP.p0.cs W (Below.refl _ _)).1
  simp only [Nat.zero_add] at x0 x1 x2 x3 x4 x5 x6 x7 x8
  rw [kk] at x0
  have HP : Hid (PxK w d x G W) := hP
  have hnI : (d.kn : Int) ≤ 8194 := by omega
  have hn0 : 0 < (d.kn : Int) := by omega
  obtain ⟨g, o, hka, hcs, x8', kC⟩ := hP.at (Below.refl _ W) (j := 0) (by omega)
  obtain ⟨p0, p1, p2, p3, p4, p5, p6, p7, p8⟩ := hcs
  simp only [Nat.zero_mul, Nat.add_zero] at p0 p1 p2 p3 p4 p5 p6 p7 p8
  have HC0 : Hid (G 0 = comF cmC G 0) := rfl
  rw [HC0.out] at kC
  clear hW kk hP hkn x8 hka
  unfold pxV
  generalize hx0 : x 0 = dk0 at kC p0 p1 p2 p3 p4 p5 p6 p7 p8
  clear hx0
  go_enter Tryz.func22, Tryz.ntmps22
  go_upto_region 1 with fail
  rw [HW.out]
  go_wp2_with fail
  go_fit kC
  rintro e w1 ⟨rfl, b1⟩
  have B1 : Hid _ := b1
  clear b1 kC x0 x1 x2 x3 x4 x5 x6 x7 x8' p0 p1 p2 p3 p4 p5 p6 p7 p8
  go_wp2_with fail
  go_loopw [8, 9, 10] (fun sv ev ivv w' => ∃ i : Nat, ivv = .int .i64 ((i + 1 : Nat) : Int) ∧ i + 1 ≤ d.kn ∧ sv = .string (bA (comF cmC G i).1) ∧ ev = .bool (comF cmC G i).2 ∧ Hid (Below W.heap.size W w')) (fun _ _ ivv _ => d.kn - (RowKit.intOf ivv).toNat)
  case atStart => exact ⟨0, rfl, hk1, rfl, rfl, B1⟩
  case round =>
    clear B1
    obtain ⟨i, rfl, hi, rfl, rfl, hbw⟩ := hrel
    by_cases hlt : i + 1 < d.kn
    · have hii : ((i + 1 : Nat) : Int) < d.kn := by omega
      obtain ⟨g, o, hka, hcs, x8, kC⟩ := HP.out.at hbw.out hlt
      obtain ⟨p0, p1, p2, p3, p4, p5, p6, p7, p8⟩ := hcs
      have heq := bA_beq (comF cmC G i).1 (G (i + 1)).1
      have HCM : Hid (∀ V, Below W.heap.size W V → Calls Tryz.prog 47 #[.string (bA (comF cmC G i).1), .string (bA (G (i + 1)).1)] V fun e w' => e = .returned (.string (bA (comF cmC G (i + 1)).1)) ∧ Below W.heap.size W w') := fun V b => by
        have h0 := (HP.out.ln 0 (by omega))
        have h1 := (HP.out.ln (i + 1) hlt).1
        exact (rcommon_list (comF cmC G i).1 (G (i + 1)).1 (Nat.le_trans (com_le i) h0.1) h1 (VL.coms h0.2 i) V).mono (fun e w' ⟨e1, e2⟩ => ⟨e1, b.trans (e2.mono b.size)⟩)
      have HX : Hid ((comF cmC G (i + 1)).2 = ((comF cmC G i).2 && (G (i + 1)).2 && ((G (i + 1)).1 == (comF cmC G i).1))) := rfl
      clear hka
      obtain ⟨c1, hc1⟩ : ∃ c1, comF cmC G (i + 1) = c1 := ⟨_, rfl⟩
      have HC1 : Hid (comF cmC G (i + 1) = c1) := hc1
      rw [hc1] at HCM HX
      clear hc1
      generalize x (i + 1) = dk at *
      generalize comF cmC G i = c0 at *
      generalize G (i + 1) = gi at *
      obtain ⟨tl, te⟩ := gi
      obtain ⟨s0, e0⟩ := c0
      obtain ⟨s1, e1⟩ := c1
      have heq' : ((bA s0).toList == (bA tl).toList) = (tl == s0) := heq
      have HQ : Hid ((s0 == tl) = (tl == s0)) := Bool.beq_comm
      have HQ' : Hid (((bA s0).toList == (bA tl).toList) = (tl == s0)) := heq'
      clear heq HC0 HP heq'
      generalize (tl == s0) = q at *
      cases e0 with
      | false =>
        go_wp2_with fail
        go_fit kC
        rintro e w5 ⟨rfl, b5⟩
        have kM := HCM.out w5 b5
        clear b5 kC HCM
        go_wp2_with fail
        go_fit kM
        rintro e w6 ⟨rfl, b6⟩
        have B6 : Hid _ := b6
        clear b6 kM
        go_wp2
        refine ⟨⟨i + 1, by go_num, by omega, by rw [HC1.out], ?_, B6⟩, by simp [RowKit.intOf]; omega⟩
        rw [HC1.out]
        show _ = Value.bool e1
        rw [show e1 = _ from HX.out]
        first | rfl | (rw [HQ'.out]; rfl) | (simp; exact HQ.out)
      | true =>
        cases te with
        | false =>
          go_wp2_with fail
          go_fit kC
          rintro e w5 ⟨rfl, b5⟩
          have kM := HCM.out w5 b5
          clear b5 kC HCM
          go_wp2_with fail
          go_fit kM
          rintro e w6 ⟨rfl, b6⟩
          have B6 : Hid _ := b6
          clear b6 kM
          go_wp2
          refine ⟨⟨i + 1, by go_num, by omega, by rw [HC1.out], ?_, B6⟩, by simp [RowKit.intOf]; omega⟩
          rw [HC1.out]
          show _ = Value.bool e1
          rw [show e1 = _ from HX.out]
          first | rfl | (rw [HQ'.out]; rfl) | (simp; exact HQ.out)
        | true =>
          go_wp2_with fail
          go_fit kC
          rintro e w5 ⟨rfl, b5⟩
          have kM := HCM.out w5 b5
          clear b5 kC HCM
          go_wp2_with fail
          go_fit kM
          rintro e w6 ⟨rfl, b6⟩
          have B6 : Hid _ := b6
          clear b6 kM
          go_wp2
          refine ⟨⟨i + 1, by go_num, by omega, by rw [HC1.out], ?_, B6⟩, by simp [RowKit.intOf]; omega⟩
          rw [HC1.out]
          show _ = Value.bool e1
          rw [show e1 = _ from HX.out]
          first | rfl | (rw [HQ'.out]; rfl) | (simp; exact HQ.out)
    · have hii : ¬ ((i + 1 : Nat) : Int) < d.kn := by omega
      obtain ⟨hc, hbb⟩ := HP.out.p0.cs wr hbw.out
      have x8 := hc.c8
      rw [Nat.zero_add] at x8
      have HBB : Hid _ := hbb
      have HI : Hid (d.kn - 1 = i) := by unfold Hid; omega
      clear hc hbb HP
      go_wp2
      go_ret2
      exact ⟨ret_tup (by rw [HI.out]; rfl), HBB.out⟩
end Go.Proofs.YtbciclnffokjjaaGreatDoor
/- The reference's prefix, whole; Prefix. -/
namespace Go.Proofs.YtbciclnffokjjaaGreatDoor
open Go.RowKit Go.Lib

theorem rprefix_step (m : Nat) (hIH : PxC m) : PxC (m + 1) := by
  intro t w hw hl ht
  have hkid := lenF_kid hw hl
  have hw0 := hw
  obtain ⟨⟨hnd, _⟩, hkn, hk⟩ := hw
  have hkd := ndB_kind hnd
  have hC : ¬ ((t []).kind = 6 ∧ (t []).mx = 0) → ∀ q, q < (t []).kn → ∀ V, Below w.heap.size w V → Calls Tryz.prog 22 #[ndV (t [q])] V fun e w' => e = .returned (pxV (frF cmC m (kid t q))) ∧ Below V.heap.size V w' := fun h q hq V b => hIH (kid t q) V (hk q hq) (hkid h q hq) (((ht.kid q hq).below b).mono b.size)
  have hP : ¬ ((t []).kind = 6 ∧ (t []).mx = 0) → PxK w (t []) (fun j => t [j]) (fun q => frF cmC m (kid t q)) (w.alloc (ndX (t []))) := fun h => by
    have h0 := Px0.start w (t [])
    refine ⟨h0, ((ht.below h0.lo).mono h0.lo.size).kids, fun j hj V b => hC h j hj V (h0.cs V b).2, fun j hj => ⟨?_, VL.fr m _ (hk j hj)⟩⟩
    have h1 := hkid h j hj
    have := fr_len m (kid t j) (hk j hj) h1
    show (frF cmC m (kid t j)).1.length ≤ 40000
    omega
  rw [fr_eq]
  by_cases k2 : (t []).kind = 2
  · rw [if_pos k2]
    exact prefix_2 t w k2 (ndB_lit hnd k2).1 (ndB_lit hnd k2).2
  rw [if_neg k2]
  by_cases k3 : (t []).kind = 3
  · rw [if_pos k3]
    exact prefix_3 t w k3
  rw [if_neg k3]
  by_cases k4 : (t []).kind = 4
  · rw [if_pos k4]
    exact prefix_4 (t []) _ _ w k4 hkn (hP (by omega))
  rw [if_neg k4]
  by_cases k5 : (t []).kind = 5
  · rw [if_pos k5]
    have h2 := ndB_row hnd (.inr k5)
    exact prefix_5 (t []) _ _ w k5 hkn (by omega) (hP (by omega))
  rw [if_neg k5]
  by_cases k6 : (t []).kind = 6
  · rw [if_pos k6]
    exact prefix_6 t w _ k6 (fun V b => repeated_any m hIH t V hw0 hl k6 ((ht.below b).mono b.size))
  rw [if_neg k6]
  by_cases k7 : (t []).kind = 7
  · rw [if_pos k7]
    have h1 := ndB_grp hnd k7
    exact prefix_7 t w _ k7 h1 ht (hC (by omega) 0 (by omega))
  rw [if_neg k7]
  exact prefix_8 t w (by omega)
theorem rprefix_any : ∀ m, PxC m
  | 0 => fun _ _ h => by cases h
  | m + 1 => rprefix_step m (rprefix_any m)
set_option maxHeartbeats 1000000 in
set_option maxRecDepth 100000 in
theorem rPrefix_any (t : Tr) (w : World) (ht : Tat w.heap.size w t) : Calls Tryz.prog 10 #[ndV (t [])] w fun e w' => e = .returned (.string (bA (preF t))) ∧ Below w.heap.size w w' := by
  have hb : Below w.heap.size w (w.alloc (ndX (t []))) := (Below.refl _ w).alloc (Nat.le_refl _) _
  have ht1 := (ht.below hb).mono hb.size
  have kV := rvalid_any t _ ht1
  have HB : Hid _ := hb
  have HF : Hid (∀ w1, Below (w.alloc (ndX (t []))).heap.size (w.alloc (ndX (t []))) w1 → (Calls Tryz.prog 20 #[ndV (t [])] w1 fun e w' => e = .returned (.int .i64 (sizF t)) ∧ Below w1.heap.size w1 w') ∧ (0 < sizF t → sizF t ≤ 10000 → Calls Tryz.prog 22 #[ndV (t [])] w1 fun e w' => e = .returned (.tuple #[.string (bA (frF cmC 8195 t).1), .bool (frF cmC 8195 t).2]) ∧ Below w1.heap.size w1 w') ∧ Cs w1 w.heap.size 0 (t []) ∧ Below w.heap.size w w1) := fun w1 b => by
    have htb := (ht1.below b).mono b.size
    refine ⟨rSize_any t w1 htb, fun h0 h1 => ?_, ndX_cells (w := w) (t []) b, hb.trans (b.mono hb.size)⟩
    obtain ⟨hok, hlen, _⟩ := sizF_ok (t := t) (by omega) h1
    exact rprefix_any 8195 t w1 (WF_ok hok) (by omega) htb
  have HD : Hid (preF t = if 0 < sizF t ∧ sizF t ≤ 10000 then (frF cmC 8195 t).1 else []) := rfl
  have HS : Hid ((okT t = false → sizF t = 0) ∧ (okT t = true → 0 < sizF t)) := by
    unfold Hid sizF
    refine ⟨fun h => (by rw [if_neg (by rw [h]; simp)]), fun h => ?_⟩
    rw [if_pos h]
    have := (lenF_bd 8195 t (WF_ok h)).1
    omega
  clear ht ht1 hb
  generalize preF t = R at *
  generalize frF cmC 8195 t = R1 at *
  generalize sizF t = z at *
  generalize okT t = ok at *
  generalize t [] = d at *
  cases ok
  · have HD2 : Hid (R = []) := by
      have := HS.out.1 rfl
      unfold Hid
      rw [HD.out, if_neg (by omega)]
    clear HD HS HF
    go_enter Tryz.func10, Tryz.ntmps10
    go_wp2_with fail
    go_fit kV
    rintro e w1 ⟨rfl, b1⟩
    have B1 : Hid _ := HB.out.trans (b1.mono HB.out.size)
    clear b1 kV
    go_wp2
    go_ret
    exact ⟨ret_tup (by rw [HD2.out]; rfl), B1.out⟩
  · have hz := HS.out.2 rfl
    by_cases hz2 : z ≤ 10000
    · have HD2 : Hid (R = R1.1) := by unfold Hid; rw [HD.out, if_pos ⟨hz, hz2⟩]
      have hzg : ¬ 10000 < z := by omega
      clear HD HS
      go_enter Tryz.func10, Tryz.ntmps10
      go_wp2_with fail
      go_fit kV
      rintro e w1 ⟨rfl, b1⟩
      obtain ⟨kS, _, hc1, _⟩ := HF.out w1 b1
      obtain ⟨q0, q1, q2, q3, q4, q5, q6, q7, q8⟩ := hc1
      simp only [Nat.zero_add] at q0 q1 q2 q3 q4 q5 q6 q7 q8
      have HB1 : Hid _ := b1
      clear b1 kV
      go_wp2_with fail
      go_fit kS
      rintro e w2 ⟨rfl, b2⟩
      have b12 := btr2 HB1.out b2
      have h2 := HF.out w2 b12
      have kP := h2.2.1 hz hz2
      have HB2 : Hid _ := h2.2.2.2
      obtain ⟨p0, p1, p2, p3, p4, p5, p6, p7, p8⟩ := h2.2.2.1
      simp only [Nat.zero_add] at p0 p1 p2 p3 p4 p5 p6 p7 p8
      clear b2 b12 kS q0 q1 q2 q3 q4 q5 q6 q7 q8 HF h2
      go_wp2_with fail
      go_fit kP
      rintro e w3 ⟨rfl, b3⟩
      have HB3 : Hid _ := btr2 HB2.out b3
      clear b3 kP p0 p1 p2 p3 p4 p5 p6 p7 p8
      go_wp2
      go_ret
      exact ⟨ret_tup (by rw [HD2.out]; rfl), HB3.out⟩
    · have HD2 : Hid (R = []) := by unfold Hid; rw [HD.out, if_neg (by omega)]
      have hzg : 10000 < z := by omega
      clear HD HS
      go_enter Tryz.func10, Tryz.ntmps10
      go_wp2_with fail
      go_fit kV
      rintro e w1 ⟨rfl, b1⟩
      obtain ⟨kS, _, hc1, _⟩ := HF.out w1 b1
      obtain ⟨q0, q1, q2, q3, q4, q5, q6, q7, q8⟩ := hc1
      simp only [Nat.zero_add] at q0 q1 q2 q3 q4 q5 q6 q7 q8
      have HB1 : Hid _ := b1
      clear b1 kV
      go_wp2_with fail
      go_fit kS
      rintro e w2 ⟨rfl, b2⟩
      have HB2 : Hid _ := (HF.out w2 (btr2 HB1.out b2)).2.2.2
      clear b2 kS q0 q1 q2 q3 q4 q5 q6 q7 q8 HF
      go_wp2
      go_ret
      exact ⟨ret_tup (by rw [HD2.out]; rfl), HB2.out⟩
end Go.Proofs.YtbciclnffokjjaaGreatDoor
