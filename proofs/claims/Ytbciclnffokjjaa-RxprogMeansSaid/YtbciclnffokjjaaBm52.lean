/- A bundle of texts. -/
import Derived.Test.YtbciclnffokjjaaBm51
import Derived.Test.YtbciclnffokjjaaBm27
import Derived.ChangeMaps5
/- RxprogMeans: the walk. -/
namespace Go.Proofs.Ytbciclnffokjjaa
open Go.RowKit Go.Lib

theorem prX_froz {w W : World} (ia : Option Addr) (n ic : Nat) (st gr : Int) (na : Option Addr) (nn nc : Nat) (h : Below (w.alloc (prX ia n ic st gr na nn nc)).heap.size (w.alloc (prX ia n ic st gr na nn nc)) W) (k : Nat) : W.frozen? ⟨w.heap.size, k, none⟩ = false := by
  have e : (w.alloc (prX ia n ic st gr na nn nc)).heap[w.heap.size]? = some (prX ia n ic st gr na nn nc) := heap_alloc_new w _
  rw [World.frozen?_of_block (w := w.alloc (prX ia n ic st gr na nn nc)) (h.block w.heap.size (by simp))]
  unfold World.frozen?
  dsimp only
  rw [e]
  simp
theorem siz_bd (t : Tr) (h : okT t = true) : 1 ≤ sizF t ∧ sizF t ≤ 10001 := by
  have e : sizF t = min (lenF 8195 t + 1) 10001 := by unfold sizF; rw [if_pos h]
  by_cases hl : lenF 8195 t ≤ 9999
  · have := cod_len 8195 t 0 (WF_ok h) (by omega)
    omega
  · omega

set_option maxHeartbeats 4000000 in
set_option maxRecDepth 100000 in
theorem means_walk (t : Tr) (s : ByteArray) (w : World) (ht : Tat w.heap.size w t) (hs : s.size ≤ 140737488351232) :
    Calls Try.prog 4 #[ndV (t []), .string s] w fun e w' => e = .returned (.bool true) ∧ Below w.heap.size w w' := by
  obtain ⟨W, hW⟩ : ∃ W, W = w.alloc (ndX (t [])) := ⟨_, rfl⟩
  have HW : Hid (W = w.alloc (ndX (t []))) := hW
  have hWz : W.heap.size = w.heap.size + 1 := by rw [hW]; simp
  have hb0 : Below w.heap.size w W := by rw [hW]; exact (Below.refl _ w).alloc (Nat.le_refl _) _
  have hc0 : Cs W w.heap.size 0 (t []) := ndX_cells (w := w) (t []) (by rw [hW]; exact Below.refl _ _)
  have HK : Hid (∀ w2, Below W.heap.size W w2 → Cs w2 w.heap.size 0 (t []) ∧ Tat w2.heap.size w2 t ∧ Below w.heap.size w w2) := fun w2 b => ⟨hc0.below b (by omega), (((ht.below hb0).mono hb0.size).below b).mono b.size, hb0.trans (b.mono hb0.size)⟩
  have kL := lit_la W
  have HC1 : Hid (∀ w1, Below W.heap.size W w1 → Calls Try.prog 10 #[ndV laN] w1 fun e w2 => (∃ a n cc gr na nn nc, e = .returned (.tuple #[prV a n cc 0 gr na nn nc, .int .i64 0]) ∧ Hid (∀ w5, Below w2.heap.size w2 w5 → (Calls Try.prog 12 #[prV a n cc 0 gr na nn nc, .string ⟨#[97]⟩] w5 fun e w6 => e = .returned (.int .i64 1) ∧ Below w5.heap.size w5 w6) ∧ (Calls Try.prog 12 #[prV a n cc 0 gr na nn nc, .string ⟨#[98]⟩] w5 fun e w6 => e = .returned (.int .i64 0) ∧ Below w5.heap.size w5 w6))) ∧ Hid (Below W.heap.size W w2)) := fun w1 b1 => (comp_tk laT w1 (la_at _ _) (by rw [siz_la]; decide) (by rw [siz_la]; decide)).mono fun e w2 ⟨⟨a, n, cc, gr, na, nn, nc, he, hT⟩, hb⟩ => ⟨⟨a, n, cc, gr, na, nn, nc, he, fun w5 b5 => ⟨(hT.out ⟨#[97]⟩ (by decide) w5 (Kp.of b5)).mono fun e w6 ⟨⟨v, h1, h2⟩, h3⟩ => ⟨by rw [h1, tk_a h2], h3⟩, (hT.out ⟨#[98]⟩ (by decide) w5 (Kp.of b5)).mono fun e w6 ⟨⟨v, h1, h2⟩, h3⟩ => ⟨by rw [h1, tk_b h2], h3⟩⟩⟩, b1.trans (hb.mono b1.size)⟩
  have HV : Hid (∀ w1, Below W.heap.size W w1 → Calls Try.prog 13 #[ndV (t [])] w1 fun e w2 => e = .returned (.bool (okT t)) ∧ Below w1.heap.size w1 w2) := fun w1 b1 => rvalid_any t w1 (HK.out w1 b1).2.1
  have HZ : Hid (∀ w1, Below W.heap.size W w1 → Calls Try.prog 14 #[ndV (t [])] w1 fun e w2 => e = .returned (.int .i64 (sizF t)) ∧ Below w1.heap.size w1 w2) := fun w1 b1 => rSize_any t w1 (HK.out w1 b1).2.1
  have HKB : Hid (∀ w2, Below W.heap.size W w2 → Cs w2 w.heap.size 0 (t []) ∧ Below w.heap.size w w2) := fun w2 b => ⟨(HK.out w2 b).1, (HK.out w2 b).2.2⟩
  have HZB : Hid (okT t = true → 1 ≤ sizF t ∧ sizF t ≤ 10001) := fun h => siz_bd t h
  have HCX : Hid (okT t = true → s.size ≤ 128 → ¬ sizF t = 0 → sizF t ≤ 10000 → ∀ w1, Below W.heap.size W w1 → Calls Try.prog 10 #[ndV (t [])] w1 fun e w2 => (∃ a n cc gr na nn nc, e = .returned (.tuple #[prV a n cc 0 gr na nn nc, .int .i64 0]) ∧ Hid (∀ w5, Kp (fun b => b < w1.heap.size ∧ W.heap.size ≤ b) w2 w5 → Calls Try.prog 12 #[prV a n cc 0 gr na nn nc, .string s] w5 fun e w6 => (∃ v, e = .returned (.int .i64 v) ∧ (v = 2 ∨ ((v = 1 ∨ v = 0) ∧ Hid (Calls Try.prog 15 #[ndV (t []), .string s] w6 fun e w7 => e = .returned (.bool (v == 1)) ∧ Hid (Below w.heap.size w w7))))) ∧ Hid (Below W.heap.size W w6))) ∧ Below w1.heap.size w1 w2) := fun hok h128 h0 h1 w1 b1 => (comp_tk t w1 (HK.out w1 b1).2.1 h0 h1).mono fun e w2 ⟨⟨a, n, cc, gr, na, nn, nc, he, hT⟩, hb⟩ => ⟨⟨a, n, cc, gr, na, nn, nc, he, fun w5 k5 => (hT.out s hs w5 (k5.mono (fun b _ e => e.1))).mono fun e w6 ⟨⟨v, h1, h2⟩, h3⟩ => by
    have b12 : Below W.heap.size W w2 := b1.trans (hb.mono b1.size)
    have b5 : Below W.heap.size W w5 := b12.trans (k5.below b12.size (fun b hb e => by have := e.2; omega))
    have b6 : Below W.heap.size W w6 := b5.trans (h3.mono b5.size)
    refine ⟨⟨v, h1, ?_⟩, b6⟩
    rcases h2 with ⟨e2, _⟩ | ⟨hg, hh⟩
    · exact .inl e2
    · refine .inr ⟨by rcases hh with ⟨e, _⟩ | ⟨e, _⟩ <;> omega, ?_⟩
      refine (matches_any t s w6 (v == 1) (HK.out w6 b6).2.1 hok h128 hg ?_).mono fun e w7 ⟨h7, b7⟩ => ⟨h7, ?_⟩
      · rcases hh with ⟨rfl, hm⟩ | ⟨rfl, hm⟩
        · exact ⟨fun _ => hm, fun _ => rfl⟩
        · exact ⟨fun h => absurd h (by decide), fun h => absurd h hm⟩
      · have := (HK.out w6 b6).2.2
        exact this.trans (b7.mono this.size)⟩, hb⟩
  have hsI : (s.size : Int) ≤ 140737488351232 := by omega
  have HWZ : Hid (W.heap.size = w.heap.size + 1) := hWz
  clear ht HK hW hb0 hc0 hWz
  generalize okT t = ok at *
  generalize sizF t = sz at *
  generalize t [] = d at *
  go_enter Try.func4, Try.ntmps4
  go_upto_region 1 with fail
  rw [← HW.out]
  go_wp2_with fail
  go_fit kL
  rintro e w1 ⟨rfl, b1⟩
  have kC := HC1.out w1 b1
  clear kL HC1 b1
  go_wp2_with fail
  go_fit kC
  rintro e w2 ⟨⟨a, n, cc, gr, na, nn, nc, rfl, HT⟩, B2⟩
  clear kC
  obtain ⟨V, hV⟩ : ∃ V, V = w2.alloc (prX a n cc 0 gr na nn nc) := ⟨_, rfl⟩
  have HVV : Hid (V = w2.alloc (prX a n cc 0 gr na nn nc)) := hV
  have bV : Below w2.heap.size w2 V := by rw [hV]; exact (Below.refl _ w2).alloc (Nat.le_refl _) _
  have HPB : Hid (∀ w5, Below V.heap.size V w5 → (w5.cell? ⟨w2.heap.size, 0, none⟩ = some (.slice a n cc) ∧ w5.cell? ⟨w2.heap.size, 1, none⟩ = some (.int .i64 0) ∧ w5.cell? ⟨w2.heap.size, 2, none⟩ = some (.int .i64 gr) ∧ w5.cell? ⟨w2.heap.size, 3, none⟩ = some (.slice na nn nc)) ∧ (∀ k, w5.frozen? ⟨w2.heap.size, k, none⟩ = false) ∧ Below W.heap.size W w5 ∧ Below w2.heap.size w2 w5) := fun w5 b5 => ⟨prX_cells a n cc 0 gr na nn nc (by rw [← hV]; exact b5), prX_froz a n cc 0 gr na nn nc (by rw [← hV]; exact b5), B2.out.trans ((bV.trans (b5.mono bV.size)).mono B2.out.size), bV.trans (b5.mono bV.size)⟩
  have kA := (HT.out V bV).1
  have bWV := (HPB.out V (Below.refl _ _)).2.2.1
  obtain ⟨p0, p1, p2, p3⟩ := (HPB.out V (Below.refl _ _)).1
  have HT2 : Hid (∀ w3, Below V.heap.size V w3 → Calls Try.prog 12 #[prV a n cc 0 gr na nn nc, .string ⟨#[98]⟩] w3 fun e w6 => e = .returned (.int .i64 0) ∧ Below w3.heap.size w3 w6) := fun w3 b3 => (HT.out w3 (bV.trans (b3.mono bV.size))).2
  have HVZ : Hid (w2.heap.size < V.heap.size ∧ W.heap.size ≤ w2.heap.size) := ⟨by rw [hV]; simp, B2.out.size⟩
  clear hV bV HT bWV
  go_upto_region 2 with fail
  rw [← HVV.out]
  go_wp2_with fail
  go_fit kA
  rintro e w3 ⟨rfl, b3⟩
  have kB := HT2.out w3 b3
  obtain ⟨q0, q1, q2, q3⟩ := (HPB.out w3 b3).1
  have B3 : Hid (Below V.heap.size V w3) := b3
  clear kA HT2 b3
  go_wp2_with fail
  go_fit kB
  rintro e w4 ⟨rfl, b4⟩
  have B4 : Hid (Below V.heap.size V w4) := B3.out.trans (b4.mono B3.out.size)
  obtain ⟨_, _, bW4, _⟩ := HPB.out w4 B4.out
  have kV := HV.out w4 bW4
  obtain ⟨⟨x0, x1, x2, x3, x4, x5, x6, x7, x8⟩, _⟩ := HKB.out w4 bW4
  simp only [Nat.zero_add] at x0 x1 x2 x3 x4 x5 x6 x7 x8
  clear kB b4 bW4 p0 p1 p2 p3 q0 q1 q2 q3 B3
  go_wp2_with fail
  go_fit kV
  rintro e w5 ⟨rfl, b5⟩
  have B5 : Hid (Below V.heap.size V w5) := B4.out.trans (b5.mono B4.out.size)
  obtain ⟨_, _, bW5, _⟩ := HPB.out w5 B5.out
  have HE5 : Hid (Below w.heap.size w w5) := (HKB.out w5 bW5).2
  have HZ5 := HZ.out w5 bW5
  obtain ⟨⟨y0, y1, y2, y3, y4, y5, y6, y7, y8⟩, _⟩ := HKB.out w5 bW5
  simp only [Nat.zero_add] at y0 y1 y2 y3 y4 y5 y6 y7 y8
  clear kV b5 bW5 x0 x1 x2 x3 x4 x5 x6 x7 x8 B4
  cases ok
  · clear HZ5 HZ HCX
    go_wp2
    go_ret
    exact ⟨rfl, HE5.out⟩
  by_cases h128 : (s.size : Int) ≤ 128
  case neg =>
    have h128' : 128 < (s.size : Int) := by omega
    clear HZ5 HZ HCX
    go_wp2
    go_ret
    exact ⟨rfl, HE5.out⟩
  obtain ⟨z1, z2⟩ := HZB.out rfl
  obtain ⟨N, hN⟩ : ∃ N : Int, (s.size : Int) + 1 = N := ⟨_, rfl⟩
  have hN0 : 1 ≤ N ∧ N ≤ 129 := by omega
  have hA0 : 0 ≤ sz * N ∧ sz * N ≤ 10001 * 129 := ⟨Int.mul_nonneg (by omega) (by omega), Int.mul_le_mul z2 hN0.2 (by omega) (by omega)⟩
  obtain ⟨A, hA⟩ : ∃ A, sz * N = A := ⟨_, rfl⟩
  rw [hA] at hA0
  have hB0 : 0 ≤ A * N ∧ A * N ≤ 10001 * 129 * 129 := ⟨Int.mul_nonneg (by omega) (by omega), Int.mul_le_mul hA0.2 hN0.2 (by omega) (by omega)⟩
  obtain ⟨Bv, hBv⟩ : ∃ Bv, A * N = Bv := ⟨_, rfl⟩
  rw [hBv] at hB0
  have wN : IntKind.i64.wrap ((s.size : Int) + 1) = N := by rw [IntKind.wrap_i64]; omega
  have wA : IntKind.i64.wrap (sz * N) = A := by rw [hA, IntKind.wrap_i64]; omega
  have wB : IntKind.i64.wrap (A * N) = Bv := by rw [hBv, IntKind.wrap_i64]; omega
  have h128n : ¬ 128 < (s.size : Int) := by omega
  have HN : Hid (s.size ≤ 128) := by unfold Hid; omega
  clear hA hBv hA0 hB0 hN0 h128
  go_wp2_with fail
  go_fit HZ5
  rintro e w6 ⟨rfl, b6⟩
  have B6 : Hid (Below V.heap.size V w6) := B5.out.trans (b6.mono B5.out.size)
  obtain ⟨_, _, bW6, _⟩ := HPB.out w6 B6.out
  have HE6 : Hid (Below w.heap.size w w6) := (HKB.out w6 bW6).2
  have HZ6 := HZ.out w6 bW6
  obtain ⟨⟨u0, u1, u2, u3, u4, u5, u6, u7, u8⟩, _⟩ := HKB.out w6 bW6
  simp only [Nat.zero_add] at u0 u1 u2 u3 u4 u5 u6 u7 u8
  clear HZ5 HZ b6 bW6 y0 y1 y2 y3 y4 y5 y6 y7 y8 B5 HE5
  by_cases hbig : 4194304 < Bv
  · clear HZ6 HCX
    go_wp2
    go_ret
    exact ⟨rfl, HE6.out⟩
  go_wp2_with fail
  go_fit HZ6
  rintro e w7 ⟨rfl, b7⟩
  have B7 : Hid (Below V.heap.size V w7) := B6.out.trans (b7.mono B6.out.size)
  obtain ⟨_, _, bW7, _⟩ := HPB.out w7 B7.out
  have HE7 : Hid (Below w.heap.size w w7) := (HKB.out w7 bW7).2
  clear HZ6 b7 u0 u1 u2 u3 u4 u5 u6 u7 u8 B6 HE6
  by_cases h10 : 10000 < sz
  · clear HCX
    go_wp2
    go_ret
    exact ⟨rfl, HE7.out⟩
  have kX := HCX.out (by first | rfl | trivial) HN.out (by omega) (by omega) w7 bW7
  obtain ⟨⟨v0, v1, v2, v3, v4, v5, v6, v7, v8⟩, _⟩ := HKB.out w7 bW7
  simp only [Nat.zero_add] at v0 v1 v2 v3 v4 v5 v6 v7 v8
  have HW7 : Hid (Below W.heap.size W w7) := bW7
  clear HCX bW7 wN wA wB HE7 z1 z2 HZB
  go_wp2_with fail
  go_fit kX
  rintro e w8 ⟨⟨a2, n2, cc2, gr2, na2, nn2, nc2, rfl, HTX⟩, b8⟩
  have B8 : Hid (Below V.heap.size V w8) := B7.out.trans (b8.mono B7.out.size)
  obtain ⟨⟨p0, p1, p2, p3⟩, pf, _, _⟩ := HPB.out w8 B8.out
  have f0 := pf 0
  have f1 := pf 1
  have f2 := pf 2
  have f3 := pf 3
  clear pf kX v0 v1 v2 v3 v4 v5 v6 v7 v8
  obtain ⟨V2, hV2⟩ : ∃ V2, V2 = (((w8.setCell ⟨w2.heap.size, 0, none⟩ (.slice a2 n2 cc2)).setCell ⟨w2.heap.size, 1, none⟩ (.int .i64 0)).setCell ⟨w2.heap.size, 2, none⟩ (.int .i64 gr2)).setCell ⟨w2.heap.size, 3, none⟩ (.slice na2 nn2 nc2) := ⟨_, rfl⟩
  have HV2 : Hid (V2 = (((w8.setCell ⟨w2.heap.size, 0, none⟩ (.slice a2 n2 cc2)).setCell ⟨w2.heap.size, 1, none⟩ (.int .i64 0)).setCell ⟨w2.heap.size, 2, none⟩ (.int .i64 gr2)).setCell ⟨w2.heap.size, 3, none⟩ (.slice na2 nn2 nc2)) := hV2
  have kV2 : Kp (fun b => b = w2.heap.size) w8 V2 := by
    rw [hV2]
    exact ((((Kp.refl (fun b => b = w2.heap.size) w8).setCell (p := ⟨w2.heap.size, 0, none⟩) rfl _).setCell (p := ⟨w2.heap.size, 1, none⟩) rfl _).setCell (p := ⟨w2.heap.size, 2, none⟩) rfl _).setCell (p := ⟨w2.heap.size, 3, none⟩) rfl _
  have kT := HTX.out V2 (kV2.mono (fun b _ e => by
    have e' : b = w2.heap.size := e
    have := HVZ.out
    have := B7.out.size
    exact ⟨by omega, by omega⟩))
  have s0 : V2.cell? ⟨w2.heap.size, 0, none⟩ = some (.slice a2 n2 cc2) := by rw [hV2]; simp [p0, World.cell?_setCell_same, World.cell?_setCell_other]
  have s1 : V2.cell? ⟨w2.heap.size, 1, none⟩ = some (.int .i64 0) := by rw [hV2]; simp [p1, World.cell?_setCell_same, World.cell?_setCell_other]
  have s2 : V2.cell? ⟨w2.heap.size, 2, none⟩ = some (.int .i64 gr2) := by rw [hV2]; simp [p2, World.cell?_setCell_same, World.cell?_setCell_other]
  have s3 : V2.cell? ⟨w2.heap.size, 3, none⟩ = some (.slice na2 nn2 nc2) := by rw [hV2]; simp [p3, World.cell?_setCell_same, World.cell?_setCell_other]
  clear HTX hV2 kV2
  go_upto_region 9 with fail
  rw [← HV2.out]
  clear p0 p1 p2 p3 f0 f1 f2 f3
  go_wp2_with fail
  go_fit kT
  rintro e w9 ⟨⟨v, rfl, hv⟩, B9⟩
  obtain ⟨⟨j0, j1, j2, j3, j4, j5, j6, j7, j8⟩, bE⟩ := HKB.out w9 B9.out
  simp only [Nat.zero_add] at j0 j1 j2 j3 j4 j5 j6 j7 j8
  have HE9 : Hid (Below w.heap.size w w9) := bE
  clear kT bE s0 s1 s2 s3
  rcases hv with rfl | ⟨rfl | rfl, HM⟩
  · go_wp2
    go_ret
    exact ⟨rfl, HE9.out⟩
  · have kM := HM.out
    go_wp2_with fail
    go_fit kM
    rintro e w10 ⟨rfl, HE10⟩
    clear kM
    go_wp2
    go_ret
    exact ⟨rfl, HE10.out⟩
  · have kM := HM.out
    go_wp2_with fail
    go_fit kM
    rintro e w10 ⟨rfl, HE10⟩
    clear kM
    go_wp2
    go_ret
    exact ⟨rfl, HE10.out⟩
end Go.Proofs.Ytbciclnffokjjaa
/- RxprogMeans: the row. -/
namespace Go.Proofs.Ytbciclnffokjjaa
open Go.ChangeShapes Go.WideShapes Go.ChangeAt Go.RowKit

set_option maxRecDepth 100000 in
theorem means_lifted (os : Os) (started : os.Started) (H : Type) (enc : TypeId × Value → H) :
    ReturnsInHanded {} Try.checked os 4 .any (Rows.rxprogMeansSpec.pre6 enc Try.prog Try.f4 Rows.rxprogMeansRow.domain false) (Rows.rxprogMeansSpec.post enc Try.prog Try.f4 false true false false) := by
  refine returnsInHanded_of_change_sized (C := Try.checked) own started (by kernel_rfl) Try.func4
    (ChangeSpec.witness6 (enc := enc) (C := Try.checked) false ⟨#[], #[ndV nd0, .string ⟨#[]⟩], []⟩ 8 (by kernel_rfl) (by kernel_rfl) (by kernel_rfl) (by kernel_rfl)) ?_
  intro W base args ds gs before hval0 hW hcnd hsz0 _
  have hval : ∀ (j : Nat) t v, Try.f4.params[j]? = some t → args[j]? = some v → Value.okWide Try.prog W .any base t v := hval0
  have hsz : (DataW.weightsEach Try.prog (Try.f4.params.toList ++ Rows.rxprogMeansSpec.plain.varTypes Try.prog) (ds ++ gs)).all (· ≤ reachBytes) = true := hsz0
  have hW' := hW
  obtain ⟨p, q, hA0, hV, rfl, hfz, hnd⟩ := hW
  have hA : DataW.TrodAll enc Try.prog W 0 (fun _ => true) true Try.f4.params.toList args.toList ds p := hA0
  rw [Try.params4] at hA hval hsz
  obtain ⟨v0, v1, d0, d1, p0, p1, rfl, rfl, rfl, h0, h1⟩ := trodAll_two hA
  obtain ⟨rfl, rfl⟩ := trodVars_none hV
  obtain ⟨cs, rfl, hcs⟩ := okWide_struct Try.underlying33 (hval 0 33 v0 rfl rfl)
  have k0 := h0
  have k1 := h1
  have lt0 : ∀ x ∈ p0, x.block < W.heap.size := by obtain ⟨m, hm⟩ := k0; exact DataW.trod_lt m _ _ _ hm
  have lt1 : ∀ x ∈ p1, x.block < W.heap.size := by obtain ⟨m, hm⟩ := k1; exact DataW.trod_lt m _ _ _ hm
  have z0 : ∀ n ∈ d0.weights Try.prog 33, n ≤ reachBytes := fun n hn => by
    have := List.all_eq_true.1 hsz _ (DataW.weights_mem_each (j := 0) (t := 33) (d := d0) rfl rfl n hn)
    simpa using this
  have z1 : ∀ n ∈ d1.weights Try.prog 9, n ≤ reachBytes := fun n hn => by
    have := List.all_eq_true.1 hsz _ (DataW.weights_mem_each (j := 1) (t := 9) (d := d1) rfl rfl n hn)
    simpa using this
  have hr : reachBytes = 140737488351232 := by decide
  obtain ⟨s, rfl, rfl, rfl, hsa⟩ := Go.ChangeMaps.open_string Try.underlying9 (hval 1 9 v1 rfl rfl) h1
  have hs : s.size ≤ 140737488351232 := by
    have := z1 s.data.toList.length (by simp [DataW.weights])
    rw [size_len, hr] at this
    exact this
  have walk : Calls Try.prog 4 #[.agg cs, .string s] W fun e w' => e = .returned (.bool true) ∧ Below W.heap.size W w' := by
    obtain ⟨fuel, hf0⟩ := h0
    have hf : DataW.trod enc Try.prog W 0 (fun _ => true) true fuel 33 cs.toList = some (d0, p0) := hf0
    obtain ⟨t, ecl, ht⟩ := tree_open fuel cs.toList d0 p0 hf z0
    have ecs : cs = (ndC (t [])).toArray := by rw [← Array.toArray_toList (xs := cs), ecl]
    rw [ecs]
    exact means_walk t s W ht hs
  refine walk.mono fun e W' ⟨he, bel⟩ => ?_
  subst he
  exact ⟨_, rfl, _, _, _, [], _, [], hW', trodAll_mk1 (shut_bool Try.underlying4 _), trodAll_mk2 (Below.trod laidOut (by kernel_rfl) (of_decide_eq_true (by kernel_rfl)) k0 bel lt0) (Below.trod laidOut (by kernel_rfl) (of_decide_eq_true (by kernel_rfl)) k1 bel lt1), rfl, bel.frame _, fun h => by cases h⟩

theorem means_said : Rows.RxprogMeansSaid :=
  OpenClaim.holds_of_wide 4 Try.f4 rfl rfl rfl rfl rfl rfl rfl ⟨rfl, rfl, rfl, rfl, rfl⟩ rfl rfl rfl rfl rfl (by kernel_rfl) Try.func4 (by kernel_rfl)
    (of_decide_eq_true (by kernel_rfl)) (by unfold Func.isWrapper; first | (rw [if_pos (by decide +kernel)]; kernel_rfl) | (rw [if_neg (by decide +kernel)]; exact ⟨rfl, rfl⟩))
    (fun os started H enc _ => means_lifted os started H enc)
#print axioms means_said
end Go.Proofs.Ytbciclnffokjjaa
