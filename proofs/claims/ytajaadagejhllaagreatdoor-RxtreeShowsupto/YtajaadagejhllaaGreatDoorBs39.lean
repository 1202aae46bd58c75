/- A bundle of texts. -/
import Derived.Test.YtajaadagejhllaaGreatDoorBs36
/- The reference's texts: times. -/
namespace Go.Proofs.YtajaadagejhllaaGreatDoor
open Go.RowKit Go.Lib

/-- A repeat's sign, and whether it is lazy. -/
def tlB (a b : Int) (l : Bool) : ByteArray := tmB a b ++ (if l = true then (⟨#[63]⟩ : ByteArray) else ⟨#[]⟩)

set_option maxHeartbeats 4000000 in
set_option maxRecDepth 100000 in
theorem rt_0m_true (d : Nd) (w : World) (I J : ByteArray) (hI9 : I.size ≤ 21) (hJ9 : J.size ≤ 21) (hlz : d.lz = true) (x0 : (d.mn == 0) = true) (_x1 : (d.mn == 1) = false) (y0 : (d.mx == -1) = true) (_y1 : (d.mx == 1) = false) (_z : (d.mx == d.mn) = false)
    (hI : ∀ w1, Below w.heap.size w w1 → Calls Tryz.prog 78 #[.int .i64 d.mn] w1 fun e w' => e = .returned (.string I) ∧ Below w1.heap.size w1 w')
    (hJ : ∀ w1, Below w.heap.size w w1 → Calls Tryz.prog 78 #[.int .i64 d.mx] w1 fun e w' => e = .returned (.string J) ∧ Below w1.heap.size w1 w') :
    Calls Tryz.prog 61 #[ndV d] w fun e w' => e = .returned (.string ((⟨#[42]⟩ : ByteArray) ++ (⟨#[63]⟩ : ByteArray))) ∧ Below w.heap.size w w' := by
  have hb0 : Below w.heap.size w (w.alloc (ndX d)) := (Below.refl _ w).alloc (Nat.le_refl _) _
  obtain ⟨W0, hW0⟩ : ∃ W0, W0 = w.alloc (ndX d) := ⟨_, rfl⟩
  have HCS : Hid (∀ w1, Below W0.heap.size W0 w1 → Cs w1 w.heap.size 0 d) := fun w1 b1 => by rw [hW0] at b1; exact ndX_cells (w := w) d b1
  have HW0 : Hid (W0 = w.alloc (ndX d)) := hW0
  rw [← hW0] at hb0
  have HI : Hid (∀ w1, Below W0.heap.size W0 w1 → Calls Tryz.prog 78 #[.int .i64 d.mn] w1 fun e w' => e = .returned (.string I) ∧ Below W0.heap.size W0 w') := fun w1 b1 => (hI w1 (hb0.trans (b1.mono hb0.size))).mono fun _ _ ⟨he, b⟩ => ⟨he, b1.trans (b.mono b1.size)⟩
  have HJ : Hid (∀ w1, Below W0.heap.size W0 w1 → Calls Tryz.prog 78 #[.int .i64 d.mx] w1 fun e w' => e = .returned (.string J) ∧ Below W0.heap.size W0 w') := fun w1 b1 => (hJ w1 (hb0.trans (b1.mono hb0.size))).mono fun _ _ ⟨he, b⟩ => ⟨he, b1.trans (b.mono b1.size)⟩
  have HL : Hid (∀ w1, Below W0.heap.size W0 w1 → Below w.heap.size w w1) := fun w1 b1 => hb0.trans (b1.mono hb0.size)
  have n1 : ¬ 9223372036854775807 < 1 + I.size := by omega
  have n2 : ¬ 9223372036854775807 < 1 + I.size + 1 := by omega
  have n3 : ¬ 9223372036854775807 < 1 + I.size + 2 := by omega
  have n4 : ¬ 9223372036854775807 < 1 + I.size + 1 + J.size := by omega
  have n5 : ¬ 9223372036854775807 < 1 + I.size + 1 + J.size + 1 := by omega
  have n6 : ¬ 9223372036854775807 < 1 + I.size + 1 + 1 := by omega
  have n7 : ¬ 9223372036854775807 < 1 + I.size + 2 + 1 := by omega
  have n8 : ¬ 9223372036854775807 < 1 + I.size + 1 + J.size + 1 + 1 := by omega
  have HLZ : Hid (d.lz = true) := hlz
  obtain ⟨e0, e1, e2, e3, e4, e5, e6, e7, e8⟩ := HCS.out W0 (Below.refl _ _)
  simp only [Nat.zero_add] at e0 e1 e2 e3 e4 e5 e6 e7 e8
  have b0 : Below W0.heap.size W0 W0 := Below.refl _ _
  have HKS : Hid (∀ w2, Below W0.heap.size W0 w2 → (w2.cell? ⟨w.heap.size, 3, none⟩ = some (.int .i64 d.mn) ∧ w2.cell? ⟨w.heap.size, 4, none⟩ = some (.int .i64 d.mx)) ∧ Below W0.heap.size W0 w2) := fun w2 b => by
    have h := HCS.out w2 b
    have h3 := h.c3
    have h4 := h.c4
    simp only [Nat.zero_add] at h3 h4
    exact ⟨⟨h3, h4⟩, b⟩
  clear hI hJ hW0 hb0 hlz
  go_enter Tryz.func61, Tryz.ntmps61
  go_upto_region 1 with fail
  rw [← HW0.out]
  clear e0 e1 e2 e3 e4 e5 e6 e7 e8
  go_region_held3 (fun w2 => (w2.cell? ⟨w.heap.size, 3, none⟩ = some (.int .i64 d.mn) ∧ w2.cell? ⟨w.heap.size, 4, none⟩ = some (.int .i64 d.mx)) ∧ Below W0.heap.size W0 w2) (first | exact HKS.out _ (by assumption) | exact HKS.out _ (Below.drew (by assumption))) (first | (go_at_call 78; go_fit (HI.out _ (by assumption)); rintro e w1 ⟨rfl, b1⟩) | (go_at_call 78; go_fit (HI.out _ (Below.drew (by assumption))); rintro e w1 ⟨rfl, b1⟩) | (go_at_call 78; go_fit (HJ.out _ (by assumption)); rintro e w2 ⟨rfl, b2⟩) | (go_at_call 78; go_fit (HJ.out _ (Below.drew (by assumption))); rintro e w2 ⟨rfl, b2⟩))
  obtain ⟨r0, r1, r2, r3, r4, r5, r6, r7, r8⟩ := HCS.out w2 b2
  simp only [Nat.zero_add] at r0 r1 r2 r3 r4 r5 r6 r7 r8
  all_goals
    rw [HLZ.out] at r5
    go_wp2
    go_ret
    exact ⟨by simp, HL.out _ b2⟩

set_option maxHeartbeats 4000000 in
set_option maxRecDepth 100000 in
theorem rt_0m_false (d : Nd) (w : World) (I J : ByteArray) (hI9 : I.size ≤ 21) (hJ9 : J.size ≤ 21) (hlz : d.lz = false) (x0 : (d.mn == 0) = true) (_x1 : (d.mn == 1) = false) (y0 : (d.mx == -1) = true) (_y1 : (d.mx == 1) = false) (_z : (d.mx == d.mn) = false)
    (hI : ∀ w1, Below w.heap.size w w1 → Calls Tryz.prog 78 #[.int .i64 d.mn] w1 fun e w' => e = .returned (.string I) ∧ Below w1.heap.size w1 w')
    (hJ : ∀ w1, Below w.heap.size w w1 → Calls Tryz.prog 78 #[.int .i64 d.mx] w1 fun e w' => e = .returned (.string J) ∧ Below w1.heap.size w1 w') :
    Calls Tryz.prog 61 #[ndV d] w fun e w' => e = .returned (.string ((⟨#[42]⟩ : ByteArray) ++ (⟨#[]⟩ : ByteArray))) ∧ Below w.heap.size w w' := by
  have hb0 : Below w.heap.size w (w.alloc (ndX d)) := (Below.refl _ w).alloc (Nat.le_refl _) _
  obtain ⟨W0, hW0⟩ : ∃ W0, W0 = w.alloc (ndX d) := ⟨_, rfl⟩
  have HCS : Hid (∀ w1, Below W0.heap.size W0 w1 → Cs w1 w.heap.size 0 d) := fun w1 b1 => by rw [hW0] at b1; exact ndX_cells (w := w) d b1
  have HW0 : Hid (W0 = w.alloc (ndX d)) := hW0
  rw [← hW0] at hb0
  have HI : Hid (∀ w1, Below W0.heap.size W0 w1 → Calls Tryz.prog 78 #[.int .i64 d.mn] w1 fun e w' => e = .returned (.string I) ∧ Below W0.heap.size W0 w') := fun w1 b1 => (hI w1 (hb0.trans (b1.mono hb0.size))).mono fun _ _ ⟨he, b⟩ => ⟨he, b1.trans (b.mono b1.size)⟩
  have HJ : Hid (∀ w1, Below W0.heap.size W0 w1 → Calls Tryz.prog 78 #[.int .i64 d.mx] w1 fun e w' => e = .returned (.string J) ∧ Below W0.heap.size W0 w') := fun w1 b1 => (hJ w1 (hb0.trans (b1.mono hb0.size))).mono fun _ _ ⟨he, b⟩ => ⟨he, b1.trans (b.mono b1.size)⟩
  have HL : Hid (∀ w1, Below W0.heap.size W0 w1 → Below w.heap.size w w1) := fun w1 b1 => hb0.trans (b1.mono hb0.size)
  have n1 : ¬ 9223372036854775807 < 1 + I.size := by omega
  have n2 : ¬ 9223372036854775807 < 1 + I.size + 1 := by omega
  have n3 : ¬ 9223372036854775807 < 1 + I.size + 2 := by omega
  have n4 : ¬ 9223372036854775807 < 1 + I.size + 1 + J.size := by omega
  have n5 : ¬ 9223372036854775807 < 1 + I.size + 1 + J.size + 1 := by omega
  have n6 : ¬ 9223372036854775807 < 1 + I.size + 1 + 1 := by omega
  have n7 : ¬ 9223372036854775807 < 1 + I.size + 2 + 1 := by omega
  have n8 : ¬ 9223372036854775807 < 1 + I.size + 1 + J.size + 1 + 1 := by omega
  have HLZ : Hid (d.lz = false) := hlz
  obtain ⟨e0, e1, e2, e3, e4, e5, e6, e7, e8⟩ := HCS.out W0 (Below.refl _ _)
  simp only [Nat.zero_add] at e0 e1 e2 e3 e4 e5 e6 e7 e8
  have b0 : Below W0.heap.size W0 W0 := Below.refl _ _
  have HKS : Hid (∀ w2, Below W0.heap.size W0 w2 → (w2.cell? ⟨w.heap.size, 3, none⟩ = some (.int .i64 d.mn) ∧ w2.cell? ⟨w.heap.size, 4, none⟩ = some (.int .i64 d.mx)) ∧ Below W0.heap.size W0 w2) := fun w2 b => by
    have h := HCS.out w2 b
    have h3 := h.c3
    have h4 := h.c4
    simp only [Nat.zero_add] at h3 h4
    exact ⟨⟨h3, h4⟩, b⟩
  clear hI hJ hW0 hb0 hlz
  go_enter Tryz.func61, Tryz.ntmps61
  go_upto_region 1 with fail
  rw [← HW0.out]
  clear e0 e1 e2 e3 e4 e5 e6 e7 e8
  go_region_held3 (fun w2 => (w2.cell? ⟨w.heap.size, 3, none⟩ = some (.int .i64 d.mn) ∧ w2.cell? ⟨w.heap.size, 4, none⟩ = some (.int .i64 d.mx)) ∧ Below W0.heap.size W0 w2) (first | exact HKS.out _ (by assumption) | exact HKS.out _ (Below.drew (by assumption))) (first | (go_at_call 78; go_fit (HI.out _ (by assumption)); rintro e w1 ⟨rfl, b1⟩) | (go_at_call 78; go_fit (HI.out _ (Below.drew (by assumption))); rintro e w1 ⟨rfl, b1⟩) | (go_at_call 78; go_fit (HJ.out _ (by assumption)); rintro e w2 ⟨rfl, b2⟩) | (go_at_call 78; go_fit (HJ.out _ (Below.drew (by assumption))); rintro e w2 ⟨rfl, b2⟩))
  obtain ⟨r0, r1, r2, r3, r4, r5, r6, r7, r8⟩ := HCS.out w2 b2
  simp only [Nat.zero_add] at r0 r1 r2 r3 r4 r5 r6 r7 r8
  all_goals
    rw [HLZ.out] at r5
    go_wp2
    go_ret
    exact ⟨by simp [app_nil], HL.out _ b2⟩

set_option maxHeartbeats 4000000 in
set_option maxRecDepth 100000 in
theorem rt_1m_true (d : Nd) (w : World) (I J : ByteArray) (hI9 : I.size ≤ 21) (hJ9 : J.size ≤ 21) (hlz : d.lz = true) (x0 : (d.mn == 0) = false) (x1 : (d.mn == 1) = true) (y0 : (d.mx == -1) = true) (_y1 : (d.mx == 1) = false) (_z : (d.mx == d.mn) = false)
    (hI : ∀ w1, Below w.heap.size w w1 → Calls Tryz.prog 78 #[.int .i64 d.mn] w1 fun e w' => e = .returned (.string I) ∧ Below w1.heap.size w1 w')
    (hJ : ∀ w1, Below w.heap.size w w1 → Calls Tryz.prog 78 #[.int .i64 d.mx] w1 fun e w' => e = .returned (.string J) ∧ Below w1.heap.size w1 w') :
    Calls Tryz.prog 61 #[ndV d] w fun e w' => e = .returned (.string ((⟨#[43]⟩ : ByteArray) ++ (⟨#[63]⟩ : ByteArray))) ∧ Below w.heap.size w w' := by
  have hb0 : Below w.heap.size w (w.alloc (ndX d)) := (Below.refl _ w).alloc (Nat.le_refl _) _
  obtain ⟨W0, hW0⟩ : ∃ W0, W0 = w.alloc (ndX d) := ⟨_, rfl⟩
  have HCS : Hid (∀ w1, Below W0.heap.size W0 w1 → Cs w1 w.heap.size 0 d) := fun w1 b1 => by rw [hW0] at b1; exact ndX_cells (w := w) d b1
  have HW0 : Hid (W0 = w.alloc (ndX d)) := hW0
  rw [← hW0] at hb0
  have HI : Hid (∀ w1, Below W0.heap.size W0 w1 → Calls Tryz.prog 78 #[.int .i64 d.mn] w1 fun e w' => e = .returned (.string I) ∧ Below W0.heap.size W0 w') := fun w1 b1 => (hI w1 (hb0.trans (b1.mono hb0.size))).mono fun _ _ ⟨he, b⟩ => ⟨he, b1.trans (b.mono b1.size)⟩
  have HJ : Hid (∀ w1, Below W0.heap.size W0 w1 → Calls Tryz.prog 78 #[.int .i64 d.mx] w1 fun e w' => e = .returned (.string J) ∧ Below W0.heap.size W0 w') := fun w1 b1 => (hJ w1 (hb0.trans (b1.mono hb0.size))).mono fun _ _ ⟨he, b⟩ => ⟨he, b1.trans (b.mono b1.size)⟩
  have HL : Hid (∀ w1, Below W0.heap.size W0 w1 → Below w.heap.size w w1) := fun w1 b1 => hb0.trans (b1.mono hb0.size)
  have n1 : ¬ 9223372036854775807 < 1 + I.size := by omega
  have n2 : ¬ 9223372036854775807 < 1 + I.size + 1 := by omega
  have n3 : ¬ 9223372036854775807 < 1 + I.size + 2 := by omega
  have n4 : ¬ 9223372036854775807 < 1 + I.size + 1 + J.size := by omega
  have n5 : ¬ 9223372036854775807 < 1 + I.size + 1 + J.size + 1 := by omega
  have n6 : ¬ 9223372036854775807 < 1 + I.size + 1 + 1 := by omega
  have n7 : ¬ 9223372036854775807 < 1 + I.size + 2 + 1 := by omega
  have n8 : ¬ 9223372036854775807 < 1 + I.size + 1 + J.size + 1 + 1 := by omega
  have HLZ : Hid (d.lz = true) := hlz
  obtain ⟨e0, e1, e2, e3, e4, e5, e6, e7, e8⟩ := HCS.out W0 (Below.refl _ _)
  simp only [Nat.zero_add] at e0 e1 e2 e3 e4 e5 e6 e7 e8
  have b0 : Below W0.heap.size W0 W0 := Below.refl _ _
  have HKS : Hid (∀ w2, Below W0.heap.size W0 w2 → (w2.cell? ⟨w.heap.size, 3, none⟩ = some (.int .i64 d.mn) ∧ w2.cell? ⟨w.heap.size, 4, none⟩ = some (.int .i64 d.mx)) ∧ Below W0.heap.size W0 w2) := fun w2 b => by
    have h := HCS.out w2 b
    have h3 := h.c3
    have h4 := h.c4
    simp only [Nat.zero_add] at h3 h4
    exact ⟨⟨h3, h4⟩, b⟩
  clear hI hJ hW0 hb0 hlz
  go_enter Tryz.func61, Tryz.ntmps61
  go_upto_region 1 with fail
  rw [← HW0.out]
  clear e0 e1 e2 e3 e4 e5 e6 e7 e8
  go_region_held3 (fun w2 => (w2.cell? ⟨w.heap.size, 3, none⟩ = some (.int .i64 d.mn) ∧ w2.cell? ⟨w.heap.size, 4, none⟩ = some (.int .i64 d.mx)) ∧ Below W0.heap.size W0 w2) (first | exact HKS.out _ (by assumption) | exact HKS.out _ (Below.drew (by assumption))) (first | (go_at_call 78; go_fit (HI.out _ (by assumption)); rintro e w1 ⟨rfl, b1⟩) | (go_at_call 78; go_fit (HI.out _ (Below.drew (by assumption))); rintro e w1 ⟨rfl, b1⟩) | (go_at_call 78; go_fit (HJ.out _ (by assumption)); rintro e w2 ⟨rfl, b2⟩) | (go_at_call 78; go_fit (HJ.out _ (Below.drew (by assumption))); rintro e w2 ⟨rfl, b2⟩))
  obtain ⟨r0, r1, r2, r3, r4, r5, r6, r7, r8⟩ := HCS.out w2 b2
  simp only [Nat.zero_add] at r0 r1 r2 r3 r4 r5 r6 r7 r8
  all_goals
    rw [HLZ.out] at r5
    go_wp2
    go_ret
    exact ⟨by simp, HL.out _ b2⟩

set_option maxHeartbeats 4000000 in
set_option maxRecDepth 100000 in
theorem rt_1m_false (d : Nd) (w : World) (I J : ByteArray) (hI9 : I.size ≤ 21) (hJ9 : J.size ≤ 21) (hlz : d.lz = false) (x0 : (d.mn == 0) = false) (x1 : (d.mn == 1) = true) (y0 : (d.mx == -1) = true) (_y1 : (d.mx == 1) = false) (_z : (d.mx == d.mn) = false)
    (hI : ∀ w1, Below w.heap.size w w1 → Calls Tryz.prog 78 #[.int .i64 d.mn] w1 fun e w' => e = .returned (.string I) ∧ Below w1.heap.size w1 w')
    (hJ : ∀ w1, Below w.heap.size w w1 → Calls Tryz.prog 78 #[.int .i64 d.mx] w1 fun e w' => e = .returned (.string J) ∧ Below w1.heap.size w1 w') :
    Calls Tryz.prog 61 #[ndV d] w fun e w' => e = .returned (.string ((⟨#[43]⟩ : ByteArray) ++ (⟨#[]⟩ : ByteArray))) ∧ Below w.heap.size w w' := by
  have hb0 : Below w.heap.size w (w.alloc (ndX d)) := (Below.refl _ w).alloc (Nat.le_refl _) _
  obtain ⟨W0, hW0⟩ : ∃ W0, W0 = w.alloc (ndX d) := ⟨_, rfl⟩
  have HCS : Hid (∀ w1, Below W0.heap.size W0 w1 → Cs w1 w.heap.size 0 d) := fun w1 b1 => by rw [hW0] at b1; exact ndX_cells (w := w) d b1
  have HW0 : Hid (W0 = w.alloc (ndX d)) := hW0
  rw [← hW0] at hb0
  have HI : Hid (∀ w1, Below W0.heap.size W0 w1 → Calls Tryz.prog 78 #[.int .i64 d.mn] w1 fun e w' => e = .returned (.string I) ∧ Below W0.heap.size W0 w') := fun w1 b1 => (hI w1 (hb0.trans (b1.mono hb0.size))).mono fun _ _ ⟨he, b⟩ => ⟨he, b1.trans (b.mono b1.size)⟩
  have HJ : Hid (∀ w1, Below W0.heap.size W0 w1 → Calls Tryz.prog 78 #[.int .i64 d.mx] w1 fun e w' => e = .returned (.string J) ∧ Below W0.heap.size W0 w') := fun w1 b1 => (hJ w1 (hb0.trans (b1.mono hb0.size))).mono fun _ _ ⟨he, b⟩ => ⟨he, b1.trans (b.mono b1.size)⟩
  have HL : Hid (∀ w1, Below W0.heap.size W0 w1 → Below w.heap.size w w1) := fun w1 b1 => hb0.trans (b1.mono hb0.size)
  have n1 : ¬ 9223372036854775807 < 1 + I.size := by omega
  have n2 : ¬ 9223372036854775807 < 1 + I.size + 1 := by omega
  have n3 : ¬ 9223372036854775807 < 1 + I.size + 2 := by omega
  have n4 : ¬ 9223372036854775807 < 1 + I.size + 1 + J.size := by omega
  have n5 : ¬ 9223372036854775807 < 1 + I.size + 1 + J.size + 1 := by omega
  have n6 : ¬ 9223372036854775807 < 1 + I.size + 1 + 1 := by omega
  have n7 : ¬ 9223372036854775807 < 1 + I.size + 2 + 1 := by omega
  have n8 : ¬ 9223372036854775807 < 1 + I.size + 1 + J.size + 1 + 1 := by omega
  have HLZ : Hid (d.lz = false) := hlz
  obtain ⟨e0, e1, e2, e3, e4, e5, e6, e7, e8⟩ := HCS.out W0 (Below.refl _ _)
  simp only [Nat.zero_add] at e0 e1 e2 e3 e4 e5 e6 e7 e8
  have b0 : Below W0.heap.size W0 W0 := Below.refl _ _
  have HKS : Hid (∀ w2, Below W0.heap.size W0 w2 → (w2.cell? ⟨w.heap.size, 3, none⟩ = some (.int .i64 d.mn) ∧ w2.cell? ⟨w.heap.size, 4, none⟩ = some (.int .i64 d.mx)) ∧ Below W0.heap.size W0 w2) := fun w2 b => by
    have h := HCS.out w2 b
    have h3 := h.c3
    have h4 := h.c4
    simp only [Nat.zero_add] at h3 h4
    exact ⟨⟨h3, h4⟩, b⟩
  clear hI hJ hW0 hb0 hlz
  go_enter Tryz.func61, Tryz.ntmps61
  go_upto_region 1 with fail
  rw [← HW0.out]
  clear e0 e1 e2 e3 e4 e5 e6 e7 e8
  go_region_held3 (fun w2 => (w2.cell? ⟨w.heap.size, 3, none⟩ = some (.int .i64 d.mn) ∧ w2.cell? ⟨w.heap.size, 4, none⟩ = some (.int .i64 d.mx)) ∧ Below W0.heap.size W0 w2) (first | exact HKS.out _ (by assumption) | exact HKS.out _ (Below.drew (by assumption))) (first | (go_at_call 78; go_fit (HI.out _ (by assumption)); rintro e w1 ⟨rfl, b1⟩) | (go_at_call 78; go_fit (HI.out _ (Below.drew (by assumption))); rintro e w1 ⟨rfl, b1⟩) | (go_at_call 78; go_fit (HJ.out _ (by assumption)); rintro e w2 ⟨rfl, b2⟩) | (go_at_call 78; go_fit (HJ.out _ (Below.drew (by assumption))); rintro e w2 ⟨rfl, b2⟩))
  obtain ⟨r0, r1, r2, r3, r4, r5, r6, r7, r8⟩ := HCS.out w2 b2
  simp only [Nat.zero_add] at r0 r1 r2 r3 r4 r5 r6 r7 r8
  all_goals
    rw [HLZ.out] at r5
    go_wp2
    go_ret
    exact ⟨by simp [app_nil], HL.out _ b2⟩

set_option maxHeartbeats 4000000 in
set_option maxRecDepth 100000 in
theorem rt_01_true (d : Nd) (w : World) (I J : ByteArray) (hI9 : I.size ≤ 21) (hJ9 : J.size ≤ 21) (hlz : d.lz = true) (x0 : (d.mn == 0) = true) (x1 : (d.mn == 1) = false) (y0 : (d.mx == -1) = false) (y1 : (d.mx == 1) = true) (_z : (d.mx == d.mn) = false)
    (hI : ∀ w1, Below w.heap.size w w1 → Calls Tryz.prog 78 #[.int .i64 d.mn] w1 fun e w' => e = .returned (.string I) ∧ Below w1.heap.size w1 w')
    (hJ : ∀ w1, Below w.heap.size w w1 → Calls Tryz.prog 78 #[.int .i64 d.mx] w1 fun e w' => e = .returned (.string J) ∧ Below w1.heap.size w1 w') :
    Calls Tryz.prog 61 #[ndV d] w fun e w' => e = .returned (.string ((⟨#[63]⟩ : ByteArray) ++ (⟨#[63]⟩ : ByteArray))) ∧ Below w.heap.size w w' := by
  have hb0 : Below w.heap.size w (w.alloc (ndX d)) := (Below.refl _ w).alloc (Nat.le_refl _) _
  obtain ⟨W0, hW0⟩ : ∃ W0, W0 = w.alloc (ndX d) := ⟨_, rfl⟩
  have HCS : Hid (∀ w1, Below W0.heap.size W0 w1 → Cs w1 w.heap.size 0 d) := fun w1 b1 => by rw [hW0] at b1; exact ndX_cells (w := w) d b1
  have HW0 : Hid (W0 = w.alloc (ndX d)) := hW0
  rw [← hW0] at hb0
  have HI : Hid (∀ w1, Below W0.heap.size W0 w1 → Calls Tryz.prog 78 #[.int .i64 d.mn] w1 fun e w' => e = .returned (.string I) ∧ Below W0.heap.size W0 w') := fun w1 b1 => (hI w1 (hb0.trans (b1.mono hb0.size))).mono fun _ _ ⟨he, b⟩ => ⟨he, b1.trans (b.mono b1.size)⟩
  have HJ : Hid (∀ w1, Below W0.heap.size W0 w1 → Calls Tryz.prog 78 #[.int .i64 d.mx] w1 fun e w' => e = .returned (.string J) ∧ Below W0.heap.size W0 w') := fun w1 b1 => (hJ w1 (hb0.trans (b1.mono hb0.size))).mono fun _ _ ⟨he, b⟩ => ⟨he, b1.trans (b.mono b1.size)⟩
  have HL : Hid (∀ w1, Below W0.heap.size W0 w1 → Below w.heap.size w w1) := fun w1 b1 => hb0.trans (b1.mono hb0.size)
  have n1 : ¬ 9223372036854775807 < 1 + I.size := by omega
  have n2 : ¬ 9223372036854775807 < 1 + I.size + 1 := by omega
  have n3 : ¬ 9223372036854775807 < 1 + I.size + 2 := by omega
  have n4 : ¬ 9223372036854775807 < 1 + I.size + 1 + J.size := by omega
  have n5 : ¬ 9223372036854775807 < 1 + I.size + 1 + J.size + 1 := by omega
  have n6 : ¬ 9223372036854775807 < 1 + I.size + 1 + 1 := by omega
  have n7 : ¬ 9223372036854775807 < 1 + I.size + 2 + 1 := by omega
  have n8 : ¬ 9223372036854775807 < 1 + I.size + 1 + J.size + 1 + 1 := by omega
  have HLZ : Hid (d.lz = true) := hlz
  obtain ⟨e0, e1, e2, e3, e4, e5, e6, e7, e8⟩ := HCS.out W0 (Below.refl _ _)
  simp only [Nat.zero_add] at e0 e1 e2 e3 e4 e5 e6 e7 e8
  have b0 : Below W0.heap.size W0 W0 := Below.refl _ _
  have HKS : Hid (∀ w2, Below W0.heap.size W0 w2 → (w2.cell? ⟨w.heap.size, 3, none⟩ = some (.int .i64 d.mn) ∧ w2.cell? ⟨w.heap.size, 4, none⟩ = some (.int .i64 d.mx)) ∧ Below W0.heap.size W0 w2) := fun w2 b => by
    have h := HCS.out w2 b
    have h3 := h.c3
    have h4 := h.c4
    simp only [Nat.zero_add] at h3 h4
    exact ⟨⟨h3, h4⟩, b⟩
  clear hI hJ hW0 hb0 hlz
  go_enter Tryz.func61, Tryz.ntmps61
  go_upto_region 1 with fail
  rw [← HW0.out]
  clear e0 e1 e2 e3 e4 e5 e6 e7 e8
  go_region_held3 (fun w2 => (w2.cell? ⟨w.heap.size, 3, none⟩ = some (.int .i64 d.mn) ∧ w2.cell? ⟨w.heap.size, 4, none⟩ = some (.int .i64 d.mx)) ∧ Below W0.heap.size W0 w2) (first | exact HKS.out _ (by assumption) | exact HKS.out _ (Below.drew (by assumption))) (first | (go_at_call 78; go_fit (HI.out _ (by assumption)); rintro e w1 ⟨rfl, b1⟩) | (go_at_call 78; go_fit (HI.out _ (Below.drew (by assumption))); rintro e w1 ⟨rfl, b1⟩) | (go_at_call 78; go_fit (HJ.out _ (by assumption)); rintro e w2 ⟨rfl, b2⟩) | (go_at_call 78; go_fit (HJ.out _ (Below.drew (by assumption))); rintro e w2 ⟨rfl, b2⟩))
  obtain ⟨r0, r1, r2, r3, r4, r5, r6, r7, r8⟩ := HCS.out w2 b2
  simp only [Nat.zero_add] at r0 r1 r2 r3 r4 r5 r6 r7 r8
  all_goals
    rw [HLZ.out] at r5
    go_wp2
    go_ret
    exact ⟨by simp, HL.out _ b2⟩

set_option maxHeartbeats 4000000 in
set_option maxRecDepth 100000 in
theorem rt_01_false (d : Nd) (w : World) (I J : ByteArray) (hI9 : I.size ≤ 21) (hJ9 : J.size ≤ 21) (hlz : d.lz = false) (x0 : (d.mn == 0) = true) (x1 : (d.mn == 1) = false) (y0 : (d.mx == -1) = false) (y1 : (d.mx == 1) = true) (_z : (d.mx == d.mn) = false)
    (hI : ∀ w1, Below w.heap.size w w1 → Calls Tryz.prog 78 #[.int .i64 d.mn] w1 fun e w' => e = .returned (.string I) ∧ Below w1.heap.size w1 w')
    (hJ : ∀ w1, Below w.heap.size w w1 → Calls Tryz.prog 78 #[.int .i64 d.mx] w1 fun e w' => e = .returned (.string J) ∧ Below w1.heap.size w1 w') :
    Calls Tryz.prog 61 #[ndV d] w fun e w' => e = .returned (.string ((⟨#[63]⟩ : ByteArray) ++ (⟨#[]⟩ : ByteArray))) ∧ Below w.heap.size w w' := by
  have hb0 : Below w.heap.size w (w.alloc (ndX d)) := (Below.refl _ w).alloc (Nat.le_refl _) _
  obtain ⟨W0, hW0⟩ : ∃ W0, W0 = w.alloc (ndX d) := ⟨_, rfl⟩
  have HCS : Hid (∀ w1, Below W0.heap.size W0 w1 → Cs w1 w.heap.size 0 d) := fun w1 b1 => by rw [hW0] at b1; exact ndX_cells (w := w) d b1
  have HW0 : Hid (W0 = w.alloc (ndX d)) := hW0
  rw [← hW0] at hb0
  have HI : Hid (∀ w1, Below W0.heap.size W0 w1 → Calls Tryz.prog 78 #[.int .i64 d.mn] w1 fun e w' => e = .returned (.string I) ∧ Below W0.heap.size W0 w') := fun w1 b1 => (hI w1 (hb0.trans (b1.mono hb0.size))).mono fun _ _ ⟨he, b⟩ => ⟨he, b1.trans (b.mono b1.size)⟩
  have HJ : Hid (∀ w1, Below W0.heap.size W0 w1 → Calls Tryz.prog 78 #[.int .i64 d.mx] w1 fun e w' => e = .returned (.string J) ∧ Below W0.heap.size W0 w') := fun w1 b1 => (hJ w1 (hb0.trans (b1.mono hb0.size))).mono fun _ _ ⟨he, b⟩ => ⟨he, b1.trans (b.mono b1.size)⟩
  have HL : Hid (∀ w1, Below W0.heap.size W0 w1 → Below w.heap.size w w1) := fun w1 b1 => hb0.trans (b1.mono hb0.size)
  have n1 : ¬ 9223372036854775807 < 1 + I.size := by omega
  have n2 : ¬ 9223372036854775807 < 1 + I.size + 1 := by omega
  have n3 : ¬ 9223372036854775807 < 1 + I.size + 2 := by omega
  have n4 : ¬ 9223372036854775807 < 1 + I.size + 1 + J.size := by omega
  have n5 : ¬ 9223372036854775807 < 1 + I.size + 1 + J.size + 1 := by omega
  have n6 : ¬ 9223372036854775807 < 1 + I.size + 1 + 1 := by omega
  have n7 : ¬ 9223372036854775807 < 1 + I.size + 2 + 1 := by omega
  have n8 : ¬ 9223372036854775807 < 1 + I.size + 1 + J.size + 1 + 1 := by omega
  have HLZ : Hid (d.lz = false) := hlz
  obtain ⟨e0, e1, e2, e3, e4, e5, e6, e7, e8⟩ := HCS.out W0 (Below.refl _ _)
  simp only [Nat.zero_add] at e0 e1 e2 e3 e4 e5 e6 e7 e8
  have b0 : Below W0.heap.size W0 W0 := Below.refl _ _
  have HKS : Hid (∀ w2, Below W0.heap.size W0 w2 → (w2.cell? ⟨w.heap.size, 3, none⟩ = some (.int .i64 d.mn) ∧ w2.cell? ⟨w.heap.size, 4, none⟩ = some (.int .i64 d.mx)) ∧ Below W0.heap.size W0 w2) := fun w2 b => by
    have h := HCS.out w2 b
    have h3 := h.c3
    have h4 := h.c4
    simp only [Nat.zero_add] at h3 h4
    exact ⟨⟨h3, h4⟩, b⟩
  clear hI hJ hW0 hb0 hlz
  go_enter Tryz.func61, Tryz.ntmps61
  go_upto_region 1 with fail
  rw [← HW0.out]
  clear e0 e1 e2 e3 e4 e5 e6 e7 e8
  go_region_held3 (fun w2 => (w2.cell? ⟨w.heap.size, 3, none⟩ = some (.int .i64 d.mn) ∧ w2.cell? ⟨w.heap.size, 4, none⟩ = some (.int .i64 d.mx)) ∧ Below W0.heap.size W0 w2) (first | exact HKS.out _ (by assumption) | exact HKS.out _ (Below.drew (by assumption))) (first | (go_at_call 78; go_fit (HI.out _ (by assumption)); rintro e w1 ⟨rfl, b1⟩) | (go_at_call 78; go_fit (HI.out _ (Below.drew (by assumption))); rintro e w1 ⟨rfl, b1⟩) | (go_at_call 78; go_fit (HJ.out _ (by assumption)); rintro e w2 ⟨rfl, b2⟩) | (go_at_call 78; go_fit (HJ.out _ (Below.drew (by assumption))); rintro e w2 ⟨rfl, b2⟩))
  obtain ⟨r0, r1, r2, r3, r4, r5, r6, r7, r8⟩ := HCS.out w2 b2
  simp only [Nat.zero_add] at r0 r1 r2 r3 r4 r5 r6 r7 r8
  all_goals
    rw [HLZ.out] at r5
    go_wp2
    go_ret
    exact ⟨by simp [app_nil], HL.out _ b2⟩

set_option maxHeartbeats 4000000 in
set_option maxRecDepth 100000 in
theorem rt_00_true (d : Nd) (w : World) (I J : ByteArray) (hI9 : I.size ≤ 21) (hJ9 : J.size ≤ 21) (hlz : d.lz = true) (x0 : (d.mn == 0) = true) (x1 : (d.mn == 1) = false) (y0 : (d.mx == -1) = false) (y1 : (d.mx == 1) = false) (z : (d.mx == d.mn) = true)
    (hI : ∀ w1, Below w.heap.size w w1 → Calls Tryz.prog 78 #[.int .i64 d.mn] w1 fun e w' => e = .returned (.string I) ∧ Below w1.heap.size w1 w')
    (hJ : ∀ w1, Below w.heap.size w w1 → Calls Tryz.prog 78 #[.int .i64 d.mx] w1 fun e w' => e = .returned (.string J) ∧ Below w1.heap.size w1 w') :
    Calls Tryz.prog 61 #[ndV d] w fun e w' => e = .returned (.string ((((⟨#[123]⟩ : ByteArray) ++ I) ++ ⟨#[125]⟩ : ByteArray) ++ (⟨#[63]⟩ : ByteArray))) ∧ Below w.heap.size w w' := by
  have hb0 : Below w.heap.size w (w.alloc (ndX d)) := (Below.refl _ w).alloc (Nat.le_refl _) _
  obtain ⟨W0, hW0⟩ : ∃ W0, W0 = w.alloc (ndX d) := ⟨_, rfl⟩
  have HCS : Hid (∀ w1, Below W0.heap.size W0 w1 → Cs w1 w.heap.size 0 d) := fun w1 b1 => by rw [hW0] at b1; exact ndX_cells (w := w) d b1
  have HW0 : Hid (W0 = w.alloc (ndX d)) := hW0
  rw [← hW0] at hb0
  have HI : Hid (∀ w1, Below W0.heap.size W0 w1 → Calls Tryz.prog 78 #[.int .i64 d.mn] w1 fun e w' => e = .returned (.string I) ∧ Below W0.heap.size W0 w') := fun w1 b1 => (hI w1 (hb0.trans (b1.mono hb0.size))).mono fun _ _ ⟨he, b⟩ => ⟨he, b1.trans (b.mono b1.size)⟩
  have HJ : Hid (∀ w1, Below W0.heap.size W0 w1 → Calls Tryz.prog 78 #[.int .i64 d.mx] w1 fun e w' => e = .returned (.string J) ∧ Below W0.heap.size W0 w') := fun w1 b1 => (hJ w1 (hb0.trans (b1.mono hb0.size))).mono fun _ _ ⟨he, b⟩ => ⟨he, b1.trans (b.mono b1.size)⟩
  have HL : Hid (∀ w1, Below W0.heap.size W0 w1 → Below w.heap.size w w1) := fun w1 b1 => hb0.trans (b1.mono hb0.size)
  have n1 : ¬ 9223372036854775807 < 1 + I.size := by omega
  have n2 : ¬ 9223372036854775807 < 1 + I.size + 1 := by omega
  have n3 : ¬ 9223372036854775807 < 1 + I.size + 2 := by omega
  have n4 : ¬ 9223372036854775807 < 1 + I.size + 1 + J.size := by omega
  have n5 : ¬ 9223372036854775807 < 1 + I.size + 1 + J.size + 1 := by omega
  have n6 : ¬ 9223372036854775807 < 1 + I.size + 1 + 1 := by omega
  have n7 : ¬ 9223372036854775807 < 1 + I.size + 2 + 1 := by omega
  have n8 : ¬ 9223372036854775807 < 1 + I.size + 1 + J.size + 1 + 1 := by omega
  have HLZ : Hid (d.lz = true) := hlz
  obtain ⟨e0, e1, e2, e3, e4, e5, e6, e7, e8⟩ := HCS.out W0 (Below.refl _ _)
  simp only [Nat.zero_add] at e0 e1 e2 e3 e4 e5 e6 e7 e8
  have b0 : Below W0.heap.size W0 W0 := Below.refl _ _
  have HKS : Hid (∀ w2, Below W0.heap.size W0 w2 → (w2.cell? ⟨w.heap.size, 3, none⟩ = some (.int .i64 d.mn) ∧ w2.cell? ⟨w.heap.size, 4, none⟩ = some (.int .i64 d.mx)) ∧ Below W0.heap.size W0 w2) := fun w2 b => by
    have h := HCS.out w2 b
    have h3 := h.c3
    have h4 := h.c4
    simp only [Nat.zero_add] at h3 h4
    exact ⟨⟨h3, h4⟩, b⟩
  clear hI hJ hW0 hb0 hlz
  go_enter Tryz.func61, Tryz.ntmps61
  go_upto_region 1 with fail
  rw [← HW0.out]
  clear e0 e1 e2 e3 e4 e5 e6 e7 e8
  go_region_held3 (fun w2 => (w2.cell? ⟨w.heap.size, 3, none⟩ = some (.int .i64 d.mn) ∧ w2.cell? ⟨w.heap.size, 4, none⟩ = some (.int .i64 d.mx)) ∧ Below W0.heap.size W0 w2) (first | exact HKS.out _ (by assumption) | exact HKS.out _ (Below.drew (by assumption))) (first | (go_at_call 78; go_fit (HI.out _ (by assumption)); rintro e w1 ⟨rfl, b1⟩) | (go_at_call 78; go_fit (HI.out _ (Below.drew (by assumption))); rintro e w1 ⟨rfl, b1⟩) | (go_at_call 78; go_fit (HJ.out _ (by assumption)); rintro e w2 ⟨rfl, b2⟩) | (go_at_call 78; go_fit (HJ.out _ (Below.drew (by assumption))); rintro e w2 ⟨rfl, b2⟩))
  obtain ⟨r0, r1, r2, r3, r4, r5, r6, r7, r8⟩ := HCS.out w2 b2
  simp only [Nat.zero_add] at r0 r1 r2 r3 r4 r5 r6 r7 r8
  all_goals
    rw [HLZ.out] at r5
    go_wp2_with (go_at_call 78; go_fit (HI.out _ b2); rintro e w3 ⟨rfl, b3⟩; obtain ⟨s0, s1, s2, s3, s4, s5, s6, s7, s8⟩ := HCS.out w3 b3; simp only [Nat.zero_add] at s0 s1 s2 s3 s4 s5 s6 s7 s8; rw [HLZ.out] at s5)
    go_ret
    exact ⟨by simp, HL.out _ b3⟩

set_option maxHeartbeats 4000000 in
set_option maxRecDepth 100000 in
theorem rt_00_false (d : Nd) (w : World) (I J : ByteArray) (hI9 : I.size ≤ 21) (hJ9 : J.size ≤ 21) (hlz : d.lz = false) (x0 : (d.mn == 0) = true) (x1 : (d.mn == 1) = false) (y0 : (d.mx == -1) = false) (y1 : (d.mx == 1) = false) (z : (d.mx == d.mn) = true)
    (hI : ∀ w1, Below w.heap.size w w1 → Calls Tryz.prog 78 #[.int .i64 d.mn] w1 fun e w' => e = .returned (.string I) ∧ Below w1.heap.size w1 w')
    (hJ : ∀ w1, Below w.heap.size w w1 → Calls Tryz.prog 78 #[.int .i64 d.mx] w1 fun e w' => e = .returned (.string J) ∧ Below w1.heap.size w1 w') :
    Calls Tryz.prog 61 #[ndV d] w fun e w' => e = .returned (.string ((((⟨#[123]⟩ : ByteArray) ++ I) ++ ⟨#[125]⟩ : ByteArray) ++ (⟨#[]⟩ : ByteArray))) ∧ Below w.heap.size w w' := by
  have hb0 : Below w.heap.size w (w.alloc (ndX d)) := (Below.refl _ w).alloc (Nat.le_refl _) _
  obtain ⟨W0, hW0⟩ : ∃ W0, W0 = w.alloc (ndX d) := ⟨_, rfl⟩
  have HCS : Hid (∀ w1, Below W0.heap.size W0 w1 → Cs w1 w.heap.size 0 d) := fun w1 b1 => by rw [hW0] at b1; exact ndX_cells (w := w) d b1
  have HW0 : Hid (W0 = w.alloc (ndX d)) := hW0
  rw [← hW0] at hb0
  have HI : Hid (∀ w1, Below W0.heap.size W0 w1 → Calls Tryz.prog 78 #[.int .i64 d.mn] w1 fun e w' => e = .returned (.string I) ∧ Below W0.heap.size W0 w') := fun w1 b1 => (hI w1 (hb0.trans (b1.mono hb0.size))).mono fun _ _ ⟨he, b⟩ => ⟨he, b1.trans (b.mono b1.size)⟩
  have HJ : Hid (∀ w1, Below W0.heap.size W0 w1 → Calls Tryz.prog 78 #[.int .i64 d.mx] w1 fun e w' => e = .returned (.string J) ∧ Below W0.heap.size W0 w') := fun w1 b1 => (hJ w1 (hb0.trans (b1.mono hb0.size))).mono fun _ _ ⟨he, b⟩ => ⟨he, b1.trans (b.mono b1.size)⟩
  have HL : Hid (∀ w1, Below W0.heap.size W0 w1 → Below w.heap.size w w1) := fun w1 b1 => hb0.trans (b1.mono hb0.size)
  have n1 : ¬ 9223372036854775807 < 1 + I.size := by omega
  have n2 : ¬ 9223372036854775807 < 1 + I.size + 1 := by omega
  have n3 : ¬ 9223372036854775807 < 1 + I.size + 2 := by omega
  have n4 : ¬ 9223372036854775807 < 1 + I.size + 1 + J.size := by omega
  have n5 : ¬ 9223372036854775807 < 1 + I.size + 1 + J.size + 1 := by omega
  have n6 : ¬ 9223372036854775807 < 1 + I.size + 1 + 1 := by omega
  have n7 : ¬ 9223372036854775807 < 1 + I.size + 2 + 1 := by omega
  have n8 : ¬ 9223372036854775807 < 1 + I.size + 1 + J.size + 1 + 1 := by omega
  have HLZ : Hid (d.lz = false) := hlz
  obtain ⟨e0, e1, e2, e3, e4, e5, e6, e7, e8⟩ := HCS.out W0 (Below.refl _ _)
  simp only [Nat.zero_add] at e0 e1 e2 e3 e4 e5 e6 e7 e8
  have b0 : Below W0.heap.size W0 W0 := Below.refl _ _
  have HKS : Hid (∀ w2, Below W0.heap.size W0 w2 → (w2.cell? ⟨w.heap.size, 3, none⟩ = some (.int .i64 d.mn) ∧ w2.cell? ⟨w.heap.size, 4, none⟩ = some (.int .i64 d.mx)) ∧ Below W0.heap.size W0 w2) := fun w2 b => by
    have h := HCS.out w2 b
    have h3 := h.c3
    have h4 := h.c4
    simp only [Nat.zero_add] at h3 h4
    exact ⟨⟨h3, h4⟩, b⟩
  clear hI hJ hW0 hb0 hlz
  go_enter Tryz.func61, Tryz.ntmps61
  go_upto_region 1 with fail
  rw [← HW0.out]
  clear e0 e1 e2 e3 e4 e5 e6 e7 e8
  go_region_held3 (fun w2 => (w2.cell? ⟨w.heap.size, 3, none⟩ = some (.int .i64 d.mn) ∧ w2.cell? ⟨w.heap.size, 4, none⟩ = some (.int .i64 d.mx)) ∧ Below W0.heap.size W0 w2) (first | exact HKS.out _ (by assumption) | exact HKS.out _ (Below.drew (by assumption))) (first | (go_at_call 78; go_fit (HI.out _ (by assumption)); rintro e w1 ⟨rfl, b1⟩) | (go_at_call 78; go_fit (HI.out _ (Below.drew (by assumption))); rintro e w1 ⟨rfl, b1⟩) | (go_at_call 78; go_fit (HJ.out _ (by assumption)); rintro e w2 ⟨rfl, b2⟩) | (go_at_call 78; go_fit (HJ.out _ (Below.drew (by assumption))); rintro e w2 ⟨rfl, b2⟩))
  obtain ⟨r0, r1, r2, r3, r4, r5, r6, r7, r8⟩ := HCS.out w2 b2
  simp only [Nat.zero_add] at r0 r1 r2 r3 r4 r5 r6 r7 r8
  all_goals
    rw [HLZ.out] at r5
    go_wp2_with (go_at_call 78; go_fit (HI.out _ b2); rintro e w3 ⟨rfl, b3⟩; obtain ⟨s0, s1, s2, s3, s4, s5, s6, s7, s8⟩ := HCS.out w3 b3; simp only [Nat.zero_add] at s0 s1 s2 s3 s4 s5 s6 s7 s8; rw [HLZ.out] at s5)
    go_ret
    exact ⟨by simp [app_nil], HL.out _ b3⟩

set_option maxHeartbeats 4000000 in
set_option maxRecDepth 100000 in
theorem rt_11_true (d : Nd) (w : World) (I J : ByteArray) (hI9 : I.size ≤ 21) (hJ9 : J.size ≤ 21) (hlz : d.lz = true) (x0 : (d.mn == 0) = false) (x1 : (d.mn == 1) = true) (y0 : (d.mx == -1) = false) (_y1 : (d.mx == 1) = true) (z : (d.mx == d.mn) = true)
    (hI : ∀ w1, Below w.heap.size w w1 → Calls Tryz.prog 78 #[.int .i64 d.mn] w1 fun e w' => e = .returned (.string I) ∧ Below w1.heap.size w1 w')
    (hJ : ∀ w1, Below w.heap.size w w1 → Calls Tryz.prog 78 #[.int .i64 d.mx] w1 fun e w' => e = .returned (.string J) ∧ Below w1.heap.size w1 w') :
    Calls Tryz.prog 61 #[ndV d] w fun e w' => e = .returned (.string ((((⟨#[123]⟩ : ByteArray) ++ I) ++ ⟨#[125]⟩ : ByteArray) ++ (⟨#[63]⟩ : ByteArray))) ∧ Below w.heap.size w w' := by
  have hb0 : Below w.heap.size w (w.alloc (ndX d)) := (Below.refl _ w).alloc (Nat.le_refl _) _
  obtain ⟨W0, hW0⟩ : ∃ W0, W0 = w.alloc (ndX d) := ⟨_, rfl⟩
  have HCS : Hid (∀ w1, Below W0.heap.size W0 w1 → Cs w1 w.heap.size 0 d) := fun w1 b1 => by rw [hW0] at b1; exact ndX_cells (w := w) d b1
  have HW0 : Hid (W0 = w.alloc (ndX d)) := hW0
  rw [← hW0] at hb0
  have HI : Hid (∀ w1, Below W0.heap.size W0 w1 → Calls Tryz.prog 78 #[.int .i64 d.mn] w1 fun e w' => e = .returned (.string I) ∧ Below W0.heap.size W0 w') := fun w1 b1 => (hI w1 (hb0.trans (b1.mono hb0.size))).mono fun _ _ ⟨he, b⟩ => ⟨he, b1.trans (b.mono b1.size)⟩
  have HJ : Hid (∀ w1, Below W0.heap.size W0 w1 → Calls Tryz.prog 78 #[.int .i64 d.mx] w1 fun e w' => e = .returned (.string J) ∧ Below W0.heap.size W0 w') := fun w1 b1 => (hJ w1 (hb0.trans (b1.mono hb0.size))).mono fun _ _ ⟨he, b⟩ => ⟨he, b1.trans (b.mono b1.size)⟩
  have HL : Hid (∀ w1, Below W0.heap.size W0 w1 → Below w.heap.size w w1) := fun w1 b1 => hb0.trans (b1.mono hb0.size)
  have n1 : ¬ 9223372036854775807 < 1 + I.size := by omega
  have n2 : ¬ 9223372036854775807 < 1 + I.size + 1 := by omega
  have n3 : ¬ 9223372036854775807 < 1 + I.size + 2 := by omega
  have n4 : ¬ 9223372036854775807 < 1 + I.size + 1 + J.size := by omega
  have n5 : ¬ 9223372036854775807 < 1 + I.size + 1 + J.size + 1 := by omega
  have n6 : ¬ 9223372036854775807 < 1 + I.size + 1 + 1 := by omega
  have n7 : ¬ 9223372036854775807 < 1 + I.size + 2 + 1 := by omega
  have n8 : ¬ 9223372036854775807 < 1 + I.size + 1 + J.size + 1 + 1 := by omega
  have HLZ : Hid (d.lz = true) := hlz
  obtain ⟨e0, e1, e2, e3, e4, e5, e6, e7, e8⟩ := HCS.out W0 (Below.refl _ _)
  simp only [Nat.zero_add] at e0 e1 e2 e3 e4 e5 e6 e7 e8
  have b0 : Below W0.heap.size W0 W0 := Below.refl _ _
  have HKS : Hid (∀ w2, Below W0.heap.size W0 w2 → (w2.cell? ⟨w.heap.size, 3, none⟩ = some (.int .i64 d.mn) ∧ w2.cell? ⟨w.heap.size, 4, none⟩ = some (.int .i64 d.mx)) ∧ Below W0.heap.size W0 w2) := fun w2 b => by
    have h := HCS.out w2 b
    have h3 := h.c3
    have h4 := h.c4
    simp only [Nat.zero_add] at h3 h4
    exact ⟨⟨h3, h4⟩, b⟩
  clear hI hJ hW0 hb0 hlz
  go_enter Tryz.func61, Tryz.ntmps61
  go_upto_region 1 with fail
  rw [← HW0.out]
  clear e0 e1 e2 e3 e4 e5 e6 e7 e8
  go_region_held3 (fun w2 => (w2.cell? ⟨w.heap.size, 3, none⟩ = some (.int .i64 d.mn) ∧ w2.cell? ⟨w.heap.size, 4, none⟩ = some (.int .i64 d.mx)) ∧ Below W0.heap.size W0 w2) (first | exact HKS.out _ (by assumption) | exact HKS.out _ (Below.drew (by assumption))) (first | (go_at_call 78; go_fit (HI.out _ (by assumption)); rintro e w1 ⟨rfl, b1⟩) | (go_at_call 78; go_fit (HI.out _ (Below.drew (by assumption))); rintro e w1 ⟨rfl, b1⟩) | (go_at_call 78; go_fit (HJ.out _ (by assumption)); rintro e w2 ⟨rfl, b2⟩) | (go_at_call 78; go_fit (HJ.out _ (Below.drew (by assumption))); rintro e w2 ⟨rfl, b2⟩))
  obtain ⟨r0, r1, r2, r3, r4, r5, r6, r7, r8⟩ := HCS.out w2 b2
  simp only [Nat.zero_add] at r0 r1 r2 r3 r4 r5 r6 r7 r8
  all_goals
    rw [HLZ.out] at r5
    go_wp2_with (go_at_call 78; go_fit (HI.out _ b2); rintro e w3 ⟨rfl, b3⟩; obtain ⟨s0, s1, s2, s3, s4, s5, s6, s7, s8⟩ := HCS.out w3 b3; simp only [Nat.zero_add] at s0 s1 s2 s3 s4 s5 s6 s7 s8; rw [HLZ.out] at s5)
    go_ret
    exact ⟨by simp, HL.out _ b3⟩

set_option maxHeartbeats 4000000 in
set_option maxRecDepth 100000 in
theorem rt_11_false (d : Nd) (w : World) (I J : ByteArray) (hI9 : I.size ≤ 21) (hJ9 : J.size ≤ 21) (hlz : d.lz = false) (x0 : (d.mn == 0) = false) (x1 : (d.mn == 1) = true) (y0 : (d.mx == -1) = false) (_y1 : (d.mx == 1) = true) (z : (d.mx == d.mn) = true)
    (hI : ∀ w1, Below w.heap.size w w1 → Calls Tryz.prog 78 #[.int .i64 d.mn] w1 fun e w' => e = .returned (.string I) ∧ Below w1.heap.size w1 w')
    (hJ : ∀ w1, Below w.heap.size w w1 → Calls Tryz.prog 78 #[.int .i64 d.mx] w1 fun e w' => e = .returned (.string J) ∧ Below w1.heap.size w1 w') :
    Calls Tryz.prog 61 #[ndV d] w fun e w' => e = .returned (.string ((((⟨#[123]⟩ : ByteArray) ++ I) ++ ⟨#[125]⟩ : ByteArray) ++ (⟨#[]⟩ : ByteArray))) ∧ Below w.heap.size w w' := by
  have hb0 : Below w.heap.size w (w.alloc (ndX d)) := (Below.refl _ w).alloc (Nat.le_refl _) _
  obtain ⟨W0, hW0⟩ : ∃ W0, W0 = w.alloc (ndX d) := ⟨_, rfl⟩
  have HCS : Hid (∀ w1, Below W0.heap.size W0 w1 → Cs w1 w.heap.size 0 d) := fun w1 b1 => by rw [hW0] at b1; exact ndX_cells (w := w) d b1
  have HW0 : Hid (W0 = w.alloc (ndX d)) := hW0
  rw [← hW0] at hb0
  have HI : Hid (∀ w1, Below W0.heap.size W0 w1 → Calls Tryz.prog 78 #[.int .i64 d.mn] w1 fun e w' => e = .returned (.string I) ∧ Below W0.heap.size W0 w') := fun w1 b1 => (hI w1 (hb0.trans (b1.mono hb0.size))).mono fun _ _ ⟨he, b⟩ => ⟨he, b1.trans (b.mono b1.size)⟩
  have HJ : Hid (∀ w1, Below W0.heap.size W0 w1 → Calls Tryz.prog 78 #[.int .i64 d.mx] w1 fun e w' => e = .returned (.string J) ∧ Below W0.heap.size W0 w') := fun w1 b1 => (hJ w1 (hb0.trans (b1.mono hb0.size))).mono fun _ _ ⟨he, b⟩ => ⟨he, b1.trans (b.mono b1.size)⟩
  have HL : Hid (∀ w1, Below W0.heap.size W0 w1 → Below w.heap.size w w1) := fun w1 b1 => hb0.trans (b1.mono hb0.size)
  have n1 : ¬ 9223372036854775807 < 1 + I.size := by omega
  have n2 : ¬ 9223372036854775807 < 1 + I.size + 1 := by omega
  have n3 : ¬ 9223372036854775807 < 1 + I.size + 2 := by omega
  have n4 : ¬ 9223372036854775807 < 1 + I.size + 1 + J.size := by omega
  have n5 : ¬ 9223372036854775807 < 1 + I.size + 1 + J.size + 1 := by omega
  have n6 : ¬ 9223372036854775807 < 1 + I.size + 1 + 1 := by omega
  have n7 : ¬ 9223372036854775807 < 1 + I.size + 2 + 1 := by omega
  have n8 : ¬ 9223372036854775807 < 1 + I.size + 1 + J.size + 1 + 1 := by omega
  have HLZ : Hid (d.lz = false) := hlz
  obtain ⟨e0, e1, e2, e3, e4, e5, e6, e7, e8⟩ := HCS.out W0 (Below.refl _ _)
  simp only [Nat.zero_add] at e0 e1 e2 e3 e4 e5 e6 e7 e8
  have b0 : Below W0.heap.size W0 W0 := Below.refl _ _
  have HKS : Hid (∀ w2, Below W0.heap.size W0 w2 → (w2.cell? ⟨w.heap.size, 3, none⟩ = some (.int .i64 d.mn) ∧ w2.cell? ⟨w.heap.size, 4, none⟩ = some (.int .i64 d.mx)) ∧ Below W0.heap.size W0 w2) := fun w2 b => by
    have h := HCS.out w2 b
    have h3 := h.c3
    have h4 := h.c4
    simp only [Nat.zero_add] at h3 h4
    exact ⟨⟨h3, h4⟩, b⟩
  clear hI hJ hW0 hb0 hlz
  go_enter Tryz.func61, Tryz.ntmps61
  go_upto_region 1 with fail
  rw [← HW0.out]
  clear e0 e1 e2 e3 e4 e5 e6 e7 e8
  go_region_held3 (fun w2 => (w2.cell? ⟨w.heap.size, 3, none⟩ = some (.int .i64 d.mn) ∧ w2.cell? ⟨w.heap.size, 4, none⟩ = some (.int .i64 d.mx)) ∧ Below W0.heap.size W0 w2) (first | exact HKS.out _ (by assumption) | exact HKS.out _ (Below.drew (by assumption))) (first | (go_at_call 78; go_fit (HI.out _ (by assumption)); rintro e w1 ⟨rfl, b1⟩) | (go_at_call 78; go_fit (HI.out _ (Below.drew (by assumption))); rintro e w1 ⟨rfl, b1⟩) | (go_at_call 78; go_fit (HJ.out _ (by assumption)); rintro e w2 ⟨rfl, b2⟩) | (go_at_call 78; go_fit (HJ.out _ (Below.drew (by assumption))); rintro e w2 ⟨rfl, b2⟩))
  obtain ⟨r0, r1, r2, r3, r4, r5, r6, r7, r8⟩ := HCS.out w2 b2
  simp only [Nat.zero_add] at r0 r1 r2 r3 r4 r5 r6 r7 r8
  all_goals
    rw [HLZ.out] at r5
    go_wp2_with (go_at_call 78; go_fit (HI.out _ b2); rintro e w3 ⟨rfl, b3⟩; obtain ⟨s0, s1, s2, s3, s4, s5, s6, s7, s8⟩ := HCS.out w3 b3; simp only [Nat.zero_add] at s0 s1 s2 s3 s4 s5 s6 s7 s8; rw [HLZ.out] at s5)
    go_ret
    exact ⟨by simp [app_nil], HL.out _ b3⟩

set_option maxHeartbeats 4000000 in
set_option maxRecDepth 100000 in
theorem rt_aa_true (d : Nd) (w : World) (I J : ByteArray) (hI9 : I.size ≤ 21) (hJ9 : J.size ≤ 21) (hlz : d.lz = true) (x0 : (d.mn == 0) = false) (x1 : (d.mn == 1) = false) (y0 : (d.mx == -1) = false) (_y1 : (d.mx == 1) = false) (z : (d.mx == d.mn) = true)
    (hI : ∀ w1, Below w.heap.size w w1 → Calls Tryz.prog 78 #[.int .i64 d.mn] w1 fun e w' => e = .returned (.string I) ∧ Below w1.heap.size w1 w')
    (hJ : ∀ w1, Below w.heap.size w w1 → Calls Tryz.prog 78 #[.int .i64 d.mx] w1 fun e w' => e = .returned (.string J) ∧ Below w1.heap.size w1 w') :
    Calls Tryz.prog 61 #[ndV d] w fun e w' => e = .returned (.string ((((⟨#[123]⟩ : ByteArray) ++ I) ++ ⟨#[125]⟩ : ByteArray) ++ (⟨#[63]⟩ : ByteArray))) ∧ Below w.heap.size w w' := by
  have hb0 : Below w.heap.size w (w.alloc (ndX d)) := (Below.refl _ w).alloc (Nat.le_refl _) _
  obtain ⟨W0, hW0⟩ : ∃ W0, W0 = w.alloc (ndX d) := ⟨_, rfl⟩
  have HCS : Hid (∀ w1, Below W0.heap.size W0 w1 → Cs w1 w.heap.size 0 d) := fun w1 b1 => by rw [hW0] at b1; exact ndX_cells (w := w) d b1
  have HW0 : Hid (W0 = w.alloc (ndX d)) := hW0
  rw [← hW0] at hb0
  have HI : Hid (∀ w1, Below W0.heap.size W0 w1 → Calls Tryz.prog 78 #[.int .i64 d.mn] w1 fun e w' => e = .returned (.string I) ∧ Below W0.heap.size W0 w') := fun w1 b1 => (hI w1 (hb0.trans (b1.mono hb0.size))).mono fun _ _ ⟨he, b⟩ => ⟨he, b1.trans (b.mono b1.size)⟩
  have HJ : Hid (∀ w1, Below W0.heap.size W0 w1 → Calls Tryz.prog 78 #[.int .i64 d.mx] w1 fun e w' => e = .returned (.string J) ∧ Below W0.heap.size W0 w') := fun w1 b1 => (hJ w1 (hb0.trans (b1.mono hb0.size))).mono fun _ _ ⟨he, b⟩ => ⟨he, b1.trans (b.mono b1.size)⟩
  have HL : Hid (∀ w1, Below W0.heap.size W0 w1 → Below w.heap.size w w1) := fun w1 b1 => hb0.trans (b1.mono hb0.size)
  have n1 : ¬ 9223372036854775807 < 1 + I.size := by omega
  have n2 : ¬ 9223372036854775807 < 1 + I.size + 1 := by omega
  have n3 : ¬ 9223372036854775807 < 1 + I.size + 2 := by omega
  have n4 : ¬ 9223372036854775807 < 1 + I.size + 1 + J.size := by omega
  have n5 : ¬ 9223372036854775807 < 1 + I.size + 1 + J.size + 1 := by omega
  have n6 : ¬ 9223372036854775807 < 1 + I.size + 1 + 1 := by omega
  have n7 : ¬ 9223372036854775807 < 1 + I.size + 2 + 1 := by omega
  have n8 : ¬ 9223372036854775807 < 1 + I.size + 1 + J.size + 1 + 1 := by omega
  have HLZ : Hid (d.lz = true) := hlz
  obtain ⟨e0, e1, e2, e3, e4, e5, e6, e7, e8⟩ := HCS.out W0 (Below.refl _ _)
  simp only [Nat.zero_add] at e0 e1 e2 e3 e4 e5 e6 e7 e8
  have b0 : Below W0.heap.size W0 W0 := Below.refl _ _
  have HKS : Hid (∀ w2, Below W0.heap.size W0 w2 → (w2.cell? ⟨w.heap.size, 3, none⟩ = some (.int .i64 d.mn) ∧ w2.cell? ⟨w.heap.size, 4, none⟩ = some (.int .i64 d.mx)) ∧ Below W0.heap.size W0 w2) := fun w2 b => by
    have h := HCS.out w2 b
    have h3 := h.c3
    have h4 := h.c4
    simp only [Nat.zero_add] at h3 h4
    exact ⟨⟨h3, h4⟩, b⟩
  clear hI hJ hW0 hb0 hlz
  go_enter Tryz.func61, Tryz.ntmps61
  go_upto_region 1 with fail
  rw [← HW0.out]
  clear e0 e1 e2 e3 e4 e5 e6 e7 e8
  go_region_held3 (fun w2 => (w2.cell? ⟨w.heap.size, 3, none⟩ = some (.int .i64 d.mn) ∧ w2.cell? ⟨w.heap.size, 4, none⟩ = some (.int .i64 d.mx)) ∧ Below W0.heap.size W0 w2) (first | exact HKS.out _ (by assumption) | exact HKS.out _ (Below.drew (by assumption))) (first | (go_at_call 78; go_fit (HI.out _ (by assumption)); rintro e w1 ⟨rfl, b1⟩) | (go_at_call 78; go_fit (HI.out _ (Below.drew (by assumption))); rintro e w1 ⟨rfl, b1⟩) | (go_at_call 78; go_fit (HJ.out _ (by assumption)); rintro e w2 ⟨rfl, b2⟩) | (go_at_call 78; go_fit (HJ.out _ (Below.drew (by assumption))); rintro e w2 ⟨rfl, b2⟩))
  obtain ⟨r0, r1, r2, r3, r4, r5, r6, r7, r8⟩ := HCS.out w2 b2
  simp only [Nat.zero_add] at r0 r1 r2 r3 r4 r5 r6 r7 r8
  all_goals
    rw [HLZ.out] at r5
    go_wp2_with (go_at_call 78; go_fit (HI.out _ b2); rintro e w3 ⟨rfl, b3⟩; obtain ⟨s0, s1, s2, s3, s4, s5, s6, s7, s8⟩ := HCS.out w3 b3; simp only [Nat.zero_add] at s0 s1 s2 s3 s4 s5 s6 s7 s8; rw [HLZ.out] at s5)
    go_ret
    exact ⟨by simp, HL.out _ b3⟩

set_option maxHeartbeats 4000000 in
set_option maxRecDepth 100000 in
theorem rt_aa_false (d : Nd) (w : World) (I J : ByteArray) (hI9 : I.size ≤ 21) (hJ9 : J.size ≤ 21) (hlz : d.lz = false) (x0 : (d.mn == 0) = false) (x1 : (d.mn == 1) = false) (y0 : (d.mx == -1) = false) (_y1 : (d.mx == 1) = false) (z : (d.mx == d.mn) = true)
    (hI : ∀ w1, Below w.heap.size w w1 → Calls Tryz.prog 78 #[.int .i64 d.mn] w1 fun e w' => e = .returned (.string I) ∧ Below w1.heap.size w1 w')
    (hJ : ∀ w1, Below w.heap.size w w1 → Calls Tryz.prog 78 #[.int .i64 d.mx] w1 fun e w' => e = .returned (.string J) ∧ Below w1.heap.size w1 w') :
    Calls Tryz.prog 61 #[ndV d] w fun e w' => e = .returned (.string ((((⟨#[123]⟩ : ByteArray) ++ I) ++ ⟨#[125]⟩ : ByteArray) ++ (⟨#[]⟩ : ByteArray))) ∧ Below w.heap.size w w' := by
  have hb0 : Below w.heap.size w (w.alloc (ndX d)) := (Below.refl _ w).alloc (Nat.le_refl _) _
  obtain ⟨W0, hW0⟩ : ∃ W0, W0 = w.alloc (ndX d) := ⟨_, rfl⟩
  have HCS : Hid (∀ w1, Below W0.heap.size W0 w1 → Cs w1 w.heap.size 0 d) := fun w1 b1 => by rw [hW0] at b1; exact ndX_cells (w := w) d b1
  have HW0 : Hid (W0 = w.alloc (ndX d)) := hW0
  rw [← hW0] at hb0
  have HI : Hid (∀ w1, Below W0.heap.size W0 w1 → Calls Tryz.prog 78 #[.int .i64 d.mn] w1 fun e w' => e = .returned (.string I) ∧ Below W0.heap.size W0 w') := fun w1 b1 => (hI w1 (hb0.trans (b1.mono hb0.size))).mono fun _ _ ⟨he, b⟩ => ⟨he, b1.trans (b.mono b1.size)⟩
  have HJ : Hid (∀ w1, Below W0.heap.size W0 w1 → Calls Tryz.prog 78 #[.int .i64 d.mx] w1 fun e w' => e = .returned (.string J) ∧ Below W0.heap.size W0 w') := fun w1 b1 => (hJ w1 (hb0.trans (b1.mono hb0.size))).mono fun _ _ ⟨he, b⟩ => ⟨he, b1.trans (b.mono b1.size)⟩
  have HL : Hid (∀ w1, Below W0.heap.size W0 w1 → Below w.heap.size w w1) := fun w1 b1 => hb0.trans (b1.mono hb0.size)
  have n1 : ¬ 9223372036854775807 < 1 + I.size := by omega
  have n2 : ¬ 9223372036854775807 < 1 + I.size + 1 := by omega
  have n3 : ¬ 9223372036854775807 < 1 + I.size + 2 := by omega
  have n4 : ¬ 9223372036854775807 < 1 + I.size + 1 + J.size := by omega
  have n5 : ¬ 9223372036854775807 < 1 + I.size + 1 + J.size + 1 := by omega
  have n6 : ¬ 9223372036854775807 < 1 + I.size + 1 + 1 := by omega
  have n7 : ¬ 9223372036854775807 < 1 + I.size + 2 + 1 := by omega
  have n8 : ¬ 9223372036854775807 < 1 + I.size + 1 + J.size + 1 + 1 := by omega
  have HLZ : Hid (d.lz = false) := hlz
  obtain ⟨e0, e1, e2, e3, e4, e5, e6, e7, e8⟩ := HCS.out W0 (Below.refl _ _)
  simp only [Nat.zero_add] at e0 e1 e2 e3 e4 e5 e6 e7 e8
  have b0 : Below W0.heap.size W0 W0 := Below.refl _ _
  have HKS : Hid (∀ w2, Below W0.heap.size W0 w2 → (w2.cell? ⟨w.heap.size, 3, none⟩ = some (.int .i64 d.mn) ∧ w2.cell? ⟨w.heap.size, 4, none⟩ = some (.int .i64 d.mx)) ∧ Below W0.heap.size W0 w2) := fun w2 b => by
    have h := HCS.out w2 b
    have h3 := h.c3
    have h4 := h.c4
    simp only [Nat.zero_add] at h3 h4
    exact ⟨⟨h3, h4⟩, b⟩
  clear hI hJ hW0 hb0 hlz
  go_enter Tryz.func61, Tryz.ntmps61
  go_upto_region 1 with fail
  rw [← HW0.out]
  clear e0 e1 e2 e3 e4 e5 e6 e7 e8
  go_region_held3 (fun w2 => (w2.cell? ⟨w.heap.size, 3, none⟩ = some (.int .i64 d.mn) ∧ w2.cell? ⟨w.heap.size, 4, none⟩ = some (.int .i64 d.mx)) ∧ Below W0.heap.size W0 w2) (first | exact HKS.out _ (by assumption) | exact HKS.out _ (Below.drew (by assumption))) (first | (go_at_call 78; go_fit (HI.out _ (by assumption)); rintro e w1 ⟨rfl, b1⟩) | (go_at_call 78; go_fit (HI.out _ (Below.drew (by assumption))); rintro e w1 ⟨rfl, b1⟩) | (go_at_call 78; go_fit (HJ.out _ (by assumption)); rintro e w2 ⟨rfl, b2⟩) | (go_at_call 78; go_fit (HJ.out _ (Below.drew (by assumption))); rintro e w2 ⟨rfl, b2⟩))
  obtain ⟨r0, r1, r2, r3, r4, r5, r6, r7, r8⟩ := HCS.out w2 b2
  simp only [Nat.zero_add] at r0 r1 r2 r3 r4 r5 r6 r7 r8
  all_goals
    rw [HLZ.out] at r5
    go_wp2_with (go_at_call 78; go_fit (HI.out _ b2); rintro e w3 ⟨rfl, b3⟩; obtain ⟨s0, s1, s2, s3, s4, s5, s6, s7, s8⟩ := HCS.out w3 b3; simp only [Nat.zero_add] at s0 s1 s2 s3 s4 s5 s6 s7 s8; rw [HLZ.out] at s5)
    go_ret
    exact ⟨by simp [app_nil], HL.out _ b3⟩

set_option maxHeartbeats 4000000 in
set_option maxRecDepth 100000 in
theorem rt_am_true (d : Nd) (w : World) (I J : ByteArray) (hI9 : I.size ≤ 21) (hJ9 : J.size ≤ 21) (hlz : d.lz = true) (x0 : (d.mn == 0) = false) (x1 : (d.mn == 1) = false) (y0 : (d.mx == -1) = true) (_y1 : (d.mx == 1) = false) (_z : (d.mx == d.mn) = false)
    (hI : ∀ w1, Below w.heap.size w w1 → Calls Tryz.prog 78 #[.int .i64 d.mn] w1 fun e w' => e = .returned (.string I) ∧ Below w1.heap.size w1 w')
    (hJ : ∀ w1, Below w.heap.size w w1 → Calls Tryz.prog 78 #[.int .i64 d.mx] w1 fun e w' => e = .returned (.string J) ∧ Below w1.heap.size w1 w') :
    Calls Tryz.prog 61 #[ndV d] w fun e w' => e = .returned (.string ((((⟨#[123]⟩ : ByteArray) ++ I) ++ ⟨#[44, 125]⟩ : ByteArray) ++ (⟨#[63]⟩ : ByteArray))) ∧ Below w.heap.size w w' := by
  have hb0 : Below w.heap.size w (w.alloc (ndX d)) := (Below.refl _ w).alloc (Nat.le_refl _) _
  obtain ⟨W0, hW0⟩ : ∃ W0, W0 = w.alloc (ndX d) := ⟨_, rfl⟩
  have HCS : Hid (∀ w1, Below W0.heap.size W0 w1 → Cs w1 w.heap.size 0 d) := fun w1 b1 => by rw [hW0] at b1; exact ndX_cells (w := w) d b1
  have HW0 : Hid (W0 = w.alloc (ndX d)) := hW0
  rw [← hW0] at hb0
  have HI : Hid (∀ w1, Below W0.heap.size W0 w1 → Calls Tryz.prog 78 #[.int .i64 d.mn] w1 fun e w' => e = .returned (.string I) ∧ Below W0.heap.size W0 w') := fun w1 b1 => (hI w1 (hb0.trans (b1.mono hb0.size))).mono fun _ _ ⟨he, b⟩ => ⟨he, b1.trans (b.mono b1.size)⟩
  have HJ : Hid (∀ w1, Below W0.heap.size W0 w1 → Calls Tryz.prog 78 #[.int .i64 d.mx] w1 fun e w' => e = .returned (.string J) ∧ Below W0.heap.size W0 w') := fun w1 b1 => (hJ w1 (hb0.trans (b1.mono hb0.size))).mono fun _ _ ⟨he, b⟩ => ⟨he, b1.trans (b.mono b1.size)⟩
  have HL : Hid (∀ w1, Below W0.heap.size W0 w1 → Below w.heap.size w w1) := fun w1 b1 => hb0.trans (b1.mono hb0.size)
  have n1 : ¬ 9223372036854775807 < 1 + I.size := by omega
  have n2 : ¬ 9223372036854775807 < 1 + I.size + 1 := by omega
  have n3 : ¬ 9223372036854775807 < 1 + I.size + 2 := by omega
  have n4 : ¬ 9223372036854775807 < 1 + I.size + 1 + J.size := by omega
  have n5 : ¬ 9223372036854775807 < 1 + I.size + 1 + J.size + 1 := by omega
  have n6 : ¬ 9223372036854775807 < 1 + I.size + 1 + 1 := by omega
  have n7 : ¬ 9223372036854775807 < 1 + I.size + 2 + 1 := by omega
  have n8 : ¬ 9223372036854775807 < 1 + I.size + 1 + J.size + 1 + 1 := by omega
  have HLZ : Hid (d.lz = true) := hlz
  obtain ⟨e0, e1, e2, e3, e4, e5, e6, e7, e8⟩ := HCS.out W0 (Below.refl _ _)
  simp only [Nat.zero_add] at e0 e1 e2 e3 e4 e5 e6 e7 e8
  have b0 : Below W0.heap.size W0 W0 := Below.refl _ _
  have HKS : Hid (∀ w2, Below W0.heap.size W0 w2 → (w2.cell? ⟨w.heap.size, 3, none⟩ = some (.int .i64 d.mn) ∧ w2.cell? ⟨w.heap.size, 4, none⟩ = some (.int .i64 d.mx)) ∧ Below W0.heap.size W0 w2) := fun w2 b => by
    have h := HCS.out w2 b
    have h3 := h.c3
    have h4 := h.c4
    simp only [Nat.zero_add] at h3 h4
    exact ⟨⟨h3, h4⟩, b⟩
  clear hI hJ hW0 hb0 hlz
  go_enter Tryz.func61, Tryz.ntmps61
  go_upto_region 1 with fail
  rw [← HW0.out]
  clear e0 e1 e2 e3 e4 e5 e6 e7 e8
  go_region_held3 (fun w2 => (w2.cell? ⟨w.heap.size, 3, none⟩ = some (.int .i64 d.mn) ∧ w2.cell? ⟨w.heap.size, 4, none⟩ = some (.int .i64 d.mx)) ∧ Below W0.heap.size W0 w2) (first | exact HKS.out _ (by assumption) | exact HKS.out _ (Below.drew (by assumption))) (first | (go_at_call 78; go_fit (HI.out _ (by assumption)); rintro e w1 ⟨rfl, b1⟩) | (go_at_call 78; go_fit (HI.out _ (Below.drew (by assumption))); rintro e w1 ⟨rfl, b1⟩) | (go_at_call 78; go_fit (HJ.out _ (by assumption)); rintro e w2 ⟨rfl, b2⟩) | (go_at_call 78; go_fit (HJ.out _ (Below.drew (by assumption))); rintro e w2 ⟨rfl, b2⟩))
  obtain ⟨r0, r1, r2, r3, r4, r5, r6, r7, r8⟩ := HCS.out w2 b2
  simp only [Nat.zero_add] at r0 r1 r2 r3 r4 r5 r6 r7 r8
  all_goals
    rw [HLZ.out] at r5
    go_wp2_with (go_at_call 78; go_fit (HI.out _ b2); rintro e w3 ⟨rfl, b3⟩; obtain ⟨s0, s1, s2, s3, s4, s5, s6, s7, s8⟩ := HCS.out w3 b3; simp only [Nat.zero_add] at s0 s1 s2 s3 s4 s5 s6 s7 s8; rw [HLZ.out] at s5)
    go_ret
    exact ⟨by simp, HL.out _ b3⟩

set_option maxHeartbeats 4000000 in
set_option maxRecDepth 100000 in
theorem rt_am_false (d : Nd) (w : World) (I J : ByteArray) (hI9 : I.size ≤ 21) (hJ9 : J.size ≤ 21) (hlz : d.lz = false) (x0 : (d.mn == 0) = false) (x1 : (d.mn == 1) = false) (y0 : (d.mx == -1) = true) (_y1 : (d.mx == 1) = false) (_z : (d.mx == d.mn) = false)
    (hI : ∀ w1, Below w.heap.size w w1 → Calls Tryz.prog 78 #[.int .i64 d.mn] w1 fun e w' => e = .returned (.string I) ∧ Below w1.heap.size w1 w')
    (hJ : ∀ w1, Below w.heap.size w w1 → Calls Tryz.prog 78 #[.int .i64 d.mx] w1 fun e w' => e = .returned (.string J) ∧ Below w1.heap.size w1 w') :
    Calls Tryz.prog 61 #[ndV d] w fun e w' => e = .returned (.string ((((⟨#[123]⟩ : ByteArray) ++ I) ++ ⟨#[44, 125]⟩ : ByteArray) ++ (⟨#[]⟩ : ByteArray))) ∧ Below w.heap.size w w' := by
  have hb0 : Below w.heap.size w (w.alloc (ndX d)) := (Below.refl _ w).alloc (Nat.le_refl _) _
  obtain ⟨W0, hW0⟩ : ∃ W0, W0 = w.alloc (ndX d) := ⟨_, rfl⟩
  have HCS : Hid (∀ w1, Below W0.heap.size W0 w1 → Cs w1 w.heap.size 0 d) := fun w1 b1 => by rw [hW0] at b1; exact ndX_cells (w := w) d b1
  have HW0 : Hid (W0 = w.alloc (ndX d)) := hW0
  rw [← hW0] at hb0
  have HI : Hid (∀ w1, Below W0.heap.size W0 w1 → Calls Tryz.prog 78 #[.int .i64 d.mn] w1 fun e w' => e = .returned (.string I) ∧ Below W0.heap.size W0 w') := fun w1 b1 => (hI w1 (hb0.trans (b1.mono hb0.size))).mono fun _ _ ⟨he, b⟩ => ⟨he, b1.trans (b.mono b1.size)⟩
  have HJ : Hid (∀ w1, Below W0.heap.size W0 w1 → Calls Tryz.prog 78 #[.int .i64 d.mx] w1 fun e w' => e = .returned (.string J) ∧ Below W0.heap.size W0 w') := fun w1 b1 => (hJ w1 (hb0.trans (b1.mono hb0.size))).mono fun _ _ ⟨he, b⟩ => ⟨he, b1.trans (b.mono b1.size)⟩
  have HL : Hid (∀ w1, Below W0.heap.size W0 w1 → Below w.heap.size w w1) := fun w1 b1 => hb0.trans (b1.mono hb0.size)
  have n1 : ¬ 9223372036854775807 < 1 + I.size := by omega
  have n2 : ¬ 9223372036854775807 < 1 + I.size + 1 := by omega
  have n3 : ¬ 9223372036854775807 < 1 + I.size + 2 := by omega
  have n4 : ¬ 9223372036854775807 < 1 + I.size + 1 + J.size := by omega
  have n5 : ¬ 9223372036854775807 < 1 + I.size + 1 + J.size + 1 := by omega
  have n6 : ¬ 9223372036854775807 < 1 + I.size + 1 + 1 := by omega
  have n7 : ¬ 9223372036854775807 < 1 + I.size + 2 + 1 := by omega
  have n8 : ¬ 9223372036854775807 < 1 + I.size + 1 + J.size + 1 + 1 := by omega
  have HLZ : Hid (d.lz = false) := hlz
  obtain ⟨e0, e1, e2, e3, e4, e5, e6, e7, e8⟩ := HCS.out W0 (Below.refl _ _)
  simp only [Nat.zero_add] at e0 e1 e2 e3 e4 e5 e6 e7 e8
  have b0 : Below W0.heap.size W0 W0 := Below.refl _ _
  have HKS : Hid (∀ w2, Below W0.heap.size W0 w2 → (w2.cell? ⟨w.heap.size, 3, none⟩ = some (.int .i64 d.mn) ∧ w2.cell? ⟨w.heap.size, 4, none⟩ = some (.int .i64 d.mx)) ∧ Below W0.heap.size W0 w2) := fun w2 b => by
    have h := HCS.out w2 b
    have h3 := h.c3
    have h4 := h.c4
    simp only [Nat.zero_add] at h3 h4
    exact ⟨⟨h3, h4⟩, b⟩
  clear hI hJ hW0 hb0 hlz
  go_enter Tryz.func61, Tryz.ntmps61
  go_upto_region 1 with fail
  rw [← HW0.out]
  clear e0 e1 e2 e3 e4 e5 e6 e7 e8
  go_region_held3 (fun w2 => (w2.cell? ⟨w.heap.size, 3, none⟩ = some (.int .i64 d.mn) ∧ w2.cell? ⟨w.heap.size, 4, none⟩ = some (.int .i64 d.mx)) ∧ Below W0.heap.size W0 w2) (first | exact HKS.out _ (by assumption) | exact HKS.out _ (Below.drew (by assumption))) (first | (go_at_call 78; go_fit (HI.out _ (by assumption)); rintro e w1 ⟨rfl, b1⟩) | (go_at_call 78; go_fit (HI.out _ (Below.drew (by assumption))); rintro e w1 ⟨rfl, b1⟩) | (go_at_call 78; go_fit (HJ.out _ (by assumption)); rintro e w2 ⟨rfl, b2⟩) | (go_at_call 78; go_fit (HJ.out _ (Below.drew (by assumption))); rintro e w2 ⟨rfl, b2⟩))
  obtain ⟨r0, r1, r2, r3, r4, r5, r6, r7, r8⟩ := HCS.out w2 b2
  simp only [Nat.zero_add] at r0 r1 r2 r3 r4 r5 r6 r7 r8
  all_goals
    rw [HLZ.out] at r5
    go_wp2_with (go_at_call 78; go_fit (HI.out _ b2); rintro e w3 ⟨rfl, b3⟩; obtain ⟨s0, s1, s2, s3, s4, s5, s6, s7, s8⟩ := HCS.out w3 b3; simp only [Nat.zero_add] at s0 s1 s2 s3 s4 s5 s6 s7 s8; rw [HLZ.out] at s5)
    go_ret
    exact ⟨by simp [app_nil], HL.out _ b3⟩

set_option maxHeartbeats 4000000 in
set_option maxRecDepth 100000 in
theorem rt_0o_true (d : Nd) (w : World) (I J : ByteArray) (hI9 : I.size ≤ 21) (hJ9 : J.size ≤ 21) (hlz : d.lz = true) (x0 : (d.mn == 0) = true) (x1 : (d.mn == 1) = false) (y0 : (d.mx == -1) = false) (y1 : (d.mx == 1) = false) (z : (d.mx == d.mn) = false)
    (hI : ∀ w1, Below w.heap.size w w1 → Calls Tryz.prog 78 #[.int .i64 d.mn] w1 fun e w' => e = .returned (.string I) ∧ Below w1.heap.size w1 w')
    (hJ : ∀ w1, Below w.heap.size w w1 → Calls Tryz.prog 78 #[.int .i64 d.mx] w1 fun e w' => e = .returned (.string J) ∧ Below w1.heap.size w1 w') :
    Calls Tryz.prog 61 #[ndV d] w fun e w' => e = .returned (.string ((((((⟨#[123]⟩ : ByteArray) ++ I) ++ ⟨#[44]⟩) ++ J) ++ ⟨#[125]⟩ : ByteArray) ++ (⟨#[63]⟩ : ByteArray))) ∧ Below w.heap.size w w' := by
  have hb0 : Below w.heap.size w (w.alloc (ndX d)) := (Below.refl _ w).alloc (Nat.le_refl _) _
  obtain ⟨W0, hW0⟩ : ∃ W0, W0 = w.alloc (ndX d) := ⟨_, rfl⟩
  have HCS : Hid (∀ w1, Below W0.heap.size W0 w1 → Cs w1 w.heap.size 0 d) := fun w1 b1 => by rw [hW0] at b1; exact ndX_cells (w := w) d b1
  have HW0 : Hid (W0 = w.alloc (ndX d)) := hW0
  rw [← hW0] at hb0
  have HI : Hid (∀ w1, Below W0.heap.size W0 w1 → Calls Tryz.prog 78 #[.int .i64 d.mn] w1 fun e w' => e = .returned (.string I) ∧ Below W0.heap.size W0 w') := fun w1 b1 => (hI w1 (hb0.trans (b1.mono hb0.size))).mono fun _ _ ⟨he, b⟩ => ⟨he, b1.trans (b.mono b1.size)⟩
  have HJ : Hid (∀ w1, Below W0.heap.size W0 w1 → Calls Tryz.prog 78 #[.int .i64 d.mx] w1 fun e w' => e = .returned (.string J) ∧ Below W0.heap.size W0 w') := fun w1 b1 => (hJ w1 (hb0.trans (b1.mono hb0.size))).mono fun _ _ ⟨he, b⟩ => ⟨he, b1.trans (b.mono b1.size)⟩
  have HL : Hid (∀ w1, Below W0.heap.size W0 w1 → Below w.heap.size w w1) := fun w1 b1 => hb0.trans (b1.mono hb0.size)
  have n1 : ¬ 9223372036854775807 < 1 + I.size := by omega
  have n2 : ¬ 9223372036854775807 < 1 + I.size + 1 := by omega
  have n3 : ¬ 9223372036854775807 < 1 + I.size + 2 := by omega
  have n4 : ¬ 9223372036854775807 < 1 + I.size + 1 + J.size := by omega
  have n5 : ¬ 9223372036854775807 < 1 + I.size + 1 + J.size + 1 := by omega
  have n6 : ¬ 9223372036854775807 < 1 + I.size + 1 + 1 := by omega
  have n7 : ¬ 9223372036854775807 < 1 + I.size + 2 + 1 := by omega
  have n8 : ¬ 9223372036854775807 < 1 + I.size + 1 + J.size + 1 + 1 := by omega
  have HLZ : Hid (d.lz = true) := hlz
  obtain ⟨e0, e1, e2, e3, e4, e5, e6, e7, e8⟩ := HCS.out W0 (Below.refl _ _)
  simp only [Nat.zero_add] at e0 e1 e2 e3 e4 e5 e6 e7 e8
  have b0 : Below W0.heap.size W0 W0 := Below.refl _ _
  have HKS : Hid (∀ w2, Below W0.heap.size W0 w2 → (w2.cell? ⟨w.heap.size, 3, none⟩ = some (.int .i64 d.mn) ∧ w2.cell? ⟨w.heap.size, 4, none⟩ = some (.int .i64 d.mx)) ∧ Below W0.heap.size W0 w2) := fun w2 b => by
    have h := HCS.out w2 b
    have h3 := h.c3
    have h4 := h.c4
    simp only [Nat.zero_add] at h3 h4
    exact ⟨⟨h3, h4⟩, b⟩
  clear hI hJ hW0 hb0 hlz
  go_enter Tryz.func61, Tryz.ntmps61
  go_upto_region 1 with fail
  rw [← HW0.out]
  clear e0 e1 e2 e3 e4 e5 e6 e7 e8
  go_region_held3 (fun w2 => (w2.cell? ⟨w.heap.size, 3, none⟩ = some (.int .i64 d.mn) ∧ w2.cell? ⟨w.heap.size, 4, none⟩ = some (.int .i64 d.mx)) ∧ Below W0.heap.size W0 w2) (first | exact HKS.out _ (by assumption) | exact HKS.out _ (Below.drew (by assumption))) (first | (go_at_call 78; go_fit (HI.out _ (by assumption)); rintro e w1 ⟨rfl, b1⟩) | (go_at_call 78; go_fit (HI.out _ (Below.drew (by assumption))); rintro e w1 ⟨rfl, b1⟩) | (go_at_call 78; go_fit (HJ.out _ (by assumption)); rintro e w2 ⟨rfl, b2⟩) | (go_at_call 78; go_fit (HJ.out _ (Below.drew (by assumption))); rintro e w2 ⟨rfl, b2⟩))
  obtain ⟨r0, r1, r2, r3, r4, r5, r6, r7, r8⟩ := HCS.out w2 b2
  simp only [Nat.zero_add] at r0 r1 r2 r3 r4 r5 r6 r7 r8
  all_goals
    rw [HLZ.out] at r5
    go_wp2
    go_ret
    exact ⟨by simp, HL.out _ b2⟩

set_option maxHeartbeats 4000000 in
set_option maxRecDepth 100000 in
theorem rt_0o_false (d : Nd) (w : World) (I J : ByteArray) (hI9 : I.size ≤ 21) (hJ9 : J.size ≤ 21) (hlz : d.lz = false) (x0 : (d.mn == 0) = true) (x1 : (d.mn == 1) = false) (y0 : (d.mx == -1) = false) (y1 : (d.mx == 1) = false) (z : (d.mx == d.mn) = false)
    (hI : ∀ w1, Below w.heap.size w w1 → Calls Tryz.prog 78 #[.int .i64 d.mn] w1 fun e w' => e = .returned (.string I) ∧ Below w1.heap.size w1 w')
    (hJ : ∀ w1, Below w.heap.size w w1 → Calls Tryz.prog 78 #[.int .i64 d.mx] w1 fun e w' => e = .returned (.string J) ∧ Below w1.heap.size w1 w') :
    Calls Tryz.prog 61 #[ndV d] w fun e w' => e = .returned (.string ((((((⟨#[123]⟩ : ByteArray) ++ I) ++ ⟨#[44]⟩) ++ J) ++ ⟨#[125]⟩ : ByteArray) ++ (⟨#[]⟩ : ByteArray))) ∧ Below w.heap.size w w' := by
  have hb0 : Below w.heap.size w (w.alloc (ndX d)) := (Below.refl _ w).alloc (Nat.le_refl _) _
  obtain ⟨W0, hW0⟩ : ∃ W0, W0 = w.alloc (ndX d) := ⟨_, rfl⟩
  have HCS : Hid (∀ w1, Below W0.heap.size W0 w1 → Cs w1 w.heap.size 0 d) := fun w1 b1 => by rw [hW0] at b1; exact ndX_cells (w := w) d b1
  have HW0 : Hid (W0 = w.alloc (ndX d)) := hW0
  rw [← hW0] at hb0
  have HI : Hid (∀ w1, Below W0.heap.size W0 w1 → Calls Tryz.prog 78 #[.int .i64 d.mn] w1 fun e w' => e = .returned (.string I) ∧ Below W0.heap.size W0 w') := fun w1 b1 => (hI w1 (hb0.trans (b1.mono hb0.size))).mono fun _ _ ⟨he, b⟩ => ⟨he, b1.trans (b.mono b1.size)⟩
  have HJ : Hid (∀ w1, Below W0.heap.size W0 w1 → Calls Tryz.prog 78 #[.int .i64 d.mx] w1 fun e w' => e = .returned (.string J) ∧ Below W0.heap.size W0 w') := fun w1 b1 => (hJ w1 (hb0.trans (b1.mono hb0.size))).mono fun _ _ ⟨he, b⟩ => ⟨he, b1.trans (b.mono b1.size)⟩
  have HL : Hid (∀ w1, Below W0.heap.size W0 w1 → Below w.heap.size w w1) := fun w1 b1 => hb0.trans (b1.mono hb0.size)
  have n1 : ¬ 9223372036854775807 < 1 + I.size := by omega
  have n2 : ¬ 9223372036854775807 < 1 + I.size + 1 := by omega
  have n3 : ¬ 9223372036854775807 < 1 + I.size + 2 := by omega
  have n4 : ¬ 9223372036854775807 < 1 + I.size + 1 + J.size := by omega
  have n5 : ¬ 9223372036854775807 < 1 + I.size + 1 + J.size + 1 := by omega
  have n6 : ¬ 9223372036854775807 < 1 + I.size + 1 + 1 := by omega
  have n7 : ¬ 9223372036854775807 < 1 + I.size + 2 + 1 := by omega
  have n8 : ¬ 9223372036854775807 < 1 + I.size + 1 + J.size + 1 + 1 := by omega
  have HLZ : Hid (d.lz = false) := hlz
  obtain ⟨e0, e1, e2, e3, e4, e5, e6, e7, e8⟩ := HCS.out W0 (Below.refl _ _)
  simp only [Nat.zero_add] at e0 e1 e2 e3 e4 e5 e6 e7 e8
  have b0 : Below W0.heap.size W0 W0 := Below.refl _ _
  have HKS : Hid (∀ w2, Below W0.heap.size W0 w2 → (w2.cell? ⟨w.heap.size, 3, none⟩ = some (.int .i64 d.mn) ∧ w2.cell? ⟨w.heap.size, 4, none⟩ = some (.int .i64 d.mx)) ∧ Below W0.heap.size W0 w2) := fun w2 b => by
    have h := HCS.out w2 b
    have h3 := h.c3
    have h4 := h.c4
    simp only [Nat.zero_add] at h3 h4
    exact ⟨⟨h3, h4⟩, b⟩
  clear hI hJ hW0 hb0 hlz
  go_enter Tryz.func61, Tryz.ntmps61
  go_upto_region 1 with fail
  rw [← HW0.out]
  clear e0 e1 e2 e3 e4 e5 e6 e7 e8
  go_region_held3 (fun w2 => (w2.cell? ⟨w.heap.size, 3, none⟩ = some (.int .i64 d.mn) ∧ w2.cell? ⟨w.heap.size, 4, none⟩ = some (.int .i64 d.mx)) ∧ Below W0.heap.size W0 w2) (first | exact HKS.out _ (by assumption) | exact HKS.out _ (Below.drew (by assumption))) (first | (go_at_call 78; go_fit (HI.out _ (by assumption)); rintro e w1 ⟨rfl, b1⟩) | (go_at_call 78; go_fit (HI.out _ (Below.drew (by assumption))); rintro e w1 ⟨rfl, b1⟩) | (go_at_call 78; go_fit (HJ.out _ (by assumption)); rintro e w2 ⟨rfl, b2⟩) | (go_at_call 78; go_fit (HJ.out _ (Below.drew (by assumption))); rintro e w2 ⟨rfl, b2⟩))
  obtain ⟨r0, r1, r2, r3, r4, r5, r6, r7, r8⟩ := HCS.out w2 b2
  simp only [Nat.zero_add] at r0 r1 r2 r3 r4 r5 r6 r7 r8
  all_goals
    rw [HLZ.out] at r5
    go_wp2
    go_ret
    exact ⟨by simp [app_nil], HL.out _ b2⟩

set_option maxHeartbeats 4000000 in
set_option maxRecDepth 100000 in
theorem rt_1o_true (d : Nd) (w : World) (I J : ByteArray) (hI9 : I.size ≤ 21) (hJ9 : J.size ≤ 21) (hlz : d.lz = true) (x0 : (d.mn == 0) = false) (x1 : (d.mn == 1) = true) (y0 : (d.mx == -1) = false) (_y1 : (d.mx == 1) = false) (z : (d.mx == d.mn) = false)
    (hI : ∀ w1, Below w.heap.size w w1 → Calls Tryz.prog 78 #[.int .i64 d.mn] w1 fun e w' => e = .returned (.string I) ∧ Below w1.heap.size w1 w')
    (hJ : ∀ w1, Below w.heap.size w w1 → Calls Tryz.prog 78 #[.int .i64 d.mx] w1 fun e w' => e = .returned (.string J) ∧ Below w1.heap.size w1 w') :
    Calls Tryz.prog 61 #[ndV d] w fun e w' => e = .returned (.string ((((((⟨#[123]⟩ : ByteArray) ++ I) ++ ⟨#[44]⟩) ++ J) ++ ⟨#[125]⟩ : ByteArray) ++ (⟨#[63]⟩ : ByteArray))) ∧ Below w.heap.size w w' := by
  have hb0 : Below w.heap.size w (w.alloc (ndX d)) := (Below.refl _ w).alloc (Nat.le_refl _) _
  obtain ⟨W0, hW0⟩ : ∃ W0, W0 = w.alloc (ndX d) := ⟨_, rfl⟩
  have HCS : Hid (∀ w1, Below W0.heap.size W0 w1 → Cs w1 w.heap.size 0 d) := fun w1 b1 => by rw [hW0] at b1; exact ndX_cells (w := w) d b1
  have HW0 : Hid (W0 = w.alloc (ndX d)) := hW0
  rw [← hW0] at hb0
  have HI : Hid (∀ w1, Below W0.heap.size W0 w1 → Calls Tryz.prog 78 #[.int .i64 d.mn] w1 fun e w' => e = .returned (.string I) ∧ Below W0.heap.size W0 w') := fun w1 b1 => (hI w1 (hb0.trans (b1.mono hb0.size))).mono fun _ _ ⟨he, b⟩ => ⟨he, b1.trans (b.mono b1.size)⟩
  have HJ : Hid (∀ w1, Below W0.heap.size W0 w1 → Calls Tryz.prog 78 #[.int .i64 d.mx] w1 fun e w' => e = .returned (.string J) ∧ Below W0.heap.size W0 w') := fun w1 b1 => (hJ w1 (hb0.trans (b1.mono hb0.size))).mono fun _ _ ⟨he, b⟩ => ⟨he, b1.trans (b.mono b1.size)⟩
  have HL : Hid (∀ w1, Below W0.heap.size W0 w1 → Below w.heap.size w w1) := fun w1 b1 => hb0.trans (b1.mono hb0.size)
  have n1 : ¬ 9223372036854775807 < 1 + I.size := by omega
  have n2 : ¬ 9223372036854775807 < 1 + I.size + 1 := by omega
  have n3 : ¬ 9223372036854775807 < 1 + I.size + 2 := by omega
  have n4 : ¬ 9223372036854775807 < 1 + I.size + 1 + J.size := by omega
  have n5 : ¬ 9223372036854775807 < 1 + I.size + 1 + J.size + 1 := by omega
  have n6 : ¬ 9223372036854775807 < 1 + I.size + 1 + 1 := by omega
  have n7 : ¬ 9223372036854775807 < 1 + I.size + 2 + 1 := by omega
  have n8 : ¬ 9223372036854775807 < 1 + I.size + 1 + J.size + 1 + 1 := by omega
  have HLZ : Hid (d.lz = true) := hlz
  obtain ⟨e0, e1, e2, e3, e4, e5, e6, e7, e8⟩ := HCS.out W0 (Below.refl _ _)
  simp only [Nat.zero_add] at e0 e1 e2 e3 e4 e5 e6 e7 e8
  have b0 : Below W0.heap.size W0 W0 := Below.refl _ _
  have HKS : Hid (∀ w2, Below W0.heap.size W0 w2 → (w2.cell? ⟨w.heap.size, 3, none⟩ = some (.int .i64 d.mn) ∧ w2.cell? ⟨w.heap.size, 4, none⟩ = some (.int .i64 d.mx)) ∧ Below W0.heap.size W0 w2) := fun w2 b => by
    have h := HCS.out w2 b
    have h3 := h.c3
    have h4 := h.c4
    simp only [Nat.zero_add] at h3 h4
    exact ⟨⟨h3, h4⟩, b⟩
  clear hI hJ hW0 hb0 hlz
  go_enter Tryz.func61, Tryz.ntmps61
  go_upto_region 1 with fail
  rw [← HW0.out]
  clear e0 e1 e2 e3 e4 e5 e6 e7 e8
  go_region_held3 (fun w2 => (w2.cell? ⟨w.heap.size, 3, none⟩ = some (.int .i64 d.mn) ∧ w2.cell? ⟨w.heap.size, 4, none⟩ = some (.int .i64 d.mx)) ∧ Below W0.heap.size W0 w2) (first | exact HKS.out _ (by assumption) | exact HKS.out _ (Below.drew (by assumption))) (first | (go_at_call 78; go_fit (HI.out _ (by assumption)); rintro e w1 ⟨rfl, b1⟩) | (go_at_call 78; go_fit (HI.out _ (Below.drew (by assumption))); rintro e w1 ⟨rfl, b1⟩) | (go_at_call 78; go_fit (HJ.out _ (by assumption)); rintro e w2 ⟨rfl, b2⟩) | (go_at_call 78; go_fit (HJ.out _ (Below.drew (by assumption))); rintro e w2 ⟨rfl, b2⟩))
  obtain ⟨r0, r1, r2, r3, r4, r5, r6, r7, r8⟩ := HCS.out w2 b2
  simp only [Nat.zero_add] at r0 r1 r2 r3 r4 r5 r6 r7 r8
  all_goals
    rw [HLZ.out] at r5
    go_wp2
    go_ret
    exact ⟨by simp, HL.out _ b2⟩

set_option maxHeartbeats 4000000 in
set_option maxRecDepth 100000 in
theorem rt_1o_false (d : Nd) (w : World) (I J : ByteArray) (hI9 : I.size ≤ 21) (hJ9 : J.size ≤ 21) (hlz : d.lz = false) (x0 : (d.mn == 0) = false) (x1 : (d.mn == 1) = true) (y0 : (d.mx == -1) = false) (_y1 : (d.mx == 1) = false) (z : (d.mx == d.mn) = false)
    (hI : ∀ w1, Below w.heap.size w w1 → Calls Tryz.prog 78 #[.int .i64 d.mn] w1 fun e w' => e = .returned (.string I) ∧ Below w1.heap.size w1 w')
    (hJ : ∀ w1, Below w.heap.size w w1 → Calls Tryz.prog 78 #[.int .i64 d.mx] w1 fun e w' => e = .returned (.string J) ∧ Below w1.heap.size w1 w') :
    Calls Tryz.prog 61 #[ndV d] w fun e w' => e = .returned (.string ((((((⟨#[123]⟩ : ByteArray) ++ I) ++ ⟨#[44]⟩) ++ J) ++ ⟨#[125]⟩ : ByteArray) ++ (⟨#[]⟩ : ByteArray))) ∧ Below w.heap.size w w' := by
  have hb0 : Below w.heap.size w (w.alloc (ndX d)) := (Below.refl _ w).alloc (Nat.le_refl _) _
  obtain ⟨W0, hW0⟩ : ∃ W0, W0 = w.alloc (ndX d) := ⟨_, rfl⟩
  have HCS : Hid (∀ w1, Below W0.heap.size W0 w1 → Cs w1 w.heap.size 0 d) := fun w1 b1 => by rw [hW0] at b1; exact ndX_cells (w := w) d b1
  have HW0 : Hid (W0 = w.alloc (ndX d)) := hW0
  rw [← hW0] at hb0
  have HI : Hid (∀ w1, Below W0.heap.size W0 w1 → Calls Tryz.prog 78 #[.int .i64 d.mn] w1 fun e w' => e = .returned (.string I) ∧ Below W0.heap.size W0 w') := fun w1 b1 => (hI w1 (hb0.trans (b1.mono hb0.size))).mono fun _ _ ⟨he, b⟩ => ⟨he, b1.trans (b.mono b1.size)⟩
  have HJ : Hid (∀ w1, Below W0.heap.size W0 w1 → Calls Tryz.prog 78 #[.int .i64 d.mx] w1 fun e w' => e = .returned (.string J) ∧ Below W0.heap.size W0 w') := fun w1 b1 => (hJ w1 (hb0.trans (b1.mono hb0.size))).mono fun _ _ ⟨he, b⟩ => ⟨he, b1.trans (b.mono b1.size)⟩
  have HL : Hid (∀ w1, Below W0.heap.size W0 w1 → Below w.heap.size w w1) := fun w1 b1 => hb0.trans (b1.mono hb0.size)
  have n1 : ¬ 9223372036854775807 < 1 + I.size := by omega
  have n2 : ¬ 9223372036854775807 < 1 + I.size + 1 := by omega
  have n3 : ¬ 9223372036854775807 < 1 + I.size + 2 := by omega
  have n4 : ¬ 9223372036854775807 < 1 + I.size + 1 + J.size := by omega
  have n5 : ¬ 9223372036854775807 < 1 + I.size + 1 + J.size + 1 := by omega
  have n6 : ¬ 9223372036854775807 < 1 + I.size + 1 + 1 := by omega
  have n7 : ¬ 9223372036854775807 < 1 + I.size + 2 + 1 := by omega
  have n8 : ¬ 9223372036854775807 < 1 + I.size + 1 + J.size + 1 + 1 := by omega
  have HLZ : Hid (d.lz = false) := hlz
  obtain ⟨e0, e1, e2, e3, e4, e5, e6, e7, e8⟩ := HCS.out W0 (Below.refl _ _)
  simp only [Nat.zero_add] at e0 e1 e2 e3 e4 e5 e6 e7 e8
  have b0 : Below W0.heap.size W0 W0 := Below.refl _ _
  have HKS : Hid (∀ w2, Below W0.heap.size W0 w2 → (w2.cell? ⟨w.heap.size, 3, none⟩ = some (.int .i64 d.mn) ∧ w2.cell? ⟨w.heap.size, 4, none⟩ = some (.int .i64 d.mx)) ∧ Below W0.heap.size W0 w2) := fun w2 b => by
    have h := HCS.out w2 b
    have h3 := h.c3
    have h4 := h.c4
    simp only [Nat.zero_add] at h3 h4
    exact ⟨⟨h3, h4⟩, b⟩
  clear hI hJ hW0 hb0 hlz
  go_enter Tryz.func61, Tryz.ntmps61
  go_upto_region 1 with fail
  rw [← HW0.out]
  clear e0 e1 e2 e3 e4 e5 e6 e7 e8
  go_region_held3 (fun w2 => (w2.cell? ⟨w.heap.size, 3, none⟩ = some (.int .i64 d.mn) ∧ w2.cell? ⟨w.heap.size, 4, none⟩ = some (.int .i64 d.mx)) ∧ Below W0.heap.size W0 w2) (first | exact HKS.out _ (by assumption) | exact HKS.out _ (Below.drew (by assumption))) (first | (go_at_call 78; go_fit (HI.out _ (by assumption)); rintro e w1 ⟨rfl, b1⟩) | (go_at_call 78; go_fit (HI.out _ (Below.drew (by assumption))); rintro e w1 ⟨rfl, b1⟩) | (go_at_call 78; go_fit (HJ.out _ (by assumption)); rintro e w2 ⟨rfl, b2⟩) | (go_at_call 78; go_fit (HJ.out _ (Below.drew (by assumption))); rintro e w2 ⟨rfl, b2⟩))
  obtain ⟨r0, r1, r2, r3, r4, r5, r6, r7, r8⟩ := HCS.out w2 b2
  simp only [Nat.zero_add] at r0 r1 r2 r3 r4 r5 r6 r7 r8
  all_goals
    rw [HLZ.out] at r5
    go_wp2
    go_ret
    exact ⟨by simp [app_nil], HL.out _ b2⟩

set_option maxHeartbeats 4000000 in
set_option maxRecDepth 100000 in
theorem rt_a1_true (d : Nd) (w : World) (I J : ByteArray) (hI9 : I.size ≤ 21) (hJ9 : J.size ≤ 21) (hlz : d.lz = true) (x0 : (d.mn == 0) = false) (x1 : (d.mn == 1) = false) (y0 : (d.mx == -1) = false) (_y1 : (d.mx == 1) = true) (z : (d.mx == d.mn) = false)
    (hI : ∀ w1, Below w.heap.size w w1 → Calls Tryz.prog 78 #[.int .i64 d.mn] w1 fun e w' => e = .returned (.string I) ∧ Below w1.heap.size w1 w')
    (hJ : ∀ w1, Below w.heap.size w w1 → Calls Tryz.prog 78 #[.int .i64 d.mx] w1 fun e w' => e = .returned (.string J) ∧ Below w1.heap.size w1 w') :
    Calls Tryz.prog 61 #[ndV d] w fun e w' => e = .returned (.string ((((((⟨#[123]⟩ : ByteArray) ++ I) ++ ⟨#[44]⟩) ++ J) ++ ⟨#[125]⟩ : ByteArray) ++ (⟨#[63]⟩ : ByteArray))) ∧ Below w.heap.size w w' := by
  have hb0 : Below w.heap.size w (w.alloc (ndX d)) := (Below.refl _ w).alloc (Nat.le_refl _) _
  obtain ⟨W0, hW0⟩ : ∃ W0, W0 = w.alloc (ndX d) := ⟨_, rfl⟩
  have HCS : Hid (∀ w1, Below W0.heap.size W0 w1 → Cs w1 w.heap.size 0 d) := fun w1 b1 => by rw [hW0] at b1; exact ndX_cells (w := w) d b1
  have HW0 : Hid (W0 = w.alloc (ndX d)) := hW0
  rw [← hW0] at hb0
  have HI : Hid (∀ w1, Below W0.heap.size W0 w1 → Calls Tryz.prog 78 #[.int .i64 d.mn] w1 fun e w' => e = .returned (.string I) ∧ Below W0.heap.size W0 w') := fun w1 b1 => (hI w1 (hb0.trans (b1.mono hb0.size))).mono fun _ _ ⟨he, b⟩ => ⟨he, b1.trans (b.mono b1.size)⟩
  have HJ : Hid (∀ w1, Below W0.heap.size W0 w1 → Calls Tryz.prog 78 #[.int .i64 d.mx] w1 fun e w' => e = .returned (.string J) ∧ Below W0.heap.size W0 w') := fun w1 b1 => (hJ w1 (hb0.trans (b1.mono hb0.size))).mono fun _ _ ⟨he, b⟩ => ⟨he, b1.trans (b.mono b1.size)⟩
  have HL : Hid (∀ w1, Below W0.heap.size W0 w1 → Below w.heap.size w w1) := fun w1 b1 => hb0.trans (b1.mono hb0.size)
  have n1 : ¬ 9223372036854775807 < 1 + I.size := by omega
  have n2 : ¬ 9223372036854775807 < 1 + I.size + 1 := by omega
  have n3 : ¬ 9223372036854775807 < 1 + I.size + 2 := by omega
  have n4 : ¬ 9223372036854775807 < 1 + I.size + 1 + J.size := by omega
  have n5 : ¬ 9223372036854775807 < 1 + I.size + 1 + J.size + 1 := by omega
  have n6 : ¬ 9223372036854775807 < 1 + I.size + 1 + 1 := by omega
  have n7 : ¬ 9223372036854775807 < 1 + I.size + 2 + 1 := by omega
  have n8 : ¬ 9223372036854775807 < 1 + I.size + 1 + J.size + 1 + 1 := by omega
  have HLZ : Hid (d.lz = true) := hlz
  obtain ⟨e0, e1, e2, e3, e4, e5, e6, e7, e8⟩ := HCS.out W0 (Below.refl _ _)
  simp only [Nat.zero_add] at e0 e1 e2 e3 e4 e5 e6 e7 e8
  have b0 : Below W0.heap.size W0 W0 := Below.refl _ _
  have HKS : Hid (∀ w2, Below W0.heap.size W0 w2 → (w2.cell? ⟨w.heap.size, 3, none⟩ = some (.int .i64 d.mn) ∧ w2.cell? ⟨w.heap.size, 4, none⟩ = some (.int .i64 d.mx)) ∧ Below W0.heap.size W0 w2) := fun w2 b => by
    have h := HCS.out w2 b
    have h3 := h.c3
    have h4 := h.c4
    simp only [Nat.zero_add] at h3 h4
    exact ⟨⟨h3, h4⟩, b⟩
  clear hI hJ hW0 hb0 hlz
  go_enter Tryz.func61, Tryz.ntmps61
  go_upto_region 1 with fail
  rw [← HW0.out]
  clear e0 e1 e2 e3 e4 e5 e6 e7 e8
  go_region_held3 (fun w2 => (w2.cell? ⟨w.heap.size, 3, none⟩ = some (.int .i64 d.mn) ∧ w2.cell? ⟨w.heap.size, 4, none⟩ = some (.int .i64 d.mx)) ∧ Below W0.heap.size W0 w2) (first | exact HKS.out _ (by assumption) | exact HKS.out _ (Below.drew (by assumption))) (first | (go_at_call 78; go_fit (HI.out _ (by assumption)); rintro e w1 ⟨rfl, b1⟩) | (go_at_call 78; go_fit (HI.out _ (Below.drew (by assumption))); rintro e w1 ⟨rfl, b1⟩) | (go_at_call 78; go_fit (HJ.out _ (by assumption)); rintro e w2 ⟨rfl, b2⟩) | (go_at_call 78; go_fit (HJ.out _ (Below.drew (by assumption))); rintro e w2 ⟨rfl, b2⟩))
  obtain ⟨r0, r1, r2, r3, r4, r5, r6, r7, r8⟩ := HCS.out w2 b2
  simp only [Nat.zero_add] at r0 r1 r2 r3 r4 r5 r6 r7 r8
  all_goals
    rw [HLZ.out] at r5
    go_wp2
    go_ret
    exact ⟨by simp, HL.out _ b2⟩

set_option maxHeartbeats 4000000 in
set_option maxRecDepth 100000 in
theorem rt_a1_false (d : Nd) (w : World) (I J : ByteArray) (hI9 : I.size ≤ 21) (hJ9 : J.size ≤ 21) (hlz : d.lz = false) (x0 : (d.mn == 0) = false) (x1 : (d.mn == 1) = false) (y0 : (d.mx == -1) = false) (_y1 : (d.mx == 1) = true) (z : (d.mx == d.mn) = false)
    (hI : ∀ w1, Below w.heap.size w w1 → Calls Tryz.prog 78 #[.int .i64 d.mn] w1 fun e w' => e = .returned (.string I) ∧ Below w1.heap.size w1 w')
    (hJ : ∀ w1, Below w.heap.size w w1 → Calls Tryz.prog 78 #[.int .i64 d.mx] w1 fun e w' => e = .returned (.string J) ∧ Below w1.heap.size w1 w') :
    Calls Tryz.prog 61 #[ndV d] w fun e w' => e = .returned (.string ((((((⟨#[123]⟩ : ByteArray) ++ I) ++ ⟨#[44]⟩) ++ J) ++ ⟨#[125]⟩ : ByteArray) ++ (⟨#[]⟩ : ByteArray))) ∧ Below w.heap.size w w' := by
  have hb0 : Below w.heap.size w (w.alloc (ndX d)) := (Below.refl _ w).alloc (Nat.le_refl _) _
  obtain ⟨W0, hW0⟩ : ∃ W0, W0 = w.alloc (ndX d) := ⟨_, rfl⟩
  have HCS : Hid (∀ w1, Below W0.heap.size W0 w1 → Cs w1 w.heap.size 0 d) := fun w1 b1 => by rw [hW0] at b1; exact ndX_cells (w := w) d b1
  have HW0 : Hid (W0 = w.alloc (ndX d)) := hW0
  rw [← hW0] at hb0
  have HI : Hid (∀ w1, Below W0.heap.size W0 w1 → Calls Tryz.prog 78 #[.int .i64 d.mn] w1 fun e w' => e = .returned (.string I) ∧ Below W0.heap.size W0 w') := fun w1 b1 => (hI w1 (hb0.trans (b1.mono hb0.size))).mono fun _ _ ⟨he, b⟩ => ⟨he, b1.trans (b.mono b1.size)⟩
  have HJ : Hid (∀ w1, Below W0.heap.size W0 w1 → Calls Tryz.prog 78 #[.int .i64 d.mx] w1 fun e w' => e = .returned (.string J) ∧ Below W0.heap.size W0 w') := fun w1 b1 => (hJ w1 (hb0.trans (b1.mono hb0.size))).mono fun _ _ ⟨he, b⟩ => ⟨he, b1.trans (b.mono b1.size)⟩
  have HL : Hid (∀ w1, Below W0.heap.size W0 w1 → Below w.heap.size w w1) := fun w1 b1 => hb0.trans (b1.mono hb0.size)
  have n1 : ¬ 9223372036854775807 < 1 + I.size := by omega
  have n2 : ¬ 9223372036854775807 < 1 + I.size + 1 := by omega
  have n3 : ¬ 9223372036854775807 < 1 + I.size + 2 := by omega
  have n4 : ¬ 9223372036854775807 < 1 + I.size + 1 + J.size := by omega
  have n5 : ¬ 9223372036854775807 < 1 + I.size + 1 + J.size + 1 := by omega
  have n6 : ¬ 9223372036854775807 < 1 + I.size + 1 + 1 := by omega
  have n7 : ¬ 9223372036854775807 < 1 + I.size + 2 + 1 := by omega
  have n8 : ¬ 9223372036854775807 < 1 + I.size + 1 + J.size + 1 + 1 := by omega
  have HLZ : Hid (d.lz = false) := hlz
  obtain ⟨e0, e1, e2, e3, e4, e5, e6, e7, e8⟩ := HCS.out W0 (Below.refl _ _)
  simp only [Nat.zero_add] at e0 e1 e2 e3 e4 e5 e6 e7 e8
  have b0 : Below W0.heap.size W0 W0 := Below.refl _ _
  have HKS : Hid (∀ w2, Below W0.heap.size W0 w2 → (w2.cell? ⟨w.heap.size, 3, none⟩ = some (.int .i64 d.mn) ∧ w2.cell? ⟨w.heap.size, 4, none⟩ = some (.int .i64 d.mx)) ∧ Below W0.heap.size W0 w2) := fun w2 b => by
    have h := HCS.out w2 b
    have h3 := h.c3
    have h4 := h.c4
    simp only [Nat.zero_add] at h3 h4
    exact ⟨⟨h3, h4⟩, b⟩
  clear hI hJ hW0 hb0 hlz
  go_enter Tryz.func61, Tryz.ntmps61
  go_upto_region 1 with fail
  rw [← HW0.out]
  clear e0 e1 e2 e3 e4 e5 e6 e7 e8
  go_region_held3 (fun w2 => (w2.cell? ⟨w.heap.size, 3, none⟩ = some (.int .i64 d.mn) ∧ w2.cell? ⟨w.heap.size, 4, none⟩ = some (.int .i64 d.mx)) ∧ Below W0.heap.size W0 w2) (first | exact HKS.out _ (by assumption) | exact HKS.out _ (Below.drew (by assumption))) (first | (go_at_call 78; go_fit (HI.out _ (by assumption)); rintro e w1 ⟨rfl, b1⟩) | (go_at_call 78; go_fit (HI.out _ (Below.drew (by assumption))); rintro e w1 ⟨rfl, b1⟩) | (go_at_call 78; go_fit (HJ.out _ (by assumption)); rintro e w2 ⟨rfl, b2⟩) | (go_at_call 78; go_fit (HJ.out _ (Below.drew (by assumption))); rintro e w2 ⟨rfl, b2⟩))
  obtain ⟨r0, r1, r2, r3, r4, r5, r6, r7, r8⟩ := HCS.out w2 b2
  simp only [Nat.zero_add] at r0 r1 r2 r3 r4 r5 r6 r7 r8
  all_goals
    rw [HLZ.out] at r5
    go_wp2
    go_ret
    exact ⟨by simp [app_nil], HL.out _ b2⟩

set_option maxHeartbeats 4000000 in
set_option maxRecDepth 100000 in
theorem rt_ao_true (d : Nd) (w : World) (I J : ByteArray) (hI9 : I.size ≤ 21) (hJ9 : J.size ≤ 21) (hlz : d.lz = true) (x0 : (d.mn == 0) = false) (x1 : (d.mn == 1) = false) (y0 : (d.mx == -1) = false) (_y1 : (d.mx == 1) = false) (z : (d.mx == d.mn) = false)
    (hI : ∀ w1, Below w.heap.size w w1 → Calls Tryz.prog 78 #[.int .i64 d.mn] w1 fun e w' => e = .returned (.string I) ∧ Below w1.heap.size w1 w')
    (hJ : ∀ w1, Below w.heap.size w w1 → Calls Tryz.prog 78 #[.int .i64 d.mx] w1 fun e w' => e = .returned (.string J) ∧ Below w1.heap.size w1 w') :
    Calls Tryz.prog 61 #[ndV d] w fun e w' => e = .returned (.string ((((((⟨#[123]⟩ : ByteArray) ++ I) ++ ⟨#[44]⟩) ++ J) ++ ⟨#[125]⟩ : ByteArray) ++ (⟨#[63]⟩ : ByteArray))) ∧ Below w.heap.size w w' := by
  have hb0 : Below w.heap.size w (w.alloc (ndX d)) := (Below.refl _ w).alloc (Nat.le_refl _) _
  obtain ⟨W0, hW0⟩ : ∃ W0, W0 = w.alloc (ndX d) := ⟨_, rfl⟩
  have HCS : Hid (∀ w1, Below W0.heap.size W0 w1 → Cs w1 w.heap.size 0 d) := fun w1 b1 => by rw [hW0] at b1; exact ndX_cells (w := w) d b1
  have HW0 : Hid (W0 = w.alloc (ndX d)) := hW0
  rw [← hW0] at hb0
  have HI : Hid (∀ w1, Below W0.heap.size W0 w1 → Calls Tryz.prog 78 #[.int .i64 d.mn] w1 fun e w' => e = .returned (.string I) ∧ Below W0.heap.size W0 w') := fun w1 b1 => (hI w1 (hb0.trans (b1.mono hb0.size))).mono fun _ _ ⟨he, b⟩ => ⟨he, b1.trans (b.mono b1.size)⟩
  have HJ : Hid (∀ w1, Below W0.heap.size W0 w1 → Calls Tryz.prog 78 #[.int .i64 d.mx] w1 fun e w' => e = .returned (.string J) ∧ Below W0.heap.size W0 w') := fun w1 b1 => (hJ w1 (hb0.trans (b1.mono hb0.size))).mono fun _ _ ⟨he, b⟩ => ⟨he, b1.trans (b.mono b1.size)⟩
  have HL : Hid (∀ w1, Below W0.heap.size W0 w1 → Below w.heap.size w w1) := fun w1 b1 => hb0.trans (b1.mono hb0.size)
  have n1 : ¬ 9223372036854775807 < 1 + I.size := by omega
  have n2 : ¬ 9223372036854775807 < 1 + I.size + 1 := by omega
  have n3 : ¬ 9223372036854775807 < 1 + I.size + 2 := by omega
  have n4 : ¬ 9223372036854775807 < 1 + I.size + 1 + J.size := by omega
  have n5 : ¬ 9223372036854775807 < 1 + I.size + 1 + J.size + 1 := by omega
  have n6 : ¬ 9223372036854775807 < 1 + I.size + 1 + 1 := by omega
  have n7 : ¬ 9223372036854775807 < 1 + I.size + 2 + 1 := by omega
  have n8 : ¬ 9223372036854775807 < 1 + I.size + 1 + J.size + 1 + 1 := by omega
  have HLZ : Hid (d.lz = true) := hlz
  obtain ⟨e0, e1, e2, e3, e4, e5, e6, e7, e8⟩ := HCS.out W0 (Below.refl _ _)
  simp only [Nat.zero_add] at e0 e1 e2 e3 e4 e5 e6 e7 e8
  have b0 : Below W0.heap.size W0 W0 := Below.refl _ _
  have HKS : Hid (∀ w2, Below W0.heap.size W0 w2 → (w2.cell? ⟨w.heap.size, 3, none⟩ = some (.int .i64 d.mn) ∧ w2.cell? ⟨w.heap.size, 4, none⟩ = some (.int .i64 d.mx)) ∧ Below W0.heap.size W0 w2) := fun w2 b => by
    have h := HCS.out w2 b
    have h3 := h.c3
    have h4 := h.c4
    simp only [Nat.zero_add] at h3 h4
    exact ⟨⟨h3, h4⟩, b⟩
  clear hI hJ hW0 hb0 hlz
  go_enter Tryz.func61, Tryz.ntmps61
  go_upto_region 1 with fail
  rw [← HW0.out]
  clear e0 e1 e2 e3 e4 e5 e6 e7 e8
  go_region_held3 (fun w2 => (w2.cell? ⟨w.heap.size, 3, none⟩ = some (.int .i64 d.mn) ∧ w2.cell? ⟨w.heap.size, 4, none⟩ = some (.int .i64 d.mx)) ∧ Below W0.heap.size W0 w2) (first | exact HKS.out _ (by assumption) | exact HKS.out _ (Below.drew (by assumption))) (first | (go_at_call 78; go_fit (HI.out _ (by assumption)); rintro e w1 ⟨rfl, b1⟩) | (go_at_call 78; go_fit (HI.out _ (Below.drew (by assumption))); rintro e w1 ⟨rfl, b1⟩) | (go_at_call 78; go_fit (HJ.out _ (by assumption)); rintro e w2 ⟨rfl, b2⟩) | (go_at_call 78; go_fit (HJ.out _ (Below.drew (by assumption))); rintro e w2 ⟨rfl, b2⟩))
  obtain ⟨r0, r1, r2, r3, r4, r5, r6, r7, r8⟩ := HCS.out w2 b2
  simp only [Nat.zero_add] at r0 r1 r2 r3 r4 r5 r6 r7 r8
  all_goals
    rw [HLZ.out] at r5
    go_wp2
    go_ret
    exact ⟨by simp, HL.out _ b2⟩

set_option maxHeartbeats 4000000 in
set_option maxRecDepth 100000 in
theorem rt_ao_false (d : Nd) (w : World) (I J : ByteArray) (hI9 : I.size ≤ 21) (hJ9 : J.size ≤ 21) (hlz : d.lz = false) (x0 : (d.mn == 0) = false) (x1 : (d.mn == 1) = false) (y0 : (d.mx == -1) = false) (_y1 : (d.mx == 1) = false) (z : (d.mx == d.mn) = false)
    (hI : ∀ w1, Below w.heap.size w w1 → Calls Tryz.prog 78 #[.int .i64 d.mn] w1 fun e w' => e = .returned (.string I) ∧ Below w1.heap.size w1 w')
    (hJ : ∀ w1, Below w.heap.size w w1 → Calls Tryz.prog 78 #[.int .i64 d.mx] w1 fun e w' => e = .returned (.string J) ∧ Below w1.heap.size w1 w') :
    Calls Tryz.prog 61 #[ndV d] w fun e w' => e = .returned (.string ((((((⟨#[123]⟩ : ByteArray) ++ I) ++ ⟨#[44]⟩) ++ J) ++ ⟨#[125]⟩ : ByteArray) ++ (⟨#[]⟩ : ByteArray))) ∧ Below w.heap.size w w' := by
  have hb0 : Below w.heap.size w (w.alloc (ndX d)) := (Below.refl _ w).alloc (Nat.le_refl _) _
  obtain ⟨W0, hW0⟩ : ∃ W0, W0 = w.alloc (ndX d) := ⟨_, rfl⟩
  have HCS : Hid (∀ w1, Below W0.heap.size W0 w1 → Cs w1 w.heap.size 0 d) := fun w1 b1 => by rw [hW0] at b1; exact ndX_cells (w := w) d b1
  have HW0 : Hid (W0 = w.alloc (ndX d)) := hW0
  rw [← hW0] at hb0
  have HI : Hid (∀ w1, Below W0.heap.size W0 w1 → Calls Tryz.prog 78 #[.int .i64 d.mn] w1 fun e w' => e = .returned (.string I) ∧ Below W0.heap.size W0 w') := fun w1 b1 => (hI w1 (hb0.trans (b1.mono hb0.size))).mono fun _ _ ⟨he, b⟩ => ⟨he, b1.trans (b.mono b1.size)⟩
  have HJ : Hid (∀ w1, Below W0.heap.size W0 w1 → Calls Tryz.prog 78 #[.int .i64 d.mx] w1 fun e w' => e = .returned (.string J) ∧ Below W0.heap.size W0 w') := fun w1 b1 => (hJ w1 (hb0.trans (b1.mono hb0.size))).mono fun _ _ ⟨he, b⟩ => ⟨he, b1.trans (b.mono b1.size)⟩
  have HL : Hid (∀ w1, Below W0.heap.size W0 w1 → Below w.heap.size w w1) := fun w1 b1 => hb0.trans (b1.mono hb0.size)
  have n1 : ¬ 9223372036854775807 < 1 + I.size := by omega
  have n2 : ¬ 9223372036854775807 < 1 + I.size + 1 := by omega
  have n3 : ¬ 9223372036854775807 < 1 + I.size + 2 := by omega
  have n4 : ¬ 9223372036854775807 < 1 + I.size + 1 + J.size := by omega
  have n5 : ¬ 9223372036854775807 < 1 + I.size + 1 + J.size + 1 := by omega
  have n6 : ¬ 9223372036854775807 < 1 + I.size + 1 + 1 := by omega
  have n7 : ¬ 9223372036854775807 < 1 + I.size + 2 + 1 := by omega
  have n8 : ¬ 9223372036854775807 < 1 + I.size + 1 + J.size + 1 + 1 := by omega
  have HLZ : Hid (d.lz = false) := hlz
  obtain ⟨e0, e1, e2, e3, e4, e5, e6, e7, e8⟩ := HCS.out W0 (Below.refl _ _)
  simp only [Nat.zero_add] at e0 e1 e2 e3 e4 e5 e6 e7 e8
  have b0 : Below W0.heap.size W0 W0 := Below.refl _ _
  have HKS : Hid (∀ w2, Below W0.heap.size W0 w2 → (w2.cell? ⟨w.heap.size, 3, none⟩ = some (.int .i64 d.mn) ∧ w2.cell? ⟨w.heap.size, 4, none⟩ = some (.int .i64 d.mx)) ∧ Below W0.heap.size W0 w2) := fun w2 b => by
    have h := HCS.out w2 b
    have h3 := h.c3
    have h4 := h.c4
    simp only [Nat.zero_add] at h3 h4
    exact ⟨⟨h3, h4⟩, b⟩
  clear hI hJ hW0 hb0 hlz
  go_enter Tryz.func61, Tryz.ntmps61
  go_upto_region 1 with fail
  rw [← HW0.out]
  clear e0 e1 e2 e3 e4 e5 e6 e7 e8
  go_region_held3 (fun w2 => (w2.cell? ⟨w.heap.size, 3, none⟩ = some (.int .i64 d.mn) ∧ w2.cell? ⟨w.heap.size, 4, none⟩ = some (.int .i64 d.mx)) ∧ Below W0.heap.size W0 w2) (first | exact HKS.out _ (by assumption) | exact HKS.out _ (Below.drew (by assumption))) (first | (go_at_call 78; go_fit (HI.out _ (by assumption)); rintro e w1 ⟨rfl, b1⟩) | (go_at_call 78; go_fit (HI.out _ (Below.drew (by assumption))); rintro e w1 ⟨rfl, b1⟩) | (go_at_call 78; go_fit (HJ.out _ (by assumption)); rintro e w2 ⟨rfl, b2⟩) | (go_at_call 78; go_fit (HJ.out _ (Below.drew (by assumption))); rintro e w2 ⟨rfl, b2⟩))
  obtain ⟨r0, r1, r2, r3, r4, r5, r6, r7, r8⟩ := HCS.out w2 b2
  simp only [Nat.zero_add] at r0 r1 r2 r3 r4 r5 r6 r7 r8
  all_goals
    rw [HLZ.out] at r5
    go_wp2
    go_ret
    exact ⟨by simp [app_nil], HL.out _ b2⟩

theorem rtimes_any (d : Nd) (w : World) (h0 : 0 ≤ d.mn) (h1 : d.mn ≤ 1000) (h2 : -1 ≤ d.mx) (h3 : d.mx ≤ 1000) (hA : TbA w.heap.size w) : Calls Tryz.prog 61 #[ndV d] w fun e w' => e = .returned (.string (tlB d.mn d.mx d.lz)) ∧ Below w.heap.size w w' := by
  have zI := itB_size d.mn (by omega) h1
  have zJ := itB_size d.mx h2 h3
  have hI : ∀ w1, Below w.heap.size w w1 → Calls Tryz.prog 78 #[.int .i64 d.mn] w1 fun e w' => e = .returned (.string (itB d.mn)) ∧ Below w1.heap.size w1 w' := fun w1 b1 => itoa_any d.mn (by omega) h1 w1 (hA w1 b1).1
  have hJ : ∀ w1, Below w.heap.size w w1 → Calls Tryz.prog 78 #[.int .i64 d.mx] w1 fun e w' => e = .returned (.string (itB d.mx)) ∧ Below w1.heap.size w1 w' := fun w1 b1 => itoa_any d.mx h2 h3 w1 (hA w1 b1).1
  by_cases c0 : d.mn = 0 ∧ d.mx = -1
  · have e : tmB d.mn d.mx = (⟨#[42]⟩ : ByteArray) := by unfold tmB; rw [if_pos c0]
    unfold tlB
    rw [e]
    cases hl : d.lz
    · rw [if_neg Bool.false_ne_true]; exact rt_0m_false d w _ _ zI zJ hl (by simp <;> omega) (by simp <;> omega) (by simp <;> omega) (by simp <;> omega) (by simp <;> omega) hI hJ
    · rw [if_pos rfl]; exact rt_0m_true d w _ _ zI zJ hl (by simp <;> omega) (by simp <;> omega) (by simp <;> omega) (by simp <;> omega) (by simp <;> omega) hI hJ
  by_cases c1 : d.mn = 1 ∧ d.mx = -1
  · have e : tmB d.mn d.mx = (⟨#[43]⟩ : ByteArray) := by unfold tmB; rw [if_neg c0, if_pos c1]
    unfold tlB
    rw [e]
    cases hl : d.lz
    · rw [if_neg Bool.false_ne_true]; exact rt_1m_false d w _ _ zI zJ hl (by simp <;> omega) (by simp <;> omega) (by simp <;> omega) (by simp <;> omega) (by simp <;> omega) hI hJ
    · rw [if_pos rfl]; exact rt_1m_true d w _ _ zI zJ hl (by simp <;> omega) (by simp <;> omega) (by simp <;> omega) (by simp <;> omega) (by simp <;> omega) hI hJ
  by_cases c2 : d.mn = 0 ∧ d.mx = 1
  · have e : tmB d.mn d.mx = (⟨#[63]⟩ : ByteArray) := by unfold tmB; rw [if_neg c0, if_neg c1, if_pos c2]
    unfold tlB
    rw [e]
    cases hl : d.lz
    · rw [if_neg Bool.false_ne_true]; exact rt_01_false d w _ _ zI zJ hl (by simp <;> omega) (by simp <;> omega) (by simp <;> omega) (by simp <;> omega) (by simp <;> omega) hI hJ
    · rw [if_pos rfl]; exact rt_01_true d w _ _ zI zJ hl (by simp <;> omega) (by simp <;> omega) (by simp <;> omega) (by simp <;> omega) (by simp <;> omega) hI hJ
  by_cases c3 : d.mx = d.mn ∧ d.mn = 0
  · have e : tmB d.mn d.mx = (((⟨#[123]⟩ : ByteArray) ++ itB d.mn) ++ ⟨#[125]⟩ : ByteArray) := by unfold tmB; rw [if_neg c0, if_neg c1, if_neg c2, if_pos c3.1]
    unfold tlB
    rw [e]
    cases hl : d.lz
    · rw [if_neg Bool.false_ne_true]; exact rt_00_false d w _ _ zI zJ hl (by simp <;> omega) (by simp <;> omega) (by simp <;> omega) (by simp <;> omega) (by simp <;> omega) hI hJ
    · rw [if_pos rfl]; exact rt_00_true d w _ _ zI zJ hl (by simp <;> omega) (by simp <;> omega) (by simp <;> omega) (by simp <;> omega) (by simp <;> omega) hI hJ
  by_cases c4 : d.mx = d.mn ∧ d.mn = 1
  · have e : tmB d.mn d.mx = (((⟨#[123]⟩ : ByteArray) ++ itB d.mn) ++ ⟨#[125]⟩ : ByteArray) := by unfold tmB; rw [if_neg c0, if_neg c1, if_neg c2, if_pos c4.1]
    unfold tlB
    rw [e]
    cases hl : d.lz
    · rw [if_neg Bool.false_ne_true]; exact rt_11_false d w _ _ zI zJ hl (by simp <;> omega) (by simp <;> omega) (by simp <;> omega) (by simp <;> omega) (by simp <;> omega) hI hJ
    · rw [if_pos rfl]; exact rt_11_true d w _ _ zI zJ hl (by simp <;> omega) (by simp <;> omega) (by simp <;> omega) (by simp <;> omega) (by simp <;> omega) hI hJ
  by_cases c5 : d.mx = d.mn
  · have e : tmB d.mn d.mx = (((⟨#[123]⟩ : ByteArray) ++ itB d.mn) ++ ⟨#[125]⟩ : ByteArray) := by unfold tmB; rw [if_neg c0, if_neg c1, if_neg c2, if_pos c5]
    unfold tlB
    rw [e]
    cases hl : d.lz
    · rw [if_neg Bool.false_ne_true]; exact rt_aa_false d w _ _ zI zJ hl (by simp <;> omega) (by simp <;> omega) (by simp <;> omega) (by simp <;> omega) (by simp <;> omega) hI hJ
    · rw [if_pos rfl]; exact rt_aa_true d w _ _ zI zJ hl (by simp <;> omega) (by simp <;> omega) (by simp <;> omega) (by simp <;> omega) (by simp <;> omega) hI hJ
  by_cases c6 : d.mx = -1
  · have e : tmB d.mn d.mx = (((⟨#[123]⟩ : ByteArray) ++ itB d.mn) ++ ⟨#[44, 125]⟩ : ByteArray) := by unfold tmB; rw [if_neg c0, if_neg c1, if_neg c2, if_neg c5, if_pos c6]
    unfold tlB
    rw [e]
    cases hl : d.lz
    · rw [if_neg Bool.false_ne_true]; exact rt_am_false d w _ _ zI zJ hl (by simp <;> omega) (by simp <;> omega) (by simp <;> omega) (by simp <;> omega) (by simp <;> omega) hI hJ
    · rw [if_pos rfl]; exact rt_am_true d w _ _ zI zJ hl (by simp <;> omega) (by simp <;> omega) (by simp <;> omega) (by simp <;> omega) (by simp <;> omega) hI hJ
  by_cases c7 : d.mn = 0
  · have e : tmB d.mn d.mx = (((((⟨#[123]⟩ : ByteArray) ++ itB d.mn) ++ ⟨#[44]⟩) ++ itB d.mx) ++ ⟨#[125]⟩ : ByteArray) := by unfold tmB; rw [if_neg c0, if_neg c1, if_neg c2, if_neg c5, if_neg c6]
    unfold tlB
    rw [e]
    cases hl : d.lz
    · rw [if_neg Bool.false_ne_true]; exact rt_0o_false d w _ _ zI zJ hl (by simp <;> omega) (by simp <;> omega) (by simp <;> omega) (by simp <;> omega) (by simp <;> omega) hI hJ
    · rw [if_pos rfl]; exact rt_0o_true d w _ _ zI zJ hl (by simp <;> omega) (by simp <;> omega) (by simp <;> omega) (by simp <;> omega) (by simp <;> omega) hI hJ
  by_cases c8 : d.mn = 1
  · have e : tmB d.mn d.mx = (((((⟨#[123]⟩ : ByteArray) ++ itB d.mn) ++ ⟨#[44]⟩) ++ itB d.mx) ++ ⟨#[125]⟩ : ByteArray) := by unfold tmB; rw [if_neg c0, if_neg c1, if_neg c2, if_neg c5, if_neg c6]
    unfold tlB
    rw [e]
    cases hl : d.lz
    · rw [if_neg Bool.false_ne_true]; exact rt_1o_false d w _ _ zI zJ hl (by simp <;> omega) (by simp <;> omega) (by simp <;> omega) (by simp <;> omega) (by simp <;> omega) hI hJ
    · rw [if_pos rfl]; exact rt_1o_true d w _ _ zI zJ hl (by simp <;> omega) (by simp <;> omega) (by simp <;> omega) (by simp <;> omega) (by simp <;> omega) hI hJ
  by_cases c9 : d.mx = 1
  · have e : tmB d.mn d.mx = (((((⟨#[123]⟩ : ByteArray) ++ itB d.mn) ++ ⟨#[44]⟩) ++ itB d.mx) ++ ⟨#[125]⟩ : ByteArray) := by unfold tmB; rw [if_neg c0, if_neg c1, if_neg c2, if_neg c5, if_neg c6]
    unfold tlB
    rw [e]
    cases hl : d.lz
    · rw [if_neg Bool.false_ne_true]; exact rt_a1_false d w _ _ zI zJ hl (by simp <;> omega) (by simp <;> omega) (by simp <;> omega) (by simp <;> omega) (by simp <;> omega) hI hJ
    · rw [if_pos rfl]; exact rt_a1_true d w _ _ zI zJ hl (by simp <;> omega) (by simp <;> omega) (by simp <;> omega) (by simp <;> omega) (by simp <;> omega) hI hJ
  · have e : tmB d.mn d.mx = (((((⟨#[123]⟩ : ByteArray) ++ itB d.mn) ++ ⟨#[44]⟩) ++ itB d.mx) ++ ⟨#[125]⟩ : ByteArray) := by unfold tmB; rw [if_neg c0, if_neg c1, if_neg c2, if_neg c5, if_neg c6]
    unfold tlB
    rw [e]
    cases hl : d.lz
    · rw [if_neg Bool.false_ne_true]; exact rt_ao_false d w _ _ zI zJ hl (by simp <;> omega) (by simp <;> omega) (by simp <;> omega) (by simp <;> omega) (by simp <;> omega) hI hJ
    · rw [if_pos rfl]; exact rt_ao_true d w _ _ zI zJ hl (by simp <;> omega) (by simp <;> omega) (by simp <;> omega) (by simp <;> omega) (by simp <;> omega) hI hJ
end Go.Proofs.YtajaadagejhllaaGreatDoor
