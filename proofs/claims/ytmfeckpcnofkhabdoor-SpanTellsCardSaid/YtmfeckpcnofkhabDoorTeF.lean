/- The reference's Date. -/
import Derived.Test.YtmfeckpcnofkhabDoorTeA
import Derived.Test.YtmfeckpcnofkhabDoorOfB
namespace Go.Proofs.YtmfeckpcnofkhabDoor
open Go.RowKit Go.Lib

theorem rdate_out (ms : Int) (w : World) (h : ms < -62167219200000 ∨ 253402300799999 < ms) :
    Calls Tryd.prog 16 #[.int .i64 ms] w fun e w' => e = .returned (.tuple #[.string ⟨#[]⟩, .int .i64 33]) ∧ Below w.heap.size w w' := by
  by_cases c : ms < -62167219200000
  · clear h
    go_enter Tryd.func16, Tryd.ntmps16
    go_wp2
    go_ret2
    exact ⟨rfl, Below.refl _ _⟩
  · have c2 : 253402300799999 < ms := by omega
    clear h
    go_enter Tryd.func16, Tryd.ntmps16
    go_wp2
    go_ret2
    exact ⟨rfl, Below.refl _ _⟩

set_option maxHeartbeats 8000000 in
set_option maxRecDepth 100000 in
theorem rdate_walk (ms : Int) (Y M D h mi s ml : Nat) (x1 x2 x3 : Int) (w : World) (m0 : -62167219200000 ≤ ms) (m1 : ms ≤ 253402300799999)
    (g0 : Y < 10000) (g1 : M < 100) (g2 : D < 100) (g3 : h < 100) (g4 : mi < 100) (g5 : s < 100) (g6 : ml < 1000)
    (kC : ∀ w, Calls Tryd.prog 18 #[.int .i64 ms] w fun e w' => e = .returned (ag Y M D h mi s ml x1 x2 x3) ∧ Below w.heap.size w w') :
    Calls Tryd.prog 16 #[.int .i64 ms] w fun e w' => e = .returned (.tuple #[.string (mk (dt19 Y M D h mi s ++ (dtml ml ++ [90]))), .int .i64 0]) ∧ Below w.heap.size w w' := by
  have kC1 := kC w
  have k4 : ∀ (n : Nat) (w : World), n < 10000 → Calls Tryd.prog 35 #[.int .u64 n, .int .i64 4] w fun e w'' => e = .returned (.string (mk (p4 n))) ∧ Below w.heap.size w w'' := fun n w hn => by
    have := rdec_any n 4 w (by omega) (by omega)
    rwa [dcm4 n hn] at this
  have k2 : ∀ (n : Nat) (w : World), n < 100 → Calls Tryd.prog 35 #[.int .u64 n, .int .i64 2] w fun e w'' => e = .returned (.string (mk (p2 n))) ∧ Below w.heap.size w w'' := fun n w hn => by
    have := rdec_any n 2 w (by omega) (by omega)
    rwa [dcm2 n hn] at this
  have k3 : ∀ (n : Nat) (w : World), n < 1000 → Calls Tryd.prog 35 #[.int .u64 n, .int .i64 3] w fun e w'' => e = .returned (.string (mk (p3 n))) ∧ Below w.heap.size w w'' := fun n w hn => by
    have := rdec_any n 3 w (by omega) (by omega)
    rwa [dcm3 n hn] at this
  have K4 := hidden k4
  have K2 := hidden k2
  have K3 := hidden k3
  have wu0 : IntKind.u64.wrap (Y : Int) = (Y : Int) := by rw [IntKind.wrap_u64]; omega
  have wu1 : IntKind.u64.wrap (M : Int) = (M : Int) := by rw [IntKind.wrap_u64]; omega
  have wu2 : IntKind.u64.wrap (D : Int) = (D : Int) := by rw [IntKind.wrap_u64]; omega
  have wu3 : IntKind.u64.wrap (h : Int) = (h : Int) := by rw [IntKind.wrap_u64]; omega
  have wu4 : IntKind.u64.wrap (mi : Int) = (mi : Int) := by rw [IntKind.wrap_u64]; omega
  have wu5 : IntKind.u64.wrap (s : Int) = (s : Int) := by rw [IntKind.wrap_u64]; omega
  have wu6 : IntKind.u64.wrap (ml : Int) = (ml : Int) := by rw [IntKind.wrap_u64]; omega
  clear kC k2 k3 k4
  have z0 : (mk (p4 Y)).size = 4 := rfl
  have z1 : (mk (p2 M)).size = 2 := rfl
  have z2 : (mk (p2 D)).size = 2 := rfl
  have z3 : (mk (p2 h)).size = 2 := rfl
  have z4 : (mk (p2 mi)).size = 2 := rfl
  have z5 : (mk (p2 s)).size = 2 := rfl
  have z6 : (mk (p3 ml)).size = 3 := rfl
  have HE : Hid (((((((((((mk (p4 Y) ++ ⟨#[45]⟩) ++ mk (p2 M)) ++ ⟨#[45]⟩) ++ mk (p2 D)) ++ ⟨#[84]⟩) ++ mk (p2 h)) ++ ⟨#[58]⟩) ++ mk (p2 mi)) ++ ⟨#[58]⟩) ++ mk (p2 s)) = mk (dt19 Y M D h mi s)) := by
    show _ = _
    apply Go.WideShapes.bytes_inj
    simp [dt19]
  have HF0 : Hid (ml = 0 → mk (dt19 Y M D h mi s) ++ ⟨#[90]⟩ = mk (dt19 Y M D h mi s ++ (dtml ml ++ [90]))) := fun e => by
    apply Go.WideShapes.bytes_inj
    simp [dtml, e]
  have HF1 : Hid (ml ≠ 0 → (mk (dt19 Y M D h mi s) ++ (⟨#[46]⟩ ++ mk (p3 ml))) ++ ⟨#[90]⟩ = mk (dt19 Y M D h mi s ++ (dtml ml ++ [90]))) := fun e => by
    apply Go.WideShapes.bytes_inj
    simp [dtml, e]
  have HZ : Hid ((mk (dt19 Y M D h mi s)).size = 19) := by show _ = _; rw [mk_size]; simp [dt19, p4, p2]
  have hm0 : ¬ ms < -62167219200000 := by omega
  have hm1 : ¬ 253402300799999 < ms := by omega
  generalize mk (dt19 Y M D h mi s ++ (dtml ml ++ [90])) = FT at *
  go_enter Tryd.func16, Tryd.ntmps16
  go_wp2_with fail
  go_fit kC1
  clear kC1
  rintro e w1 ⟨rfl, b1⟩
  have b2 : Below w.heap.size w (w1.alloc (tenO Y M D h mi s ml x1 x2 x3)) := b1.alloc b1.size _
  have q0 : (w1.alloc (tenO Y M D h mi s ml x1 x2 x3)).cell? ⟨w1.heap.size, 0, none⟩ = some (.int .i64 Y) := tenO_cell Y M D h mi s ml x1 x2 x3 w1 0 _ rfl
  have q1 : (w1.alloc (tenO Y M D h mi s ml x1 x2 x3)).cell? ⟨w1.heap.size, 1, none⟩ = some (.int .i64 M) := tenO_cell Y M D h mi s ml x1 x2 x3 w1 1 _ rfl
  have q2 : (w1.alloc (tenO Y M D h mi s ml x1 x2 x3)).cell? ⟨w1.heap.size, 2, none⟩ = some (.int .i64 D) := tenO_cell Y M D h mi s ml x1 x2 x3 w1 2 _ rfl
  have q3 : (w1.alloc (tenO Y M D h mi s ml x1 x2 x3)).cell? ⟨w1.heap.size, 3, none⟩ = some (.int .i64 h) := tenO_cell Y M D h mi s ml x1 x2 x3 w1 3 _ rfl
  have q4 : (w1.alloc (tenO Y M D h mi s ml x1 x2 x3)).cell? ⟨w1.heap.size, 4, none⟩ = some (.int .i64 mi) := tenO_cell Y M D h mi s ml x1 x2 x3 w1 4 _ rfl
  have q5 : (w1.alloc (tenO Y M D h mi s ml x1 x2 x3)).cell? ⟨w1.heap.size, 5, none⟩ = some (.int .i64 s) := tenO_cell Y M D h mi s ml x1 x2 x3 w1 5 _ rfl
  have q6 : (w1.alloc (tenO Y M D h mi s ml x1 x2 x3)).cell? ⟨w1.heap.size, 6, none⟩ = some (.int .i64 ml) := tenO_cell Y M D h mi s ml x1 x2 x3 w1 6 _ rfl
  go_upto_region 4 with fail
  generalize w1.alloc (tenO Y M D h mi s ml x1 x2 x3) = W at *
  have c0 := fun d os => Calls.regrown_of (K4.out Y (Go.Sort.grow (redrawn W d) os) g0)
  have c1 := fun d os => Calls.regrown_of (K2.out M (Go.Sort.grow (redrawn W d) os) g1)
  have c2 := fun d os => Calls.regrown_of (K2.out D (Go.Sort.grow (redrawn W d) os) g2)
  have c3 := fun d os => Calls.regrown_of (K2.out h (Go.Sort.grow (redrawn W d) os) g3)
  have c4 := fun d os => Calls.regrown_of (K2.out mi (Go.Sort.grow (redrawn W d) os) g4)
  have c5 := fun d os => Calls.regrown_of (K2.out s (Go.Sort.grow (redrawn W d) os) g5)
  have r0 := cell_regrown q0
  have r1 := cell_regrown q1
  have r2 := cell_regrown q2
  have r3 := cell_regrown q3
  have r4 := cell_regrown q4
  have r5 := cell_regrown q5
  have HQ6 : Hid (W.cell? ⟨w1.heap.size, 6, none⟩ = some (.int .i64 ml)) := q6
  have HC6 := hidden (fun w => K3.out ml w g6)
  clear q0 q1 q2 q3 q4 q5 q6
  have HB2 : Hid (Below w.heap.size w W) := b2
  clear b1 b2 g0 g1 g2 g3 g4 g5
  generalize mk (dt19 Y M D h mi s) = A at *
  generalize mk (p4 Y) = a0 at *
  generalize mk (p2 M) = a1 at *
  generalize mk (p2 D) = a2 at *
  generalize mk (p2 h) = a3 at *
  generalize mk (p2 mi) = a4 at *
  generalize mk (p2 s) = a5 at *
  generalize mk (p3 ml) = a6 at *
  have s45 : (⟨#[45]⟩ : ByteArray).size = 1 := rfl
  have s84 : (⟨#[84]⟩ : ByteArray).size = 1 := rfl
  have s58 : (⟨#[58]⟩ : ByteArray).size = 1 := rfl
  obtain ⟨t1, ht1⟩ : ∃ t1, t1 = a0 ++ ⟨#[45]⟩ := ⟨_, rfl⟩
  have zt1 : t1.size = 5 := by rw [ht1, ByteArray.size_append]; omega
  have f1 : ∀ w, (Op.stringOp .add a0 ⟨#[45]⟩).run Tryd.prog w = .ok (.string t1) w := fun w => by rw [ht1]; exact run_string_add w _ _ (by omega) (by omega)
  obtain ⟨t2, ht2⟩ : ∃ t2, t2 = t1 ++ a1 := ⟨_, rfl⟩
  have zt2 : t2.size = 7 := by rw [ht2, ByteArray.size_append]; omega
  have f2 : ∀ w, (Op.stringOp .add t1 a1).run Tryd.prog w = .ok (.string t2) w := fun w => by rw [ht2]; exact run_string_add w _ _ (by omega) (by omega)
  obtain ⟨t3, ht3⟩ : ∃ t3, t3 = t2 ++ ⟨#[45]⟩ := ⟨_, rfl⟩
  have zt3 : t3.size = 8 := by rw [ht3, ByteArray.size_append]; omega
  have f3 : ∀ w, (Op.stringOp .add t2 ⟨#[45]⟩).run Tryd.prog w = .ok (.string t3) w := fun w => by rw [ht3]; exact run_string_add w _ _ (by omega) (by omega)
  obtain ⟨t4, ht4⟩ : ∃ t4, t4 = t3 ++ a2 := ⟨_, rfl⟩
  have zt4 : t4.size = 10 := by rw [ht4, ByteArray.size_append]; omega
  have f4 : ∀ w, (Op.stringOp .add t3 a2).run Tryd.prog w = .ok (.string t4) w := fun w => by rw [ht4]; exact run_string_add w _ _ (by omega) (by omega)
  obtain ⟨t5, ht5⟩ : ∃ t5, t5 = t4 ++ ⟨#[84]⟩ := ⟨_, rfl⟩
  have zt5 : t5.size = 11 := by rw [ht5, ByteArray.size_append]; omega
  have f5 : ∀ w, (Op.stringOp .add t4 ⟨#[84]⟩).run Tryd.prog w = .ok (.string t5) w := fun w => by rw [ht5]; exact run_string_add w _ _ (by omega) (by omega)
  obtain ⟨t6, ht6⟩ : ∃ t6, t6 = t5 ++ a3 := ⟨_, rfl⟩
  have zt6 : t6.size = 13 := by rw [ht6, ByteArray.size_append]; omega
  have f6 : ∀ w, (Op.stringOp .add t5 a3).run Tryd.prog w = .ok (.string t6) w := fun w => by rw [ht6]; exact run_string_add w _ _ (by omega) (by omega)
  obtain ⟨t7, ht7⟩ : ∃ t7, t7 = t6 ++ ⟨#[58]⟩ := ⟨_, rfl⟩
  have zt7 : t7.size = 14 := by rw [ht7, ByteArray.size_append]; omega
  have f7 : ∀ w, (Op.stringOp .add t6 ⟨#[58]⟩).run Tryd.prog w = .ok (.string t7) w := fun w => by rw [ht7]; exact run_string_add w _ _ (by omega) (by omega)
  obtain ⟨t8, ht8⟩ : ∃ t8, t8 = t7 ++ a4 := ⟨_, rfl⟩
  have zt8 : t8.size = 16 := by rw [ht8, ByteArray.size_append]; omega
  have f8 : ∀ w, (Op.stringOp .add t7 a4).run Tryd.prog w = .ok (.string t8) w := fun w => by rw [ht8]; exact run_string_add w _ _ (by omega) (by omega)
  obtain ⟨t9, ht9⟩ : ∃ t9, t9 = t8 ++ ⟨#[58]⟩ := ⟨_, rfl⟩
  have zt9 : t9.size = 17 := by rw [ht9, ByteArray.size_append]; omega
  have f9 : ∀ w, (Op.stringOp .add t8 ⟨#[58]⟩).run Tryd.prog w = .ok (.string t9) w := fun w => by rw [ht9]; exact run_string_add w _ _ (by omega) (by omega)
  obtain ⟨t10, ht10⟩ : ∃ t10, t10 = t9 ++ a5 := ⟨_, rfl⟩
  have zt10 : t10.size = 19 := by rw [ht10, ByteArray.size_append]; omega
  have f10 : ∀ w, (Op.stringOp .add t9 a5).run Tryd.prog w = .ok (.string t10) w := fun w => by rw [ht10]; exact run_string_add w _ _ (by omega) (by omega)
  have HE' : Hid (t10 = A) := by show _ = _; rw [← HE.out, ht10, ht9, ht8, ht7, ht6, ht5, ht4, ht3, ht2, ht1]
  clear ht1 zt1 ht2 zt2 ht3 zt3 ht4 zt4 ht5 zt5 ht6 zt6 ht7 zt7 ht8 zt8 ht9 zt9 ht10 zt10 HE z0 z1 z2 z3 z4 z5 s45 s84 s58
  go_wp2_with fail
  refine wp_region_quiet_below (by kernel_rfl) (by kernel_rfl) ?_
  iterate 3 (quiet_step (fail))
  quiet_step (exact c0 _ _)
  iterate 4 (quiet_step (fail))
  quiet_step (exact c1 _ _)
  iterate 5 (quiet_step (fail))
  quiet_step (exact c2 _ _)
  iterate 5 (quiet_step (fail))
  quiet_step (exact c3 _ _)
  iterate 5 (quiet_step (fail))
  quiet_step (exact c4 _ _)
  iterate 5 (quiet_step (fail))
  quiet_step (exact c5 _ _)
  iterate 2 (quiet_step (fail))
  refine wpQuiet_nil ?_
  intro _ hw'
  obtain ⟨⟨dq, osq⟩, hw''⟩ := hw'
  subst hw''
  have hb7 := below_regrown W dq osq
  have q6 := (hb7.cell (block_lt_of_cell HQ6.out)).trans HQ6.out
  have HB7 : Hid (Below W.heap.size W (Go.Sort.grow (redrawn W dq) osq)) := hb7
  clear c0 c1 c2 c3 c4 c5 r0 r1 r2 r3 r4 r5 hb7
  generalize Go.Sort.grow (redrawn W dq) osq = w7 at *
  rw [HE'.out]
  have zA := HZ.out
  by_cases hml : ml = 0
  · have HF : Hid (A ++ ⟨#[90]⟩ = FT) := HF0.out hml
    have hmi : ¬ (0 : Int) < (ml : Int) := by omega
    go_wp2
    go_ret2
    exact ⟨by rw [← HF.out]; rfl, HB2.out.trans (HB7.out.mono HB2.out.size)⟩
  · have HF : Hid ((A ++ (⟨#[46]⟩ ++ a6)) ++ ⟨#[90]⟩ = FT) := HF1.out hml
    have hmi : (0 : Int) < (ml : Int) := by omega
    have k6 := HC6.out w7
    go_wp2_with fail
    go_fit k6
    rintro e w8 ⟨rfl, b8⟩
    have B7 := HB2.out.trans (HB7.out.mono HB2.out.size)
    go_wp2
    go_ret2
    exact ⟨by rw [← HF.out]; rfl, B7.trans (b8.mono B7.size)⟩
end Go.Proofs.YtmfeckpcnofkhabDoor
