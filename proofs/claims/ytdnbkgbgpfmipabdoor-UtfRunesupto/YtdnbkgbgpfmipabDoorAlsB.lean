/- UtfAlls: the walk of the reference's All. -/
import Derived.Test.YtdnbkgbgpfmipabDoorAlsA
namespace Go.Proofs.YtdnbkgbgpfmipabDoor
open Go.RowKit Go.Lib

theorem pcells_app (L : List (Int × Int)) (x : Int × Int) : pcells (L ++ [x]) = pcells L ++ [.int .i64 x.1] := by simp [pcells]
theorem qcells_app (L : List (Int × Int)) (x : Int × Int) : qcells (L ++ [x]) = qcells L ++ [.int .i32 x.2] := by simp [qcells]
theorem pcells_len (L : List (Int × Int)) : (pcells L).length = L.length := by simp [pcells]
theorem qcells_len (L : List (Int × Int)) : (qcells L).length = L.length := by simp [qcells]

/-- A place and a rune put behind their rows. -/
theorem app_two (w : World) (B : Nat) (v1 v2 : Value) (L : List (Int × Int)) (a r : Int) (hB : B ≤ w.heap.size) (hn : L.length ≤ 4294967296) (o1 : w.ownsRow B 3 1 v1 L.length (pcells L)) (o2 : w.ownsRow B 21 1 v2 L.length (qcells L)) :
    ∃ v1' w1 v2' w2, (Builtin.append_ #[28, 28] 28 #[v1, .slice (some ⟨w.heap.size, 0, none⟩) 1 1]).run Tryd.prog (w.alloc (.cells #[.int .i64 a] 3)) = .ok v1' w1 ∧
      (Builtin.append_ #[22, 22] 22 #[v2, .slice (some ⟨w1.heap.size, 0, none⟩) 1 1]).run Tryd.prog (w1.alloc (.cells #[.int .i32 r] 21)) = .ok v2' w2 ∧
      w2.ownsRow B 3 1 v1' (L ++ [(a, r)]).length (pcells (L ++ [(a, r)])) ∧ w2.ownsRow B 21 1 v2' (L ++ [(a, r)]).length (qcells (L ++ [(a, r)])) ∧ Below B w w2 := by
  have o1' : w.ownsRow B 3 1 v1 (pcells L).length (pcells L) := by rw [pcells_len]; exact o1
  obtain ⟨v1', w1, r1, p1, b1, g1⟩ := app_one 28 3 _ 8 Tryd.underlying28 inf3 rfl (by omega) w B v1 (pcells L) (.int .i64 a) rfl hB (by rw [pcells_len]; omega) o1'
  have o2a := (o2.alloc (.cells #[.int .i64 a] 3)).kept g1 (row_apart (o1.alloc (.cells #[.int .i64 a] 3)) (o2.alloc (.cells #[.int .i64 a] 3)) (by decide))
  have o2' : w1.ownsRow B 21 1 v2 (qcells L).length (qcells L) := by rw [qcells_len]; exact o2a
  obtain ⟨v2', w2, r2, p2, b2, g2⟩ := app_one 22 21 _ 4 Tryd.underlying22 inf21 rfl (by omega) w1 B v2 (qcells L) (.int .i32 r) rfl (Nat.le_trans hB b1.size) (by rw [qcells_len]; omega) o2'
  have p1' := (p1.alloc (.cells #[.int .i32 r] 21)).kept g2 (row_apart (o2a.alloc (.cells #[.int .i32 r] 21)) (p1.alloc (.cells #[.int .i32 r] 21)) (by decide))
  refine ⟨v1', w1, v2', w2, r1, r2, ?_, ?_, b1.trans b2⟩
  · rw [pcells_app, List.length_append]
    rw [List.length_append, pcells_len] at p1'
    exact p1'
  · rw [qcells_app, List.length_append]
    rw [List.length_append, qcells_len] at p2
    exact p2

set_option maxHeartbeats 4000000 in
set_option maxRecDepth 100000 in
theorem rall_any (s : ByteArray) (w : World) (hs : s.size ≤ 1048576) :
    Calls Tryd.prog 41 #[.string s] w fun e w' => ∃ v1 v2, e = .returned (.tuple #[v1, v2]) ∧ w'.ownsRow w.heap.size 3 1 v1 (al s).length (pcells (al s)) ∧ w'.ownsRow w.heap.size 21 1 v2 (al s).length (qcells (al s)) ∧ Below w.heap.size w w' := by
  generalize hA : al s = A
  have HA : Hid (alF s s.size 0 = A) := hA
  have HS : Hid (s.size ≤ 1048576) := hs
  have hsi : (s.size : Int) ≤ 1048576 := by omega
  clear hA
  go_enter Tryd.func41, Tryd.ntmps41
  go_wp2
  go_loopw [4, 5, 6] (fun t4 t5 t6 w' => ∃ (p f : Nat) (pre : List (Int × Int)), t6 = .int .i64 p ∧ p ≤ s.size ∧ s.size ≤ p + f ∧ Hid (pre ++ alF s f p = A) ∧ pre.length ≤ p ∧ w'.ownsRow w.heap.size 3 1 t4 pre.length (pcells pre) ∧ w'.ownsRow w.heap.size 21 1 t5 pre.length (qcells pre) ∧ Below w.heap.size w w') (fun _ _ t6 _ => s.size - (RowKit.intOf t6).toNat)
  case atStart => exact ⟨0, s.size, [], rfl, by omega, by omega, HA, by simp, World.ownsRow_nil _ _ _ _, World.ownsRow_nil _ _ _ _, Below.refl _ _⟩
  case round =>
    obtain ⟨p, f, pre, rfl, hp, hf, hpre, hpl, o1, o2, hbw⟩ := hrel
    by_cases hlt : p < s.size
    · have kn := rnext_in s p wr (by unfold maxLen; omega) hlt
      by_cases hz : (nxt s p).2 = 0
      · have HE : Hid (pre = A) := by
          have := hpre.out
          rw [alF_stop s f p (fun x => x.2 hz), List.append_nil] at this
          exact this
        rw [hz] at kn
        have HO1 : Hid (wr.ownsRow w.heap.size 3 1 u4 pre.length (pcells pre)) := o1
        have HO2 : Hid (wr.ownsRow w.heap.size 21 1 u5 pre.length (qcells pre)) := o2
        clear o1 o2 hz
        generalize (nxt s p).1 = R at *
        go_wp2_with (go_at_call 60; go_fit kn; rintro e w1 ⟨rfl, b1⟩)
        go_ret2
        have g1 : wr.grownBy w1 none := ⟨b1.os, b1.tape, b1.output, b1.size, fun k hk _ => b1.block k hk⟩
        refine ⟨u4, u5, rfl, ?_, ?_, hbw.trans (b1.mono hbw.size)⟩
        · rw [← HE.out]; exact HO1.out.kept g1 (by cases u4.ownBlock <;> simp)
        · rw [← HE.out]; exact HO2.out.kept g1 (by cases u5.ownBlock <;> simp)
      · obtain ⟨f', rfl⟩ : ∃ f', f = f' + 1 := ⟨f - 1, by omega⟩
        obtain ⟨e1, e2⟩ := nxt_width s p hz
        have hds := dec_size s p hlt
        have hdw := (decode_width s p).1
        have HP : Hid ((pre ++ [((p : Int), (nxt s p).1)]) ++ alF s f' (p + (Utf8.decode s p).2) = A) := by
          have := hpre.out
          rw [alF_go s f' p hlt hz] at this
          show _ = _
          rw [← this]
          simp
        have HX : Hid (∀ w1, Below wr.heap.size wr w1 → ∃ v1' w2 v2' w3, (Builtin.append_ #[28, 28] 28 #[u4, .slice (some ⟨w1.heap.size, 0, none⟩) 1 1]).run Tryd.prog (w1.alloc (.cells #[.int .i64 p] 3)) = .ok v1' w2 ∧
            (Builtin.append_ #[22, 22] 22 #[u5, .slice (some ⟨w2.heap.size, 0, none⟩) 1 1]).run Tryd.prog (w2.alloc (.cells #[.int .i32 (nxt s p).1] 21)) = .ok v2' w3 ∧
            w3.ownsRow w.heap.size 3 1 v1' (pre ++ [((p : Int), (nxt s p).1)]).length (pcells (pre ++ [((p : Int), (nxt s p).1)])) ∧ w3.ownsRow w.heap.size 21 1 v2' (pre ++ [((p : Int), (nxt s p).1)]).length (qcells (pre ++ [((p : Int), (nxt s p).1)])) ∧ Below w.heap.size w1 w3) := fun w1 b1 => by
          have g1 : wr.grownBy w1 none := ⟨b1.os, b1.tape, b1.output, b1.size, fun k hk _ => b1.block k hk⟩
          exact app_two w1 w.heap.size u4 u5 pre p (nxt s p).1 (Nat.le_trans hbw.size b1.size) (by omega) (o1.kept g1 (by cases u4.ownBlock <;> simp)) (o2.kept g1 (by cases u5.ownBlock <;> simp))
        have hzb : ((nxt s p).2 == 0) = false := by rw [beq_eq_false_iff_ne]; exact hz
        have e1' : (nxt s p).2 = ((Utf8.decode s p).2 : Int) := e1
        rw [e1'] at kn hzb
        have HD : Hid (p + (Utf8.decode s p).2 ≤ s.size) := hds
        have hdi : ((p : Int) + (Utf8.decode s p).2) ≤ s.size := by omega
        have hpl2 : (pre ++ [((p : Int), (nxt s p).1)]).length ≤ p + (Utf8.decode s p).2 := by simp; omega
        clear hpre o1 o2 hz e1 e1' e2 hds
        generalize (nxt s p).1 = R at *
        generalize (Utf8.decode s p).2 = D at *
        go_wp2_with fail
        go_fit kn
        rintro e w1 ⟨rfl, b1⟩
        obtain ⟨v1', w2, v2', w3, r1, r2, p1, p2, b3⟩ := HX.out w1 b1
        clear HX kn
        go_wp2_with (first | (at_builtin; refine wp_append_run rfl (.tmp 21) (.tmp 23) 28 28 rfl _ _ rfl rfl r1 ?_) | (at_builtin; refine wp_append_run rfl (.tmp 25) (.tmp 27) 22 22 rfl _ _ rfl rfl r2 ?_))
        go_roundw
        case rel => exact ⟨p + D, f', pre ++ [((p : Int), R)], by go_num, HD.out, by omega, HP, hpl2, p1, p2, (hbw.trans (b1.mono hbw.size)).trans b3⟩
        case measure => simp [RowKit.intOf]; omega
    · have HE : Hid (pre = A) := by
        have := hpre.out
        rw [alF_stop s f p (fun x => hlt x.1), List.append_nil] at this
        exact this
      have HO1 : Hid (wr.ownsRow w.heap.size 3 1 u4 pre.length (pcells pre)) := o1
      have HO2 : Hid (wr.ownsRow w.heap.size 21 1 u5 pre.length (qcells pre)) := o2
      clear o1 o2
      go_wp2
      go_ret2
      exact ⟨u4, u5, rfl, by rw [← HE.out]; exact HO1.out, by rw [← HE.out]; exact HO2.out, hbw⟩
end Go.Proofs.YtdnbkgbgpfmipabDoor
