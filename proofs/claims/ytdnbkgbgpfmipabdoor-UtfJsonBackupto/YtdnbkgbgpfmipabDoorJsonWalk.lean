/- UtfJsonBack: the walk of the law. -/
import Derived.Test.YtdnbkgbgpfmipabDoorChunkJ
import Derived.Test.YtdnbkgbgpfmipabDoorRn
namespace Go.Proofs.YtdnbkgbgpfmipabDoor
open Go.RowKit Go.Lib

theorem rts_a (ns : List Int) : rts ([97] ++ ns) = [97] ++ rts ns := by
  unfold rts
  rw [List.filter_append]
  rfl
theorem wrF_len (B : Int → List Int) (hB : ∀ c, (B c).length ≤ 6) (s : ByteArray) : ∀ f p, s.size ≤ p + f → (wrF B s f p).length ≤ 6 * (s.size - p)
  | 0, p, h => by rw [show s.size - p = 0 by omega]; simp [wrF]
  | f + 1, p, h => by
    by_cases hl : p < s.size
    · have hw := (decode_width s p).1
      have hd := dec_size s p hl
      have ih := wrF_len B hB s f (p + (Utf8.decode s p).2) (by omega)
      have hr := runeW_len B hB ((Utf8.decode s p).1 : Int)
      rw [wrF, if_pos hl, List.length_append]
      omega
    · rw [wrF_end B s (f + 1) p hl]; simp

theorem js_step (T : ByteArray) (i : Nat) (h : i + 1 < T.size) (H : ∀ f, jsF T f i = true) : 32 ≤ bt T i ∧ bt T i ≠ 34 ∧ (bt T i = 92 → i + 2 < T.size ∧ 32 ≤ bt T (i + 1) ∧ ∀ f, jsF T f (i + 2) = true) ∧ (bt T i ≠ 92 → ∀ f, jsF T f (i + 1) = true) := by
  have e : ∀ f, (if bt T i < 32 ∨ bt T i = 34 then false else if bt T i = 92 then (if T.size ≤ i + 2 ∨ bt T (i + 1) < 32 then false else jsF T f (i + 2)) else jsF T f (i + 1)) = true := fun f => by
    have := H (f + 1)
    rw [jsF, if_pos h] at this
    exact this
  have h1 : ¬ (bt T i < 32 ∨ bt T i = 34) := fun x => by have := e 0; rw [if_pos x] at this; cases this
  refine ⟨by omega, by omega, fun x => ?_, fun x f => ?_⟩
  · have h2 : ¬ (T.size ≤ i + 2 ∨ bt T (i + 1) < 32) := fun y => by have := e 0; rw [if_neg h1, if_pos x, if_pos y] at this; cases this
    exact ⟨by omega, by omega, fun f => by have := e f; rw [if_neg h1, if_pos x, if_neg h2] at this; exact this⟩
  · have := e f
    rw [if_neg h1, if_neg x] at this
    exact this

set_option maxHeartbeats 4000000 in
set_option maxRecDepth 100000 in
theorem json_walk (a0 : Option Addr) (c0 : Nat) (ns : List Int) (w : World) (hn : ns.length ≤ 1048576) (hT : Lib.Utf8Tabs 1 2 w) (h : NumsIn w a0 ns) :
    Calls Tryd.prog 3 #[.slice a0 ns.length c0] w fun e w' => e = .returned (.bool true) ∧ Below w.heap.size w w' := by
  have hsz := tabs_size hT
  have HT : Hid (Lib.Utf8Tabs 1 2 w) := hT
  obtain ⟨v1, w1, r1, o1, b1⟩ := append_in w [97] ns a0 c0 (by simp; omega) h
  obtain ⟨g1, c1, rfl, ra1, _, _⟩ := owned_at o1 (by simp)
  have k2 := right_any g1 0 c1 ([97] ++ ns) w1 (by rw [List.length_append]; simp; omega) ra1
  rw [rts_a] at k2
  have hall : ∀ x ∈ [97] ++ rts ns, isRune x = true := by rw [← rts_a]; exact rts_all _
  have hxl : ([97] ++ rts ns).length ≤ 1 + ns.length := by
    rw [List.length_append]
    have := rts_len ns
    have h2 : [(97 : Int)].length = 1 := rfl
    omega
  have hx0 : 0 < ([97] ++ rts ns).length := by simp
  generalize [97] ++ rts ns = xs at *
  have hr1 : (Builtin.append_ #[22, 22] 22 #[.slice (some ⟨w.heap.size, 0, none⟩) 1 1, .slice a0 ns.length c0]).run Tryd.prog (w.alloc (.cells #[.int .i32 97] 21)) = .ok (.slice (some ⟨g1, 0, none⟩) ([97] ++ ns).length c1) w1 := r1
  clear r1 h hT o1 ra1
  generalize ([97] ++ ns).length = n1 at *
  go_enter Tryd.func3, Tryd.ntmps3
  go_wp2_with (first | (at_builtin; refine wpList_append_run rfl (.tmp 8) (.tmp 9) 22 22 rfl _ _ rfl rfl hr1 ?_) | fail)
  go_fit k2
  clear k2 hr1
  rintro e w2 ⟨v2, rfl, o2, b2⟩
  obtain ⟨g2, c2, rfl, ra2, _, _⟩ := owned_at o2 hx0
  have hcv := conv_runes w2 g2 0 c2 xs ra2
  have hss := runesBytes_size_le xs
  have hB2 : Below w.heap.size w w2 := b1.trans (b2.mono b1.size)
  have hv := (rb_vld xs hall).1
  have k3 := json_any (runesBytes xs) w2 (by omega) (tabs_below HT.out hsz hB2)
  have ew : wrR byteJ (runesBytes xs) = (strOfNums ([34] ++ wrF byteJ (runesBytes xs) (runesBytes xs).size 0 ++ [34]), 0) := by unfold wrR; rw [if_pos hv]
  rw [ew] at k3
  obtain ⟨q1, q2, q3, q4, q5⟩ := json_back xs hall hx0
  have hTl : (strOfNums ([34] ++ wrF byteJ (runesBytes xs) (runesBytes xs).size 0 ++ [34])).size ≤ 33554432 := by
    have := wrF_len byteJ byteJ_len (runesBytes xs) (runesBytes xs).size 0 (by omega)
    rw [nums_size]
    simp
    omega
  generalize strOfNums ([34] ++ wrF byteJ (runesBytes xs) (runesBytes xs).size 0 ++ [34]) = T at *
  generalize runesBytes xs = S at *
  have k4 := fun w' hb => unjson_any T w' (by omega) (tabs_below HT.out hsz hb)
  rw [q1] at k4
  have HJ : Hid (∀ f, jsF T f 1 = true) := q2
  have x0 := bt_at T 0 (by omega)
  rw [q3] at x0
  have x1 := bt_at T (T.size - 1) (by omega)
  rw [q4] at x1
  have q5' : (3 : Int) ≤ T.size := by omega
  have hTl' : (T.size : Int) ≤ 33554432 := by omega
  clear q1 q2 q3 q4 ew hv hss hall hxl ra2 b1 b2 o2 hx0
  generalize xs.length = n2 at *
  go_wp2_with fail
  go_fit k3
  clear k3 hcv
  rintro e w3 ⟨rfl, b3⟩
  have hB3 : Below w.heap.size w w3 := hB2.trans (b3.mono hB2.size)
  have k5 := k4 w3 hB3
  clear k4 b3 hB2
  go_wp2_with fail
  go_loopw [6] (fun t w' => ∃ i : Nat, t = .int .i64 i ∧ 1 ≤ i ∧ i + 1 ≤ T.size ∧ Hid (∀ f, jsF T f i = true) ∧ w' = w3) (fun t _ => T.size - (RowKit.intOf t).toNat)
  case atStart => exact ⟨1, rfl, by omega, by omega, HJ, rfl⟩
  case round =>
    obtain ⟨i, rfl, hi1, hi2, hj, rfl⟩ := hrel
    by_cases hlt : i + 1 < T.size
    · obtain ⟨s1, s2, s3, s4⟩ := js_step T i hlt hj.out
      have y0 := bt_at T i (by omega)
      have y1 := bt_at T (i + 1) hlt
      have hlt' : (i : Int) < (T.size : Int) - 1 := by omega
      by_cases h92 : bt T i = 92
      · obtain ⟨t1, t2, t3⟩ := s3 h92
        have HS : Hid (∀ f, jsF T f (i + 2) = true) := t3
        clear s3 s4 t3 hj
        rw [h92] at y0
        generalize bt T (i + 1) = d at *
        go_wp2
        go_roundw
        case rel => exact ⟨i + 2, by go_num, by omega, by omega, HS, trivial⟩
        case measure => simp [RowKit.intOf]; omega
      · have HS : Hid (∀ f, jsF T f (i + 1) = true) := s4 h92
        have e92 : (bt T i == 92) = false := by rw [beq_eq_false_iff_ne]; exact h92
        have e34 : (bt T i == 34) = false := by rw [beq_eq_false_iff_ne]; exact s2
        clear s3 s4 hj y1
        generalize bt T i = d at *
        go_wp2
        go_roundw
        case rel => exact ⟨i + 1, by go_num, by omega, by omega, HS, trivial⟩
        case measure => simp [RowKit.intOf]; omega
    · have hlt' : ¬ (i : Int) < (T.size : Int) - 1 := by omega
      go_wp2_with fail
      go_fit k5
      rintro e w4 ⟨rfl, b4⟩
      go_wp2
      go_ret
      exact ⟨rfl, hB3.trans (b4.mono hB3.size)⟩
end Go.Proofs.YtdnbkgbgpfmipabDoor
