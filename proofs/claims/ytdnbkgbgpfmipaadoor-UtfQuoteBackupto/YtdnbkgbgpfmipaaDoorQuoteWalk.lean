/- UtfQuoteBack: the walk of the law. -/
import Derived.Test.YtdnbkgbgpfmipaaDoorChunkQ
import Derived.Test.YtdnbkgbgpfmipaaDoorRn
import Derived.Test.YtdnbkgbgpfmipaaDoorOwnUnq
namespace Go.Proofs.YtdnbkgbgpfmipaaDoor
open Go.RowKit Go.Lib

theorem rts_a (ns : List Int) : rts ([97] ++ ns) = [97] ++ rts ns := by
  unfold rts
  rw [List.filter_append]
  rfl
theorem wrF_len (B : Int → List Int) (hB : ∀ c, (B c).length ≤ 6) (s : ByteArray) : ∀ f p, s.size ≤ p + f → (wrF B s f p).length ≤ 6 * (s.size - p)
  | 0, p, h => by rw [show s.size - p = 0 by omega]; simp [wrF]
  | f + 1, p, h => by
    by_cases hl : p < s.size
    · have hw := (decode_width s p).1
      have hd := dec_size s p hl
      have ih := wrF_len B hB s f (p + (Utf8.decode s p).2) (by omega)
      have hr := runeW_len B hB ((Utf8.decode s p).1 : Int)
      rw [wrF, if_pos hl, List.length_append]
      omega
    · rw [wrF_end B s (f + 1) p hl]; simp

set_option maxHeartbeats 4000000 in
set_option maxRecDepth 100000 in
theorem quote_walk (a0 : Option Addr) (c0 : Nat) (ns : List Int) (hd rs : ByteArray) (w : World) (hn : ns.length ≤ 1048576) (hh : hd.size ≤ 1048576) (hrs : rs.size ≤ 1048576) (hT : Lib.Utf8Tabs 0 1 w) (h : NumsIn w a0 ns) :
    Calls Tryd.prog 8 #[.slice a0 ns.length c0, .string hd, .string rs] w fun e w' => e = .returned (.bool true) ∧ Below w.heap.size w w' := by
  have hsz := tabs_size hT
  have HT : Hid (Lib.Utf8Tabs 0 1 w) := hT
  obtain ⟨v1, w1, r1, o1, b1⟩ := append_in w [97] ns a0 c0 (by simp; omega) h
  obtain ⟨g1, c1, rfl, ra1, _, _⟩ := owned_at o1 (by simp)
  have k2 := right_any g1 0 c1 ([97] ++ ns) w1 (by rw [List.length_append]; simp; omega) ra1
  rw [rts_a] at k2
  have hall : ∀ x ∈ [97] ++ rts ns, isRune x = true := by rw [← rts_a]; exact rts_all _
  have hxl : ([97] ++ rts ns).length ≤ 1 + ns.length := by
    rw [List.length_append]
    have := rts_len ns
    have h2 : [(97 : Int)].length = 1 := rfl
    omega
  have hx0 : 0 < ([97] ++ rts ns).length := by simp
  generalize [97] ++ rts ns = xs at *
  have hr1 : (Builtin.append_ #[25, 25] 25 #[.slice (some ⟨w.heap.size, 0, none⟩) 1 1, .slice a0 ns.length c0]).run Tryd.prog (w.alloc (.cells #[.int .i32 97] 21)) = .ok (.slice (some ⟨g1, 0, none⟩) ([97] ++ ns).length c1) w1 := r1
  clear r1 h hT o1 ra1
  generalize ([97] ++ ns).length = n1 at *
  go_enter Tryd.func8, Tryd.ntmps8
  go_wp2_with (first | (at_builtin; refine wpList_append_run rfl (.tmp 13) (.tmp 14) 25 25 rfl _ _ rfl rfl hr1 ?_) | fail)
  go_fit k2
  clear k2 hr1
  rintro e w2 ⟨v2, rfl, o2, b2⟩
  obtain ⟨g2, c2, rfl, ra2, _, _⟩ := owned_at o2 hx0
  have hcv := conv_runes w2 g2 0 c2 xs ra2
  have hss := runesBytes_size_le xs
  have hB2 : Below w.heap.size w w2 := b1.trans (b2.mono b1.size)
  have hv := (rb_vld xs hall).1
  have k3 := quote_any (runesBytes xs) w2 (by omega) (tabs_below HT.out hsz hB2)
  have ew : wrR byteQ (runesBytes xs) = (strOfNums ([34] ++ wrF byteQ (runesBytes xs) (runesBytes xs).size 0 ++ [34]), 0) := by unfold wrR; rw [if_pos hv]
  rw [ew] at k3
  obtain ⟨q1, q2, q3, q5, q6⟩ := quote_back xs hall hx0
  have hTl : (strOfNums ([34] ++ wrF byteQ (runesBytes xs) (runesBytes xs).size 0 ++ [34])).size ≤ 33554432 := by
    have := wrF_len byteQ byteQ_len (runesBytes xs) (runesBytes xs).size 0 (by omega)
    rw [nums_size]
    simp
    omega
  generalize strOfNums ([34] ++ wrF byteQ (runesBytes xs) (runesBytes xs).size 0 ++ [34]) = T at *
  generalize runesBytes xs = S at *
  have k4 := fun w' hb => unq_any T w' (by omega) (tabs_below HT.out hsz hb)
  rw [q1] at k4
  have hsum : (hd ++ T ++ rs).size = hd.size + T.size + rs.size := by simp
  have k6 := fun w' => literal_any (hd ++ T ++ rs) (hd.size : Int) w' (by omega)
  rw [q6 hd rs] at k6
  have HJ : Hid (∀ i, i < T.size → 32 ≤ bt T i ∧ bt T i ≠ 127) := q2
  have x0 := bt_at T 0 (by omega)
  rw [q3] at x0
  have q5' : (3 : Int) ≤ T.size := by omega
  have hTl' : (T.size : Int) ≤ 33554432 := by omega
  have hh' : (hd.size : Int) ≤ 1048576 := by omega
  have hrs' : (rs.size : Int) ≤ 1048576 := by omega
  clear q1 q2 q3 q6 ew hv hss hall hxl ra2 b1 b2 o2 hx0 hsum
  generalize xs.length = n2 at *
  go_wp2_with fail
  go_fit k3
  clear k3 hcv
  rintro e w3 ⟨rfl, b3⟩
  have hB3 : Below w.heap.size w w3 := hB2.trans (b3.mono hB2.size)
  have k5 := k4 w3 hB3
  clear k4 b3 hB2
  go_wp2_with fail
  go_loopw [10] (fun t w' => ∃ i : Nat, t = .int .i64 i ∧ i ≤ T.size ∧ w' = w3) (fun t _ => T.size - (RowKit.intOf t).toNat)
  case atStart => exact ⟨0, rfl, by omega, rfl⟩
  case round =>
    obtain ⟨i, rfl, hi2, rfl⟩ := hrel
    by_cases hlt : i < T.size
    · obtain ⟨s1, s2⟩ := HJ.out i hlt
      have y0 := bt_at T i hlt
      have e127 : (bt T i == 127) = false := by rw [beq_eq_false_iff_ne]; exact s2
      generalize bt T i = d at *
      go_wp2
      go_roundw
      case rel => exact ⟨i + 1, by go_num, by omega, trivial⟩
      case measure => simp [RowKit.intOf]; omega
    · go_wp2_with fail
      go_fit k5
      rintro e w4 ⟨rfl, b4⟩
      go_wp2_with fail
      go_fit (k6 _)
      rintro e w5 ⟨rfl, rfl⟩
      go_wp2
      go_ret
      exact ⟨rfl, hB3.trans (b4.mono hB3.size)⟩
end Go.Proofs.YtdnbkgbgpfmipaaDoor
