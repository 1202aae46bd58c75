/- UtfBack: the walk of the law. -/
import Derived.Test.YtdnbkgbgpfmipaaDoorBackA
namespace Go.Proofs.YtdnbkgbgpfmipaaDoor
open Go.RowKit Go.Lib

theorem rts_head (ns : List Int) : rts ([97, 1114111] ++ ns) = [97, 1114111] ++ rts ns := by
  unfold rts
  rw [List.filter_append]
  rfl
theorem nxtZ_add (s : ByteArray) (a i : Nat) : nxtZ s ((a : Int) + (i : Int)) = nxt s (a + i) := by
  unfold nxtZ
  rw [if_pos (by omega)]
  congr 1

set_option maxHeartbeats 4000000 in
theorem back_walk (a0 : Option Addr) (c0 : Nat) (ns : List Int) (w : World) (hn : (2 + ns.length) * 4 ≤ 140737488355328) (hT : Lib.Utf8Tabs 0 1 w) (h : NumsIn w a0 ns) :
    Calls Tryd.prog 7 #[.slice a0 ns.length c0] w fun e w' => e = .returned (.bool true) ∧ Below w.heap.size w w' := by
  have hsz := tabs_size hT
  have HT : Hid (Lib.Utf8Tabs 0 1 w) := hT
  obtain ⟨v1, w1, r1, o1, b1⟩ := append_in w [97, 1114111] ns a0 c0 hn h
  obtain ⟨g1, c1, rfl, ra1, _, _⟩ := owned_at o1 (by simp)
  have k2 := right_any g1 0 c1 ([97, 1114111] ++ ns) w1 (by rw [List.length_append]; exact hn) ra1
  rw [rts_head] at k2
  have hall : ∀ x ∈ [97, 1114111] ++ rts ns, isRune x = true := by rw [← rts_head]; exact rts_all _
  have hxl : ([97, 1114111] ++ rts ns).length ≤ 2 + ns.length := by
    rw [List.length_append]
    have := rts_len ns
    have h2 : [(97 : Int), 1114111].length = 2 := rfl
    omega
  have hx0 : 0 < ([97, 1114111] ++ rts ns).length := by simp
  generalize [97, 1114111] ++ rts ns = xs at *
  have hr1 : (Builtin.append_ #[25, 25] 25 #[.slice (some ⟨w.heap.size, 0, none⟩) 2 2, .slice a0 ns.length c0]).run Tryd.prog (w.alloc (.cells #[.int .i32 97, .int .i32 1114111] 21)) = .ok (.slice (some ⟨g1, 0, none⟩) ([97, 1114111] ++ ns).length c1) w1 := r1
  clear r1 h hT o1 ra1
  generalize ([97, 1114111] ++ ns).length = n1 at *
  go_enter Tryd.func7, Tryd.ntmps7
  go_wp2_with (first | (at_builtin; refine wpList_append_run rfl (.tmp 13) (.tmp 14) 25 rfl _ _ rfl rfl hr1 ?_) | fail)
  go_fit k2
  clear k2 hr1
  rintro e w2 ⟨v2, rfl, o2, b2⟩
  obtain ⟨g2, c2, rfl, ra2, _, _⟩ := owned_at o2 hx0
  have k3 := text_ok g2 0 c2 xs w2 (by unfold maxLen; omega) ra2 hall
  obtain ⟨hv, hrn⟩ := rb_vld xs hall
  have hss := runesBytes_size_le xs
  have hbk := fun k (hk : k < xs.length) => back_at xs k hk (hall _ (by simp [List.getD, hk]))
  have hbm := fun k i (hk : k < xs.length) => back_mid xs k i hk (hall _ (by simp [List.getD, hk]))
  have hof := fun k (hk : k < xs.length) => offK_succ xs k hk (hall _ (by simp [List.getD, hk]))
  have hoe := offK_end xs
  have hB2 : Below w.heap.size w w2 := b1.trans (b2.mono b1.size)
  have k4 := valid_any (runesBytes xs) w2 (by unfold maxLen; omega) (tabs_below HT.out hsz hB2)
  rw [hv] at k4
  have k5 := fun w' hb => runes_ok' (runesBytes xs) w' (by unfold maxLen; omega) (by rw [hrn]; omega) (tabs_below HT.out hsz hb) hv
  rw [hrn] at k5
  have k7 := fun (a : Int) w' hb => next_any (runesBytes xs) a w' (by unfold maxLen; omega) (tabs_below HT.out hsz hb)
  generalize hS : runesBytes xs = S at *
  clear hS hv hrn
  have HBK : Hid (∀ k, k < xs.length → nxt S (offK xs k) = (xs.getD k 0, (wd (xs.getD k 0) : Int)) ∧ good S (offK xs k) ∧ (Utf8.decode S (offK xs k)).2 = wd (xs.getD k 0) ∧ offK xs k + wd (xs.getD k 0) ≤ S.size) := hbk
  have HBM : Hid (∀ k i, k < xs.length → 0 < i → i < wd (xs.getD k 0) → nxt S (offK xs k + i) = (-1, 0)) := hbm
  have HOF : Hid (∀ k, k < xs.length → offK xs (k + 1) = offK xs k + wd (xs.getD k 0)) := hof
  have HOE : Hid (offK xs xs.length = S.size) := hoe
  have HXL : Hid (xs.length ≤ 2 + ns.length) := hxl
  clear hbk hbm hof hoe hall ra2 hxl b1 b2
  have hsb : S.size ≤ 140737488355328 := by have := HXL.out; omega
  have hnb : xs.length ≤ 35184372088832 := by have := HXL.out; omega
  clear hss hn
  go_wp2_with fail
  go_fit k3
  clear k3
  rintro e w3 ⟨rfl, rfl⟩
  go_wp2_with fail
  go_fit k4
  clear k4
  rintro e w4 ⟨rfl, b4⟩
  have o4 := owns_below o2 b4
  have hB4 : Below w.heap.size w w4 := hB2.trans (b4.mono hB2.size)
  clear o2 b4 hB2
  go_wp2_with fail
  go_fit (k5 w4 hB4)
  rintro e w5 ⟨g5, c5, rfl, o5, b5⟩
  have o4' := owns_below o4 b5
  have hB5 : Below w.heap.size w w5 := hB4.trans (b5.mono hB4.size)
  clear k5 o4 b5 hB4
  have k6 := same_owned _ _ _ _ xs w5 o5 o4' (by unfold maxLen; omega)
  obtain ⟨g6, c6, hv6, ra6, _, hg6⟩ := owned_at o4' hx0
  simp only [Value.slice.injEq, Option.some.injEq, Addr.mk.injEq, and_true, true_and] at hv6
  obtain ⟨rfl, rfl⟩ := hv6
  have HRA : Hid (RunesAt w5 g2 0 xs) := ra6
  clear o5 o4' ra6 hx0
  generalize hn' : xs.length = n at *
  have HN : Hid (xs.length = n) := hn'
  clear hn'
  go_wp2_with fail
  go_fit k6
  clear k6
  rintro e w6 ⟨rfl, b6⟩
  have hB6 : Below w.heap.size w w6 := hB5.trans (b6.mono hB5.size)
  have HC : Hid (∀ j, j < n → w6.cell? ⟨g2, j, none⟩ = some (.int .i32 (xs.getD j 0))) := fun j hj => by
    rw [b6.cell hg6]
    have := HRA.out j (by rw [HN.out]; exact hj)
    rw [Nat.zero_add] at this
    exact this
  have hg6' : g2 < w6.heap.size := Nat.lt_of_lt_of_le hg6 b6.size
  clear hB5 b6 hg6
  have HZ : Hid (offK xs 0 = 0) := offK_zero xs
  go_wp2
  go_loopw [7, 44] (fun p t w' => ∃ k : Nat, t = .int .i64 k ∧ k ≤ n ∧ p = .int .i64 (offK xs k) ∧ Below w6.heap.size w6 w') (fun _ t _ => n - (RowKit.intOf t).toNat)
  case atStart => exact ⟨0, rfl, by omega, by rw [HZ.out]; rfl, Below.refl _ _⟩
  case round =>
    obtain ⟨k, rfl, hk, rfl, hbw⟩ := hrel
    by_cases hlt : k < n
    · have d0 : wr.cell? ⟨g2, k, none⟩ = some (.int .i32 (xs.getD k 0)) := by
        rw [hbw.cell hg6']; exact HC.out k hlt
      obtain ⟨q1, _, _, q4⟩ := HBK.out k hlt
      have q5 := fun i => HBM.out k i hlt
      have q6 := HOF.out k hlt
      have hwb := wd_bd (xs.getD k 0)
      have kw := width_any (xs.getD k 0)
      generalize xs.getD k 0 = x at *
      generalize offK xs k = P at *
      generalize wd x = W at *
      have Q1 : Hid (nxt S P = (x, (W : Int))) := q1
      have Q5 : Hid (∀ i, 0 < i → i < W → nxt S (P + i) = (-1, 0)) := q5
      have Q6 : Hid (offK xs (k + 1) = P + W) := q6
      clear q1 q5 q6
      go_wp2_with fail
      go_loopw [10] (fun t w' => ∃ i : Nat, t = .int .i64 i ∧ i ≤ W ∧ Below w6.heap.size w6 w') (fun t _ => W - (RowKit.intOf t).toNat)
      case atStart => exact ⟨0, rfl, by omega, hbw⟩
      case round =>
        obtain ⟨i, rfl, hi, hbi⟩ := hrel
        rename_i wi
        by_cases hil : i < W
        · have hBi := hB6.trans (hbi.mono hB6.size)
          have hiw : (i : Int) < W := by omega
          by_cases hi0 : i = 0
          · have kn := k7 (P : Int) _ hBi
            have e0 : nxtZ S (P : Int) = nxt S P := by unfold nxtZ; rw [if_pos (by omega)]; simp
            rw [e0, Q1.out] at kn
            clear e0
            subst hi0
            go_wp2_with fail
            go_fit (kw _)
            rintro e w7 ⟨rfl, rfl⟩
            go_wp2_with fail
            go_fit kn
            rintro e w8 ⟨rfl, h8⟩
            have hb8 := hbi.trans (h8.mono hbi.size)
            clear h8 hBi kn hbi
            go_wp2_with fail
            go_fit (kw _)
            rintro e w9 ⟨rfl, rfl⟩
            go_wp2
            exact ⟨⟨1, rfl, by omega, hb8⟩, by simp [RowKit.intOf]; omega⟩
          · have kn := k7 ((P : Int) + (i : Int)) _ hBi
            rw [nxtZ_add, Q5.out i (by omega) hil] at kn
            have hz : ((i : Int) == 0) = false := by rw [beq_eq_false_iff_ne]; omega
            have hp : (0 : Int) < i := by omega
            go_wp2_with fail
            go_fit (kw _)
            rintro e w7 ⟨rfl, rfl⟩
            go_wp2_with fail
            go_fit kn
            rintro e w8 ⟨rfl, h8⟩
            have hb8 := hbi.trans (h8.mono hbi.size)
            clear h8 hBi kn hbi
            go_wp2
            exact ⟨⟨i + 1, by go_num, by omega, hb8⟩, by simp [RowKit.intOf]; omega⟩
        · have hiw : ¬ (i : Int) < W := by omega
          go_wp2_with fail
          go_fit (kw _)
          rintro e w7 ⟨rfl, rfl⟩
          go_wp2_with fail
          go_fit (kw _)
          rintro e w8 ⟨rfl, rfl⟩
          go_wp2
          exact ⟨⟨k + 1, by go_num, by omega, by rw [Q6.out]; go_num, hbi⟩, by simp [RowKit.intOf]; omega⟩
    · have hkn : k = n := by omega
      have hke : ((offK xs k : Int) == (S.size : Int)) = true := by rw [beq_iff_eq, hkn, HOE.out]
      clear hkn
      go_wp2
      go_ret
      exact ⟨rfl, hB6.trans (hbw.mono hB6.size)⟩
end Go.Proofs.YtdnbkgbgpfmipaaDoor
