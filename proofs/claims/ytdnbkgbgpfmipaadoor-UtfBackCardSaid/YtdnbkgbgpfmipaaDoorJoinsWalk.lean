/- The walk of the law UtfJoins. -/
import Derived.Test.YtdnbkgbgpfmipaaDoorRunes
namespace Go.Proofs.YtdnbkgbgpfmipaaDoor
open Go.RowKit Go.Lib

theorem j1 : vld ⟨#[97]⟩ (ByteArray.size ⟨#[97]⟩) 0 = true := by decide +kernel
theorem j2 : vld ⟨#[255]⟩ (ByteArray.size ⟨#[255]⟩) 0 = false := by decide +kernel

theorem valid_from (w : World) (hT : Lib.Utf8Tabs 0 1 w) (s : ByteArray) (hs : s.size ≤ 70368744177664) (w1 : World) (hb : Below w.heap.size w w1) :
    Calls Tryd.prog 9 #[.string s] w1 fun e w' => e = .returned (.bool (vld s s.size 0)) ∧ Below w.heap.size w w' :=
  (valid_any s w1 (by unfold maxLen; omega) (tabs_below hT (tabs_size hT) hb)).mono fun _ _ ⟨he, h⟩ => ⟨he, hb.trans (h.mono hb.size)⟩
theorem next_from (w : World) (hT : Lib.Utf8Tabs 0 1 w) (s : ByteArray) (hs : s.size ≤ 70368744177664) (a : Int) (w1 : World) (hb : Below w.heap.size w w1) :
    Calls Tryd.prog 10 #[.string s, .int .i64 a] w1 fun e w' => e = .returned (.tuple #[.int .i32 (nxtZ s a).1, .int .i64 (nxtZ s a).2]) ∧ Below w.heap.size w w' :=
  (next_any s a w1 (by unfold maxLen; omega) (tabs_below hT (tabs_size hT) hb)).mono fun _ _ ⟨he, h⟩ => ⟨he, hb.trans (h.mono hb.size)⟩

/-- The law's first test. -/
theorem joins_cut (a b : ByteArray) (hw : vld (a ++ b) (a ++ b).size 0 = true) : (decide (0 < (nxtZ (a ++ b) (a.size : Int)).2) || decide (b.size = 0)) = (vld a a.size 0 && vld b b.size 0) := by
  have e0 : nxtZ (a ++ b) (a.size : Int) = nxt (a ++ b) a.size := by unfold nxtZ; rw [if_pos (by omega)]; simp
  rw [e0]
  have hsz : (a ++ b).size = a.size + b.size := by simp
  have hp := nxt_pos (a ++ b) a.size
  rw [hsz] at hw
  by_cases hb0 : b.size = 0
  · have ha := cut_left a b (.inl hb0) (a.size + b.size) 0 (by omega) hw
    rw [vld_fuel a (a.size + b.size) a.size 0 (by omega) (by omega)] at ha
    have hb := cut_right a b (.inl hb0) a.size 0 (by omega) (by omega) hw
    rw [ha, hb]; simp [hb0]
  · have hlt : a.size < (a ++ b).size := by omega
    by_cases hg : good (a ++ b) a.size
    · have ha := cut_left a b (.inr hg) (a.size + b.size) 0 (by omega) hw
      rw [vld_fuel a (a.size + b.size) a.size 0 (by omega) (by omega)] at ha
      have hb := cut_right a b (.inr hg) a.size 0 (by omega) (by omega) hw
      rw [ha, hb]
      have := (good_iff _ _ hlt).1 hg
      simp only [Bool.and_self, Bool.or_eq_true, decide_eq_true_eq]
      left; omega
    · have hz : (nxt (a ++ b) a.size).2 = 0 := by
        have := mt (good_iff _ _ hlt).2 hg
        omega
      have hvb : vld b b.size 0 = false := by
        have hq : b.size = (b.size - 1) + 1 := by omega
        have hbad : (nxt b 0).2 = 0 := by
          have hd := decode_right a b 0
          rw [Nat.add_zero] at hd
          have h1 := (nxt_no (a ++ b) a.size hlt).1 hz
          rw [hd] at h1
          exact (nxt_no b 0 (by omega)).2 h1
        rw [hq]
        exact vld_bad b _ 0 (by omega) hbad
      rw [hz, hvb]
      simp [hb0]
theorem joins_ok (a b : ByteArray) (ha : vld a a.size 0 = true) (hb : vld b b.size 0 = true) :
    vld (a ++ b) (a ++ b).size 0 = true ∧ rns (a ++ b) (a ++ b).size 0 = rns a a.size 0 ++ rns b b.size 0 := by
  have hsz : (a ++ b).size = a.size + b.size := by simp
  rw [hsz]
  exact join_ok a b hb a.size 0 (by omega) (by omega) ha

theorem owns_below {w w' : World} {B : Nat} {v : Value} {n : Nat} {xs : List Value} (h : w.ownsRow B 21 1 v n xs) (hb : Below w.heap.size w w') : w'.ownsRow B 21 1 v n xs := by
  refine ⟨h.1, ?_⟩
  rcases h.2 with h0 | ⟨g, cap, cur, hv, hB, hg, r⟩
  · exact .inl h0
  · exact .inr ⟨g, cap, cur, hv, hB, (hb.block g (Array.getElem?_eq_some_iff.1 hg).1).trans hg, r⟩

set_option maxHeartbeats 1000000 in
theorem joins_notboth (a b : ByteArray) (w : World) (hs : a.size + b.size ≤ 1048576) (hT : Lib.Utf8Tabs 0 1 w) (hn : (vld a a.size 0 && vld b b.size 0) = false) :
    Calls Tryd.prog 3 #[.string a, .string b] w fun e w' => e = .returned (.bool true) ∧ Below w.heap.size w w' := by
  have V1 := valid_from w hT ⟨#[97]⟩ (by decide)
  have V2 := valid_from w hT ⟨#[255]⟩ (by decide)
  rw [j1] at V1
  rw [j2] at V2
  have hsz : (a ++ b).size = a.size + b.size := by simp
  have NX := next_from w hT (a ++ b) (by omega) (a.size : Int)
  have VW := valid_from w hT (a ++ b) (by omega)
  have VA := valid_from w hT a (by omega)
  have VB := valid_from w hT b (by omega)
  have hcut := joins_cut a b
  have n1 : ¬ 9223372036854775807 < a.size + b.size := by omega
  generalize (nxtZ (a ++ b) (a.size : Int)).1 = X at *
  generalize (nxtZ (a ++ b) (a.size : Int)).2 = Y at *
  generalize vld (a ++ b) (a ++ b).size 0 = vw at *
  generalize vld a a.size 0 = va at *
  generalize vld b b.size 0 = vb at *
  have he0 : b.toList.isEmpty = decide (b.size = 0) := by
    rw [Lib.toList_data]
    have : b.size = b.data.toList.length := by simp
    rw [this]
    cases b.data.toList <;> simp
  have hb := Below.refl w.heap.size w
  clear hT
  cases vw
  · have hE : ∃ c1 c2, decide (0 < Y) = c1 ∧ b.toList.isEmpty = c2 := ⟨_, _, rfl, rfl⟩
    obtain ⟨c1, c2, hc1, hc2⟩ := hE
    clear he0 hcut
    cases va
    · clear hn
      cases c1 <;> cases c2
      all_goals
        go_enter Tryd.func3, Tryd.ntmps3
        go_wp2_with fail
        go_fit (V1 _ hb)
        clear hb
        rintro e w1 ⟨rfl, hb⟩
        go_wp2_with fail
        go_fit (V2 _ hb)
        clear hb
        rintro e w2 ⟨rfl, hb⟩
        go_wp2_with fail
        go_fit (NX _ hb)
        clear hb
        rintro e w3 ⟨rfl, hb⟩
        go_wp2_with fail
        go_fit (VW _ hb)
        clear hb
        rintro e w4 ⟨rfl, hb⟩
        go_wp2_with fail
        go_fit (VA _ hb)
        clear hb
        rintro e w5 ⟨rfl, hb⟩
        go_wp2
        go_ret
        exact ⟨rfl, hb⟩
    · obtain rfl : vb = false := by simpa using hn
      clear hn
      cases c1 <;> cases c2
      all_goals
        go_enter Tryd.func3, Tryd.ntmps3
        go_wp2_with fail
        go_fit (V1 _ hb)
        clear hb
        rintro e w1 ⟨rfl, hb⟩
        go_wp2_with fail
        go_fit (V2 _ hb)
        clear hb
        rintro e w2 ⟨rfl, hb⟩
        go_wp2_with fail
        go_fit (NX _ hb)
        clear hb
        rintro e w3 ⟨rfl, hb⟩
        go_wp2_with fail
        go_fit (VW _ hb)
        clear hb
        rintro e w4 ⟨rfl, hb⟩
        go_wp2_with fail
        go_fit (VA _ hb)
        clear hb
        rintro e w5 ⟨rfl, hb⟩
        go_wp2_with fail
        go_fit (VB _ hb)
        clear hb
        rintro e w6 ⟨rfl, hb⟩
        go_wp2
        go_ret
        exact ⟨rfl, hb⟩
  · have hq := hcut rfl
    rw [hn] at hq
    rw [Bool.or_eq_false_iff] at hq
    obtain ⟨hc1, hc2⟩ := hq
    rw [hc2] at he0
    clear hc2 hcut
    cases va
    · clear hn
      go_enter Tryd.func3, Tryd.ntmps3
      go_wp2_with fail
      go_fit (V1 _ hb)
      clear hb
      rintro e w1 ⟨rfl, hb⟩
      go_wp2_with fail
      go_fit (V2 _ hb)
      clear hb
      rintro e w2 ⟨rfl, hb⟩
      go_wp2_with fail
      go_fit (NX _ hb)
      clear hb
      rintro e w3 ⟨rfl, hb⟩
      go_wp2_with fail
      go_fit (VW _ hb)
      clear hb
      rintro e w4 ⟨rfl, hb⟩
      go_wp2_with fail
      go_fit (VA _ hb)
      clear hb
      rintro e w5 ⟨rfl, hb⟩
      go_wp2_with fail
      go_fit (VA _ hb)
      clear hb
      rintro e w6 ⟨rfl, hb⟩
      go_wp2
      go_ret
      exact ⟨rfl, hb⟩
    · obtain rfl : vb = false := by simpa using hn
      clear hn
      go_enter Tryd.func3, Tryd.ntmps3
      go_wp2_with fail
      go_fit (V1 _ hb)
      clear hb
      rintro e w1 ⟨rfl, hb⟩
      go_wp2_with fail
      go_fit (V2 _ hb)
      clear hb
      rintro e w2 ⟨rfl, hb⟩
      go_wp2_with fail
      go_fit (NX _ hb)
      clear hb
      rintro e w3 ⟨rfl, hb⟩
      go_wp2_with fail
      go_fit (VW _ hb)
      clear hb
      rintro e w4 ⟨rfl, hb⟩
      go_wp2_with fail
      go_fit (VA _ hb)
      clear hb
      rintro e w5 ⟨rfl, hb⟩
      go_wp2_with fail
      go_fit (VB _ hb)
      clear hb
      rintro e w6 ⟨rfl, hb⟩
      go_wp2_with fail
      go_fit (VA _ hb)
      clear hb
      rintro e w7 ⟨rfl, hb⟩
      go_wp2_with fail
      go_fit (VB _ hb)
      clear hb
      rintro e w8 ⟨rfl, hb⟩
      go_wp2
      go_ret
      exact ⟨rfl, hb⟩
end Go.Proofs.YtdnbkgbgpfmipaaDoor
