/- The walk of the reference's seconds. -/
import Derived.Test.YtmfeckpcnofkhaaDoorStD
namespace Go.Proofs.YtmfeckpcnofkhaaDoor
open Go.RowKit

theorem ext_ext (s : ByteArray) (a b : Nat) (hb : a + b ≤ s.size) : (s.extract a s.size).extract b (s.extract a s.size).size = s.extract (a + b) s.size := by
  refine ba_ext ?_ (fun i hi => ?_)
  · simp only [ByteArray.size_extract]; omega
  · rw [bt_extract, bt_extract, bt_extract]
    congr 1
    omega
theorem ext_pre (s : ByteArray) (a b : Nat) (hb : a + b ≤ s.size) : (s.extract a s.size).extract 0 b = s.extract a (a + b) := by
  have e : (s.extract a s.size).size = s.size - a := by rw [ByteArray.size_extract]; omega
  refine ba_ext ?_ (fun i hi => ?_)
  · simp only [ByteArray.size_extract]; omega
  · rw [ByteArray.size_extract, e] at hi
    rw [bt_ext _ 0 b i (by omega) (by omega), bt_extract, bt_ext s a (a + b) i (by omega) hb]
    congr 1
    omega
theorem sa_le (s : ByteArray) : sa s ≤ s.size ∧ sa s ≤ 1 := by
  unfold sa
  split
  · rename_i h
    have : 0 < s.size := h.elim (·.1) (·.1)
    omega
  · omega
/-- The parts of a number of seconds, by places in the text itself. -/
theorem sec_parts (s : ByteArray) : ∃ j : Nat, rn s (sa s) = j ∧ sa s ≤ j ∧ j ≤ s.size ∧ rn (sT s) 0 + sa s = j ∧ sR s = s.extract j s.size ∧ (sT s).extract 0 (rn (sT s) 0) = s.extract (sa s) j ∧ (j < s.size → sU s = s.extract (j + 1) s.size ∧ rn (sU s) 0 + (j + 1) = rn s (j + 1)) := by
  have h1 := rn_bd s (sa s) (sa_le s).1
  have h2 := rn_ext s (sa s)
  have h3 : rn (sT s) 0 + sa s = rn s (sa s) := h2
  refine ⟨rn s (sa s), rfl, h1.1, h1.2, h3, ?_, ?_, fun hj => ?_⟩
  · unfold sR
    have := ext_ext s (sa s) (rn (sT s) 0) (by omega)
    rw [show sa s + rn (sT s) 0 = rn s (sa s) by omega] at this
    exact this
  · have := ext_pre s (sa s) (rn (sT s) 0) (by omega)
    rw [show sa s + rn (sT s) 0 = rn s (sa s) by omega] at this
    exact this
  · have e : sU s = s.extract (rn s (sa s) + 1) s.size := by
      unfold sU
      have h4 : sR s = s.extract (rn s (sa s)) s.size := by
        unfold sR
        have := ext_ext s (sa s) (rn (sT s) 0) (by omega)
        rw [show sa s + rn (sT s) 0 = rn s (sa s) by omega] at this
        exact this
      rw [h4]
      exact ext_ext s (rn s (sa s)) 1 (by omega)
    refine ⟨e, ?_⟩
    rw [e]
    exact rn_ext s (rn s (sa s) + 1)
theorem hp_R (s : ByteArray) (j : Nat) (h : sR s = s.extract j s.size) : hp (sR s) 46 ↔ j < s.size ∧ bt s j = 46 := by
  unfold hp
  rw [h, bt_extract, Nat.add_zero, ByteArray.size_extract]
  have : ((46 : UInt8).toNat : Int) = 46 := rfl
  rw [this]
  constructor
  · rintro ⟨a, b⟩; exact ⟨by omega, b⟩
  · rintro ⟨a, b⟩; exact ⟨by omega, b⟩

set_option maxHeartbeats 4000000 in
set_option maxRecDepth 100000 in
/- Past the sign: the place a where the digits begin, the place j behind them. -/
theorem rsec_walk (s : ByteArray) (a j : Nat) (m : Bool) (w : World) (hs : s.size ≤ 64) (h0 : 0 < s.size) (ha : a ≤ 1) (haj : a ≤ j) (hj : j ≤ s.size) (hsg : (a = 1 ∧ m = true ∧ bt s 0 = 45) ∨ (a = 1 ∧ m = false ∧ bt s 0 = 43) ∨ (a = 0 ∧ m = false ∧ bt s 0 ≠ 45 ∧ bt s 0 ≠ 43))
    (hr : rn s a = j) : Calls Tryd.prog 38 #[.string s] w fun e w' => e = .returned (if j ≠ a ∧ (j = s.size ∨ j < s.size ∧ bt s j = 46 ∧ j + 1 < s.size ∧ rn s (j + 1) = s.size) then .tuple #[.bool m, .string (s.extract a j), .string (if j = s.size then ⟨#[]⟩ else s.extract (j + 1) s.size), .bool true] else .tuple #[.bool false, .string ⟨#[]⟩, .string ⟨#[]⟩, .bool false]) ∧ Below w.heap.size w w' := by
  have hne := nonempty_nil s h0
  have hne2 : s.toList.isEmpty = false := by simpa using hne
  have hx := bt_at s 0 h0
  have k1 : ∀ w, Calls Tryd.prog 32 #[.string s, .int .i64 a] w fun e w' => e = .returned (.int .i64 j) ∧ w' = w := fun w => by
    have := rrun_any s a w (by omega) (by omega)
    rwa [hr] at this
  generalize hP : (if j ≠ a ∧ (j = s.size ∨ j < s.size ∧ bt s j = 46 ∧ j + 1 < s.size ∧ rn s (j + 1) = s.size) then Value.tuple #[.bool m, .string (s.extract a j), .string (if j = s.size then ⟨#[]⟩ else s.extract (j + 1) s.size), .bool true] else .tuple #[.bool false, .string ⟨#[]⟩, .string ⟨#[]⟩, .bool false]) = P
  have HP : Hid ((if j ≠ a ∧ (j = s.size ∨ j < s.size ∧ bt s j = 46 ∧ j + 1 < s.size ∧ rn s (j + 1) = s.size) then Value.tuple #[.bool m, .string (s.extract a j), .string (if j = s.size then ⟨#[]⟩ else s.extract (j + 1) s.size), .bool true] else .tuple #[.bool false, .string ⟨#[]⟩, .string ⟨#[]⟩, .bool false]) = P) := hP
  clear hP hr
  have ji : (j : Int) ≤ s.size := by omega
  rcases hsg with ⟨rfl, rfl, hb⟩ | ⟨rfl, rfl, hb⟩ | ⟨rfl, rfl, hb, hb2⟩
  · rw [hb] at hx
    clear hb
    by_cases c0 : j = 1
    · have HE : Hid (P = .tuple #[.bool false, .string ⟨#[]⟩, .string ⟨#[]⟩, .bool false]) := by show _ = _; rw [← HP.out, if_neg (fun h => h.1 c0)]
      subst c0
      go_enter Tryd.func38, Tryd.ntmps38
      go_wp2_with fail
      go_fit (k1 _)
      rintro e w1 ⟨rfl, rfl⟩
      clear k1
      go_wp2
      exact bodyPost_ret (v := .tuple #[.bool false, .string ⟨#[]⟩, .string ⟨#[]⟩, .bool false]) (by simp [results, Tryd.results38, go_sem]) rfl ⟨by rw [HE.out], by first | exact Below.refl _ _ | exact (Below.refl _ _).drew⟩
    · have c0i : ((j : Int) == 1) = false := by simp; omega
      by_cases c1 : j = s.size
      · have HE : Hid (P = .tuple #[.bool true, .string (s.extract 1 j), .string ⟨#[]⟩, .bool true]) := by show _ = _; rw [← HP.out, if_pos ⟨c0, .inl c1⟩, if_pos c1]
        have c1i : ((j : Int) == s.size) = true := by simp; omega
        go_enter Tryd.func38, Tryd.ntmps38
        go_wp2_with fail
        go_fit (k1 _)
        rintro e w1 ⟨rfl, rfl⟩
        clear k1
        go_wp2_with fail
        go_region
        all_goals go_wp2
        all_goals exact bodyPost_ret (v := .tuple #[.bool true, .string (s.extract 1 j), .string ⟨#[]⟩, .bool true]) (by simp [results, Tryd.results38, go_sem]; rw [c1]) rfl ⟨by rw [HE.out], by first | exact Below.refl _ _ | exact (Below.refl _ _).drew⟩
      · have c1i : ((j : Int) == s.size) = false := by simp; omega
        have jlt : j < s.size := by omega
        have jli : (j : Int) < s.size := by omega
        have hxj := bt_at s j jlt
        by_cases c2 : bt s j = 46
        · rw [c2] at hxj
          by_cases c3 : j + 1 = s.size
          · have HE : Hid (P = .tuple #[.bool false, .string ⟨#[]⟩, .string ⟨#[]⟩, .bool false]) := by show _ = _; rw [← HP.out, if_neg (fun h => by omega)]
            have c3i : ((j : Int) + 1 == s.size) = true := by simp; omega
            go_enter Tryd.func38, Tryd.ntmps38
            go_wp2_with fail
            go_fit (k1 _)
            rintro e w1 ⟨rfl, rfl⟩
            clear k1
            go_wp2
            exact bodyPost_ret (v := .tuple #[.bool false, .string ⟨#[]⟩, .string ⟨#[]⟩, .bool false]) (by simp [results, Tryd.results38, go_sem]) rfl ⟨by rw [HE.out], by first | exact Below.refl _ _ | exact (Below.refl _ _).drew⟩
          · have c3i : ((j : Int) + 1 == s.size) = false := by simp; omega
            have k2 := fun w => rrun_any s (j + 1) w (by omega) (by omega)
            by_cases c4 : rn s (j + 1) = s.size
            · have HE : Hid (P = .tuple #[.bool true, .string (s.extract 1 j), .string (s.extract (j + 1) s.size), .bool true]) := by show _ = _; rw [← HP.out, if_pos ⟨c0, .inr ⟨jlt, c2, by omega, c4⟩⟩, if_neg c1]
              have c4i : ((rn s (j + 1) : Int) != s.size) = false := by simp; omega
              generalize rn s (j + 1) = r at *
              go_enter Tryd.func38, Tryd.ntmps38
              go_wp2_with fail
              go_fit (k1 _)
              rintro e w1 ⟨rfl, rfl⟩
              clear k1
              go_wp2_with fail
              go_fit (k2 _)
              rintro e w2 ⟨rfl, rfl⟩
              clear k2
              go_wp2_with fail
              go_region
              all_goals go_wp2
              all_goals exact bodyPost_ret (v := .tuple #[.bool true, .string (s.extract 1 j), .string (s.extract (j + 1) s.size), .bool true]) (by simp [results, Tryd.results38, go_sem]) rfl ⟨by rw [HE.out], by first | exact Below.refl _ _ | exact (Below.refl _ _).drew⟩
            · have HE : Hid (P = .tuple #[.bool false, .string ⟨#[]⟩, .string ⟨#[]⟩, .bool false]) := by show _ = _; rw [← HP.out, if_neg (fun h => by omega)]
              have c4i : ((rn s (j + 1) : Int) != s.size) = true := by simp; omega
              generalize rn s (j + 1) = r at *
              go_enter Tryd.func38, Tryd.ntmps38
              go_wp2_with fail
              go_fit (k1 _)
              rintro e w1 ⟨rfl, rfl⟩
              clear k1
              go_wp2_with fail
              go_fit (k2 _)
              rintro e w2 ⟨rfl, rfl⟩
              clear k2
              go_wp2
              exact bodyPost_ret (v := .tuple #[.bool false, .string ⟨#[]⟩, .string ⟨#[]⟩, .bool false]) (by simp [results, Tryd.results38, go_sem]) rfl ⟨by rw [HE.out], by first | exact Below.refl _ _ | exact (Below.refl _ _).drew⟩
        · have HE : Hid (P = .tuple #[.bool false, .string ⟨#[]⟩, .string ⟨#[]⟩, .bool false]) := by show _ = _; rw [← HP.out, if_neg (fun h => by omega)]
          have c2i : (bt s j != 46) = true := by simpa using c2
          go_enter Tryd.func38, Tryd.ntmps38
          go_wp2_with fail
          go_fit (k1 _)
          rintro e w1 ⟨rfl, rfl⟩
          clear k1
          go_wp2
          exact bodyPost_ret (v := .tuple #[.bool false, .string ⟨#[]⟩, .string ⟨#[]⟩, .bool false]) (by simp [results, Tryd.results38, go_sem]) rfl ⟨by rw [HE.out], by first | exact Below.refl _ _ | exact (Below.refl _ _).drew⟩
  · rw [hb] at hx
    clear hb
    by_cases c0 : j = 1
    · have HE : Hid (P = .tuple #[.bool false, .string ⟨#[]⟩, .string ⟨#[]⟩, .bool false]) := by show _ = _; rw [← HP.out, if_neg (fun h => h.1 c0)]
      subst c0
      go_enter Tryd.func38, Tryd.ntmps38
      go_wp2_with fail
      go_fit (k1 _)
      rintro e w1 ⟨rfl, rfl⟩
      clear k1
      go_wp2
      exact bodyPost_ret (v := .tuple #[.bool false, .string ⟨#[]⟩, .string ⟨#[]⟩, .bool false]) (by simp [results, Tryd.results38, go_sem]) rfl ⟨by rw [HE.out], by first | exact Below.refl _ _ | exact (Below.refl _ _).drew⟩
    · have c0i : ((j : Int) == 1) = false := by simp; omega
      by_cases c1 : j = s.size
      · have HE : Hid (P = .tuple #[.bool false, .string (s.extract 1 j), .string ⟨#[]⟩, .bool true]) := by show _ = _; rw [← HP.out, if_pos ⟨c0, .inl c1⟩, if_pos c1]
        have c1i : ((j : Int) == s.size) = true := by simp; omega
        go_enter Tryd.func38, Tryd.ntmps38
        go_wp2_with fail
        go_fit (k1 _)
        rintro e w1 ⟨rfl, rfl⟩
        clear k1
        go_wp2_with fail
        go_region
        all_goals go_wp2
        all_goals exact bodyPost_ret (v := .tuple #[.bool false, .string (s.extract 1 j), .string ⟨#[]⟩, .bool true]) (by simp [results, Tryd.results38, go_sem]; rw [c1]) rfl ⟨by rw [HE.out], by first | exact Below.refl _ _ | exact (Below.refl _ _).drew⟩
      · have c1i : ((j : Int) == s.size) = false := by simp; omega
        have jlt : j < s.size := by omega
        have jli : (j : Int) < s.size := by omega
        have hxj := bt_at s j jlt
        by_cases c2 : bt s j = 46
        · rw [c2] at hxj
          by_cases c3 : j + 1 = s.size
          · have HE : Hid (P = .tuple #[.bool false, .string ⟨#[]⟩, .string ⟨#[]⟩, .bool false]) := by show _ = _; rw [← HP.out, if_neg (fun h => by omega)]
            have c3i : ((j : Int) + 1 == s.size) = true := by simp; omega
            go_enter Tryd.func38, Tryd.ntmps38
            go_wp2_with fail
            go_fit (k1 _)
            rintro e w1 ⟨rfl, rfl⟩
            clear k1
            go_wp2
            exact bodyPost_ret (v := .tuple #[.bool false, .string ⟨#[]⟩, .string ⟨#[]⟩, .bool false]) (by simp [results, Tryd.results38, go_sem]) rfl ⟨by rw [HE.out], by first | exact Below.refl _ _ | exact (Below.refl _ _).drew⟩
          · have c3i : ((j : Int) + 1 == s.size) = false := by simp; omega
            have k2 := fun w => rrun_any s (j + 1) w (by omega) (by omega)
            by_cases c4 : rn s (j + 1) = s.size
            · have HE : Hid (P = .tuple #[.bool false, .string (s.extract 1 j), .string (s.extract (j + 1) s.size), .bool true]) := by show _ = _; rw [← HP.out, if_pos ⟨c0, .inr ⟨jlt, c2, by omega, c4⟩⟩, if_neg c1]
              have c4i : ((rn s (j + 1) : Int) != s.size) = false := by simp; omega
              generalize rn s (j + 1) = r at *
              go_enter Tryd.func38, Tryd.ntmps38
              go_wp2_with fail
              go_fit (k1 _)
              rintro e w1 ⟨rfl, rfl⟩
              clear k1
              go_wp2_with fail
              go_fit (k2 _)
              rintro e w2 ⟨rfl, rfl⟩
              clear k2
              go_wp2_with fail
              go_region
              all_goals go_wp2
              all_goals exact bodyPost_ret (v := .tuple #[.bool false, .string (s.extract 1 j), .string (s.extract (j + 1) s.size), .bool true]) (by simp [results, Tryd.results38, go_sem]) rfl ⟨by rw [HE.out], by first | exact Below.refl _ _ | exact (Below.refl _ _).drew⟩
            · have HE : Hid (P = .tuple #[.bool false, .string ⟨#[]⟩, .string ⟨#[]⟩, .bool false]) := by show _ = _; rw [← HP.out, if_neg (fun h => by omega)]
              have c4i : ((rn s (j + 1) : Int) != s.size) = true := by simp; omega
              generalize rn s (j + 1) = r at *
              go_enter Tryd.func38, Tryd.ntmps38
              go_wp2_with fail
              go_fit (k1 _)
              rintro e w1 ⟨rfl, rfl⟩
              clear k1
              go_wp2_with fail
              go_fit (k2 _)
              rintro e w2 ⟨rfl, rfl⟩
              clear k2
              go_wp2
              exact bodyPost_ret (v := .tuple #[.bool false, .string ⟨#[]⟩, .string ⟨#[]⟩, .bool false]) (by simp [results, Tryd.results38, go_sem]) rfl ⟨by rw [HE.out], by first | exact Below.refl _ _ | exact (Below.refl _ _).drew⟩
        · have HE : Hid (P = .tuple #[.bool false, .string ⟨#[]⟩, .string ⟨#[]⟩, .bool false]) := by show _ = _; rw [← HP.out, if_neg (fun h => by omega)]
          have c2i : (bt s j != 46) = true := by simpa using c2
          go_enter Tryd.func38, Tryd.ntmps38
          go_wp2_with fail
          go_fit (k1 _)
          rintro e w1 ⟨rfl, rfl⟩
          clear k1
          go_wp2
          exact bodyPost_ret (v := .tuple #[.bool false, .string ⟨#[]⟩, .string ⟨#[]⟩, .bool false]) (by simp [results, Tryd.results38, go_sem]) rfl ⟨by rw [HE.out], by first | exact Below.refl _ _ | exact (Below.refl _ _).drew⟩
  · have hq1 : (bt s 0 == 45) = false := by simpa using hb
    have hq2 : (bt s 0 == 43) = false := by simpa using hb2
    clear hb hb2
    by_cases c0 : j = 0
    · have HE : Hid (P = .tuple #[.bool false, .string ⟨#[]⟩, .string ⟨#[]⟩, .bool false]) := by show _ = _; rw [← HP.out, if_neg (fun h => h.1 c0)]
      subst c0
      go_enter Tryd.func38, Tryd.ntmps38
      go_wp2_with fail
      go_fit (k1 _)
      rintro e w1 ⟨rfl, rfl⟩
      clear k1
      go_wp2
      exact bodyPost_ret (v := .tuple #[.bool false, .string ⟨#[]⟩, .string ⟨#[]⟩, .bool false]) (by simp [results, Tryd.results38, go_sem]) rfl ⟨by rw [HE.out], by first | exact Below.refl _ _ | exact (Below.refl _ _).drew⟩
    · have c0i : ((j : Int) == 0) = false := by simp; omega
      by_cases c1 : j = s.size
      · have HE : Hid (P = .tuple #[.bool false, .string (s.extract 0 j), .string ⟨#[]⟩, .bool true]) := by show _ = _; rw [← HP.out, if_pos ⟨c0, .inl c1⟩, if_pos c1]
        have c1i : ((j : Int) == s.size) = true := by simp; omega
        go_enter Tryd.func38, Tryd.ntmps38
        go_wp2_with fail
        go_fit (k1 _)
        rintro e w1 ⟨rfl, rfl⟩
        clear k1
        go_wp2_with fail
        go_region
        all_goals go_wp2
        all_goals exact bodyPost_ret (v := .tuple #[.bool false, .string (s.extract 0 j), .string ⟨#[]⟩, .bool true]) (by simp [results, Tryd.results38, go_sem]; rw [c1, ext0]) rfl ⟨by rw [HE.out], by first | exact Below.refl _ _ | exact (Below.refl _ _).drew⟩
      · have c1i : ((j : Int) == s.size) = false := by simp; omega
        have jlt : j < s.size := by omega
        have jli : (j : Int) < s.size := by omega
        have hxj := bt_at s j jlt
        by_cases c2 : bt s j = 46
        · rw [c2] at hxj
          by_cases c3 : j + 1 = s.size
          · have HE : Hid (P = .tuple #[.bool false, .string ⟨#[]⟩, .string ⟨#[]⟩, .bool false]) := by show _ = _; rw [← HP.out, if_neg (fun h => by omega)]
            have c3i : ((j : Int) + 1 == s.size) = true := by simp; omega
            go_enter Tryd.func38, Tryd.ntmps38
            go_wp2_with fail
            go_fit (k1 _)
            rintro e w1 ⟨rfl, rfl⟩
            clear k1
            go_wp2
            exact bodyPost_ret (v := .tuple #[.bool false, .string ⟨#[]⟩, .string ⟨#[]⟩, .bool false]) (by simp [results, Tryd.results38, go_sem]) rfl ⟨by rw [HE.out], by first | exact Below.refl _ _ | exact (Below.refl _ _).drew⟩
          · have c3i : ((j : Int) + 1 == s.size) = false := by simp; omega
            have k2 := fun w => rrun_any s (j + 1) w (by omega) (by omega)
            by_cases c4 : rn s (j + 1) = s.size
            · have HE : Hid (P = .tuple #[.bool false, .string (s.extract 0 j), .string (s.extract (j + 1) s.size), .bool true]) := by show _ = _; rw [← HP.out, if_pos ⟨c0, .inr ⟨jlt, c2, by omega, c4⟩⟩, if_neg c1]
              have c4i : ((rn s (j + 1) : Int) != s.size) = false := by simp; omega
              generalize rn s (j + 1) = r at *
              go_enter Tryd.func38, Tryd.ntmps38
              go_wp2_with fail
              go_fit (k1 _)
              rintro e w1 ⟨rfl, rfl⟩
              clear k1
              go_wp2_with fail
              go_fit (k2 _)
              rintro e w2 ⟨rfl, rfl⟩
              clear k2
              go_wp2_with fail
              go_region
              all_goals go_wp2
              all_goals exact bodyPost_ret (v := .tuple #[.bool false, .string (s.extract 0 j), .string (s.extract (j + 1) s.size), .bool true]) (by simp [results, Tryd.results38, go_sem]) rfl ⟨by rw [HE.out], by first | exact Below.refl _ _ | exact (Below.refl _ _).drew⟩
            · have HE : Hid (P = .tuple #[.bool false, .string ⟨#[]⟩, .string ⟨#[]⟩, .bool false]) := by show _ = _; rw [← HP.out, if_neg (fun h => by omega)]
              have c4i : ((rn s (j + 1) : Int) != s.size) = true := by simp; omega
              generalize rn s (j + 1) = r at *
              go_enter Tryd.func38, Tryd.ntmps38
              go_wp2_with fail
              go_fit (k1 _)
              rintro e w1 ⟨rfl, rfl⟩
              clear k1
              go_wp2_with fail
              go_fit (k2 _)
              rintro e w2 ⟨rfl, rfl⟩
              clear k2
              go_wp2
              exact bodyPost_ret (v := .tuple #[.bool false, .string ⟨#[]⟩, .string ⟨#[]⟩, .bool false]) (by simp [results, Tryd.results38, go_sem]) rfl ⟨by rw [HE.out], by first | exact Below.refl _ _ | exact (Below.refl _ _).drew⟩
        · have HE : Hid (P = .tuple #[.bool false, .string ⟨#[]⟩, .string ⟨#[]⟩, .bool false]) := by show _ = _; rw [← HP.out, if_neg (fun h => by omega)]
          have c2i : (bt s j != 46) = true := by simpa using c2
          go_enter Tryd.func38, Tryd.ntmps38
          go_wp2_with fail
          go_fit (k1 _)
          rintro e w1 ⟨rfl, rfl⟩
          clear k1
          go_wp2
          exact bodyPost_ret (v := .tuple #[.bool false, .string ⟨#[]⟩, .string ⟨#[]⟩, .bool false]) (by simp [results, Tryd.results38, go_sem]) rfl ⟨by rw [HE.out], by first | exact Below.refl _ _ | exact (Below.refl _ _).drew⟩

set_option maxHeartbeats 1000000 in
set_option maxRecDepth 100000 in
theorem rsec_empty (w : World) : Calls Tryd.prog 38 #[.string ⟨#[]⟩] w fun e w' => e = .returned (.tuple #[.bool false, .string ⟨#[]⟩, .string ⟨#[]⟩, .bool false]) ∧ Below w.heap.size w w' := by
  have k1 := fun w => rrun_any ⟨#[]⟩ 0 w (by decide) (by decide)
  rw [show rn ⟨#[]⟩ 0 = 0 from rfl] at k1
  go_enter Tryd.func38, Tryd.ntmps38
  go_wp2_with fail
  go_fit (k1 _)
  rintro e w1 ⟨rfl, rfl⟩
  clear k1
  go_wp2
  exact bodyPost_ret (v := .tuple #[.bool false, .string ⟨#[]⟩, .string ⟨#[]⟩, .bool false]) (by simp [results, Tryd.results38, go_sem]) rfl ⟨rfl, by first | exact Below.refl _ _ | exact (Below.refl _ _).drew⟩
/-- The reference's seconds: the parts, where the text has that form. -/
theorem rseconds_any (s : ByteArray) (w : World) (hs : s.size ≤ 64) : Calls Tryd.prog 38 #[.string s] w fun e w' => e = .returned (if okS s then .tuple #[.bool (mn s), .string ((sT s).extract 0 (rn (sT s) 0)), .string (frS s), .bool true] else .tuple #[.bool false, .string ⟨#[]⟩, .string ⟨#[]⟩, .bool false]) ∧ Below w.heap.size w w' := by
  by_cases h0 : 0 < s.size
  · obtain ⟨j, hj, ja, js, e1, e2, e3, e4⟩ := sec_parts s
    have hsg : (sa s = 1 ∧ mn s = true ∧ bt s 0 = 45) ∨ (sa s = 1 ∧ mn s = false ∧ bt s 0 = 43) ∨ (sa s = 0 ∧ mn s = false ∧ bt s 0 ≠ 45 ∧ bt s 0 ≠ 43) := by
      have c45 : hp s 45 ↔ bt s 0 = 45 := ⟨fun h => h.2, fun h => ⟨h0, h⟩⟩
      have c43 : hp s 43 ↔ bt s 0 = 43 := ⟨fun h => h.2, fun h => ⟨h0, h⟩⟩
      unfold sa mn
      by_cases a : bt s 0 = 45
      · exact .inl ⟨if_pos (.inl (c45.2 a)), decide_eq_true (c45.2 a), a⟩
      · by_cases b : bt s 0 = 43
        · exact .inr (.inl ⟨if_pos (.inr (c43.2 b)), decide_eq_false (fun h => a (c45.1 h)), b⟩)
        · exact .inr (.inr ⟨if_neg (fun h => h.elim (fun h => a (c45.1 h)) (fun h => b (c43.1 h))), decide_eq_false (fun h => a (c45.1 h)), a, b⟩)
    have k := rsec_walk s (sa s) j (mn s) w hs h0 (sa_le s).2 ja js hsg hj
    have hok : okS s ↔ (j ≠ sa s ∧ (j = s.size ∨ j < s.size ∧ bt s j = 46 ∧ j + 1 < s.size ∧ rn s (j + 1) = s.size)) := by
      unfold okS
      rw [hp_R s j e2]
      have ez : (sR s).size = s.size - j := by rw [e2, ByteArray.size_extract]; omega
      rw [ez]
      by_cases jl : j < s.size
      · obtain ⟨e5, e6⟩ := e4 jl
        have ezu : (sU s).size = s.size - (j + 1) := by rw [e5, ByteArray.size_extract]; omega
        have hb := rn_bd s (j + 1) (by omega)
        rw [ezu]
        constructor
        · rintro ⟨a, b | ⟨⟨b1, b2⟩, b3, b4⟩⟩
          · omega
          · exact ⟨by omega, .inr ⟨b1, b2, by omega, by omega⟩⟩
        · rintro ⟨a, b | ⟨b1, b2, b3, b4⟩⟩
          · omega
          · exact ⟨by omega, .inr ⟨⟨b1, b2⟩, by omega, by omega⟩⟩
      · constructor
        · rintro ⟨a, _⟩; exact ⟨by omega, .inl (by omega)⟩
        · rintro ⟨a, _⟩; exact ⟨by omega, .inl (by omega)⟩
    have hfr : okS s → (if j = s.size then (⟨#[]⟩ : ByteArray) else s.extract (j + 1) s.size) = frS s := fun _ => by
      unfold frS
      have ez : (sR s).size = s.size - j := by rw [e2, ByteArray.size_extract]; omega
      rw [ez]
      by_cases c : j = s.size
      · rw [if_pos c, if_pos (by omega)]
      · rw [if_neg c, if_neg (by omega), (e4 (by omega)).1]
    by_cases c : okS s
    · rw [if_pos (hok.1 c), hfr c] at k
      rw [if_pos c, e3]
      exact k
    · rw [if_neg (fun h => c (hok.2 h))] at k
      rw [if_neg c]
      exact k
  · have e := empty_nil s (by omega)
    have hno : ¬ okS s := by
      rw [e]
      intro h
      exact h.1 rfl
    rw [if_neg hno, e]
    exact rsec_empty w
end Go.Proofs.YtmfeckpcnofkhaaDoor
