/- The walks of the reference's digit, number and letter. -/
import Derived.Test.YtdnbkgbgpfmipabDoorMeaning
namespace Go.Proofs.YtdnbkgbgpfmipabDoor
open Go.RowKit Go.Lib

def dgm (c : Int) : Int := if dg c < 16 then dg c else -1

set_option maxHeartbeats 1000000 in
theorem rdigit_any (r : Int) (w : World) (hr0 : 0 ≤ r) (hr1 : r ≤ 255) : Calls Tryd.prog 76 #[.int .u8 r] w fun e w' => e = .returned (.int .i64 (dgm r)) ∧ w' = w := by
  by_cases a1 : 48 ≤ r ∧ r ≤ 57
  · have e1 : dgm r = r - 48 := by unfold dgm dg; rw [if_pos a1, if_pos (by omega)]
    rw [e1]
    obtain ⟨b1, b2⟩ := a1
    clear e1
    go_enter Tryd.func76, Tryd.ntmps76
    go_wp2
    go_ret
    exact ⟨rfl, rfl⟩
  · by_cases a2 : 97 ≤ r ∧ r ≤ 102
    · have e1 : dgm r = r - 97 + 10 := by unfold dgm dg; rw [if_neg a1, if_pos a2, if_pos (by omega)]; omega
      rw [e1]
      obtain ⟨b1, b2⟩ := a2
      have c1 : 48 ≤ r := by omega
      have c2 : ¬ r ≤ 57 := by omega
      clear e1 a1
      go_enter Tryd.func76, Tryd.ntmps76
      go_wp2
      go_ret
      exact ⟨rfl, rfl⟩
    · by_cases a3 : 65 ≤ r ∧ r ≤ 70
      · have e1 : dgm r = r - 65 + 10 := by unfold dgm dg; rw [if_neg a1, if_neg a2, if_pos a3, if_pos (by omega)]; omega
        rw [e1]
        obtain ⟨b1, b2⟩ := a3
        have c1 : 48 ≤ r := by omega
        have c2 : ¬ r ≤ 57 := by omega
        have c3 : ¬ 97 ≤ r := by omega
        clear e1 a1 a2
        go_enter Tryd.func76, Tryd.ntmps76
        go_wp2
        go_ret
        exact ⟨rfl, rfl⟩
      · have e1 : dgm r = -1 := by unfold dgm dg; rw [if_neg a1, if_neg a2, if_neg a3, if_neg (by omega)]
        rw [e1]
        clear e1
        by_cases d1 : 48 ≤ r
        · have d2 : ¬ r ≤ 57 := by omega
          by_cases d3 : 97 ≤ r
          · have d4 : ¬ r ≤ 102 := by omega
            have d5 : 65 ≤ r := by omega
            have d6 : ¬ r ≤ 70 := by omega
            clear a1 a2 a3
            go_enter Tryd.func76, Tryd.ntmps76
            go_wp2
            go_ret
            exact ⟨rfl, rfl⟩
          · by_cases d5 : 65 ≤ r
            · have d6 : ¬ r ≤ 70 := by omega
              clear a1 a2 a3
              go_enter Tryd.func76, Tryd.ntmps76
              go_wp2
              go_ret
              exact ⟨rfl, rfl⟩
            · clear a1 a2 a3
              go_enter Tryd.func76, Tryd.ntmps76
              go_wp2
              go_ret
              exact ⟨rfl, rfl⟩
        · have d3 : ¬ 97 ≤ r := by omega
          have d5 : ¬ 65 ≤ r := by omega
          clear a1 a2 a3
          go_enter Tryd.func76, Tryd.ntmps76
          go_wp2
          go_ret
          exact ⟨rfl, rfl⟩

/-- What the reference's letter answers for the letters of a literal: its place in their row says the byte. -/
theorem idx7_not (c : Int) (j : Nat) (h : 0 ≤ idx7 c → (j : Int) ≤ idx7 c) (hj : idx7 c ≠ j) : 0 ≤ idx7 c → ((j + 1 : Nat) : Int) ≤ idx7 c := fun h0 => by have := h h0; omega
theorem idx7_inv (c : Int) : (idx7 c = ((0 : Nat) : Int) → 97 = c) ∧ (idx7 c = ((1 : Nat) : Int) → 98 = c) ∧ (idx7 c = ((2 : Nat) : Int) → 116 = c) ∧ (idx7 c = ((3 : Nat) : Int) → 110 = c) ∧ (idx7 c = ((4 : Nat) : Int) → 118 = c) ∧ (idx7 c = ((5 : Nat) : Int) → 102 = c) ∧ (idx7 c = ((6 : Nat) : Int) → 114 = c) := by
  unfold idx7
  repeat' split
  all_goals omega
set_option maxHeartbeats 2000000 in
theorem rletter_gen (L : ByteArray) (hL : L.size = 14) (v0 : bt L 0 = 97) (v1 : bt L 1 = 7) (v2 : bt L 2 = 98) (v3 : bt L 3 = 8) (v4 : bt L 4 = 116) (v5 : bt L 5 = 9) (v6 : bt L 6 = 110) (v7 : bt L 7 = 10) (v8 : bt L 8 = 118) (v9 : bt L 9 = 11) (v10 : bt L 10 = 102) (v11 : bt L 11 = 12) (v12 : bt L 12 = 114) (v13 : bt L 13 = 13) (c : Int) (w : World) (h0 : 0 ≤ c) (h1 : c ≤ 255) :
    Calls Tryd.prog 64 #[.int .u8 c, .string L] w fun e w' => e = .returned (.int .i64 (if 0 ≤ idx7 c then 7 + idx7 c else -1)) ∧ w' = w := by
  generalize hR : (if 0 ≤ idx7 c then 7 + idx7 c else -1) = R
  have HR : Hid ((if 0 ≤ idx7 c then 7 + idx7 c else -1) = R) := hR
  clear hR
  have hLi : (L.size : Int) = 14 := by omega
  have x0 := bt_at L 0 (by omega)
  rw [v0] at x0
  clear v0
  have x1 := bt_at L 1 (by omega)
  rw [v1] at x1
  clear v1
  have x2 := bt_at L 2 (by omega)
  rw [v2] at x2
  clear v2
  have x3 := bt_at L 3 (by omega)
  rw [v3] at x3
  clear v3
  have x4 := bt_at L 4 (by omega)
  rw [v4] at x4
  clear v4
  have x5 := bt_at L 5 (by omega)
  rw [v5] at x5
  clear v5
  have x6 := bt_at L 6 (by omega)
  rw [v6] at x6
  clear v6
  have x7 := bt_at L 7 (by omega)
  rw [v7] at x7
  clear v7
  have x8 := bt_at L 8 (by omega)
  rw [v8] at x8
  clear v8
  have x9 := bt_at L 9 (by omega)
  rw [v9] at x9
  clear v9
  have x10 := bt_at L 10 (by omega)
  rw [v10] at x10
  clear v10
  have x11 := bt_at L 11 (by omega)
  rw [v11] at x11
  clear v11
  have x12 := bt_at L 12 (by omega)
  rw [v12] at x12
  clear v12
  have x13 := bt_at L 13 (by omega)
  rw [v13] at x13
  clear v13
  go_enter Tryd.func64, Tryd.ntmps64
  go_wp2
  go_loopw [5] (fun t w' => ∃ j : Nat, t = .int .i64 (2 * (j : Int)) ∧ j ≤ 7 ∧ Hid (0 ≤ idx7 c → (j : Int) ≤ idx7 c) ∧ w' = w) (fun t _ => (match t with | .int _ x => 14 - x.toNat | _ => 0))
  case atStart => exact ⟨0, rfl, by omega, (fun h => h : 0 ≤ idx7 c → (0 : Int) ≤ idx7 c), rfl⟩
  case round =>
    obtain ⟨j, rfl, hj, hh, rfl⟩ := hrel
    have hcase : j = 0 ∨ j = 1 ∨ j = 2 ∨ j = 3 ∨ j = 4 ∨ j = 5 ∨ j = 6 ∨ j = 7 := by omega
    rcases hcase with rfl | rfl | rfl | rfl | rfl | rfl | rfl | rfl
    case inr.inr.inr.inr.inr.inr.inr =>
      have HE : Hid (R = -1) := by
        show _ = _
        have := idx7_bd c
        rw [← HR.out, if_neg (fun h0 => by have := hh.out h0; omega)]
      clear hh
      go_wp2
      go_ret
      exact ⟨by rw [HE.out]; rfl, rfl⟩
    case inl =>
      by_cases hc : (97 : Int) = c
      · subst hc
        have HE : Hid (R = 7) := HR.out.symm
        go_wp2
        go_ret
        exact ⟨by rw [HE.out]; rfl, rfl⟩
      · have HN := idx7_not c 0 hh.out (fun h => hc ((idx7_inv c).1 h))
        have HN' : Hid (0 ≤ idx7 c → ((0 + 1 : Nat) : Int) ≤ idx7 c) := HN
        clear hh HN
        go_wp2
        go_roundw
        case rel => exact ⟨1, rfl, by omega, HN', trivial⟩
        case measure => simp
    case inr.inl =>
      by_cases hc : (98 : Int) = c
      · subst hc
        have HE : Hid (R = 8) := HR.out.symm
        go_wp2
        go_ret
        exact ⟨by rw [HE.out]; rfl, rfl⟩
      · have HN := idx7_not c 1 hh.out (fun h => hc ((idx7_inv c).2.1 h))
        have HN' : Hid (0 ≤ idx7 c → ((1 + 1 : Nat) : Int) ≤ idx7 c) := HN
        clear hh HN
        go_wp2
        go_roundw
        case rel => exact ⟨2, rfl, by omega, HN', trivial⟩
        case measure => simp
    case inr.inr.inl =>
      by_cases hc : (116 : Int) = c
      · subst hc
        have HE : Hid (R = 9) := HR.out.symm
        go_wp2
        go_ret
        exact ⟨by rw [HE.out]; rfl, rfl⟩
      · have HN := idx7_not c 2 hh.out (fun h => hc ((idx7_inv c).2.2.1 h))
        have HN' : Hid (0 ≤ idx7 c → ((2 + 1 : Nat) : Int) ≤ idx7 c) := HN
        clear hh HN
        go_wp2
        go_roundw
        case rel => exact ⟨3, rfl, by omega, HN', trivial⟩
        case measure => simp
    case inr.inr.inr.inl =>
      by_cases hc : (110 : Int) = c
      · subst hc
        have HE : Hid (R = 10) := HR.out.symm
        go_wp2
        go_ret
        exact ⟨by rw [HE.out]; rfl, rfl⟩
      · have HN := idx7_not c 3 hh.out (fun h => hc ((idx7_inv c).2.2.2.1 h))
        have HN' : Hid (0 ≤ idx7 c → ((3 + 1 : Nat) : Int) ≤ idx7 c) := HN
        clear hh HN
        go_wp2
        go_roundw
        case rel => exact ⟨4, rfl, by omega, HN', trivial⟩
        case measure => simp
    case inr.inr.inr.inr.inl =>
      by_cases hc : (118 : Int) = c
      · subst hc
        have HE : Hid (R = 11) := HR.out.symm
        go_wp2
        go_ret
        exact ⟨by rw [HE.out]; rfl, rfl⟩
      · have HN := idx7_not c 4 hh.out (fun h => hc ((idx7_inv c).2.2.2.2.1 h))
        have HN' : Hid (0 ≤ idx7 c → ((4 + 1 : Nat) : Int) ≤ idx7 c) := HN
        clear hh HN
        go_wp2
        go_roundw
        case rel => exact ⟨5, rfl, by omega, HN', trivial⟩
        case measure => simp
    case inr.inr.inr.inr.inr.inl =>
      by_cases hc : (102 : Int) = c
      · subst hc
        have HE : Hid (R = 12) := HR.out.symm
        go_wp2
        go_ret
        exact ⟨by rw [HE.out]; rfl, rfl⟩
      · have HN := idx7_not c 5 hh.out (fun h => hc ((idx7_inv c).2.2.2.2.2.1 h))
        have HN' : Hid (0 ≤ idx7 c → ((5 + 1 : Nat) : Int) ≤ idx7 c) := HN
        clear hh HN
        go_wp2
        go_roundw
        case rel => exact ⟨6, rfl, by omega, HN', trivial⟩
        case measure => simp
    case inr.inr.inr.inr.inr.inr.inl =>
      by_cases hc : (114 : Int) = c
      · subst hc
        have HE : Hid (R = 13) := HR.out.symm
        go_wp2
        go_ret
        exact ⟨by rw [HE.out]; rfl, rfl⟩
      · have HN := idx7_not c 6 hh.out (fun h => hc ((idx7_inv c).2.2.2.2.2.2 h))
        have HN' : Hid (0 ≤ idx7 c → ((6 + 1 : Nat) : Int) ≤ idx7 c) := HN
        clear hh HN
        go_wp2
        go_roundw
        case rel => exact ⟨7, rfl, by omega, HN', trivial⟩
        case measure => simp

theorem rletter_any (c : Int) (w : World) (h0 : 0 ≤ c) (h1 : c ≤ 255) :
    Calls Tryd.prog 64 #[.int .u8 c, .string ⟨#[97, 7, 98, 8, 116, 9, 110, 10, 118, 11, 102, 12, 114, 13]⟩] w fun e w' => e = .returned (.int .i64 (if 0 ≤ idx7 c then 7 + idx7 c else -1)) ∧ w' = w :=
  rletter_gen _ rfl rfl rfl rfl rfl rfl rfl rfl rfl rfl rfl rfl rfl rfl rfl c w h0 h1

theorem rnumber_short (s : ByteArray) (i k e : Nat) (base : Int) (w : World) (hs : s.size ≤ 140737488355328) (he : e ≤ s.size) (hi : i ≤ e) (hk : k ≤ 8) (h : e < i + k) :
    Calls Tryd.prog 65 #[.string s, .int .i64 i, .int .i64 k, .int .i64 base, .int .i64 e] w fun r w' => r = .returned (.int .i64 (-1)) ∧ w' = w := by
  have h1 : (e : Int) < i + k := by omega
  go_enter Tryd.func65, Tryd.ntmps65
  go_wp2
  go_ret
  exact ⟨rfl, rfl⟩
theorem numA_stepI (s : ByteArray) (base : Int) (k i p : Nat) (acc : Int) (h : p < k) (hd : dg (bt s (i + p)) < base) : numA s base (k - p) (i + p) acc = numA s base (k - (p + 1)) (i + (p + 1)) (acc * base + dg (bt s (i + p))) := by
  obtain ⟨m, hm⟩ : ∃ m, k - p = m + 1 := ⟨k - p - 1, by omega⟩
  rw [hm, numA, if_pos hd, show k - (p + 1) = m by omega]; rfl
theorem numA_noneI (s : ByteArray) (base : Int) (k i p : Nat) (acc : Int) (h : p < k) (hd : ¬ dg (bt s (i + p)) < base) : numA s base (k - p) (i + p) acc = none := by
  obtain ⟨m, hm⟩ : ∃ m, k - p = m + 1 := ⟨k - p - 1, by omega⟩
  rw [hm, numA, if_neg hd]
set_option maxHeartbeats 1000000 in
theorem rnumber_ok (s : ByteArray) (i k e : Nat) (base : Int) (w : World) (hs : s.size ≤ 140737488355328) (he : e ≤ s.size) (hb : base = 8 ∨ base = 16) (hk : k ≤ 8) (h : i + k ≤ e) :
    Calls Tryd.prog 65 #[.string s, .int .i64 i, .int .i64 k, .int .i64 base, .int .i64 e] w fun r w' => r = .returned (.int .i64 ((numA s base k i 0).getD (-1))) ∧ w' = w := by
  have h1 : ¬ (e : Int) < i + k := by omega
  generalize hO : numA s base k i 0 = O
  have HO : Hid (numA s base k i 0 = O) := hO
  have HB : Hid (base = 8 ∨ base = 16) := hb
  have hb0 : 0 ≤ base := by omega
  have hb1 : base ≤ 16 := by omega
  clear hO hb
  go_enter Tryd.func65, Tryd.ntmps65
  go_wp2
  go_loopw [11, 12] (fun n t w' => ∃ (j : Nat) (acc : Int), n = .int .i64 acc ∧ t = .int .i64 (j : Int) ∧ j ≤ k ∧ 0 ≤ acc ∧ Hid (acc < 16 ^ j) ∧ Hid (numA s base (k - j) (i + j) acc = O) ∧ w' = w) (fun _ t _ => (match t with | .int _ x => k - x.toNat | _ => 0))
  case atStart => exact ⟨0, 0, rfl, rfl, by omega, by omega, (by decide : (0 : Int) < 16 ^ 0), HO.out, rfl⟩
  case round =>
    obtain ⟨j, acc, rfl, rfl, hjk, ha0, HP, HV, rfl⟩ := hrel
    by_cases hp : j < k
    · have hx := bt_at s (i + j) (by omega)
      have hbd := bt_bd s (i + j)
      have kd := fun w' => rdigit_any (bt s (i + j)) w' (by omega) (by omega)
      have hdb := dg_bd (bt s (i + j))
      have hst := numA_stepI s base k i j acc hp
      have hno := numA_noneI s base k i j acc hp
      have hacc : acc ≤ 268435455 := by have h1 := HP.out; have h2 := pow16 j (by omega); omega
      have hpi : (j : Int) < k := by omega
      unfold dgm at kd
      generalize dg (bt s (i + j)) = d at *
      generalize bt s (i + j) = c at *
      obtain ⟨hd0, hd1⟩ := hdb
      by_cases hdl : d < base
      · have HE : Hid (numA s base (k - j) (i + j) acc = numA s base (k - (j + 1)) (i + (j + 1)) (acc * base + d)) := hst hdl
        rw [if_pos (by omega)] at kd
        have tg : ¬ base ≤ d := by omega
        have tg0 : ¬ d < 0 := by omega
        clear hst hno
        rcases HB.out with rfl | rfl
        all_goals
          go_wp2_with (go_at_call 76; go_fit (kd _); rintro e w3 ⟨rfl, rfl⟩)
          go_roundw
          case rel => exact ⟨j + 1, _, rfl, rfl, by omega, by omega, (by have h1 := HP.out; rw [Int.pow_succ]; omega : _ < _), (by rw [← HE.out]; exact HV.out : _ = _), trivial⟩
          case measure => simp; omega
      · have HE : Hid (O = none) := by show _ = _; rw [← HV.out]; exact hno hdl
        clear hst hno
        by_cases h16 : d < 16
        · rw [if_pos h16] at kd
          have tg : base ≤ d := by omega
          have tg0 : ¬ d < 0 := by omega
          go_wp2_with (go_at_call 76; go_fit (kd _); rintro e w3 ⟨rfl, rfl⟩)
          go_ret
          exact ⟨by rw [HE.out]; rfl, rfl⟩
        · rw [if_neg h16] at kd
          go_wp2_with (go_at_call 76; go_fit (kd _); rintro e w3 ⟨rfl, rfl⟩)
          go_ret
          exact ⟨by rw [HE.out]; rfl, rfl⟩
    · have hpe : j = k := by omega
      have HE : Hid (O = some acc) := by
        show _ = _
        rw [← HV.out, hpe, Nat.sub_self]; rfl
      have hpi : ¬ (j : Int) < k := by omega
      clear hpe
      go_wp2
      go_ret
      exact ⟨by rw [HE.out]; rfl, rfl⟩

theorem bt_ext (s : ByteArray) (a e i : Nat) (h : a + i < e) (he : e ≤ s.size) : bt (s.extract a e) i = bt s (a + i) := by
  unfold bt
  rw [get!_lt _ i (by simp; omega), get!_lt s (a + i) (by omega), ByteArray.getElem_extract]
theorem numA_ext (s : ByteArray) (base : Int) (a e : Nat) (he : e ≤ s.size) : ∀ (k i : Nat) (acc : Int), a + i + k ≤ e → numA (s.extract a e) base k i acc = numA s base k (a + i) acc
  | 0, _, _, _ => rfl
  | k + 1, i, acc, h => by
    unfold numA
    rw [bt_ext s a e i (by omega) he, numA_ext s base a e he k (i + 1) _ (by omega)]; rfl
theorem rnumber_any (s : ByteArray) (i k e : Nat) (base : Int) (w : World) (hs : s.size ≤ 140737488355328) (he : e ≤ s.size) (hi : i ≤ e) (hb : base = 8 ∨ base = 16) (hk : k ≤ 8) :
    Calls Tryd.prog 65 #[.string s, .int .i64 i, .int .i64 k, .int .i64 base, .int .i64 e] w fun r w' => r = .returned (.int .i64 ((num (s.extract i e) k base).getD (-1))) ∧ w' = w := by
  have hsz : (s.extract i e).size = e - i := by simp; omega
  unfold num
  by_cases h : e < i + k
  · rw [if_pos (by omega)]; exact rnumber_short s i k e base w hs he hi hk h
  · rw [if_neg (by omega), numA_ext s base i e he k 0 0 (by omega)]; exact rnumber_ok s i k e base w hs he hb hk (by omega)
end Go.Proofs.YtdnbkgbgpfmipabDoor
