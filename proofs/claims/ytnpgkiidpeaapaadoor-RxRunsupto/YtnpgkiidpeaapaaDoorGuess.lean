/- The walk of the reference's guess. -/
import Derived.Test.YtnpgkiidpeaapaaDoorForm
namespace Go.Proofs.YtnpgkiidpeaapaaDoor
open Go.RowKit Go.Lib

/-- The byte at a place, as a number. -/
def bt (s : ByteArray) (i : Nat) : Int := ((s.get! i).toNat : Int)
theorem bt_bd (s : ByteArray) (i : Nat) : 0 ≤ bt s i ∧ bt s i ≤ 255 := by
  have := (s.get! i).toNat_lt
  unfold bt; omega
theorem bt_at (s : ByteArray) (i : Nat) (h : i < s.size) : ((s[i]'h).toNat : Int) = bt s i := by
  unfold bt; rw [get!_lt s i h]
def gacc (s : ByteArray) (i : Nat) (n0 : Int) : Nat → Int
  | 0 => n0
  | j + 1 => gacc s i n0 j * 64 + bt s (i + (j + 1)) - 128
theorem gacc_bd (s : ByteArray) (i : Nat) (n0 : Int) (h0 : -240 ≤ n0) (h1 : n0 ≤ 255) : ∀ j, j ≤ 3 → -100000000 ≤ gacc s i n0 j ∧ gacc s i n0 j ≤ 100000000
  | 0, _ => by simp only [gacc]; omega
  | 1, _ => by have b1 := bt_bd s (i + (0 + 1)); simp only [gacc]; omega
  | 2, _ => by have b1 := bt_bd s (i + (0 + 1)); have b2 := bt_bd s (i + (1 + 1)); simp only [gacc]; omega
  | 3, _ => by have b1 := bt_bd s (i + (0 + 1)); have b2 := bt_bd s (i + (1 + 1)); have b3 := bt_bd s (i + (2 + 1)); simp only [gacc]; omega
  | j + 4, h => by omega

set_option maxHeartbeats 400000 in
theorem guess_one (s : ByteArray) (i : Nat) (w : World) (_hs : s.size ≤ maxLen) (h : i < s.size) :
    Calls Tryd.prog 22 #[.string s, .int .i64 i, .int .i64 1] w fun e w' => e = .returned (.int .i64 (bt s i)) ∧ w' = w := by
  unfold maxLen at _hs
  have hi : (i : Int) < s.size := by omega
  have hat := bt_at s i h
  obtain ⟨hb1, hb2⟩ := bt_bd s i
  go_enter Tryd.func22, Tryd.ntmps22
  go_wp2
  go_ret
  exact ⟨rfl, rfl⟩

set_option maxHeartbeats 1000000 in
theorem guess_more (s : ByteArray) (i k : Nat) (n0 : Int) (w : World) (hs : s.size ≤ maxLen) (hk : k = 2 ∧ n0 = bt s i - 192 ∨ k = 3 ∧ n0 = bt s i - 224 ∨ k = 4 ∧ n0 = bt s i - 240) (h : i + k ≤ s.size) :
    Calls Tryd.prog 22 #[.string s, .int .i64 i, .int .i64 k] w fun e w' => e = .returned (.int .i64 (gacc s i n0 (k - 1))) ∧ w' = w := by
  unfold maxLen at hs
  have hi : (i : Int) < s.size := by omega
  have hi' : i < s.size := by omega
  have hb := bt_bd s i
  have hg := gacc_bd s i n0 (by omega) (by omega)
  have hat := bt_at s i hi'
  obtain ⟨hb1, hb2⟩ := hb
  rcases hk with ⟨rfl, hn⟩ | ⟨rfl, hn⟩ | ⟨rfl, hn⟩
  · have HN : Hid (n0 = _) := hn
    have HG : Hid (∀ j, j ≤ 3 → -100000000 ≤ gacc s i n0 j ∧ gacc s i n0 j ≤ 100000000) := hg
    clear hn hg
    change Calls Tryd.prog 22 #[.string s, .int .i64 i, .int .i64 2] w _
    go_enter Tryd.func22, Tryd.ntmps22
    go_wp2
    go_loop [8, 9] (fun n t => ∃ j : Nat, j + 1 ≤ 2 ∧ t = .int .i64 (j + 1) ∧ n = .int .i64 (gacc s i n0 j)) (fun _ t => 2 - (RowKit.intOf t).toNat)
    case atStart => exact ⟨0, by omega, rfl, by rw [gacc, HN.out]⟩
    case round =>
      obtain ⟨j, hj, rfl, rfl⟩ := hrel
      obtain ⟨hg1, hg2⟩ := HG.out j (by omega)
      by_cases hlt : j + 1 < 2
      · have hx := bt_at s (i + (j + 1)) (by omega)
        obtain ⟨hx1, hx2⟩ := bt_bd s (i + (j + 1))
        go_wp2
        go_round
        case rel => exact ⟨j + 1, by omega, by go_num, by simp only [gacc]⟩
        case measure => simp [RowKit.intOf]; omega
      · go_wp2
        go_ret
        obtain rfl : j = 2 - 1 := by omega
        exact ⟨rfl, rfl⟩
  · have HN : Hid (n0 = _) := hn
    have HG : Hid (∀ j, j ≤ 3 → -100000000 ≤ gacc s i n0 j ∧ gacc s i n0 j ≤ 100000000) := hg
    clear hn hg
    change Calls Tryd.prog 22 #[.string s, .int .i64 i, .int .i64 3] w _
    go_enter Tryd.func22, Tryd.ntmps22
    go_wp2
    go_loop [8, 9] (fun n t => ∃ j : Nat, j + 1 ≤ 3 ∧ t = .int .i64 (j + 1) ∧ n = .int .i64 (gacc s i n0 j)) (fun _ t => 3 - (RowKit.intOf t).toNat)
    case atStart => exact ⟨0, by omega, rfl, by rw [gacc, HN.out]⟩
    case round =>
      obtain ⟨j, hj, rfl, rfl⟩ := hrel
      obtain ⟨hg1, hg2⟩ := HG.out j (by omega)
      by_cases hlt : j + 1 < 3
      · have hx := bt_at s (i + (j + 1)) (by omega)
        obtain ⟨hx1, hx2⟩ := bt_bd s (i + (j + 1))
        go_wp2
        go_round
        case rel => exact ⟨j + 1, by omega, by go_num, by simp only [gacc]⟩
        case measure => simp [RowKit.intOf]; omega
      · go_wp2
        go_ret
        obtain rfl : j = 3 - 1 := by omega
        exact ⟨rfl, rfl⟩
  · have HN : Hid (n0 = _) := hn
    have HG : Hid (∀ j, j ≤ 3 → -100000000 ≤ gacc s i n0 j ∧ gacc s i n0 j ≤ 100000000) := hg
    clear hn hg
    change Calls Tryd.prog 22 #[.string s, .int .i64 i, .int .i64 4] w _
    go_enter Tryd.func22, Tryd.ntmps22
    go_wp2
    go_loop [8, 9] (fun n t => ∃ j : Nat, j + 1 ≤ 4 ∧ t = .int .i64 (j + 1) ∧ n = .int .i64 (gacc s i n0 j)) (fun _ t => 4 - (RowKit.intOf t).toNat)
    case atStart => exact ⟨0, by omega, rfl, by rw [gacc, HN.out]⟩
    case round =>
      obtain ⟨j, hj, rfl, rfl⟩ := hrel
      obtain ⟨hg1, hg2⟩ := HG.out j (by omega)
      by_cases hlt : j + 1 < 4
      · have hx := bt_at s (i + (j + 1)) (by omega)
        obtain ⟨hx1, hx2⟩ := bt_bd s (i + (j + 1))
        go_wp2
        go_round
        case rel => exact ⟨j + 1, by omega, by go_num, by simp only [gacc]⟩
        case measure => simp [RowKit.intOf]; omega
      · go_wp2
        go_ret
        obtain rfl : j = 4 - 1 := by omega
        exact ⟨rfl, rfl⟩
end Go.Proofs.YtnpgkiidpeaapaaDoor
