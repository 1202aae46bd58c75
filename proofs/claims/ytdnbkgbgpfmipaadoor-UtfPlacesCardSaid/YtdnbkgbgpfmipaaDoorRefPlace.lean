/- The walk of the reference's Place. -/
import Derived.Test.YtdnbkgbgpfmipaaDoorPlace
import Derived.Test.YtdnbkgbgpfmipaaDoorRefNext
namespace Go.Proofs.YtdnbkgbgpfmipaaDoor
open Go.RowKit Go.Lib

theorem byte_yes (s : ByteArray) (i : Nat) (h : i < s.size) (hc : s.get! i = 10) : (((s[i]'h).toNat : Int) == 10) = true := by
  rw [get!_lt s i h] at hc
  rw [hc]; rfl
theorem byte_no (s : ByteArray) (i : Nat) (h : i < s.size) (hc : ¬ s.get! i = 10) : (((s[i]'h).toNat : Int) == 10) = false := by
  rw [get!_lt s i h] at hc
  rw [beq_eq_false_iff_ne]
  intro hq
  apply hc
  apply UInt8.toNat_inj.1
  have : (10 : UInt8).toNat = 10 := rfl
  omega

set_option maxHeartbeats 2000000 in
set_option maxRecDepth 100000 in
theorem rplace_any (s : ByteArray) (a : Int) (k : Nat) (w : World) (hs : s.size ≤ 140737488351232) (hk : k ≤ s.size)
    (hm : a < 0 ∧ k = 0 ∨ (s.size : Int) < a ∧ k = s.size ∨ a = k) :
    Calls Tryd.prog 19 #[.string s, .int .i64 a] w fun e w' => e = .returned (.tuple #[.int .i64 (1 + lineT s k), .int .i64 (1 + colF s k s.size (fromT s k))]) ∧ Below w.heap.size w w' := by
  have HS : Hid (s.size ≤ maxLen) := by show _ ≤ _; unfold maxLen; omega
  rcases hm with ⟨ha, rfl⟩ | ⟨ha, rfl⟩ | rfl
  · have e1 : (1 + (colF s 0 s.size (fromT s 0) : Int)) = 1 := by
      rw [colF_no s 0 s.size (fromT s 0) (by have := (decode_width s (fromT s 0)).1; omega)]; rfl
    rw [e1]
    clear e1
    have t1 : ¬ (s.size : Int) < 0 := by omega
    go_enter Tryd.func19, Tryd.ntmps19
    go_wp2
    go_loop [6, 7, 8] (fun l f i => i = .int .i64 0 ∧ l = .int .i64 1 ∧ f = .int .i64 0) (fun _ _ _ => 0)
    case atStart => exact ⟨rfl, rfl, rfl⟩
    case round =>
      obtain ⟨rfl, rfl, rfl⟩ := hrel
      go_wp2
      go_loop [7, 9] (fun f c => f = .int .i64 0 ∧ c = .int .i64 1) (fun _ _ => 0)
      case atStart => exact ⟨rfl, rfl⟩
      case round =>
        obtain ⟨rfl, rfl⟩ := hrel
        go_wp2
        go_ret2
        exact ⟨rfl, Below.refl _ _⟩
  · have t0 : ¬ a < 0 := by omega
    go_enter Tryd.func19, Tryd.ntmps19
    go_wp2
    go_loop [6, 7, 8] (fun l f i => ∃ j : Nat, j ≤ s.size ∧ i = .int .i64 j ∧ l = .int .i64 (1 + lineT s j) ∧ f = .int .i64 (fromT s j)) (fun _ _ i => s.size - (RowKit.intOf i).toNat)
    case atStart => exact ⟨0, by omega, rfl, rfl, rfl⟩
    case round =>
      obtain ⟨j, hj, rfl, rfl, rfl⟩ := hrel
      have hl := lineT_le s j
      have hf := fromT_le s j
      by_cases hlt : j < s.size
      · have hjs : (j : Int) < s.size := by omega
        by_cases hc : s.get! j = 10
        · have hb := byte_yes s j (by omega) hc
          have HL : Hid (lineT s (j + 1) = lineT s j + 1 ∧ fromT s (j + 1) = j + 1) := by show _ ∧ _; simp [lineT, fromT, hc]
          clear hc
          generalize lineT s j = L at *
          generalize fromT s j = F at *
          go_wp2
          go_round
          case rel => exact ⟨j + 1, by omega, by go_num, by rw [HL.out.1]; go_num, by rw [HL.out.2]; go_num⟩
          case measure => simp [RowKit.intOf]; omega
        · have hb := byte_no s j (by omega) hc
          have HL : Hid (lineT s (j + 1) = lineT s j ∧ fromT s (j + 1) = fromT s j) := by show _ ∧ _; simp [lineT, fromT, hc]
          clear hc
          generalize lineT s j = L at *
          generalize fromT s j = F at *
          go_wp2
          go_round
          case rel => exact ⟨j + 1, by omega, by go_num, by rw [HL.out.1], by rw [HL.out.2]⟩
          case measure => simp [RowKit.intOf]; omega
      · have hjk : j = s.size := by omega
        subst hjk
        clear hlt hj
        generalize hL : lineT s s.size = L at *
        generalize hF : fromT s s.size = F at *
        have HLL : Hid (lineT s s.size = L) := hL
        have HFF : Hid (fromT s s.size = F) := hF
        clear hL hF
        go_wp2
        go_loopw [7, 9] (fun f c w' => ∃ p b col : Nat, f = .int .i64 p ∧ c = .int .i64 col ∧ p ≤ s.size ∧ Below w.heap.size w w' ∧ col + colF s s.size b p = 1 + colF s s.size s.size F ∧ s.size ≤ p + b ∧ col ≤ 1 + p) (fun f _ _ => s.size - (RowKit.intOf f).toNat)
        case atStart => exact ⟨F, s.size, 1, rfl, rfl, by omega, Below.refl _ _, rfl, by omega, by omega⟩
        case round =>
          obtain ⟨p, b, col, rfl, rfl, hps, hbw, hv, hb, hcol⟩ := hrel
          have HV : Hid (col + colF s s.size b p = 1 + colF s s.size s.size F) := hv
          clear hv
          have hwd := (decode_width s p).1
          have hno := colF_no s s.size b p
          by_cases hlt : p < s.size
          · have cN := rnext_in s p wr HS.out (by omega)
            have hye := colF_yes s s.size b p (by omega)
            have hno2 := colF_no s s.size (b - 1) (p + (Utf8.decode s p).2)
            have hle := decode_le_size s p (by omega)
            have hz0 := nxt_no s p (by omega)
            have hw0 := nxt_width s p
            have hy0 := nxt_pos s p
            have hwd2 := (decode_width s (p + (Utf8.decode s p).2)).1
            have hw1 : (nxt s p).2 = 0 → (Utf8.decode s p).2 = 1 := fun q => (hz0.1 q).2
            have hw2 : (nxt s p).2 ≠ 0 → (nxt s p).2 = ((Utf8.decode s p).2 : Nat) := fun q => (hw0 q).1
            clear hz0 hw0
            generalize (nxt s p).1 = X at *
            generalize (nxt s p).2 = Y at *
            generalize (Utf8.decode s p).2 = K at *
            generalize (Utf8.decode s (p + K)).2 = K2 at *
            have HO : Hid (s.size < p + K → colF s s.size b p = 0) := hno
            have HO2 : Hid (s.size < p + K + K2 → colF s s.size (b - 1) (p + K) = 0) := hno2
            have HE : Hid (p + K ≤ s.size → colF s s.size b p = 1 + colF s s.size (b - 1) (p + K)) := hye
            clear hno hye hno2
            by_cases hz : Y = 0
            · have hK := hw1 hz
              subst hz
              subst hK
              clear hw1 hw2
              have tg : (p : Int) + 1 ≤ s.size := by omega
              go_wp2_with fail
              go_fit cN
              rintro e w3 ⟨rfl, hb2⟩
              go_wp2
              go_roundw
              case rel => exact ⟨p + 1, b - 1, col + 1, by go_num, by go_num, by omega, hbw.trans (hb2.mono hbw.size), by have := HV.out; rw [HE.out (by omega)] at this; omega, by omega, by omega⟩
              case measure => simp [RowKit.intOf]; omega
            · have hK := hw2 hz
              have hzb : (Y == 0) = false := by rw [beq_eq_false_iff_ne]; exact hz
              clear hw1 hw2 hz
              have HK : Hid (Y = (K : Int)) := hK
              have hy1 : (p : Int) + Y ≤ s.size := by omega
              by_cases hgt : s.size < p + K
              · exfalso; omega
              · have tg : (p : Int) + Y ≤ s.size := by omega
                clear hK
                go_wp2_with fail
                go_fit cN
                rintro e w3 ⟨rfl, hb2⟩
                go_wp2
                go_roundw
                case rel => exact ⟨p + K, b - 1, col + 1, by rw [HK.out]; go_num, by go_num, by omega, hbw.trans (hb2.mono hbw.size), by have := HV.out; rw [HE.out (by omega)] at this; omega, by omega, by omega⟩
                case measure => have := HK.out; simp [RowKit.intOf]; omega
          · have HO : Hid (colF s s.size b p = 0) := hno (by omega)
            clear hno
            go_wp2
            go_ret2
            have := HV.out
            rw [HO.out] at this
            exact ⟨by rw [HLL.out, HFF.out, show (1 + (colF s s.size s.size F : Int)) = (col : Int) by omega]; rfl, hbw⟩
  · have t0 : ¬ (k : Int) < 0 := by omega
    have t1 : ¬ (s.size : Int) < k := by omega
    go_enter Tryd.func19, Tryd.ntmps19
    go_wp2
    go_loop [6, 7, 8] (fun l f i => ∃ j : Nat, j ≤ k ∧ i = .int .i64 j ∧ l = .int .i64 (1 + lineT s j) ∧ f = .int .i64 (fromT s j)) (fun _ _ i => k - (RowKit.intOf i).toNat)
    case atStart => exact ⟨0, by omega, rfl, rfl, rfl⟩
    case round =>
      obtain ⟨j, hj, rfl, rfl, rfl⟩ := hrel
      have hl := lineT_le s j
      have hf := fromT_le s j
      by_cases hlt : j < k
      · have hjs : (j : Int) < s.size := by omega
        by_cases hc : s.get! j = 10
        · have hb := byte_yes s j (by omega) hc
          have HL : Hid (lineT s (j + 1) = lineT s j + 1 ∧ fromT s (j + 1) = j + 1) := by show _ ∧ _; simp [lineT, fromT, hc]
          clear hc
          generalize lineT s j = L at *
          generalize fromT s j = F at *
          go_wp2
          go_round
          case rel => exact ⟨j + 1, by omega, by go_num, by rw [HL.out.1]; go_num, by rw [HL.out.2]; go_num⟩
          case measure => simp [RowKit.intOf]; omega
        · have hb := byte_no s j (by omega) hc
          have HL : Hid (lineT s (j + 1) = lineT s j ∧ fromT s (j + 1) = fromT s j) := by show _ ∧ _; simp [lineT, fromT, hc]
          clear hc
          generalize lineT s j = L at *
          generalize fromT s j = F at *
          go_wp2
          go_round
          case rel => exact ⟨j + 1, by omega, by go_num, by rw [HL.out.1], by rw [HL.out.2]⟩
          case measure => simp [RowKit.intOf]; omega
      · have hjk : k = j := by omega
        subst hjk
        clear hlt hj
        generalize hL : lineT s k = L at *
        generalize hF : fromT s k = F at *
        have HLL : Hid (lineT s k = L) := hL
        have HFF : Hid (fromT s k = F) := hF
        clear hL hF
        go_wp2
        go_loopw [7, 9] (fun f c w' => ∃ p b col : Nat, f = .int .i64 p ∧ c = .int .i64 col ∧ p ≤ s.size ∧ Below w.heap.size w w' ∧ col + colF s k b p = 1 + colF s k s.size F ∧ s.size ≤ p + b ∧ col ≤ 1 + p) (fun f _ _ => s.size - (RowKit.intOf f).toNat)
        case atStart => exact ⟨F, s.size, 1, rfl, rfl, by omega, Below.refl _ _, rfl, by omega, by omega⟩
        case round =>
          obtain ⟨p, b, col, rfl, rfl, hps, hbw, hv, hb, hcol⟩ := hrel
          have HV : Hid (col + colF s k b p = 1 + colF s k s.size F) := hv
          clear hv
          have hwd := (decode_width s p).1
          have hno := colF_no s k b p
          by_cases hlt : p < k
          · have cN := rnext_in s p wr HS.out (by omega)
            have hye := colF_yes s k b p (by omega)
            have hno2 := colF_no s k (b - 1) (p + (Utf8.decode s p).2)
            have hle := decode_le_size s p (by omega)
            have hz0 := nxt_no s p (by omega)
            have hw0 := nxt_width s p
            have hy0 := nxt_pos s p
            have hwd2 := (decode_width s (p + (Utf8.decode s p).2)).1
            have hw1 : (nxt s p).2 = 0 → (Utf8.decode s p).2 = 1 := fun q => (hz0.1 q).2
            have hw2 : (nxt s p).2 ≠ 0 → (nxt s p).2 = ((Utf8.decode s p).2 : Nat) := fun q => (hw0 q).1
            clear hz0 hw0
            generalize (nxt s p).1 = X at *
            generalize (nxt s p).2 = Y at *
            generalize (Utf8.decode s p).2 = K at *
            generalize (Utf8.decode s (p + K)).2 = K2 at *
            have HO : Hid (k < p + K → colF s k b p = 0) := hno
            have HO2 : Hid (k < p + K + K2 → colF s k (b - 1) (p + K) = 0) := hno2
            have HE : Hid (p + K ≤ k → colF s k b p = 1 + colF s k (b - 1) (p + K)) := hye
            clear hno hye hno2
            by_cases hz : Y = 0
            · have hK := hw1 hz
              subst hz
              subst hK
              clear hw1 hw2
              have tg : (p : Int) + 1 ≤ k := by omega
              go_wp2_with fail
              go_fit cN
              rintro e w3 ⟨rfl, hb2⟩
              go_wp2
              go_roundw
              case rel => exact ⟨p + 1, b - 1, col + 1, by go_num, by go_num, by omega, hbw.trans (hb2.mono hbw.size), by have := HV.out; rw [HE.out (by omega)] at this; omega, by omega, by omega⟩
              case measure => simp [RowKit.intOf]; omega
            · have hK := hw2 hz
              have hzb : (Y == 0) = false := by rw [beq_eq_false_iff_ne]; exact hz
              clear hw1 hw2 hz
              have HK : Hid (Y = (K : Int)) := hK
              have hy1 : (p : Int) + Y ≤ s.size := by omega
              by_cases hgt : k < p + K
              · have tg : ¬ (p : Int) + Y ≤ k := by omega
                clear hK
                go_wp2_with fail
                go_fit cN
                rintro e w3 ⟨rfl, hb2⟩
                go_wp2
                go_roundw
                case rel => exact ⟨p + K, b - 1, col, by rw [HK.out]; go_num, rfl, by omega, hbw.trans (hb2.mono hbw.size), by have := HV.out; rw [HO.out hgt] at this; rw [HO2.out (by omega)]; omega, by omega, by omega⟩
                case measure => have := HK.out; simp [RowKit.intOf]; omega
              · have tg : (p : Int) + Y ≤ k := by omega
                clear hK
                go_wp2_with fail
                go_fit cN
                rintro e w3 ⟨rfl, hb2⟩
                go_wp2
                go_roundw
                case rel => exact ⟨p + K, b - 1, col + 1, by rw [HK.out]; go_num, by go_num, by omega, hbw.trans (hb2.mono hbw.size), by have := HV.out; rw [HE.out (by omega)] at this; omega, by omega, by omega⟩
                case measure => have := HK.out; simp [RowKit.intOf]; omega
          · have HO : Hid (colF s k b p = 0) := hno (by omega)
            clear hno
            go_wp2
            go_ret2
            have := HV.out
            rw [HO.out] at this
            exact ⟨by rw [HLL.out, HFF.out, show (1 + (colF s k s.size F : Int)) = (col : Int) by omega]; rfl, hbw⟩
end Go.Proofs.YtdnbkgbgpfmipaaDoor
