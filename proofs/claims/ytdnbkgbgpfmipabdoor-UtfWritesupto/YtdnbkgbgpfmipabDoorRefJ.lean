/- The walk of the reference's jsonEscape. -/
import Derived.Test.YtdnbkgbgpfmipabDoorUj
namespace Go.Proofs.YtdnbkgbgpfmipabDoor
open Go.RowKit Go.Lib

/-- The byte for a letter in a list of letters and bytes, from a pair on; -1: none. -/
def ltF (L : ByteArray) (c : Int) : Nat → Nat → Int
  | 0, _ => -1
  | f + 1, j => if bt L (2 * j) = c then bt L (2 * j + 1) else ltF L c f (j + 1)
set_option maxHeartbeats 1000000 in
theorem rletter_list (L : ByteArray) (N : Nat) (hL : L.size = 2 * N) (hN : N ≤ 100) (c : Int) (w : World) :
    Calls Tryd.prog 64 #[.int .u8 c, .string L] w fun e w' => e = .returned (.int .i64 (ltF L c N 0)) ∧ w' = w := by
  generalize hR : ltF L c N 0 = R
  have HR : Hid (ltF L c N 0 = R) := hR
  clear hR
  go_enter Tryd.func64, Tryd.ntmps64
  go_wp2
  go_loopw [5] (fun t w' => ∃ j J : Nat, t = .int .i64 (J : Int) ∧ Hid (J = 2 * j) ∧ j ≤ N ∧ Hid (ltF L c (N - j) j = R) ∧ w' = w) (fun t _ => (match t with | .int _ x => 2 * N - x.toNat | _ => 0))
  case atStart => exact ⟨0, 0, rfl, rfl, by omega, HR, rfl⟩
  case round =>
    obtain ⟨j, J, rfl, HJ, hj, hh, rfl⟩ := hrel
    have hJ := HJ.out
    have hJb : (J : Int) ≤ 200 := by omega
    by_cases hlt : j < N
    · have p1 : J + 1 < L.size := by omega
      have p0 : J < L.size := by omega
      have x1 := bt_at L (J + 1) p1
      have x0 := bt_at L J p0
      have hbd := bt_bd L (J + 1)
      have HE : Hid (R = if bt L J = c then bt L (J + 1) else ltF L c (N - (j + 1)) (j + 1)) := by
        show _ = _
        rw [← hh.out, hJ]
        obtain ⟨m, hm⟩ : ∃ m, N - j = m + 1 := ⟨N - j - 1, by omega⟩
        rw [hm, ltF, show N - (j + 1) = m by omega]
      have q2 : (J : Int) + 1 < L.size := by omega
      have q3 : (J : Int) < L.size := by omega
      have HS : Hid (L.size = 2 * N) := hL
      generalize bt L (J + 1) = d at *
      generalize bt L J = e at *
      obtain ⟨d0, d1⟩ := hbd
      clear hh hJ hL
      by_cases hd : e = c
      · have hdt : (e == c) = true := by rw [beq_iff_eq]; exact hd
        go_wp2
        go_ret
        exact ⟨by rw [HE.out, if_pos hd]; rfl, rfl⟩
      · have hdt : (e == c) = false := by rw [beq_eq_false_iff_ne]; exact hd
        have HN : Hid (ltF L c (N - (j + 1)) (j + 1) = R) := by show _ = _; rw [HE.out, if_neg hd]
        go_wp2
        go_roundw
        case rel => exact ⟨j + 1, J + 2, rfl, (by have := HJ.out; omega : _ = _), by omega, HN, trivial⟩
        case measure =>
          have h1 := HJ.out
          have h2 := HS.out
          simp
          omega
    · have HE : Hid (R = -1) := by
        show _ = _
        rw [← hh.out, show N - j = 0 by omega]; rfl
      have q2 : ¬ (J : Int) + 1 < L.size := by omega
      clear hh hJ hL
      go_wp2
      go_ret
      exact ⟨by rw [HE.out]; rfl, rfl⟩
def jl8 (c : Int) : Int := if c = 34 ∨ c = 92 ∨ c = 47 then c else jmeans c
theorem jl8_fin : ∀ x : Fin 256, ltF ⟨#[34, 34, 92, 92, 47, 47, 98, 8, 116, 9, 110, 10, 102, 12, 114, 13]⟩ (x.val : Int) 8 0 = jl8 (x.val : Int) := by decide +kernel
theorem rletterJ (c : Int) (w : World) (h0 : 0 ≤ c) (h1 : c ≤ 255) :
    Calls Tryd.prog 64 #[.int .u8 c, .string ⟨#[34, 34, 92, 92, 47, 47, 98, 8, 116, 9, 110, 10, 102, 12, 114, 13]⟩] w fun e w' => e = .returned (.int .i64 (jl8 c)) ∧ w' = w := by
  have k := rletter_list ⟨#[34, 34, 92, 92, 47, 47, 98, 8, 116, 9, 110, 10, 102, 12, 114, 13]⟩ 8 rfl (by omega) c w
  have e := jl8_fin ⟨c.toNat, by omega⟩
  simp only [Int.toNat_of_nonneg h0] at e
  rw [e] at k
  exact k
theorem jmeans_bd (c : Int) : -1 ≤ jmeans c ∧ jmeans c ≤ 13 := by
  unfold jmeans
  repeat' split
  all_goals omega

set_option maxHeartbeats 4000000 in
set_option maxRecDepth 100000 in
theorem rjesc_any (s : ByteArray) (i e : Nat) (w : World) (hs : s.size ≤ 140737488355328) (he : e < s.size) (hi : i + 1 < e) :
    Calls Tryd.prog 49 #[.string s, .int .i64 i, .int .i64 e] w fun r w' => r = .returned (.tuple #[.string (escV (jescS (s.extract (i + 1) e))).1, .int .i64 (escV (jescS (s.extract (i + 1) e))).2]) ∧ Below w.heap.size w w' := by
  have hbx : ∀ k, i + 1 + k < e → bt (s.extract (i + 1) e) k = bt s (i + 1 + k) := fun k hk => bt_ext s (i + 1) e k hk (by omega)
  have hsz : (s.extract (i + 1) e).size = e - (i + 1) := by simp; omega
  have hex : ∀ k, (s.extract (i + 1) e).extract k (s.extract (i + 1) e).size = s.extract (i + 1 + k) e := fun k => by
    rw [hsz, ByteArray.extract_extract]; congr 1; omega
  have hx := bt_at s (i + 1) (by omega)
  have hbd := bt_bd s (i + 1)
  have kl := fun w' => rletterJ (bt s (i + 1)) w' (by omega) (by omega)
  have ku : ∀ w', Calls Tryd.prog 65 #[.string s, .int .i64 ((i : Int) + 2), .int .i64 4, .int .i64 16, .int .i64 e] w' fun r w'' => r = .returned (.int .i64 ((num (s.extract (i + 2) e) 4 16).getD (-1))) ∧ w'' = w' := fun w' => rnumber_any s (i + 2) 4 e 16 w' hs (by omega) (by omega) (Or.inr rfl) (by omega)
  have cv := conv1
  have hl : ¬ (e : Int) ≤ i + 1 := by omega
  have hle : (i : Int) + 1 < e := by omega
  unfold jescS unitsS runeS
  have hb0 := hbx 0 (by omega)
  rw [Nat.add_zero] at hb0
  rw [hb0, hex 1]
  by_cases c1 : bt s (i + 1) = 117
  · rw [if_pos c1]
    rw [c1] at hx kl
    rw [show jl8 117 = -1 from rfl] at kl
    rw [show i + 1 + 1 = i + 2 by omega]
    cases hn : num (s.extract (i + 2) e) 4 16 with
    | none =>
      rw [hn] at ku
      clear hn hbx hex hb0 hbd c1
      have ki := fun w' => isRune_any (-1) w'
      rw [show isRune (-1) = false from rfl] at ki
      go_enter Tryd.func49, Tryd.ntmps49
      go_wp2_with (first | (go_at_call 64; go_fit (kl _); rintro x w1 ⟨rfl, rfl⟩) | (go_at_call 65; go_fit (ku _); rintro x w1 ⟨rfl, rfl⟩; simp only [Option.getD_none]) | (go_at_call 61; go_fit (ki _); rintro x w1 ⟨rfl, rfl⟩))
      go_ret2
      exact ⟨rfl, Below.refl _ _⟩
    | some n =>
      rw [hn] at ku
      have hsn := num_size _ 4 16 n hn
      have hs2 : (s.extract (i + 2) e).size = e - (i + 2) := by simp; omega
      obtain ⟨n0, n1⟩ := num_bd _ 4 16 (Or.inr rfl) (by omega) n hn
      clear hn
      have kf := fun w' => form_any n w'
      by_cases hc : 55296 ≤ n ∧ n < 56320
      · simp only [if_pos hc]
        have hcu : n ≤ 56319 := by omega
        obtain ⟨hcl, _⟩ := hc
        unfold halfS
        rw [hex 7, hsz]
        have h15 : i + 1 + 5 = i + 6 := by omega
        have h16 : i + 1 + 6 = i + 7 := by omega
        have h17 : i + 1 + 7 = i + 8 := by omega
        by_cases h7 : i + 7 < e
        · have b5 := hbx 5 (by omega)
          have b6 := hbx 6 (by omega)
          rw [h15] at b5
          rw [h16] at b6
          rw [b5, b6, h17]
          have p6 : i + 6 < s.size := by omega
          have p7 : i + 7 < s.size := by omega
          have x6 := bt_at s (i + 6) p6
          have x7 := bt_at s (i + 7) p7
          have h7i : (i : Int) + 7 < e := by omega
          have h6s : (i : Int) + 6 < s.size := by omega
          have h7s : (i : Int) + 7 < s.size := by omega
          have km : ∀ w', Calls Tryd.prog 65 #[.string s, .int .i64 ((i : Int) + 8), .int .i64 4, .int .i64 16, .int .i64 e] w' fun r w'' => r = .returned (.int .i64 ((num (s.extract (i + 8) e) 4 16).getD (-1))) ∧ w'' = w' := fun w' => rnumber_any s (i + 8) 4 e 16 w' hs (by omega) (by omega) (Or.inr rfl) (by omega)
          clear hbx hex hb0 hbd c1 hsn b5 b6 hsz hs2 kf
          by_cases a6 : bt s (i + 6) = 92
          · by_cases a7 : bt s (i + 7) = 117
            · rw [if_pos ⟨by omega, a6, a7⟩]
              rw [a6] at x6
              rw [a7] at x7
              clear a6 a7
              cases hm : num (s.extract (i + 8) e) 4 16 with
              | none =>
                rw [hm] at km
                clear hm
                go_enter Tryd.func49, Tryd.ntmps49
                go_wp2_with (first | (go_at_call 64; go_fit (kl _); rintro x w1 ⟨rfl, rfl⟩) | (go_at_call 65; go_fit (ku _); rintro x w1 ⟨rfl, rfl⟩; simp only [Option.getD_some]) | (go_at_call 65; go_fit (km _); rintro x w1 ⟨rfl, rfl⟩; simp only [Option.getD_none]))
                go_ret2
                exact ⟨rfl, Below.refl _ _⟩
              | some m =>
                rw [hm] at km
                obtain ⟨m0, m1⟩ := num_bd _ 4 16 (Or.inr rfl) (by omega) m hm
                clear hm
                by_cases hmc : 56320 ≤ m ∧ m < 57344
                · simp only [if_pos hmc]
                  obtain ⟨m2, m3⟩ := hmc
                  have m4 : ¬ m < 56320 := by omega
                  have m5 : ¬ 57343 < m := by omega
                  have kf := fun w' => form_any (65536 + (n - 55296) * 1024 + (m - 56320)) w'
                  go_enter Tryd.func49, Tryd.ntmps49
                  go_wp2_with (first | (go_at_call 64; go_fit (kl _); rintro x w1 ⟨rfl, rfl⟩) | (go_at_call 65; go_fit (ku _); rintro x w1 ⟨rfl, rfl⟩; simp only [Option.getD_some]) | (go_at_call 65; go_fit (km _); rintro x w1 ⟨rfl, rfl⟩; simp only [Option.getD_some]) | (go_at_call 62; go_fit (kf _); rintro x w2 ⟨rfl, hb⟩))
                  go_ret2
                  exact ⟨rfl, hb⟩
                · simp only [if_neg hmc]
                  have hmd : m < 56320 ∨ ¬ m < 56320 ∧ 57343 < m := by omega
                  clear hmc
                  rcases hmd with hmd | ⟨hmd, hme⟩
                  · go_enter Tryd.func49, Tryd.ntmps49
                    go_wp2_with (first | (go_at_call 64; go_fit (kl _); rintro x w1 ⟨rfl, rfl⟩) | (go_at_call 65; go_fit (ku _); rintro x w1 ⟨rfl, rfl⟩; simp only [Option.getD_some]) | (go_at_call 65; go_fit (km _); rintro x w1 ⟨rfl, rfl⟩; simp only [Option.getD_some]))
                    go_ret2
                    exact ⟨rfl, Below.refl _ _⟩
                  · go_enter Tryd.func49, Tryd.ntmps49
                    go_wp2_with (first | (go_at_call 64; go_fit (kl _); rintro x w1 ⟨rfl, rfl⟩) | (go_at_call 65; go_fit (ku _); rintro x w1 ⟨rfl, rfl⟩; simp only [Option.getD_some]) | (go_at_call 65; go_fit (km _); rintro x w1 ⟨rfl, rfl⟩; simp only [Option.getD_some]))
                    go_ret2
                    exact ⟨rfl, Below.refl _ _⟩
            · rw [if_neg (fun h => a7 h.2.2)]
              rw [a6] at x6
              have t7 : (bt s (i + 7) == 117) = false := by rw [beq_eq_false_iff_ne]; exact a7
              clear a6 a7 km
              generalize bt s (i + 7) = d at *
              go_enter Tryd.func49, Tryd.ntmps49
              go_wp2_with (first | (go_at_call 64; go_fit (kl _); rintro x w1 ⟨rfl, rfl⟩) | (go_at_call 65; go_fit (ku _); rintro x w1 ⟨rfl, rfl⟩; simp only [Option.getD_some]))
              go_ret2
              exact ⟨rfl, Below.refl _ _⟩
          · rw [if_neg (fun h => a6 h.2.1)]
            have t6 : (bt s (i + 6) == 92) = false := by rw [beq_eq_false_iff_ne]; exact a6
            clear a6 km
            generalize bt s (i + 6) = d at *
            go_enter Tryd.func49, Tryd.ntmps49
            go_wp2_with (first | (go_at_call 64; go_fit (kl _); rintro x w1 ⟨rfl, rfl⟩) | (go_at_call 65; go_fit (ku _); rintro x w1 ⟨rfl, rfl⟩; simp only [Option.getD_some]))
            go_ret2
            exact ⟨rfl, Below.refl _ _⟩
        · rw [if_neg (by omega)]
          have h7i : ¬ (i : Int) + 7 < e := by omega
          clear hbx hex hb0 hbd c1 hsn hsz hs2 kf
          go_enter Tryd.func49, Tryd.ntmps49
          go_wp2_with (first | (go_at_call 64; go_fit (kl _); rintro x w1 ⟨rfl, rfl⟩) | (go_at_call 65; go_fit (ku _); rintro x w1 ⟨rfl, rfl⟩; simp only [Option.getD_some]))
          go_ret2
          exact ⟨rfl, Below.refl _ _⟩
      · simp only [if_neg hc]
        have ki := fun w' => isRune_any n w'
        have hcd : ¬ 55296 ≤ n ∨ ¬ n ≤ 56319 := by omega
        clear hbx hex hb0 hbd c1 hc hsn hs2
        by_cases hr : isRune n = true
        · rw [hr] at ki
          simp only [if_pos hr]
          clear hr
          rcases hcd with hcd | hcd
          all_goals
            go_enter Tryd.func49, Tryd.ntmps49
            go_wp2_with (first | (go_at_call 64; go_fit (kl _); rintro x w1 ⟨rfl, rfl⟩) | (go_at_call 65; go_fit (ku _); rintro x w1 ⟨rfl, rfl⟩; simp only [Option.getD_some]) | (go_at_call 61; go_fit (ki _); rintro x w1 ⟨rfl, rfl⟩) | (go_at_call 62; go_fit (kf _); rintro x w2 ⟨rfl, hb⟩))
            go_ret2
            exact ⟨rfl, hb⟩
        · have hr' : isRune n = false := by simpa using hr
          rw [hr'] at ki
          simp only [if_neg hr]
          clear hr hr' kf
          rcases hcd with hcd | hcd
          all_goals
            go_enter Tryd.func49, Tryd.ntmps49
            go_wp2_with (first | (go_at_call 64; go_fit (kl _); rintro x w1 ⟨rfl, rfl⟩) | (go_at_call 65; go_fit (ku _); rintro x w1 ⟨rfl, rfl⟩; simp only [Option.getD_some]) | (go_at_call 61; go_fit (ki _); rintro x w1 ⟨rfl, rfl⟩))
            go_ret2
            exact ⟨rfl, Below.refl _ _⟩
  · rw [if_neg c1]
    clear ku hbx hex hb0
    generalize bt s (i + 1) = c at *
    obtain ⟨hc0, hc1⟩ := hbd
    have t1 : (c == 117) = false := by rw [beq_eq_false_iff_ne]; exact c1
    have hjb := jmeans_bd c
    by_cases c2 : c = 34 ∨ c = 92 ∨ c = 47
    · rw [if_pos c2]
      rw [show jl8 c = c by unfold jl8; rw [if_pos c2]] at kl
      clear c2 c1 hjb
      go_enter Tryd.func49, Tryd.ntmps49
      go_wp2_with (go_at_call 64; go_fit (kl _); rintro x w1 ⟨rfl, rfl⟩)
      go_ret2
      exact ⟨rfl, (Below.refl _ _).alloc (Nat.le_refl _) _⟩
    · rw [if_neg c2]
      rw [show jl8 c = jmeans c by unfold jl8; rw [if_neg c2]] at kl
      obtain ⟨j0, j1⟩ := hjb
      by_cases c3 : 0 ≤ jmeans c
      · rw [if_pos c3]
        have j2 : jmeans c ≤ 255 := by omega
        clear c2 c1
        generalize jmeans c = d at *
        go_enter Tryd.func49, Tryd.ntmps49
        go_wp2_with (go_at_call 64; go_fit (kl _); rintro x w1 ⟨rfl, rfl⟩)
        go_ret2
        exact ⟨rfl, (Below.refl _ _).alloc (Nat.le_refl _) _⟩
      · rw [if_neg c3]
        clear c2 c1
        generalize jmeans c = d at *
        go_enter Tryd.func49, Tryd.ntmps49
        go_wp2_with (go_at_call 64; go_fit (kl _); rintro x w1 ⟨rfl, rfl⟩)
        go_ret2
        exact ⟨rfl, Below.refl _ _⟩
end Go.Proofs.YtdnbkgbgpfmipabDoor
