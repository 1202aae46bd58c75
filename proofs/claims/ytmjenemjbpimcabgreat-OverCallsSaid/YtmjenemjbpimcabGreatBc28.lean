/- A bundle of texts. -/
import Derived.Test.YtmjenemjbpimcabGreatBc27
/- The reference's whole part of a float: the walk. -/
namespace Go.Proofs.YtmjenemjbpimcabGreat
open Go.RowKit

set_option maxHeartbeats 4000000 in
set_option maxRecDepth 100000 in
theorem rtoInt_any (y : Nat) (hy : y < 18446744073709551616) (w : World) : Calls Tryz.prog 44 #[.float .f64 y] w fun r w' => (∃ b, r = .returned (.tuple #[.int .i64 (tiF (cl y)), .bool b])) ∧ w' = w := by
  by_cases h1 : y = 14114281232179134464
  · subst h1
    have HR : Hid (tiF (cl 14114281232179134464) = -9223372036854775808) := (show _ = _ by decide +kernel)
    generalize tiF (cl 14114281232179134464) = R at *
    have k1 := rBits_any 14114281232179134464
    rw [show nb 14114281232179134464 = 14114281232179134464 by decide] at k1
    go_enter Tryz.func44, Tryz.ntmps44
    go_wp2_with fail
    go_fit (k1 _)
    rintro e w1 ⟨rfl, rfl⟩
    go_wp2_with fail
    go_ret2
    exact ⟨⟨true, by rw [HR.out]; rfl⟩, rfl⟩
  · by_cases h2 : nanB y = true
    · have HR : Hid (tiF (cl y) = 0) := ti_no y hy h1 (.inl h2)
      generalize tiF (cl y) = R at *
      have k1 := rBits_any y
      rw [show nb y = 9221120237041090561 from if_pos h2] at k1
      have k2 := parts02_any 9221120237041090561 (by decide)
      generalize mant 9221120237041090561 = M at *
      generalize expo 9221120237041090561 = E at *
      clear h1 h2 hy
      go_enter Tryz.func44, Tryz.ntmps44
      go_wp2_with fail
      go_fit (k1 _)
      rintro e w1 ⟨rfl, rfl⟩
      go_wp2_with fail
      go_fit (k2 _)
      rintro e w1 ⟨rfl, rfl⟩
      go_wp2_with fail
      go_ret2
      exact ⟨⟨false, by rw [HR.out]; rfl⟩, rfl⟩
    · have hnan : nanB y = false := by simpa using h2
      have k1 := rBits_any y
      rw [show nb y = y from if_neg h2] at k1
      have k2 := parts02_any (y % 9223372036854775808) (by omega)
      have b1 : ((y : Int) == 14114281232179134464) = false := beq_eq_false_iff_ne.2 (by omega)
      have b2 : ((y : Int) == 9221120237041090561) = false := beq_eq_false_iff_ne.2 (fun e => by
        have e2 : y = 9221120237041090561 := by omega
        rw [e2] at h2
        exact h2 (by decide))
      have hwr : IntKind.u64.wrap ((y : Int) * 2) / 2 = ((y % 9223372036854775808 : Nat) : Int) := by rw [IntKind.wrap_u64]; omega
      have hml := mant_lt (y % 9223372036854775808)
      have hel := expo_le (y % 9223372036854775808)
      by_cases h3 : y % 2 ^ 63 < 4890909195324358656
      · have hE : expo (y % 9223372036854775808) ≤ 10 := hel.2 h3
        have hE2 : -1074 ≤ expo (y % 9223372036854775808) := by unfold expo; split <;> omega
        have hv := vI_lt _ hE
        have HT : Hid (tiF (cl y) = if sgn y = true then -((vI (y % 9223372036854775808) : Nat) : Int) else ((vI (y % 9223372036854775808) : Nat) : Int)) := ti_is y h3
        have HV : Hid (vI (y % 9223372036854775808) = if 0 ≤ expo (y % 9223372036854775808) then mant (y % 9223372036854775808) * 2 ^ (expo (y % 9223372036854775808)).toNat else mant (y % 9223372036854775808) / 2 ^ (-expo (y % 9223372036854775808)).toNat) := rfl
        have HS : Hid (sgn y = decide (y / 9223372036854775808 = 1)) := (show sgn y = _ by
          unfold sgn
          have : y / 2 ^ 63 % 2 = y / 9223372036854775808 := by omega
          rw [this]
          by_cases h : y / 9223372036854775808 = 1
          · simp [h]
          · simp [h])
        generalize tiF (cl y) = R at *
        generalize vI (y % 9223372036854775808) = V at *
        generalize mant (y % 9223372036854775808) = M at *
        generalize expo (y % 9223372036854775808) = E at *
        generalize y % 9223372036854775808 = r at *
        clear h1 h2 h3 hel hnan
        have g1 : ¬ E > 10 := by omega
        have HO : Hid (IntKind.i64.wrap (-(V : Int)) = -(V : Int)) := (show _ = _ by rw [IntKind.wrap_i64]; omega)
        have hneg := HO.out
        by_cases hs : y / 9223372036854775808 = 1
        · have hs2 : ((y : Int) / 9223372036854775808 == 1) = true := beq_iff_eq.2 (by omega)
          have HR : Hid (R = -(V : Int)) := (show _ = _ by rw [HT.out, if_pos (by rw [HS.out]; exact decide_eq_true hs)])
          clear HT HS hs
          by_cases he : 0 ≤ E
          · have hsh : IntKind.u64.wrap ((M : Int) * 2 ^ E.toNat) = (V : Int) := by
              have e1 := HV.out
              rw [if_pos he] at e1
              rw [IntKind.wrap_u64]
              have e2 : (V : Int) = (M : Int) * 2 ^ E.toNat := by rw [e1]; push_cast; rfl
              rw [← e2]
              omega
            clear HV
            go_enter Tryz.func44, Tryz.ntmps44
            go_wp2_with fail
            go_fit (k1 _)
            rintro e w1 ⟨rfl, rfl⟩
            go_wp2_with fail
            go_fit (k2 _)
            rintro e w1 ⟨rfl, rfl⟩
            go_wp2_with fail
            go_ret2
            exact ⟨⟨true, by rw [HR.out]; rfl⟩, rfl⟩
          · have hsh : (M : Int) / 2 ^ (-E).toNat = (V : Int) := by
              have e1 := HV.out
              rw [if_neg he] at e1
              rw [e1]
              push_cast
              rfl
            have hng : IntKind.i64.wrap (-E) = -E := by rw [IntKind.wrap_i64]; omega
            by_cases he2 : -64 < E
            · clear HV
              go_enter Tryz.func44, Tryz.ntmps44
              go_wp2_with fail
              go_fit (k1 _)
              rintro e w1 ⟨rfl, rfl⟩
              go_wp2_with fail
              go_fit (k2 _)
              rintro e w1 ⟨rfl, rfl⟩
              go_wp2_with fail
              go_ret2
              exact ⟨⟨true, by rw [HR.out]; rfl⟩, rfl⟩
            · have hz : V = 0 := by
                have e1 := HV.out
                rw [if_neg he] at e1
                have h64 : 2 ^ 64 ≤ 2 ^ (-E).toNat := pow_le _ _ (by omega)
                rw [e1]
                exact Nat.div_eq_of_lt (by omega)
              have HR0 : Hid (R = 0) := (show _ = _ by rw [HR.out, hz]; rfl)
              clear HV hsh hz HR hneg HO
              go_enter Tryz.func44, Tryz.ntmps44
              go_wp2_with fail
              go_fit (k1 _)
              rintro e w1 ⟨rfl, rfl⟩
              go_wp2_with fail
              go_fit (k2 _)
              rintro e w1 ⟨rfl, rfl⟩
              go_wp2_with fail
              go_ret2
              exact ⟨⟨true, by rw [HR0.out]; rfl⟩, rfl⟩
        · have hs2 : ((y : Int) / 9223372036854775808 == 1) = false := beq_eq_false_iff_ne.2 (by omega)
          have HR : Hid (R = (V : Int)) := (show _ = _ by rw [HT.out, if_neg (by rw [HS.out, decide_eq_false hs]; decide)])
          clear HT HS hs
          by_cases he : 0 ≤ E
          · have hsh : IntKind.u64.wrap ((M : Int) * 2 ^ E.toNat) = (V : Int) := by
              have e1 := HV.out
              rw [if_pos he] at e1
              rw [IntKind.wrap_u64]
              have e2 : (V : Int) = (M : Int) * 2 ^ E.toNat := by rw [e1]; push_cast; rfl
              rw [← e2]
              omega
            clear HV
            go_enter Tryz.func44, Tryz.ntmps44
            go_wp2_with fail
            go_fit (k1 _)
            rintro e w1 ⟨rfl, rfl⟩
            go_wp2_with fail
            go_fit (k2 _)
            rintro e w1 ⟨rfl, rfl⟩
            go_wp2_with fail
            go_ret2
            exact ⟨⟨true, by rw [HR.out]; rfl⟩, rfl⟩
          · have hsh : (M : Int) / 2 ^ (-E).toNat = (V : Int) := by
              have e1 := HV.out
              rw [if_neg he] at e1
              rw [e1]
              push_cast
              rfl
            have hng : IntKind.i64.wrap (-E) = -E := by rw [IntKind.wrap_i64]; omega
            by_cases he2 : -64 < E
            · clear HV
              go_enter Tryz.func44, Tryz.ntmps44
              go_wp2_with fail
              go_fit (k1 _)
              rintro e w1 ⟨rfl, rfl⟩
              go_wp2_with fail
              go_fit (k2 _)
              rintro e w1 ⟨rfl, rfl⟩
              go_wp2_with fail
              go_ret2
              exact ⟨⟨true, by rw [HR.out]; rfl⟩, rfl⟩
            · have hz : V = 0 := by
                have e1 := HV.out
                rw [if_neg he] at e1
                have h64 : 2 ^ 64 ≤ 2 ^ (-E).toNat := pow_le _ _ (by omega)
                rw [e1]
                exact Nat.div_eq_of_lt (by omega)
              have HR0 : Hid (R = 0) := (show _ = _ by rw [HR.out, hz]; rfl)
              clear HV hsh hz HR hneg HO
              go_enter Tryz.func44, Tryz.ntmps44
              go_wp2_with fail
              go_fit (k1 _)
              rintro e w1 ⟨rfl, rfl⟩
              go_wp2_with fail
              go_fit (k2 _)
              rintro e w1 ⟨rfl, rfl⟩
              go_wp2_with fail
              go_ret2
              exact ⟨⟨true, by rw [HR0.out]; rfl⟩, rfl⟩
      · have HR : Hid (tiF (cl y) = 0) := ti_no y hy h1 (.inr (by omega))
        generalize tiF (cl y) = R at *
        have hE : expo (y % 9223372036854775808) > 10 := by
          rcases Int.lt_or_le 10 (expo (y % 9223372036854775808)) with g | g
          · exact g
          · exact absurd (hel.1 g) h3
        generalize mant (y % 9223372036854775808) = M at *
        generalize expo (y % 9223372036854775808) = E at *
        generalize y % 9223372036854775808 = r at *
        clear h1 h2 h3 hel hnan
        go_enter Tryz.func44, Tryz.ntmps44
        go_wp2_with fail
        go_fit (k1 _)
        rintro e w1 ⟨rfl, rfl⟩
        go_wp2_with fail
        go_fit (k2 _)
        rintro e w1 ⟨rfl, rfl⟩
        go_wp2_with fail
        go_ret2
        exact ⟨⟨false, by rw [HR.out]; rfl⟩, rfl⟩
end Go.Proofs.YtmjenemjbpimcabGreat
