/- The walk of put. -/
import Derived.Test.YtedlmjieclaojaaDoorCb
namespace Go.Proofs.YtedlmjieclaojaaDoor
open Go.RowKit

theorem qb_le (L : List Int) (h : L.length ≤ 1000000000) : qb L ≤ 125000000 := by unfold qb; omega
set_option maxHeartbeats 2000000 in
set_option maxRecDepth 100000 in
theorem put_any (S B : Nat) (v : Value) (L : List Int) (V n : Nat) (w : World) (h : Stm S w B v L) (hV : V < 2 ^ n) (hn : n ≤ 64) (hL : L.length + n ≤ 1000000000) :
    Calls Tryd.prog 31 #[.pointer (some ⟨B, 0, none⟩), .int .u64 (V : Nat), .int .i64 (n : Nat)] w fun e w' => e = .returned (.tuple #[]) ∧ ∃ v', Stm S w' B v' (L ++ nb V n) ∧ Sub w v v' ∧ Kp (Mv B v) w w' ∧ Rst B w w' := by
  have HV : Hid (V < 2 ^ n) := hV
  obtain ⟨X, hX⟩ : ∃ X : Int, X = (V : Nat) := ⟨_, rfl⟩
  have HX : Hid (X = (V : Nat)) := hX
  have hX0 : 0 ≤ X := by omega
  have hX1 : X ≤ 18446744073709551615 := by
    have : 2 ^ n ≤ 2 ^ 64 := Nat.pow_le_pow_right (by decide) hn
    omega
  rw [← hX]
  clear hX
  have H0 : Hid (Stm S w B v L) := h
  clear h hV
  go_enter Tryd.func31, Tryd.ntmps31
  go_wp2_with fail
  go_loopw [2] (fun nv w' => ∃ k : Nat, k ≤ n ∧ nv = .int .i64 (k : Nat) ∧ Hid (k = n ∨ k = 0 ∨ lf (L ++ nb (V / 2 ^ k) (n - k)) = 0) ∧ Hid (∃ v', Stm S w' B v' (L ++ nb (V / 2 ^ k) (n - k)) ∧ Sub w v v' ∧ Kp (Mv B v) w w' ∧ Rst B w w')) (fun nv _ => (RowKit.intOf nv).toNat)
  case atStart => exact ⟨n, Nat.le_refl _, rfl, .inl rfl, v, by rw [Nat.sub_self, nb_zero, List.append_nil]; exact H0.out, Sub.refl _ _, Kp.refl _ _, Rst.refl _ _⟩
  case round =>
    obtain ⟨k, hk, rfl, hd, hh⟩ := hrel
    obtain ⟨v1, hS1, hsub, hkp, hrs⟩ := hh.out
    by_cases hk0 : k = 0
    · subst hk0
      go_wp2
      go_end0
      refine ⟨rfl, v1, ?_, hsub, hkp, hrs⟩
      rw [Nat.pow_zero, Nat.div_one, Nat.sub_zero] at hS1
      exact hS1
    · have hk1 : (0 : Int) < (k : Int) := by omega
      generalize hL1 : L ++ nb (V / 2 ^ k) (n - k) = L1 at *
      have hlen : L1.length + k ≤ 1000000000 := by rw [← hL1, List.length_append, nb_len]; omega
      have HY : Hid (∀ s, s ≤ k → L ++ nb (V / 2 ^ (k - s)) (n - (k - s)) = L1 ++ nb (V / 2 ^ (k - s)) s) := fun s hs => by
        rw [← hL1, List.append_assoc, show n - (k - s) = (n - k) + s by omega, nb_add, Nat.div_div_eq_div_mul, ← Nat.pow_add, show k - s + s = k by omega]
      clear hL1 hh
      by_cases hl0 : lf L1 = 0
      case' pos =>
        obtain ⟨a1', c1', rfl⟩ := hS1.form
        obtain ⟨G, C, w2, r, c0, c1, fz, hM, hkW, hsW, hrW⟩ := hS1.grow hl0 (by omega)
        have hlt := hS1.lt
        have a0 := hS1.c0
        have a1 : wr.cell? ⟨B, 1, none⟩ = some (.int .i64 0) := by have := hS1.c1; rw [hl0] at this; exact this
        have c1'' : w2.cell? ⟨B, 1, none⟩ = some (.int .i64 0) := by rw [hl0] at c1; exact c1
        have af := hS1.fz
        have hq := qb_le L1 (by omega)
        have HK : Hid (Kp (Mv B v) w _) := hkp.next hsub hkW
        have HS : Hid (Sub w v _) := hsub.trans hsW hkp.size
        have HR : Hid (Rst B w _) := hrs.trans hrW
        obtain ⟨W, hW⟩ : ∃ W, W = (w2.setCell ⟨B, 0, none⟩ (.slice (some ⟨G, 0, none⟩) (qb L1 + 1) C)).setCell ⟨B, 1, none⟩ (.int .i64 8) := ⟨_, rfl⟩
        rw [← hW] at hM HK HR
        have HW : Hid (W = _) := hW
        have HM : Hid _ := hM
        clear hW hM hS1 hkp hsub hkW hsW hl0 c1 hrs hrW
        go_upto_region 4 with (at_builtin; refine wpList_append_run rfl (.tmp 18) (.tmp 19) 25 25 rfl _ _ rfl rfl r ?_)
        rw [← HW.out]
        clear r c0 c1'' fz a0 a1 af HW w2 hlt
        generalize qb L1 = q at *
        obtain ⟨l, hl⟩ : ∃ l, 8 = l := ⟨_, rfl⟩
        have HM' : Hid (Mid S W B G (q + 1) C l L1) := by rw [← hl]; exact HM
        have HC : Hid (V < 2 ^ k ∨ l = 8) := .inr hl.symm
        clear HM hl
      case' neg =>
        obtain ⟨G, C, rfl, hM⟩ := hS1.mid hl0
        have HC' : Hid (V < 2 ^ k) := by
          rcases hd.out with h | h | h
          · rw [h]; exact HV.out
          · exact absurd h hk0
          · exact absurd h hl0
        have hlt := hS1.lt
        have a0 := hS1.c0
        have a1 := hS1.c1
        have hq' := qb_le L1 (by omega)
        have HK : Hid (Kp (Mv B v) w wr) := hkp
        have HS : Hid (Sub w v _) := hsub
        have HR : Hid (Rst B w wr) := hrs
        have hl1 : ¬ (lf L1 : Int) = 0 := by omega
        obtain ⟨q, hqq⟩ : ∃ q, qb L1 = q + 1 := ⟨qb L1 - 1, by have := hM.len; have := hM.l8; unfold qb at *; unfold lf at *; omega⟩
        rw [hqq] at hM HS a0 hq'
        clear hqq
        generalize lf L1 = l at *
        have HM' : Hid _ := hM
        have HC : Hid (V < 2 ^ k ∨ l = 8) := .inl HC'.out
        have hq : q ≤ 125000000 := by omega
        clear hq' hM hkp hsub hS1 hl0 HC' hrs
        go_upto_region 4 with fail
        clear a0 a1 hl1 hlt
        obtain ⟨W, hW⟩ : ∃ W, wr = W := ⟨_, rfl⟩
        subst hW
      all_goals
        have m0 := HM'.out.c0
        have m1 := HM'.out.c1
        have mf := HM'.out.fz
        have ml1 := HM'.out.l1
        have ml8 := HM'.out.l8
        have mgb := HM'.out.gb
        obtain ⟨b, hb1, hb2, hb3, hb4, _, _⟩ := HM'.out.last
        rw [Nat.add_sub_cancel] at hb2 hb3 hb4
        have HB2 : Hid _ := hb2
        clear hb2
        generalize hZ : b * 2 ^ l = Z at *
        have HZ : Hid (b * 2 ^ l = Z) := hZ
        clear hZ
        clear hd
        by_cases hm : k ≤ l
        · go_wp2
          go_region
          obtain ⟨p1, p2, p3⟩ := HM'.out.put (V / 2 ^ (k - k)) k b hm (by omega) (by rw [Nat.add_sub_cancel, HB2.out, HZ.out])
          have e : bits BinOp.or .u8 (Z : Int) (X % 256 * 2 ^ (l - k) % 256) = ((b * 2 ^ l + V / 2 ^ (k - k) % 2 ^ k * 2 ^ (l - k) : Nat) : Int) := by
            have h1 := put_num V (k - k) k (l - k) (by omega) (HC.out.imp (fun h => by simpa using h) (fun h => by omega))
            have h2 : V / 2 ^ (k - k) % 2 ^ k * 2 ^ (l - k) < 2 ^ l := by
              have h3 : V / 2 ^ (k - k) % 2 ^ k < 2 ^ k := Nat.mod_lt _ (Nat.pow_pos (by decide))
              calc _ < 2 ^ k * 2 ^ (l - k) := Nat.mul_lt_mul_of_pos_right h3 (Nat.pow_pos (by decide))
                _ = 2 ^ l := by rw [← Nat.pow_add, Nat.add_sub_cancel' hm]
            rw [← byte_or b _ l ml8 (by rw [HZ.out]; exact hb1) h2, HZ.out, ← h1]
            congr 1
            rw [HX.out, Nat.sub_self, Nat.pow_zero, Nat.div_one]
            simp only [Int.natCast_emod, Int.natCast_mul, Int.natCast_pow]
            rfl
          rw [Nat.add_sub_cancel, ← e, show ((l - k : Nat) : Int) = (l : Int) - k by omega] at p1 p2 p3
          go_wp2
          refine ⟨⟨k - k, by omega, by go_num, .inr (.inl (Nat.sub_self k)), _, ?_, HS.out, ?_⟩, by simp [RowKit.intOf]; omega⟩
          · rw [HY.out k (Nat.le_refl _)]
            exact p1.kp (M := fun _ => False) (Kp.refl _ _).drew id (fun _ _ => id)
          · exact ⟨(HK.out.next HS.out p2).drew, fun i hi => (p3 i hi).trans (HR.out i hi)⟩
        · go_wp2
          go_region
          obtain ⟨p1, p2, p3⟩ := HM'.out.put (V / 2 ^ (k - l)) l b (Nat.le_refl _) (by omega) (by rw [Nat.add_sub_cancel, HB2.out, HZ.out])
          have e : bits BinOp.or .u8 (Z : Int) (X / 2 ^ (k - l) % 256) = ((b * 2 ^ l + V / 2 ^ (k - l) % 2 ^ l * 2 ^ (l - l) : Nat) : Int) := by
            have h1 := put_num V (k - l) l (l - l) (by omega) (HC.out.imp (fun h => by
              rw [Nat.div_lt_iff_lt_mul (Nat.pow_pos (by decide)), ← Nat.pow_add, show l + (k - l) = k by omega]
              exact h) (fun h => by omega))
            have h2 : V / 2 ^ (k - l) % 2 ^ l * 2 ^ (l - l) < 2 ^ l := by
              rw [Nat.sub_self, Nat.pow_zero, Nat.mul_one]
              exact Nat.mod_lt _ (Nat.pow_pos (by decide))
            rw [← byte_or b _ l ml8 (by rw [HZ.out]; exact hb1) h2, HZ.out, ← h1]
            congr 1
            rw [HX.out, Nat.sub_self, Nat.pow_zero, Nat.mul_one, Nat.mod_mod]
            simp only [Int.natCast_emod, Int.natCast_ediv, Int.natCast_pow]
            rfl
          rw [Nat.add_sub_cancel, ← e, show ((l - l : Nat) : Int) = 0 by omega] at p1 p2 p3
          go_wp2
          refine ⟨⟨k - l, by omega, by go_num, .inr (.inr ?_), _, ?_, HS.out, ?_⟩, by simp [RowKit.intOf]; omega⟩
          · rw [HY.out l (by omega)]
            have := HM'.out.len
            show lf _ = 0
            unfold lf
            rw [List.length_append, nb_len]
            omega
          · rw [HY.out l (by omega)]
            exact p1.kp (M := fun _ => False) (Kp.refl _ _).drew id (fun _ _ => id)
          · exact ⟨(HK.out.next HS.out p2).drew, fun i hi => (p3 i hi).trans (HR.out i hi)⟩
end Go.Proofs.YtedlmjieclaojaaDoor
