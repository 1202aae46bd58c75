/- The reference's Decode. -/
import Derived.Test.YtljnllenpdkccaaBk
namespace Go.Proofs.Ytljnllenpdkccaa
open Go.RowKit

theorem val_bit (v : Int) (j : Nat) (h0 : 0 ≤ v) (h1 : v < 64) : bits BinOp.and IntKind.i64 (v / 2 ^ (5 - j)) 1 = ((v.toNat / 2 ^ (5 - j) % 2 : Nat) : Int) := by
  obtain ⟨m, rfl⟩ := Int.eq_ofNat_of_zero_le h0
  have hpi : ((2 : Int) ^ (5 - j)) = ((2 ^ (5 - j) : Nat) : Int) := by simp
  have h2 : m / 2 ^ (5 - j) ≤ m := Nat.div_le_self _ _
  rw [Int.toNat_natCast, hpi, ← Int.natCast_ediv]
  generalize m / 2 ^ (5 - j) = d at *
  have := bits_mask .i64 32 (by decide) wraps_i64s 1 (by decide) (d : Int) (by omega) (by omega)
  rw [show ((2 : Int) ^ 1 - 1) = 1 by decide, show ((2 : Int) ^ 1) = 2 by decide] at this
  rw [this]
  omega

set_option maxHeartbeats 2000000 in
set_option maxRecDepth 100000 in
theorem rdecode_any (s : ByteArray) (w : World) (hs : s.size ≤ 140737488355328) :
    Calls Try.prog 14 #[.string s] w fun r w' => ∃ av cv, r = .returned (.tuple #[.slice av (dcl (nm s)).length cv, .int .i64 (dce (nm s))]) ∧ Im w' av (dcl (nm s)) ∧ Below w.heap.size w w' := by
  have hsi : (s.size : Int) ≤ 140737488355328 := by omega
  obtain ⟨i0, hi, hz0, hz1, hz2⟩ := info_parts info5
  obtain ⟨w2, r2, o2, g2⟩ := run_make_full (P := Try.prog) w w.heap.size 24 5 i0 _ 1 Try.underlying24 hi hz0 hz1 .i64 .i64 (6 * s.size / 8) (by rw [hz2]; omega) (by unfold maxLen; omega) (Nat.le_refl _)
  have e : (madeCells (Value.int IntKind.u8 0).cells (6 * s.size / 8 * 1)).toList = bc (List.replicate (6 * s.size / 8) 0) := by
    rw [Nat.mul_one]
    have := toList_madeCells_one (.int .u8 0) (6 * s.size / 8)
    simp only [bc, List.map_replicate]
    exact this
  rw [e, ← gr_zero (bt 6 (vals (nm s)))] at o2
  have hb2 : Below w.heap.size w w2 := (Below.refl _ _).grown g2 (Nat.le_refl _) (fun k hk => by cases hk)
  have r2' : (Instr.makeSlice 24 (.int .i64 ((s.size : Int) * 6 / 8)) (.int .i64 ((s.size : Int) * 6 / 8))).run Try.prog w = .ok (.slice (some ⟨w.heap.size, 0, none⟩) (6 * s.size / 8) (6 * s.size / 8)) w2 := by
    rw [show (s.size : Int) * 6 / 8 = ((6 * s.size / 8 : Nat) : Int) by omega]
    exact r2
  have HNo : Hid (∀ k, k < s.size → vf ((nm s).getD k 0) < 0 → dcl (nm s) = [] ∧ dce (nm s) = 50) := fun k hk hv => by
    have hno : ¬ Ok (nm s) := fun hok => Int.not_le.2 hv (((ok_iff _).1 hok).1 _ (by
      have h1 : k < (nm s).length := by rw [nm_len]; exact hk
      simp only [List.getD, List.getElem?_eq_getElem h1, Option.getD_some]
      exact List.getElem_mem _))
    exact ⟨if_neg hno, if_neg hno⟩
  have HC : Hid (∀ k (h : k < s.size), (nm s).getD k 0 = ((s[k].toNat : Nat) : Int)) := nm_getD s
  have HG : Hid ((∀ u, u < s.size → 0 ≤ vf ((nm s).getD u 0)) → Good (nm s)) := fun h c hc => by
    obtain ⟨u, hu, rfl⟩ := List.mem_iff_getElem.1 hc
    have := h u (by rw [← nm_len]; exact hu)
    simpa [List.getD, List.getElem?_eq_getElem hu] using this
  have HBt : Hid (∀ k j, k < s.size → j < 6 → bt 6 (vals (nm s)) (6 * k + j) = (vf ((nm s).getD k 0)).toNat / 2 ^ (5 - j) % 2) := fun k j hk hj => by
    unfold bt
    rw [show (6 * k + j) / 6 = k by omega, show (6 * k + j) % 6 = j by omega]
    have h1 : k < (nm s).length := by rw [nm_len]; exact hk
    simp [vals, List.getD, List.getElem?_eq_getElem h1]
  have HB : Hid (∀ i, bt 6 (vals (nm s)) i < 2) := bt_lt 6 _
  have HQ : Hid (8 * (6 * s.size / 8) ≤ 6 * s.size) := (by omega : _ ≤ _)
  have HY : Hid (Good (nm s) → strOfNums (enc (gr (bt 6 (vals (nm s))) 8 (6 * s.size / 8))) = s → dcl (nm s) = gr (bt 6 (vals (nm s))) 8 (6 * s.size / 8) ∧ dce (nm s) = 0) := fun hg he => by
    have h1 : gr (bt 6 (vals (nm s))) 8 (6 * s.size / 8) = dec (nm s) := by unfold dec nb; rw [nm_len]
    rw [h1] at he ⊢
    have h2 : enc (dec (nm s)) = nm s := by
      have := congrArg nm he
      rw [nm_son _ (enc_small _)] at this
      exact this
    have h3 := (enc_dec (nm s) hg).1 h2
    exact ⟨if_pos h3, if_pos h3⟩
  have HN : Hid (Good (nm s) → ¬ strOfNums (enc (gr (bt 6 (vals (nm s))) 8 (6 * s.size / 8))) = s → dcl (nm s) = [] ∧ dce (nm s) = 50) := fun hg he => by
    have h1 : gr (bt 6 (vals (nm s))) 8 (6 * s.size / 8) = dec (nm s) := by unfold dec nb; rw [nm_len]
    rw [h1] at he
    have h3 : ¬ Ok (nm s) := fun h => he (by rw [(enc_dec (nm s) hg).2 h, son_nm])
    exact ⟨if_neg h3, if_neg h3⟩
  have HO : Hid (w2.ownsRow w.heap.size 5 1 (.slice (some ⟨w.heap.size, 0, none⟩) (6 * s.size / 8) (6 * s.size / 8)) (6 * s.size / 8) (bc (gr (bk (bt 6 (vals (nm s))) 0) 8 (6 * s.size / 8)))) := o2
  have hqn : 6 * s.size / 8 ≤ 105553116266496 := by omega
  generalize dcl (nm s) = DL at *
  generalize dce (nm s) = DE at *
  generalize bt 6 (vals (nm s)) = b at *
  generalize hq : 6 * s.size / 8 = q at *
  clear o2 g2 hi hz0 hz1 hz2 e r2 hq
  have hqi : (q : Int) ≤ 105553116266496 := by omega
  go_enter Try.func14, Try.ntmps14
  go_wp2
  clear r2'
  go_loopw [5] (fun iv w' => ∃ k : Nat, iv = .int .i64 (k : Int) ∧ k ≤ s.size ∧ Hid (∀ u, u < k → 0 ≤ vf ((nm s).getD u 0)) ∧
    Hid (w'.ownsRow w.heap.size 5 1 (.slice (some ⟨w.heap.size, 0, none⟩) q q) q (bc (gr (bk b (6 * k)) 8 q))) ∧ Below w.heap.size w w') (fun iv _ => s.size - (RowKit.intOf iv).toNat)
  case atStart => exact ⟨0, rfl, Nat.zero_le _, fun u hu => absurd hu (by omega), HO, hb2⟩
  case round =>
    obtain ⟨k, rfl, hk, hg, ho, hbw⟩ := hrel
    by_cases hlt : k < s.size
    · have hki : (k : Int) < s.size := by omega
      have hck := HC.out k hlt
      have kv := rvalue_any ((s[k].toNat : Nat) : Int) wr
      have hNo := HNo.out k hlt
      have hgk := hg.out
      by_cases hv : 0 ≤ vf ((nm s).getD k 0)
      · have hvb := (lt_vf _ hv).2
        have HBk : Hid (∀ j, j < 6 → b (6 * k + j) = (vf ((nm s).getD k 0)).toNat / 2 ^ (5 - j) % 2) := fun j hj => HBt.out k j hlt hj
        have HG5 : Hid (∀ u, u < k + 1 → 0 ≤ vf ((nm s).getD u 0)) := fun u hu => by
          by_cases hu' : u < k
          · exact hgk u hu'
          · obtain rfl : u = k := by omega
            exact hv
        rw [hck] at hv hvb HBk
        clear hNo hgk hck hg
        generalize vf ((s[k].toNat : Nat) : Int) = v at *
        go_wp2_with (go_at_call 22; go_fit kv; rintro x w1 ⟨rfl, rfl⟩)
        clear kv
        go_loopw [7] (fun jv w' => ∃ j : Nat, jv = .int .i64 (j : Int) ∧ j ≤ 6 ∧ Hid (w'.ownsRow w.heap.size 5 1 (.slice (some ⟨w.heap.size, 0, none⟩) q q) q (bc (gr (bk b (6 * k + j)) 8 q))) ∧ Below w.heap.size w w') (fun jv _ => 6 - (RowKit.intOf jv).toNat)
        case atStart => exact ⟨0, rfl, by omega, ho, hbw⟩
        case round =>
          clear ho hbw
          obtain ⟨j, rfl, hj, ho, hbw⟩ := hrel
          by_cases hj6 : j < 6
          · have hji : (j : Int) < 6 := by omega
            have hbj := HBk.out j hj6
            have hvb2 := val_bit v j hv hvb
            by_cases hin : (6 * k + j) / 8 < q
            · obtain ⟨e, he⟩ : ∃ e, (6 * k + j) / 8 = e := ⟨_, rfl⟩
              obtain ⟨r, hr⟩ : ∃ r, (6 * k + j) % 8 = r := ⟨_, rfl⟩
              have hkj : 6 * k + j = 8 * e + r := by omega
              have hr8 : r < 8 := by omega
              have heq : e < q := by omega
              have ei : (6 * (k : Int) + (j : Int)) / 8 = (e : Int) := by omega
              have ri : (6 * (k : Int) + (j : Int)) % 8 = (r : Int) := by omega
              have heqi : (e : Int) < (q : Int) := by omega
              by_cases hbit : b (6 * k + j) = 1
              · have hv1 : bits BinOp.and IntKind.i64 (v / 2 ^ (5 - j)) 1 = 1 := by rw [hvb2, ← hbj, hbit]; rfl
                obtain ⟨old, hold⟩ : ∃ old, (gr (bk b (8 * e + r)) 8 q).getD e 0 = old := ⟨_, rfl⟩
                have hold2 : old = ((bv (bk b (8 * e + r)) (8 * e) 8 : Nat) : Int) := by rw [← hold, gr_getD _ _ _ _ heq]
                rw [hkj] at ho hbit
                have hp2 : (2 : Int) ^ (7 - r) % 256 = 2 ^ (7 - r) := by
                  have h1 : (2 : Nat) ^ (7 - r) ≤ 2 ^ 7 := Nat.pow_le_pow_right (by decide) (by omega)
                  have h2 : ((2 : Int) ^ (7 - r)) = ((2 ^ (7 - r) : Nat) : Int) := by simp
                  rw [h2]
                  clear h2
                  generalize (2 : Nat) ^ (7 - r) = P at h1 ⊢
                  clear hold hold2
                  have h1' : P ≤ 128 := h1
                  omega
                have hor := byte_or b HB.out e r hr8 hbit old hold2
                rw [← hp2] at hor
                have hlen : (gr (bk b (8 * e + r)) 8 q).length = q := gr_len _ _ _
                have hc : wr.cell? ⟨w.heap.size, e, none⟩ = some (.int .u8 old) := by
                  rw [ho.out.cellAt e (by omega), ← hold]
                  simp [bc, List.getD, List.getElem?_eq_getElem (show e < (gr (bk b (8 * e + r)) 8 q).length by omega)]
                have hf : wr.frozen? ⟨w.heap.size, e, none⟩ = false := ho.out.frozenAt e
                obtain ⟨s1, s2⟩ := ho.out.stored e (.int .u8 (bits BinOp.or IntKind.u8 old (2 ^ (7 - r) % 256)))
                have HS1 : Hid ((wr.setCell ⟨w.heap.size, e, none⟩ (.int .u8 (bits BinOp.or IntKind.u8 old (2 ^ (7 - r) % 256)))).ownsRow w.heap.size 5 1 (.slice (some ⟨w.heap.size, 0, none⟩) q q) q (bc (gr (bk b (6 * k + (j + 1))) 8 q))) := by
                  have h1 : (bc (gr (bk b (8 * e + r)) 8 q)).set e (.int .u8 (bits BinOp.or IntKind.u8 old (2 ^ (7 - r) % 256))) = bc (gr (bk b (6 * k + (j + 1))) 8 q) := by
                    rw [hor, show 6 * k + (j + 1) = 8 * e + r + 1 by omega, ← gr_set b q e r hr8]
                    simp [bc, List.map_set]
                  rw [h1] at s1
                  exact s1
                have hb6 : Below w.heap.size w (wr.setCell ⟨w.heap.size, e, none⟩ (.int .u8 (bits BinOp.or IntKind.u8 old (2 ^ (7 - r) % 256)))) := hbw.setCell (p := ⟨w.heap.size, e, none⟩) (Nat.le_refl _) _
                have ho0 : 0 ≤ old := by omega
                have ho1 : old < 256 := by
                  have := bv_lt _ (bk_lt b HB.out (8 * e + r)) (8 * e) 8
                  omega
                clear s1 s2 hor hold hold2 hp2 hlen hbj hvb2 hin he hr hkj hbit ho
                go_wp2
                go_region
                go_wp2
                exact ⟨⟨j + 1, by go_num, by omega, HS1, hb6.drew⟩, by simp [RowKit.intOf]; omega⟩
              · have hb0 : b (6 * k + j) = 0 := by have := HB.out (6 * k + j); omega
                have hv1 : bits BinOp.and IntKind.i64 (v / 2 ^ (5 - j)) 1 = 0 := by rw [hvb2, ← hbj, hb0]; rfl
                have HS1 : Hid (wr.ownsRow w.heap.size 5 1 (.slice (some ⟨w.heap.size, 0, none⟩) q q) q (bc (gr (bk b (6 * k + (j + 1))) 8 q))) := by
                  rw [← Nat.add_assoc, gr_next b q (6 * k + j) (.inr hb0)]
                  exact ho
                clear hbj hvb2 hin he hr hkj hbit hb0 ho
                go_wp2
                exact ⟨⟨j + 1, by go_num, by omega, HS1, hbw⟩, by simp [RowKit.intOf]; omega⟩
            · have hii : ¬ (6 * (k : Int) + (j : Int)) / 8 < (q : Int) := by omega
              have HS1 : Hid (wr.ownsRow w.heap.size 5 1 (.slice (some ⟨w.heap.size, 0, none⟩) q q) q (bc (gr (bk b (6 * k + (j + 1))) 8 q))) := by
                rw [← Nat.add_assoc, gr_next b q (6 * k + j) (.inl (by omega))]
                exact ho
              clear hbj hvb2 hin ho
              go_wp2
              exact ⟨⟨j + 1, by go_num, by omega, HS1, hbw⟩, by simp [RowKit.intOf]; omega⟩
          · have hji : ¬ (j : Int) < 6 := by omega
            obtain rfl : j = 6 := by omega
            go_wp2
            exact ⟨⟨k + 1, by go_num, by omega, HG5, by rw [Nat.mul_succ]; exact ho, hbw⟩, by simp [RowKit.intOf]; omega⟩
      · obtain ⟨e1, e2⟩ := hNo (Int.not_le.1 hv)
        subst e1
        subst e2
        have hv1 := vf_none _ hv
        rw [hck] at hv1
        rw [hv1] at kv
        clear hNo hgk hv hck hv1
        go_wp2_with (go_at_call 22; go_fit kv; rintro x w1 ⟨rfl, rfl⟩)
        go_ret2
        exact ⟨none, 0, rfl, .inl rfl, hbw⟩
    · have hki : ¬ (k : Int) < s.size := by omega
      have hks : k = s.size := by omega
      have hgood := HG.out (fun u hu => hg.out u (by omega))
      have hY := HY.out hgood
      have hN := HN.out hgood
      rw [gr_all b q (6 * k) (by rw [hks]; exact HQ.out)] at ho
      have hIm := im_owns ho.out
      have HL : Hid ((gr b 8 q).length = q) := gr_len _ _ _
      have ke := rencode_any (some ⟨w.heap.size, 0, none⟩) q (gr b 8 q) wr hIm (gr_small b HB.out 8 q) (by rw [HL.out]; omega)
      rw [HL.out] at ke
      clear HY HN HNo HG HBt hg hgood HO HQ ho
      generalize strOfNums (enc (gr b 8 q)) = T at *
      generalize gr b 8 q = L at *
      by_cases hO : T = s
      · obtain ⟨e1, e2⟩ := hY hO
        subst e1
        subst e2
        subst hO
        clear hY hN
        go_wp2_with (go_at_call 11; go_fit ke; rintro x w1 ⟨rfl, b1⟩)
        go_ret2
        exact ⟨some ⟨w.heap.size, 0, none⟩, q, by rw [HL.out]; rfl, hIm.below b1, hbw.trans (b1.mono hbw.size)⟩
      · obtain ⟨e1, e2⟩ := hN hO
        subst e1
        subst e2
        clear hY hN HL hIm
        have hO' : (T.toList == s.toList) = false := by
          have h1 : T.toList ≠ s.toList := fun h => hO (by
            rw [ByteArray.toList_eq, ByteArray.toList_eq] at h
            exact ByteArray.ext (Array.ext' h))
          simpa using h1
        go_wp2_with (go_at_call 11; go_fit ke; rintro x w1 ⟨rfl, b1⟩)
        go_ret2
        exact ⟨none, 0, rfl, .inl rfl, hbw.trans (b1.mono hbw.size)⟩
end Go.Proofs.Ytljnllenpdkccaa
