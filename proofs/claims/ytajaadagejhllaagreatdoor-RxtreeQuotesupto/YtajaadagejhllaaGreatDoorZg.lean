/- The reference's Quote and Valid; leaves that are the same. -/
import Derived.Test.YtajaadagejhllaaGreatDoorZn
import Derived.Test.YtajaadagejhllaaGreatDoorZf
import Derived.Test.YtajaadagejhllaaGreatDoorBs36
namespace Go.Proofs.YtajaadagejhllaaGreatDoor
open Go.RowKit Go.Lib

abbrev lfV (k r : Int) : Value := .agg #[.int .i64 k, .int .i32 r, .slice none 0 0, .int .i64 0, .int .i64 0, .bool false, .int .i64 0, .string ⟨#[]⟩, .slice none 0 0]
abbrev lfX (k r : Int) : Obj := .cells #[.int .i64 k, .int .i32 r, .slice none 0 0, .int .i64 0, .int .i64 0, .bool false, .int .i64 0, .string ⟨#[]⟩, .slice none 0 0] 25
set_option maxRecDepth 100000 in
set_option maxHeartbeats 2000000 in
theorem same_leaf (k r : Int) (w : World) : Calls Tryz.prog 19 #[lfV k r, lfV k r] w fun e w' => e = .returned (.bool true) ∧ Below w.heap.size w w' := by
  have HB : Hid (Below w.heap.size w ((w.alloc (lfX k r)).alloc (lfX k r))) := ((Below.refl _ w).alloc (Nat.le_refl _) _).alloc (by simp) _
  go_enter Tryz.func19, Tryz.ntmps19
  go_wp2_with fail
  go_loopw [5] (fun t w' => t = .int .i64 0 ∧ w' = (w.alloc (lfX k r)).alloc (lfX k r)) (fun _ _ => 0)
  case atStart => exact ⟨rfl, rfl⟩
  case round =>
    obtain ⟨rfl, rfl⟩ := hrel
    go_wp2_with fail
    go_loopw [6] (fun t w' => t = .int .i64 0 ∧ w' = (w.alloc (lfX k r)).alloc (lfX k r)) (fun _ _ => 0)
    case atStart => exact ⟨rfl, rfl⟩
    case round =>
      obtain ⟨rfl, rfl⟩ := hrel
      go_wp2
      go_ret
      exact ⟨rfl, HB.out⟩
theorem spc_byte (b : UInt8) : (0 ≤ Lib.indexByte spQ.data.toList b) ↔ spcB (b.toNat : Int) = true := by
  have h : (List.range 256).all (fun n => decide (0 ≤ Lib.indexByte spQ.data.toList (UInt8.ofNat n)) == spcB (n : Int)) = true := by kernel_rfl
  have h2 := List.all_eq_true.1 h b.toNat (List.mem_range.2 b.toNat_lt)
  rw [beq_iff_eq] at h2
  rw [show UInt8.ofNat b.toNat = b by simp] at h2
  rw [← h2]
  simp
set_option maxRecDepth 100000 in
set_option maxHeartbeats 1000000 in
theorem rquote_any (s : ByteArray) (w : World) (hs : s.size ≤ 35184372088832) :
    Calls Tryz.prog 21 #[.string s] w fun e w' => e = .returned (.string (quB s s.size)) ∧ Below w.heap.size w w' := by
  obtain ⟨i0, hi, hz0, hz1, hz2⟩ := inf5
  have hsI : (s.size : Int) ≤ 35184372088832 := by omega
  have hmul : IntKind.i64.wrap (2 * (s.size : Int)) = ((2 * s.size : Nat) : Int) := by rw [IntKind.wrap_i64]; omega
  go_enter Tryz.func21, Tryz.ntmps21
  go_wp2_with (first | (refine wpList_make_own _ rfl _ _ 53 rfl w.heap.size 5 i0 (.int .u8 0) 1 Tryz.underlying53 hi hz0 hz1 .i64 .i64 ((2 * s.size : Nat) : Int) (2 * s.size) rfl rfl rfl (by rw [hz2]; omega) (by unfold maxLen; omega) (Nat.le_refl _) ?_; intro W0 hro hgr))
  have b0 : Below w.heap.size w W0 := (Below.refl _ w).grown hgr (Nat.le_refl _) (fun k e => by cases e)
  go_loopw [3, 4] (fun v i w' => ∃ j : Nat, i = .int .i64 (j : Int) ∧ j ≤ s.size ∧ ∃ a c, v = .slice a (quB s j).size c ∧ Hid (w'.ownsRow w.heap.size 5 1 v (quB s j).size (strCells (quB s j)) ∧ Below w.heap.size w w')) (fun _ i _ => s.size - (RowKit.intOf i).toNat)
  case atStart => exact ⟨0, rfl, Nat.zero_le _, _, _, rfl, hro, b0⟩
  case round =>
    obtain ⟨j, rfl, hj, a, c, rfl, HO⟩ := hrel
    by_cases hlt : j < s.size
    · have hii : (j : Int) < (s.size : Int) := by omega
      have hb : 0 ≤ (j : Int) ∧ (j : Int) < (s.size : Int) := by omega
      have k1 := special_any ((s[j]'hlt).toNat : Int) wr
      have hw : IntKind.i32.wrap ((s[j]'hlt).toNat : Int) = ((s[j]'hlt).toNat : Int) := by have := (s[j]'hlt).toNat_lt; rw [IntKind.wrap_i32]; omega
      have hg : s.get! j = s[j]'hlt := by
        show s.data[j]! = _
        rw [getElem!_pos s.data j hlt]
        rfl
      have hq : quB s (j + 1) = quB s j ++ qtB (s[j]'hlt) := by rw [← hg]; rfl
      have hT := quB_size s j
      obtain ⟨b, hbb⟩ : ∃ b, b = s[j]'hlt := ⟨_, rfl⟩
      rw [← hbb] at k1 hq hw
      have hbs := HO.out.2.size
      have hsp := spc_byte b
      obtain ⟨n, hnn⟩ : ∃ n, n = spcB (b.toNat : Int) := ⟨_, rfl⟩
      rw [← hnn] at k1 hsp
      cases n with
      | true =>
        have hqt : qtB b = (⟨#[92]⟩ : ByteArray) ++ ⟨#[b]⟩ := by unfold qtB; rw [if_pos (hsp.2 rfl)]; rfl
        obtain ⟨a1, c1, w2, r1, o1, b1⟩ := append_b1 wr w.heap.size _ (quB s j) 92 hbs (by omega) HO.out.1
        have hb2 := HO.out.2.trans b1
        have hs1 : ((quB s j) ++ (⟨#[92]⟩ : ByteArray)).size = (quB s j).size + 1 := ByteArray.size_append
        obtain ⟨a2, c2, w3, r2, o2, b2⟩ := append_b1 w2 w.heap.size _ ((quB s j) ++ ⟨#[92]⟩) b hb2.size (by omega) (by rw [hs1] at o1 ⊢; exact o1)
        have hs2 : (((quB s j) ++ (⟨#[92]⟩ : ByteArray)) ++ (⟨#[b]⟩ : ByteArray)).size = (quB s j).size + 1 + 1 := by rw [ByteArray.size_append, hs1]; rfl
        rw [hs1] at r2 o2
        have hqe : quB s (j + 1) = (quB s j) ++ (⟨#[92]⟩ : ByteArray) ++ (⟨#[b]⟩ : ByteArray) := by rw [hq, hqt, ByteArray.append_assoc]
        have HF : Hid (w3.ownsRow w.heap.size 5 1 (.slice a2 ((quB s j).size + 1 + 1) c2) (quB s (j + 1)).size (strCells (quB s (j + 1))) ∧ Below w.heap.size w w3) := by
          unfold Hid
          rw [hqe]
          exact ⟨o2, hb2.trans b2⟩
        have HSZ : Hid ((quB s (j + 1)).size = (quB s j).size + 1 + 1) := by unfold Hid; rw [hqe, hs2]
        clear o1 o2 b1 b2 hqe hqt hq hs1 hs2 hT hbs HO hb2 hnn hg hsp
        subst hbb
        go_wp2_with (first | (go_at_call 37; go_fit k1; rintro e w' ⟨rfl, rfl⟩) | (at_builtin; refine wpList_append_run rfl (.tmp 20) (.tmp 21) 53 53 rfl _ _ rfl rfl r1 ?_) | (at_builtin; refine wpList_append_run rfl (.tmp 23) (.tmp 27) 53 53 rfl _ _ rfl rfl r2 ?_))
        exact ⟨⟨j + 1, by go_num, by omega, a2, c2, by rw [HSZ.out], HF⟩, by simp [RowKit.intOf]; omega⟩
      | false =>
        have hqt : qtB b = (⟨#[b]⟩ : ByteArray) := by unfold qtB; rw [if_neg (fun x => by have := hsp.1 x; cases this)]
        obtain ⟨a1, c1, w2, r1, o1, b1⟩ := append_b1 wr w.heap.size _ (quB s j) b hbs (by omega) HO.out.1
        have hb2 := HO.out.2.trans b1
        have hs1 : ((quB s j) ++ (⟨#[b]⟩ : ByteArray)).size = (quB s j).size + 1 := ByteArray.size_append
        have hqe : quB s (j + 1) = (quB s j) ++ (⟨#[b]⟩ : ByteArray) := by rw [hq, hqt]
        have HF : Hid (w2.ownsRow w.heap.size 5 1 (.slice a1 ((quB s j).size + 1) c1) (quB s (j + 1)).size (strCells (quB s (j + 1))) ∧ Below w.heap.size w w2) := by
          unfold Hid
          rw [hqe]
          exact ⟨o1, hb2⟩
        have HSZ : Hid ((quB s (j + 1)).size = (quB s j).size + 1) := by unfold Hid; rw [hqe, hs1]
        clear o1 b1 hqe hqt hq hs1 hT hbs HO hb2 hnn hg hsp
        subst hbb
        go_wp2_with (first | (go_at_call 37; go_fit k1; rintro e w' ⟨rfl, rfl⟩) | (at_builtin; refine wpList_append_run rfl (.tmp 23) (.tmp 27) 53 53 rfl _ _ rfl rfl r1 ?_))
        exact ⟨⟨j + 1, by go_num, by omega, a1, c1, by rw [HSZ.out], HF⟩, by simp [RowKit.intOf]; omega⟩
    · have hii : ¬ (j : Int) < (s.size : Int) := by omega
      obtain rfl : j = s.size := by omega
      have cv := conv_row HO.out.1
      go_wp2
      go_ret
      exact ⟨rfl, HO.out.2⟩
theorem nxtZ_nat (s : ByteArray) (i : Nat) : nxtZ s (i : Int) = nxt s i := by
  unfold nxtZ
  rw [if_pos (by omega)]
  simp
set_option maxRecDepth 100000 in
set_option maxHeartbeats 1000000 in
theorem rvalid1_any (s : ByteArray) (w : World) (hs : s.size ≤ 35184372088832) :
    Calls Tryz.prog 22 #[.string s] w fun e w' => e = .returned (.bool (vld s s.size 0)) ∧ Below w.heap.size w w' := by
  have HS : Hid (s.size ≤ maxLen) := by unfold Hid maxLen; omega
  have hsI : (s.size : Int) ≤ 35184372088832 := by omega
  go_enter Tryz.func22, Tryz.ntmps22
  go_wp2_with fail
  go_loopw [3] (fun t w' => ∃ pos b : Nat, t = .int .i64 (pos : Int) ∧ pos ≤ s.size ∧ s.size ≤ pos + b ∧ Hid (vld s b pos = vld s s.size 0) ∧ Hid (Below w.heap.size w w')) (fun t _ => s.size - (RowKit.intOf t).toNat)
  case atStart => exact ⟨0, s.size, rfl, Nat.zero_le _, by omega, rfl, Below.refl _ _⟩
  case round =>
    obtain ⟨pos, b, rfl, hp, hb, HV, HW⟩ := hrel
    by_cases hlt : pos < s.size
    · have hii : (pos : Int) < (s.size : Int) := by omega
      have k1 := rnext_any s (pos : Int) wr HS.out
      rw [nxtZ_nat] at k1
      by_cases hz : (nxt s pos).2 = 0
      · have HE : Hid (vld s s.size 0 = false) := by
          unfold Hid
          rw [← HV.out]
          exact vld_badQ s b pos hlt (by omega) hz
        obtain ⟨R, hR⟩ : ∃ R, R = (nxt s pos).1 := ⟨_, rfl⟩
        rw [← hR, hz] at k1
        clear hz hR
        go_wp2_with fail
        go_fit k1
        rintro e w2 ⟨rfl, b2⟩
        have HB : Hid (Below w.heap.size w w2) := HW.out.trans (b2.mono HW.out.size)
        clear k1 b2
        go_wp2
        go_ret
        exact ⟨by rw [HE.out]; rfl, HB.out⟩
      · obtain ⟨e2, e1⟩ := nxt_width s pos hz
        have HE : Hid (vld s (b - 1) (pos + (Utf8.decode s pos).2) = vld s s.size 0) := by
          unfold Hid
          rw [← HV.out]
          exact (vld_goodQ s b pos hlt (by omega) hz).symm
        have hw := decode_width s pos
        have hd := dec_size s pos hlt
        rw [e1, e2] at k1
        obtain ⟨R, hR⟩ : ∃ R, R = (((Utf8.decode s pos).1 : Nat) : Int) := ⟨_, rfl⟩
        rw [← hR] at k1
        obtain ⟨K, hK⟩ : ∃ K, K = (Utf8.decode s pos).2 := ⟨_, rfl⟩
        rw [← hK] at k1 HE hw hd
        have hk0 : ((K : Int) == 0) = false := by simp; omega
        have hadd : IntKind.i64.wrap ((pos : Int) + (K : Int)) = ((pos + K : Nat) : Int) := by rw [IntKind.wrap_i64]; omega
        clear hz hR hK e1 e2
        go_wp2_with fail
        go_fit k1
        rintro e w2 ⟨rfl, b2⟩
        have HB : Hid (Below w.heap.size w w2) := HW.out.trans (b2.mono HW.out.size)
        clear k1 b2
        go_wp2
        exact ⟨⟨pos + K, b - 1, by rfl, by omega, by omega, HE, HB⟩, by simp [RowKit.intOf]; omega⟩
    · have hii : ¬ (pos : Int) < (s.size : Int) := by omega
      have HE : Hid (vld s s.size 0 = true) := by
        unfold Hid
        rw [← HV.out]
        exact vld_end s b pos hlt
      go_wp2
      go_ret
      exact ⟨by rw [HE.out]; rfl, HW.out⟩
end Go.Proofs.YtajaadagejhllaaGreatDoor
