/- The walk of seconds. -/
import Derived.Test.YtmfeckpcnofkhaaDoorStB
import Derived.Test.YtmfeckpcnofkhaaDoorDurH
namespace Go.Proofs.YtmfeckpcnofkhaaDoor
open Go.RowKit

/-- What is worth a number of seconds: by its sign, its whole part's number (cut off far out), its fraction. -/
def secV (m : Bool) (n : Int) (F : ByteArray) : Int :=
  if m = true ∧ 0 < hfV F then -(thV F + n) - 1 else if m = true then -(thV F + n) else if 0 ≤ hfV F then thV F + n + 1 else thV F + n
/-- The text behind the sign; what stands behind its digits; what stands behind a point there. -/
def sT (s : ByteArray) : ByteArray := s.extract (sa s) s.size
def sR (s : ByteArray) : ByteArray := (sT s).extract (rn (sT s) 0) (sT s).size
def sU (s : ByteArray) : ByteArray := (sR s).extract 1 (sR s).size
/-- Is it a number of seconds? Its fraction's digits. -/
abbrev okS (s : ByteArray) : Prop := rn (sT s) 0 ≠ 0 ∧ ((sR s).size = 0 ∨ hp (sR s) 46 ∧ 0 < rn (sU s) 0 ∧ rn (sU s) 0 = (sU s).size)
def frS (s : ByteArray) : ByteArray := if (sR s).size = 0 then ⟨#[]⟩ else sU s
def nmS (s : ByteArray) : Int := vl ((sT s).extract 0 (rn (sT s) 0)) ((sT s).extract 0 (rn (sT s) 0)).size
theorem nil_list : (⟨#[]⟩ : ByteArray).toList = [] := by rw [ByteArray.toList_eq]
theorem empty_nil (s : ByteArray) (h : s.size = 0) : s = ⟨#[]⟩ := ba_ext h (fun i hi => by omega)
theorem nonempty_nil (s : ByteArray) (h : 0 < s.size) : ¬ s.toList = [] := by
  intro hx
  have he : s = ⟨#[]⟩ := Go.WideShapes.bytes_inj (by rw [← ByteArray.toList_eq]; exact hx)
  rw [he] at h
  exact absurd h (by decide)
theorem hp_nil : ¬ hp ⟨#[]⟩ 46 := fun h => absurd h.1 (by decide)
theorem all_digits (s : ByteArray) : ∀ i, i < (s.extract 0 (rn s 0)).size → isD (s.extract 0 (rn s 0)) i := part_digits s 0 (Nat.zero_le _)
theorem thV_bd (F : ByteArray) (hd : ∀ i, i < F.size → isD F i) : 0 ≤ thV F ∧ thV F ≤ 999 := by
  have hr : ∀ i, 0 ≤ dg0 F i ∧ dg0 F i ≤ 9 := fun i => by
    unfold dg0
    split
    · rename_i c
      have := (hd i c).2
      omega
    · omega
  have h0 := hr 0
  have h1 := hr 1
  have h2 := hr 2
  unfold thV
  omega
theorem hfV_bd (F : ByteArray) : hfV F = -1 ∨ hfV F = 0 ∨ hfV F = 1 := by
  unfold hfV
  repeat' split
  all_goals omega

set_option maxHeartbeats 2000000 in
set_option maxRecDepth 100000 in
theorem seconds_walk (s T R F E W : ByteArray) (m : Bool) (d : Nat) (n th hf v : Int) (w : World) (hU : Units w) (hd0 : 0 < d) (hdT : d ≤ T.size) (hE : E.toList = [])
    (hR : T.extract d T.size = R) (hW : T.extract 0 d = W) (n0 : 0 ≤ n) (n1 : n ≤ 315361000000000) (t0 : 0 ≤ th) (t1 : th ≤ 999) (hh : hf = -1 ∨ hf = 0 ∨ hf = 1)
    (hv : v = if m = true ∧ 0 < hf then -(th + n) - 1 else if m = true then -(th + n) else if 0 ≤ hf then th + n + 1 else th + n)
    (k1 : ∀ w, Calls Tryd.prog 47 #[.string s] w fun e w' => e = .returned (.tuple #[.string T, .bool m]) ∧ Below w.heap.size w w')
    (k2 : ∀ w, Calls Tryd.prog 43 #[.string T] w fun e w' => e = .returned (.int .i64 d) ∧ w' = w)
    (k3 : ∀ w, Calls Tryd.prog 48 #[.string R] w fun e w' => e = .returned (.tuple #[.string F, .string E, .bool true]) ∧ Below w.heap.size w w')
    (k4 : ∀ w, Calls Tryd.prog 49 #[.string F] w fun e w' => e = .returned (.tuple #[.int .i64 th, .int .i64 hf]) ∧ Below w.heap.size w w')
    (k5 : ∀ w, Units w → Calls Tryd.prog 45 #[.string W, .int .i64 5] w fun e w' => e = .returned (.int .i64 n) ∧ w' = w) :
    Calls Tryd.prog 35 #[.string s] w fun e w' => e = .returned (.tuple #[.int .i64 v, .bool true]) ∧ Below w.heap.size w w' := by
  have hdi : (d : Int) ≤ T.size := by omega
  have hd1 : ((d : Int) == 0) = false := by simp; omega
  have HU : Hid (Units w) := hU
  clear hU
  have HV : Hid (v = if m = true ∧ 0 < hf then -(th + n) - 1 else if m = true then -(th + n) else if 0 ≤ hf then th + n + 1 else th + n) := hv
  clear hv
  go_enter Tryd.func35, Tryd.ntmps35
  go_wp2_with fail
  go_fit (k1 _)
  rintro e w1 ⟨rfl, h1⟩
  go_wp2_with fail
  go_fit (k2 _)
  rintro e w2 ⟨rfl, rfl⟩
  go_wp2_with fail
  go_fit (k3 _)
  rintro e w3 ⟨rfl, h3'⟩
  have h3 := h1.trans (h3'.mono h1.size)
  clear k1 k2 k3 h1 h3'
  go_wp2_with fail
  go_fit (k4 _)
  rintro e w4 ⟨rfl, h4'⟩
  have h4 := h3.trans (h4'.mono h3.size)
  clear k4 h3 h4'
  go_wp2_with fail
  go_fit (k5 _ (HU.out.belowS h4))
  rintro e w5 ⟨rfl, rfl⟩
  clear k5
  cases m with
  | true =>
    rcases hh with rfl | rfl | rfl
    · go_wp2
      go_ret2
      exact ⟨by have := HV.out; simp at this; rw [this]; rfl, h4⟩
    · go_wp2
      go_ret2
      exact ⟨by have := HV.out; simp at this; rw [this]; rfl, h4⟩
    · go_wp2
      go_ret2
      exact ⟨by have := HV.out; simp at this; rw [this]; rfl, h4⟩
  | false =>
    rcases hh with rfl | rfl | rfl
    · go_wp2
      go_ret2
      exact ⟨by have := HV.out; simp at this; rw [this]; rfl, h4⟩
    · go_wp2
      go_ret2
      exact ⟨by have := HV.out; simp at this; rw [this]; rfl, h4⟩
    · go_wp2
      go_ret2
      exact ⟨by have := HV.out; simp at this; rw [this]; rfl, h4⟩
set_option maxHeartbeats 2000000 in
set_option maxRecDepth 100000 in
theorem seconds_bad (s T R F E : ByteArray) (m b : Bool) (d : Nat) (w : World) (hdT : d ≤ T.size) (hR : T.extract d T.size = R) (hbad : d = 0 ∨ b = false ∨ 0 < E.size)
    (k1 : ∀ w, Calls Tryd.prog 47 #[.string s] w fun e w' => e = .returned (.tuple #[.string T, .bool m]) ∧ Below w.heap.size w w')
    (k2 : ∀ w, Calls Tryd.prog 43 #[.string T] w fun e w' => e = .returned (.int .i64 d) ∧ w' = w)
    (k3 : ∀ w, Calls Tryd.prog 48 #[.string R] w fun e w' => e = .returned (.tuple #[.string F, .string E, .bool b]) ∧ Below w.heap.size w w') :
    Calls Tryd.prog 35 #[.string s] w fun e w' => e = .returned (.tuple #[.int .i64 0, .bool false]) ∧ Below w.heap.size w w' := by
  have hdi : (d : Int) ≤ T.size := by omega
  by_cases d0 : d = 0
  · subst d0
    clear hbad
    go_enter Tryd.func35, Tryd.ntmps35
    go_wp2_with fail
    go_fit (k1 _)
    rintro e w1 ⟨rfl, h1⟩
    go_wp2_with fail
    go_fit (k2 _)
    rintro e w2 ⟨rfl, rfl⟩
    go_wp2_with fail
    go_fit (k3 _)
    rintro e w3 ⟨rfl, h3'⟩
    have h3 := h1.trans (h3'.mono h1.size)
    clear k1 k2 k3 h1 h3'
    go_wp2
    go_ret2
    exact ⟨rfl, h3⟩
  · have hd1 : ((d : Int) == 0) = false := by simp; omega
    cases b with
    | false =>
      clear hbad
      go_enter Tryd.func35, Tryd.ntmps35
      go_wp2_with fail
      go_fit (k1 _)
      rintro e w1 ⟨rfl, h1⟩
      go_wp2_with fail
      go_fit (k2 _)
      rintro e w2 ⟨rfl, rfl⟩
      go_wp2_with fail
      go_fit (k3 _)
      rintro e w3 ⟨rfl, h3'⟩
      have h3 := h1.trans (h3'.mono h1.size)
      clear k1 k2 k3 h1 h3'
      go_wp2
      go_ret2
      exact ⟨rfl, h3⟩
    | true =>
      have hE : 0 < E.size := by rcases hbad with h | h | h; exact absurd h d0; cases h; exact h
      have hne := nonempty_nil E hE
      have hne2 : E.toList.isEmpty = false := by simpa using hne
      clear hbad
      go_enter Tryd.func35, Tryd.ntmps35
      go_wp2_with fail
      go_fit (k1 _)
      rintro e w1 ⟨rfl, h1⟩
      go_wp2_with fail
      go_fit (k2 _)
      rintro e w2 ⟨rfl, rfl⟩
      go_wp2_with fail
      go_fit (k3 _)
      rintro e w3 ⟨rfl, h3'⟩
      have h3 := h1.trans (h3'.mono h1.size)
      clear k1 k2 k3 h1 h3'
      go_wp2
      go_ret2
      exact ⟨rfl, h3⟩

theorem seconds_no (s : ByteArray) (w : World) (hs : s.size ≤ 64) (h : ¬ okS s) : Calls Tryd.prog 35 #[.string s] w fun e w' => e = .returned (.tuple #[.int .i64 0, .bool false]) ∧ Below w.heap.size w w' := by
  have hT : (sT s).size ≤ 64 := by unfold sT; rw [ByteArray.size_extract]; omega
  have hb := rn_bd (sT s) 0 (Nat.zero_le _)
  have hR : (sR s).size ≤ 64 := by unfold sR; rw [ByteArray.size_extract]; omega
  have hUz : (sU s).size ≤ 64 := by unfold sU; rw [ByteArray.size_extract]; omega
  have hbU := rn_bd (sU s) 0 (Nat.zero_le _)
  by_cases c : hp (sR s) 46
  · refine seconds_bad s (sT s) (sR s) _ _ (mn s) _ (rn (sT s) 0) w hb.2 rfl ?_ (fun w => cutSign_any s w) (fun w => digitsAt_any (sT s) w (by omega)) (fun w => cutFraction_t (sR s) c (by omega) w)
    show _ ∨ decide (0 < rn (sU s) 0) = false ∨ 0 < ((sU s).extract (rn (sU s) 0) (sU s).size).size
    rw [ByteArray.size_extract]
    unfold okS at h
    by_cases d0 : rn (sT s) 0 = 0
    · exact .inl d0
    · by_cases n0 : 0 < rn (sU s) 0
      · refine .inr (.inr ?_)
        have : ¬ rn (sU s) 0 = (sU s).size := fun e => h ⟨d0, .inr ⟨c, n0, e⟩⟩
        omega
      · exact .inr (.inl (by simpa using n0))
  · refine seconds_bad s (sT s) (sR s) _ _ (mn s) _ (rn (sT s) 0) w hb.2 rfl ?_ (fun w => cutSign_any s w) (fun w => digitsAt_any (sT s) w (by omega)) (fun w => cutFraction_f (sR s) c w)
    unfold okS at h
    by_cases d0 : rn (sT s) 0 = 0
    · exact .inl d0
    · refine .inr (.inr ?_)
      have : ¬ (sR s).size = 0 := fun e => h ⟨d0, .inl e⟩
      omega
theorem frS_digits (s : ByteArray) (h : okS s) : ∀ i, i < (frS s).size → isD (frS s) i := by
  unfold frS
  by_cases c : (sR s).size = 0
  · rw [if_pos c]; intro i hi; exact absurd hi (by show ¬ i < 0; omega)
  · rw [if_neg c]
    obtain ⟨_, h2⟩ := h
    have h3 : rn (sU s) 0 = (sU s).size := by rcases h2 with h2 | h2; exact absurd h2 c; exact h2.2.2
    intro i hi
    exact runF_digits (sU s) ((sU s).size - 0) 0 i (Nat.zero_le _) (by show i < rn (sU s) 0; omega)
theorem seconds_ok (s : ByteArray) (w : World) (hU : Units w) (hs : s.size ≤ 64) (h : okS s) : Calls Tryd.prog 35 #[.string s] w fun e w' => e = .returned (.tuple #[.int .i64 (secV (mn s) (min (nmS s) 315360000001 * 1000) (frS s)), .bool true]) ∧ Below w.heap.size w w' := by
  have hT : (sT s).size ≤ 64 := by unfold sT; rw [ByteArray.size_extract]; omega
  have hb := rn_bd (sT s) 0 (Nat.zero_le _)
  have hR : (sR s).size ≤ 64 := by unfold sR; rw [ByteArray.size_extract]; omega
  have hUz : (sU s).size ≤ 64 := by unfold sU; rw [ByteArray.size_extract]; omega
  have hW : ((sT s).extract 0 (rn (sT s) 0)).size ≤ 140737488355328 := by rw [ByteArray.size_extract]; omega
  have hfd := frS_digits s h
  have hfs : (frS s).size ≤ 64 := by
    unfold frS
    split
    · show 0 ≤ 64; omega
    · exact hUz
  have hn0 : 0 ≤ nmS s := vl_nn _ (all_digits (sT s)) _ (Nat.le_refl _)
  have ht := thV_bd _ hfd
  have k5 := fun w hU => length_any ((sT s).extract 0 (rn (sT s) 0)) 5 w hU hW (all_digits (sT s)) (by omega)
  have key : ∀ E : ByteArray, E.toList = [] → (∀ w, Calls Tryd.prog 48 #[.string (sR s)] w fun e w' => e = .returned (.tuple #[.string (frS s), .string E, .bool true]) ∧ Below w.heap.size w w') → Calls Tryd.prog 35 #[.string s] w fun e w' => e = .returned (.tuple #[.int .i64 (secV (mn s) (min (nmS s) 315360000001 * 1000) (frS s)), .bool true]) ∧ Below w.heap.size w w' := fun E hE k3 =>
    seconds_walk s (sT s) (sR s) (frS s) E _ (mn s) (rn (sT s) 0) (min (nmS s) 315360000001 * 1000) (thV (frS s)) (hfV (frS s)) _ w hU (by have := h.1; omega) hb.2 hE rfl rfl (by omega) (by omega) ht.1 ht.2 (hfV_bd _) rfl
      (fun w => cutSign_any s w) (fun w => digitsAt_any (sT s) w (by omega)) k3 (fun w => thousandths_any (frS s) w hfs hfd) k5
  by_cases c : (sR s).size = 0
  · have e := empty_nil _ c
    have ef : frS s = ⟨#[]⟩ := by unfold frS; rw [if_pos c]
    refine key ⟨#[]⟩ nil_list (fun w => ?_)
    rw [ef, e]
    exact cutFraction_f _ hp_nil w
  · obtain ⟨_, h2⟩ := h
    have h3 : hp (sR s) 46 ∧ 0 < rn (sU s) 0 ∧ rn (sU s) 0 = (sU s).size := by rcases h2 with h2 | h2; exact absurd h2 c; exact h2
    have ef : frS s = sU s := by unfold frS; rw [if_neg c]
    have k3 := fun w => cutFraction_t (sR s) h3.1 (by omega) w
    refine key ((sU s).extract (rn (sU s) 0) (sU s).size) ?_ (fun w => ?_)
    · have : (sU s).extract (rn (sU s) 0) (sU s).size = ⟨#[]⟩ := empty_nil _ (by rw [ByteArray.size_extract]; omega)
      rw [this]; exact nil_list
    · have := k3 w
      rw [show (sR s).extract 1 (sR s).size = sU s from rfl, decide_eq_true h3.2.1] at this
      rw [ef]
      have e2 : (sU s).extract 0 (rn (sU s) 0) = sU s := by rw [h3.2.2, ext0]
      rw [e2] at this
      exact this
end Go.Proofs.YtmfeckpcnofkhaaDoor
