/- Sum on both sides. -/
import Derived.Test.YtfjfpplemgjcmabBa
namespace Go.Proofs.Ytfjfpplemgjcmab
open Go.RowKit

/-- A value hidden from the walk. -/
def Hid (p : Prop) : Prop := p
theorem Hid.out {p : Prop} (h : Hid p) : p := h

def geB (x y : Option Nat) : Bool := (fo x y == some .gt) || (fo x y == some .eq)
/-- One step of Sum, on classes. -/
def smStep (st : Option Nat × Option Nat) (v : Option Nat) : Option Nat × Option Nat :=
  (fb .add st.1 v, if infB (fb .add st.1 v) = true then some 0 else if geB (ab st.1) (ab v) = true then fb .add st.2 (fb .add (fb .sub st.1 (fb .add st.1 v)) v) else fb .add st.2 (fb .add (fb .sub v (fb .add st.1 v)) st.1))
def sumS (l : List (Option Nat)) : Option Nat × Option Nat := l.foldl smStep (some 0, some 0)
def sumF (l : List (Option Nat)) : Option Nat := fb .add (sumS l).1 (sumS l).2
/-- The classes of words. -/
def cs (xs : List Nat) : List (Option Nat) := xs.map cl
theorem cs_len (xs : List Nat) : (cs xs).length = xs.length := by simp [cs]
theorem sumS_next (xs : List Nat) (i : Nat) (hi : i < xs.length) : sumS ((cs xs).take (i + 1)) = smStep (sumS ((cs xs).take i)) (cl (xs.getD i 0)) := by
  unfold sumS
  rw [List.take_succ_eq_append_getElem (by rw [cs_len]; exact hi), List.foldl_append]
  simp [cs, List.getD, hi]
theorem sumS_all (xs : List Nat) : sumS ((cs xs).take xs.length) = sumS (cs xs) := by
  rw [List.take_of_length_le (by rw [cs_len]; exact Nat.le_refl _)]
theorem geB_cl (a b : Nat) : geB (ab (cl a)) (ab (cl b)) = (FloatKind.f64.format.order (a % 9223372036854775808) (b % 9223372036854775808) == some .gt || FloatKind.f64.format.order (a % 9223372036854775808) (b % 9223372036854775808) == some .eq) := by
  unfold geB
  rw [fo_cl, cl_ab, cl_ab]

/-- What a function that answers a float answers: a word of that class; the world has drawn. -/
def RF (w : World) (c : Option Nat) (r : Ending) (w' : World) : Prop := ∃ z k, r = .returned (.float .f64 z) ∧ w' = w.drewN k ∧ z < 18446744073709551616 ∧ cl z = c

set_option maxHeartbeats 2000000 in
set_option maxRecDepth 100000 in
theorem sum_any (a : Option Addr) (c : Nat) (xs : List Nat) (w : World) (hf : Fm w a xs) (hw : Wd xs) (hl : xs.length ≤ 9223372036854775807) :
    Calls Try.prog 21 #[.slice a xs.length c] w (RF w (sumF (cs xs))) := by
  have ha := @run_fadd Try.prog
  have hs := @run_fsub Try.prog
  have HN : Hid (∀ i, i < xs.length → sumS ((cs xs).take (i + 1)) = smStep (sumS ((cs xs).take i)) (cl (xs.getD i 0))) := sumS_next xs
  have HA : Hid (sumS ((cs xs).take xs.length) = sumS (cs xs)) := sumS_all xs
  have HF : Hid (Fm w a xs) := hf
  have HW : Hid (Wd xs) := hw
  clear hf hw
  go_enter Try.func21, Try.ntmps21
  go_wp2
  go_loopw [3, 4, 10] (fun sv cv iv w' => ∃ (i s d k : Nat), iv = .int .i64 (i : Int) ∧ i ≤ xs.length ∧ sv = .float .f64 s ∧ cv = .float .f64 d ∧ s < 18446744073709551616 ∧ d < 18446744073709551616 ∧ Hid ((cl s, cl d) = sumS ((cs xs).take i)) ∧ w' = w.drewN k) (fun _ _ iv _ => xs.length - (RowKit.intOf iv).toNat)
  case atStart => exact ⟨0, 0, 0, 0, rfl, by omega, rfl, rfl, by omega, by omega, (by simp [sumS, cl_lit 0 (by decide)] : _ = _), rfl⟩
  case round =>
    obtain ⟨i, s, d, k, rfl, hi, rfl, rfl, hs1, hd1, hst, rfl⟩ := hrel
    by_cases hlt : i < xs.length
    · have hii : (i : Int) < xs.length := by omega
      rcases HF.out with h0 | ⟨g, o, rfl, hg, hat⟩
      · rw [h0] at hlt; simp at hlt
      have hcell := hat i hlt
      have hv := HW.out i hlt
      have hn := HN.out i hlt
      rw [← hst.out] at hn
      have HI : Hid (i + 1 ≤ xs.length) := hlt
      clear hat
      generalize xs.getD i 0 = v at *
      have hn' : Hid (sumS ((cs xs).take (i + 1)) = smStep (cl s, cl d) (cl v)) := hn
      clear hn hst
      have kI := fun w => isInf_any (fz .add s v (w)) (fz_lt _ _ _ _) 
      have kA := fun w => abs_any s hs1 w
      have kB := fun w => abs_any v hv w
      go_wp2_with fail
      go_fit (kI _ _)
      rintro r w1 ⟨rfl, rfl⟩
      rw [cl_fz]
      by_cases hinf : infB (fb .add (cl s) (cl v)) = true
      · rw [hinf]
        go_wp2
        refine ⟨⟨i + 1, _, 0, _, by go_num, HI, rfl, rfl, fz_lt _ _ _ _, by omega, ?_, rfl⟩, by simp [RowKit.intOf]; omega⟩
        show _ = _
        rw [hn'.out, cl_fz]
        unfold smStep
        rw [if_pos hinf, cl_lit 0 (by decide)]
      · rw [Bool.not_eq_true] at hinf
        rw [hinf]
        go_wp2_with fail
        go_fit (kA _)
        rintro r w2 ⟨rfl, rfl⟩
        go_wp2_with fail
        go_fit (kB _)
        rintro r w3 ⟨rfl, rfl⟩
        have hge := geB_cl s v
        cases hg2 : geB (ab (cl s)) (ab (cl v))
        · rw [hg2] at hge
          have hge' := hge.symm
          clear hge
          go_wp2
          refine ⟨⟨i + 1, _, _, _, by go_num, HI, rfl, rfl, fz_lt _ _ _ _, fz_lt _ _ _ _, ?_, rfl⟩, by simp [RowKit.intOf]; omega⟩
          show _ = _
          rw [hn'.out]
          simp only [cl_fz]
          unfold smStep
          rw [if_neg (by rw [hinf]; decide), if_neg (by rw [hg2]; decide)]
        · rw [hg2] at hge
          have hge' := hge.symm
          clear hge
          go_wp2
          refine ⟨⟨i + 1, _, _, _, by go_num, HI, rfl, rfl, fz_lt _ _ _ _, fz_lt _ _ _ _, ?_, rfl⟩, by simp [RowKit.intOf]; omega⟩
          show _ = _
          rw [hn'.out]
          simp only [cl_fz]
          unfold smStep
          rw [if_neg (by rw [hinf]; decide), if_pos hg2]
    · have hii : ¬ (i : Int) < xs.length := by omega
      obtain rfl : i = xs.length := by omega
      go_wp2
      go_ret
      refine ⟨_, _, rfl, rfl, fz_lt _ _ _ _, ?_⟩
      rw [cl_fz]
      unfold sumF
      rw [← HA.out, ← hst.out]
set_option maxHeartbeats 2000000 in
set_option maxRecDepth 100000 in
theorem rsum_any (a : Option Addr) (c : Nat) (xs : List Nat) (w : World) (hf : Fm w a xs) (hw : Wd xs) (hl : xs.length ≤ 9223372036854775807) :
    Calls Try.prog 48 #[.slice a xs.length c] w (RF w (sumF (cs xs))) := by
  have ha := @run_fadd Try.prog
  have hs := @run_fsub Try.prog
  have HN : Hid (∀ i, i < xs.length → sumS ((cs xs).take (i + 1)) = smStep (sumS ((cs xs).take i)) (cl (xs.getD i 0))) := sumS_next xs
  have HA : Hid (sumS ((cs xs).take xs.length) = sumS (cs xs)) := sumS_all xs
  have HF : Hid (Fm w a xs) := hf
  have HW : Hid (Wd xs) := hw
  clear hf hw
  go_enter Try.func48, Try.ntmps48
  go_wp2
  go_loopw [3, 4, 5] (fun sv cv iv w' => ∃ (i s d k : Nat), iv = .int .i64 (i : Int) ∧ i ≤ xs.length ∧ sv = .float .f64 s ∧ cv = .float .f64 d ∧ s < 18446744073709551616 ∧ d < 18446744073709551616 ∧ Hid ((cl s, cl d) = sumS ((cs xs).take i)) ∧ w' = w.drewN k) (fun _ _ iv _ => xs.length - (RowKit.intOf iv).toNat)
  case atStart => exact ⟨0, 0, 0, 0, rfl, by omega, rfl, rfl, by omega, by omega, (by simp [sumS, cl_lit 0 (by decide)] : _ = _), rfl⟩
  case round =>
    obtain ⟨i, s, d, k, rfl, hi, rfl, rfl, hs1, hd1, hst, rfl⟩ := hrel
    by_cases hlt : i < xs.length
    · have hii : (i : Int) < xs.length := by omega
      rcases HF.out with h0 | ⟨g, o, rfl, hg, hat⟩
      · rw [h0] at hlt; simp at hlt
      have hcell := hat i hlt
      have hv := HW.out i hlt
      have hn := HN.out i hlt
      rw [← hst.out] at hn
      have HI : Hid (i + 1 ≤ xs.length) := hlt
      clear hat
      generalize xs.getD i 0 = v at *
      have hn' : Hid (sumS ((cs xs).take (i + 1)) = smStep (cl s, cl d) (cl v)) := hn
      clear hn hst
      have kI := fun w => endless_any (fz .add s v (w)) (fz_lt _ _ _ _) 
      have kA := fun w => abs_any s hs1 w
      have kB := fun w => abs_any v hv w
      go_wp2_with fail
      go_fit (kI _ _)
      rintro r w1 ⟨rfl, rfl⟩
      rw [cl_fz]
      by_cases hinf : infB (fb .add (cl s) (cl v)) = true
      · rw [hinf]
        go_wp2
        refine ⟨⟨i + 1, _, 0, _, by go_num, HI, rfl, rfl, fz_lt _ _ _ _, by omega, ?_, rfl⟩, by simp [RowKit.intOf]; omega⟩
        show _ = _
        rw [hn'.out, cl_fz]
        unfold smStep
        rw [if_pos hinf, cl_lit 0 (by decide)]
      · rw [Bool.not_eq_true] at hinf
        rw [hinf]
        go_wp2_with fail
        go_fit (kA _)
        rintro r w2 ⟨rfl, rfl⟩
        go_wp2_with fail
        go_fit (kB _)
        rintro r w3 ⟨rfl, rfl⟩
        have hge := geB_cl s v
        cases hg2 : geB (ab (cl s)) (ab (cl v))
        · rw [hg2] at hge
          have hge' := hge.symm
          clear hge
          go_wp2
          refine ⟨⟨i + 1, _, _, _, by go_num, HI, rfl, rfl, fz_lt _ _ _ _, fz_lt _ _ _ _, ?_, rfl⟩, by simp [RowKit.intOf]; omega⟩
          show _ = _
          rw [hn'.out]
          simp only [cl_fz]
          unfold smStep
          rw [if_neg (by rw [hinf]; decide), if_neg (by rw [hg2]; decide)]
        · rw [hg2] at hge
          have hge' := hge.symm
          clear hge
          go_wp2
          refine ⟨⟨i + 1, _, _, _, by go_num, HI, rfl, rfl, fz_lt _ _ _ _, fz_lt _ _ _ _, ?_, rfl⟩, by simp [RowKit.intOf]; omega⟩
          show _ = _
          rw [hn'.out]
          simp only [cl_fz]
          unfold smStep
          rw [if_neg (by rw [hinf]; decide), if_pos hg2]
    · have hii : ¬ (i : Int) < xs.length := by omega
      obtain rfl : i = xs.length := by omega
      go_wp2
      go_ret
      refine ⟨_, _, rfl, rfl, fz_lt _ _ _ _, ?_⟩
      rw [cl_fz]
      unfold sumF
      rw [← HA.out, ← hst.out]
end Go.Proofs.Ytfjfpplemgjcmab
