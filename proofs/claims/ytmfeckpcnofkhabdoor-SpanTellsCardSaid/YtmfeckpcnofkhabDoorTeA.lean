/- The reference's decimal. -/
import Derived.Test.YtmfeckpcnofkhabDoorOfA
import Derived.Test.YtmfeckpcnofkhabDoorStA
import Derived.Laws.BytesArg
namespace Go.Proofs.YtmfeckpcnofkhabDoor
open Go.RowKit Go.Lib

theorem hidden {p : Prop} (h : p) : Hid p := h
/-- Digits of n set ahead of s, at least up to the width. -/
def dcF (wd : Nat) : Nat → Nat → List UInt8 → List UInt8
  | 0, _, s => s
  | f + 1, n, s => if 0 < n ∨ s.length < wd then dcF wd f (n / 10) (UInt8.ofNat (48 + n % 10) :: s) else s
/-- What decimal answers. -/
def dcm (n wd : Nat) : List UInt8 := dcF wd 24 n []

set_option maxHeartbeats 2000000 in
set_option maxRecDepth 100000 in
theorem rdec_any (n wd : Nat) (w : World) (hn : n < 18446744073709551616) (hw : wd ≤ 4) : Calls Tryd.prog 35 #[.int .u64 n, .int .i64 wd] w fun e w' => e = .returned (.string (mk (dcm n wd))) ∧ Below w.heap.size w w' := by
  generalize hA : dcm n wd = A
  have HA : Hid (dcm n wd = A) := hA
  clear hA
  go_enter Tryd.func35, Tryd.ntmps35
  go_wp2_with fail
  go_loopw [0, 5] (fun a b w' => ∃ (f m : Nat) (s : List UInt8), a = .int .u64 (m : Int) ∧ b = .string (mk s) ∧ dcF wd f m s = A ∧ s.length + f = 24 ∧ m < 10 ^ f ∧ m < 18446744073709551616 ∧ Below w.heap.size w w')
    (fun a b _ => (match a with | .int _ m => m.toNat | _ => 0) + (match b with | .string x => 4 - x.size | _ => 0))
  case atStart => exact ⟨24, n, [], rfl, rfl, HA.out, rfl, by omega, hn, Below.refl _ _⟩
  case round =>
    obtain ⟨f, m, s, rfl, rfl, h1, h2, h3, h5, hb⟩ := hrel
    have hz : (mk s).size = s.length := mk_size s
    have HH : Hid (dcF wd f m s = A ∧ m < 10 ^ f) := ⟨h1, h3⟩
    clear h1 h3
    by_cases c : 0 < m ∨ s.length < wd
    · have hcv := run_convert_bytes_arg (P := Tryd.prog) (wr.alloc (.cells #[.int .u8 (48 + ((m % 10 : Nat) : Int))] 5)) 77 5 Tryd.underlying77 Tryd.underlying5 wr.heap.size 0 1 1 [48 + ((m % 10 : Nat) : Int)] rfl
        (fun i hi => by
          rw [Nat.zero_add, cell_of_row _ _ i _ 5 (0, 0) (heap_alloc_new wr _)]
          match i, hi with
          | 0, _ => rfl) 9 Tryd.underlying9
      have hst : strOfNums [48 + ((m % 10 : Nat) : Int)] ++ mk s = mk (UInt8.ofNat (48 + m % 10) :: s) := by
        have e : (48 + ((m % 10 : Nat) : Int)).toNat = 48 + m % 10 := by omega
        unfold strOfNums
        rw [List.map_cons, List.map_nil, e]
        exact mk_app [UInt8.ofNat (48 + m % 10)] s
      have hds : (strOfNums [48 + ((m % 10 : Nat) : Int)]).size = 1 := strOfNums_size _
      obtain ⟨f, rfl⟩ : ∃ g, f = g + 1 := by
        cases f with
        | zero =>
          have := HH.out.2
          omega
        | succ g => exact ⟨g, rfl⟩
      have hsz : s.length < 24 := by omega
      have fin : ∃ (f' m' : Nat) (s' : List UInt8), Value.int .u64 ((m / 10 : Nat) : Int) = .int .u64 (m' : Int) ∧ Value.string (strOfNums [48 + ((m % 10 : Nat) : Int)] ++ mk s) = .string (mk s') ∧ dcF wd f' m' s' = A ∧ s'.length + f' = 24 ∧ m' < 10 ^ f' ∧ m' < 18446744073709551616 ∧ Below w.heap.size w (wr.alloc (.cells #[.int .u8 (48 + ((m % 10 : Nat) : Int))] 5)) := by
        refine ⟨f, m / 10, UInt8.ofNat (48 + m % 10) :: s, rfl, congrArg Value.string hst, ?_, by simp; omega, ?_, by omega, hb.alloc hb.size _⟩
        · have := HH.out.1
          rwa [dcF, if_pos c] at this
        · have := HH.out.2
          rw [Nat.pow_succ] at this
          omega
      have fin2 : ((m / 10 : Nat) : Int).toNat + (4 - (strOfNums [48 + ((m % 10 : Nat) : Int)] ++ mk s).size) < (m : Int).toNat + (4 - (mk s).size) := by
        rw [hst, mk_size, hz]
        simp only [List.length_cons]
        omega
      have hz' : ((mk s).size : Int) = (s.length : Int) := by rw [hz]
      have t1 : (m : Int).tdiv 10 = ((m / 10 : Nat) : Int) := by rw [Int.tdiv_eq_ediv_of_nonneg (by omega)]; omega
      have t2 : (m : Int).tmod 10 = ((m % 10 : Nat) : Int) := by rw [Int.tmod_eq_emod_of_nonneg (by omega)]; omega
      have v1 : ((m / 10 : Nat) : Int) < 18446744073709551616 := by omega
      have v2 : ((m % 10 : Nat) : Int) ≤ 9 := by omega
      have v3 : (0 : Int) ≤ ((m / 10 : Nat) : Int) := by omega
      have v4 : (0 : Int) ≤ ((m % 10 : Nat) : Int) := by omega
      have v5 : (0 : Int) ≤ (m : Int) := by omega
      have v6 : (m : Int) < 18446744073709551616 := by omega
      have cz : (0 : Int) < m ∨ ((mk s).size : Int) < wd := by omega
      have hsz' : (mk s).size < 24 := by omega
      generalize strOfNums [48 + ((m % 10 : Nat) : Int)] = D at *
      generalize ((m / 10 : Nat) : Int) = Q at *
      generalize ((m % 10 : Nat) : Int) = R at *
      generalize (m : Int) = M at *
      generalize mk s = U at *
      have FIN := hidden fin
      have FIN2 := hidden fin2
      clear fin fin2 hst hz hz' HH c h5 h2 hsz
      have wd4 : (wd : Int) ≤ 4 := by omega
      generalize (wd : Int) = WD at *
      by_cases c1 : 0 < M
      · clear cz
        go_wp2
        exact ⟨FIN.out, FIN2.out⟩
      · have c2 : (U.size : Int) < WD := by omega
        clear cz
        go_wp2
        exact ⟨FIN.out, FIN2.out⟩
    · have c1 : ¬ (0 : Int) < m := by omega
      have c2 : ¬ ((mk s).size : Int) < wd := by omega
      have e : s = A := by
        have := HH.out.1
        cases f with
        | zero => exact this
        | succ f => rwa [dcF, if_neg c] at this
      subst e
      go_wp2
      go_ret
      exact ⟨rfl, hb⟩

theorem dcF_eq (wd : Nat) : ∀ (f n : Nat) (s : List UInt8), wd ≤ s.length → n < 10 ^ f → dcF wd f n s = (if n = 0 then [] else decDigits n) ++ s
  | 0, n, s, h1, h2 => by
    obtain rfl : n = 0 := by omega
    rfl
  | f + 1, n, s, h1, h2 => by
    rw [dcF]
    by_cases c : n = 0
    · subst c
      rw [if_neg (by omega)]
      rfl
    · rw [if_pos (by omega), dcF_eq wd f (n / 10) _ (by simp; omega) (by rw [Nat.pow_succ] at h2; omega), if_neg c]
      by_cases k : n < 10
      · rw [if_pos (by omega), dd1 n k, show n % 10 = n by omega]
        rfl
      · rw [if_neg (by omega)]
        conv => rhs; rw [decDigits, dif_neg k]
        simp
theorem dcm1 (n : Nat) (h : n < 18446744073709551616) : dcm n 1 = decDigits n := by
  unfold dcm
  rw [dcF, if_pos (by simp), dcF_eq 1 23 (n / 10) _ (by simp) (by omega)]
  by_cases k : n < 10
  · rw [if_pos (by omega), dd1 n k, show n % 10 = n by omega]
    rfl
  · rw [if_neg (by omega)]
    conv => rhs; rw [decDigits, dif_neg k]
theorem dcm2 (n : Nat) (h : n < 100) : dcm n 2 = p2 n := by
  unfold dcm
  rw [dcF, if_pos (by simp), dcF, if_pos (by simp), dcF_eq 2 22 _ _ (by simp) (by omega), if_pos (by omega), p2, show n / 10 % 10 = n / 10 by omega]
  rfl
theorem dcm3 (n : Nat) (h : n < 1000) : dcm n 3 = p3 n := by
  unfold dcm
  rw [dcF, if_pos (by simp), dcF, if_pos (by simp), dcF, if_pos (by simp), dcF_eq 3 21 _ _ (by simp) (by omega), if_pos (by omega), p3, show n / 10 / 10 % 10 = n / 100 by omega]
  rfl
theorem dcm4 (n : Nat) (h : n < 10000) : dcm n 4 = p4 n := by
  unfold dcm
  rw [dcF, if_pos (by simp), dcF, if_pos (by simp), dcF, if_pos (by simp), dcF, if_pos (by simp), dcF_eq 4 20 _ _ (by simp) (by omega), if_pos (by omega), p4, show n / 10 / 10 / 10 % 10 = n / 1000 by omega, show n / 10 / 10 % 10 = n / 100 % 10 by omega]
  rfl
end Go.Proofs.YtmfeckpcnofkhabDoor
