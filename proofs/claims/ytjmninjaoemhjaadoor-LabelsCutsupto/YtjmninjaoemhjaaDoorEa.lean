/- Labels: names of any kind; the value of a name in any list. -/
import Derived.Test.YtjmninjaoemhjaaDoorDd
namespace Go.Proofs.YtjmninjaoemhjaaDoor
open Go.RowKit Go.Lib

/-- A sign that a name may begin with; a digit; a further sign. -/
def fiB (c : Int) : Bool := decide (97 ≤ c) && decide (c ≤ 122) || decide (65 ≤ c) && decide (c ≤ 90) || decide (c = 95)
def dgB (c : Int) : Bool := decide (48 ≤ c) && decide (c ≤ 57)
def laB (c : Int) : Bool := fiB c || dgB c
set_option maxHeartbeats 1000000 in
theorem isFirst_any (c : Int) (w : World) : Calls Tryd.prog 54 #[.int .u8 c] w fun e w' => e = .returned (.bool (fiB c)) ∧ w' = w := by
  obtain ⟨b, hb⟩ : ∃ b, fiB c = b := ⟨_, rfl⟩
  have HB : Hid (fiB c = b) := hb
  rw [hb]
  clear hb
  have h6 : (c == 95) = decide (c = 95) := rfl
  by_cases h1 : 97 ≤ c <;> by_cases h2 : c ≤ 122 <;> by_cases h3 : 65 ≤ c <;> by_cases h4 : c ≤ 90 <;> by_cases h5 : c = 95 <;> first
    | omega
    | (simp only [fiB, h1, h2, h3, h4, h5, decide_true, decide_false, Bool.and_true, Bool.and_false, Bool.or_true, Bool.or_false] at HB h6
       go_enter Tryd.func54, Tryd.ntmps54
       go_wp2
       go_ret
       refine ⟨?_, rfl⟩
       rw [← HB.out]
       first | rfl | simp [h6] | simp [h5])
set_option maxHeartbeats 1000000 in
theorem isDigit_any (c : Int) (w : World) : Calls Tryd.prog 72 #[.int .u8 c] w fun e w' => e = .returned (.bool (dgB c)) ∧ w' = w := by
  obtain ⟨b, hb⟩ : ∃ b, dgB c = b := ⟨_, rfl⟩
  have HB : Hid (dgB c = b) := hb
  rw [hb]
  clear hb
  by_cases h1 : 48 ≤ c <;> by_cases h2 : c ≤ 57 <;> first
    | omega
    | (simp only [dgB, h1, h2, decide_true, decide_false, Bool.and_true, Bool.and_false] at HB
       go_enter Tryd.func72, Tryd.ntmps72
       go_wp2
       go_ret
       refine ⟨?_, rfl⟩
       rw [← HB.out]
       first | rfl | simp)
set_option maxHeartbeats 1000000 in
theorem isLater_any (c : Int) (w : World) : Calls Tryd.prog 53 #[.int .u8 c] w fun e w' => e = .returned (.bool (laB c)) ∧ w' = w := by
  have k1 := isFirst_any c w
  have k2 := isDigit_any c w
  obtain ⟨b, hb⟩ : ∃ b, laB c = b := ⟨_, rfl⟩
  have HB : Hid (laB c = b) := hb
  rw [hb]
  clear hb
  unfold laB at HB
  generalize fiB c = f at *
  generalize dgB c = d at *
  cases f
  · go_enter Tryd.func53, Tryd.ntmps53
    go_wp2_with fail
    go_fit k1
    rintro e w1 ⟨rfl, rfl⟩
    go_wp2_with fail
    go_fit k2
    rintro e w1 ⟨rfl, rfl⟩
    go_wp2
    go_ret
    exact ⟨by rw [← HB.out]; rfl, rfl⟩
  · go_enter Tryd.func53, Tryd.ntmps53
    go_wp2_with fail
    go_fit k1
    rintro e w1 ⟨rfl, rfl⟩
    go_wp2
    go_ret
    exact ⟨by rw [← HB.out]; rfl, rfl⟩
/-- The sign at a place. -/
def bt (s : ByteArray) (i : Nat) : Int := ((s.get! i).toNat : Int)
theorem get!_in (s : ByteArray) (k : Nat) (h : k < s.size) : s.get! k = s[k]'h := by
  cases s with
  | mk d => exact getElem!_pos d k h
/-- All signs from a place on are further ones. -/
def lbF (s : ByteArray) : Nat → Nat → Bool
  | 0, _ => true
  | n + 1, i => laB (bt s i) && lbF s n (i + 1)
/-- A label's name. -/
def lbN (s : ByteArray) : Bool := lbF s s.size 0 && (decide (0 < s.size) && fiB (bt s 0))
theorem nil_iff (s : ByteArray) : s.toList = [] ↔ s.size = 0 := by
  rw [Lib.toList_data]
  obtain ⟨d⟩ := s
  show d.toList = [] ↔ d.size = 0
  simp
set_option maxHeartbeats 4000000 in
set_option maxRecDepth 100000 in
theorem isLabel_any (s : ByteArray) (w : World) (hs : s.size ≤ 140737488355328) : Calls Tryd.prog 27 #[.string s] w fun e w' => e = .returned (.bool (lbN s)) ∧ w' = w := by
  obtain ⟨b, hb⟩ : ∃ b, lbN s = b := ⟨_, rfl⟩
  have HB : Hid (lbN s = b) := hb
  rw [hb]
  clear hb
  have k1 : Hid (∀ c W, Calls Tryd.prog 53 #[.int .u8 c] W fun e w' => e = .returned (.bool (laB c)) ∧ w' = W) := fun c W => isLater_any c W
  have k2 := isFirst_any (bt s 0) w
  have HNE : Hid (s.toList = [] ↔ s.size = 0) := nil_iff s
  have hsi : (s.size : Int) ≤ 140737488355328 := by omega
  go_enter Tryd.func27, Tryd.ntmps27
  go_wp2_with fail
  go_loopw [6] (fun t w' => ∃ i f : Nat, t = .int .i64 (i : Nat) ∧ i + f = s.size ∧ Hid (lbF s s.size 0 = lbF s f i) ∧ w' = w) (fun t _ => s.size - (RowKit.intOf t).toNat)
  case atStart => exact ⟨0, s.size, rfl, by omega, rfl, rfl⟩
  case round =>
    obtain ⟨i, f, rfl, hif, hv, rfl⟩ := hrel
    by_cases hlt : i < s.size
    · have hii : (i : Int) < (s.size : Int) := by omega
      obtain ⟨g, rfl⟩ : ∃ g, f = g + 1 := ⟨f - 1, by omega⟩
      have K := k1.out (bt s i) wr
      have HV : Hid (lbF s s.size 0 = (laB (bt s i) && lbF s g (i + 1))) := hv
      clear hv
      generalize hla : laB (bt s i) = q at *
      clear hla
      have e0 : bt s i = ((s[i]'hlt).toNat : Int) := by unfold bt; rw [get!_in s i hlt]
      rw [e0] at K
      clear e0
      go_wp2_with fail
      go_fit K
      rintro e w1 ⟨rfl, rfl⟩
      cases q
      · have HE : Hid (b = false) := by
          have := HB.out
          unfold lbN at this
          rw [HV.out] at this
          exact (this.symm).trans (by simp)
        go_wp2
        go_ret
        exact ⟨by rw [HE.out]; rfl, rfl⟩
      · have HE : Hid (lbF s s.size 0 = lbF s g (i + 1)) := HV.out.trans (by simp)
        go_wp2
        exact ⟨⟨i + 1, g, by go_num, by omega, HE, trivial⟩, by simp [RowKit.intOf]; omega⟩
    · have hii : ¬ (i : Int) < (s.size : Int) := by omega
      obtain rfl : f = 0 := by omega
      have HE : Hid (b = (decide (0 < s.size) && fiB (bt s 0))) := by
        have := HB.out
        unfold lbN at this
        rw [hv.out] at this
        exact this.symm
      clear hv
      by_cases h0 : s.size = 0
      · have hne : s.toList = [] := HNE.out.2 h0
        have HE2 : Hid (b = false) := HE.out.trans (by simp [h0])
        clear h0
        go_wp2
        go_ret
        exact ⟨by rw [HE2.out]; rfl, rfl⟩
      · have hne : ¬ s.toList = [] := fun h => h0 (HNE.out.1 h)
        have hem : s.toList.isEmpty = false := by cases h : s.toList <;> simp_all
        have h0p : 0 < s.size := by omega
        have h0i : (0 : Int) < (s.size : Int) := by omega
        have HE2 : Hid (b = fiB (bt s 0)) := HE.out.trans (by simp [h0p])
        clear h0
        have e0 : bt s 0 = ((s[0]'h0p).toNat : Int) := by unfold bt; rw [get!_in s 0 h0p]
        rw [e0] at k2 HE2
        clear e0
        go_wp2_with fail
        go_fit k2
        rintro e w1 ⟨rfl, rfl⟩
        go_wp2
        go_ret
        exact ⟨by rw [HE2.out]; rfl, rfl⟩
end Go.Proofs.YtjmninjaoemhjaaDoor
