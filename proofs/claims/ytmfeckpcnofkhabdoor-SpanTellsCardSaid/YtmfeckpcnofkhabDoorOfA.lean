/- Numbers with noughts ahead: padded. -/
import Derived.Test.YtmfeckpcnofkhabDoorShf
import Derived.Test.YtmfeckpcnofkhabDoorRows
import Derived.Lib.LaidTab
import Derived.WalkKit
import Derived.WalkSpells
import Derived.WalkLawsBesides
import Derived.Below
import Derived.Deep.DeepFit
namespace Go.Proofs.YtmfeckpcnofkhabDoor
open Go.RowKit Go.Lib

/-- The table of powers of ten. -/
def Tab (w : World) : Prop := TabIs Tryd.prog w "internal/strconv.uint64pow10" .u64 pow10Tab
theorem Tab.below {w w' : World} (h : Tab w) (hb : Below w.heap.size w w') : Tab w' := by
  unfold Tab TabIs World.var? at *
  cases hg : Tryd.prog.globalNamed "internal/strconv.uint64pow10" with
  | none => simp [hg] at h
  | some g =>
    simp only [hg, Option.bind_some] at h ⊢
    have hlt : g < w.heap.size := by
      rcases Nat.lt_or_ge g w.heap.size with h' | h'
      · exact h'
      · rw [Array.getElem?_eq_none h'] at h; simp at h
    rw [hb.block g hlt]
    exact h

/-- A text out of its bytes. -/
abbrev mk (l : List UInt8) : ByteArray := ⟨l.toArray⟩
theorem mk_app (a b : List UInt8) : mk a ++ mk b = mk (a ++ b) := by
  apply Go.WideShapes.bytes_inj
  simp
theorem mk_size (l : List UInt8) : (mk l).size = l.length := by simp [ByteArray.size]

theorem dd1 (u : Nat) (h : u < 10) : decDigits u = [UInt8.ofNat (48 + u)] := by rw [decDigits, dif_pos h]
theorem dd2 (u : Nat) (h : 10 ≤ u) (h' : u < 100) : decDigits u = [UInt8.ofNat (48 + u / 10), UInt8.ofNat (48 + u % 10)] := by
  rw [decDigits, dif_neg (by omega), dd1 (u / 10) (by omega)]
  rfl
theorem dd3 (u : Nat) (h : 100 ≤ u) (h' : u < 1000) : decDigits u = [UInt8.ofNat (48 + u / 100), UInt8.ofNat (48 + u / 10 % 10), UInt8.ofNat (48 + u % 10)] := by
  rw [decDigits, dif_neg (by omega), dd2 (u / 10) (by omega) (by omega), Nat.div_div_eq_div_mul]
  rfl
theorem dd4 (u : Nat) (h : 1000 ≤ u) (h' : u < 10000) : decDigits u = [UInt8.ofNat (48 + u / 1000), UInt8.ofNat (48 + u / 100 % 10), UInt8.ofNat (48 + u / 10 % 10), UInt8.ofNat (48 + u % 10)] := by
  rw [decDigits, dif_neg (by omega), dd3 (u / 10) (by omega) (by omega), Nat.div_div_eq_div_mul, Nat.div_div_eq_div_mul]
  rfl
theorem itoa_nat (u : Nat) : itoa (u : Int) = decDigits u := by
  unfold itoa
  rw [if_neg (by omega)]
  rfl

/-- Two, three, four digits. -/
def p2 (n : Nat) : List UInt8 := [UInt8.ofNat (48 + n / 10), UInt8.ofNat (48 + n % 10)]
def p3 (n : Nat) : List UInt8 := [UInt8.ofNat (48 + n / 100), UInt8.ofNat (48 + n / 10 % 10), UInt8.ofNat (48 + n % 10)]
def p4 (n : Nat) : List UInt8 := [UInt8.ofNat (48 + n / 1000), UInt8.ofNat (48 + n / 100 % 10), UInt8.ofNat (48 + n / 10 % 10), UInt8.ofNat (48 + n % 10)]
theorem pad2 (n : Nat) (h : n < 100) : (decDigits n).length ≤ 2 ∧ repeatL [48] (2 - (decDigits n).length) ++ decDigits n = p2 n := by
  by_cases a : n < 10
  · rw [dd1 n a, p2, show n / 10 = 0 by omega, show n % 10 = n by omega]
    exact ⟨by simp, rfl⟩
  · rw [dd2 n (by omega) h]
    exact ⟨by simp, rfl⟩
theorem pad3 (n : Nat) (h : n < 1000) : (decDigits n).length ≤ 3 ∧ repeatL [48] (3 - (decDigits n).length) ++ decDigits n = p3 n := by
  by_cases a : n < 10
  · rw [dd1 n a, p3, show n / 100 = 0 by omega, show n / 10 = 0 by omega, show n % 10 = n by omega]
    exact ⟨by simp, rfl⟩
  · by_cases b : n < 100
    · rw [dd2 n (by omega) b, p3, show n / 100 = 0 by omega, show n / 10 % 10 = n / 10 by omega]
      exact ⟨by simp, rfl⟩
    · rw [dd3 n (by omega) h]
      exact ⟨by simp, rfl⟩
theorem pad4 (n : Nat) (h : n < 10000) : (decDigits n).length ≤ 4 ∧ repeatL [48] (4 - (decDigits n).length) ++ decDigits n = p4 n := by
  by_cases a : n < 10
  · rw [dd1 n a, p4, show n / 1000 = 0 by omega, show n / 100 = 0 by omega, show n / 10 = 0 by omega, show n % 10 = n by omega]
    exact ⟨by simp, rfl⟩
  · by_cases b : n < 100
    · rw [dd2 n (by omega) b, p4, show n / 1000 = 0 by omega, show n / 100 = 0 by omega, show n / 10 % 10 = n / 10 by omega]
      exact ⟨by simp, rfl⟩
    · by_cases c : n < 1000
      · rw [dd3 n (by omega) c, p4, show n / 1000 = 0 by omega, show n / 100 % 10 = n / 100 by omega]
        exact ⟨by simp, rfl⟩
      · rw [dd4 n (by omega) h]
        exact ⟨by simp, rfl⟩

theorem below_grown (w : World) (k : Nat) (os : Array Obj) : Below w.heap.size w (Go.Sort.grow (w.drewN k) os) :=
  ⟨rfl, rfl, rfl, by simp [Go.Sort.grow, World.drewN], fun i hi => by simp [Go.Sort.grow, World.drewN, Array.getElem?_append, hi]⟩

set_option maxHeartbeats 1000000 in
theorem padded_any (n wd : Nat) (T : List UInt8) (w : World) (hT : Tab w) (hw : wd ≤ 4) (hn : n < 10000) (hl : (decDigits n).length ≤ wd) (h : repeatL [48] (wd - (decDigits n).length) ++ decDigits n = T) :
    Calls Tryd.prog 30 #[.int .i64 n, .int .i64 wd] w fun e w' => e = .returned (.string (mk T)) ∧ Below w.heap.size w w' := by
  have k1 := Tryd.strconv_Itoa (n : Int) (by omega) (by omega) w hT
  rw [itoa_nat] at k1
  have k2 := fun w => Tryd.strings_Repeat ⟨#[48]⟩ (wd - (decDigits n).length) w (by omega) (by show 1 * _ ≤ _; omega)
  have HT : Hid (mk (repeatL [48] (wd - (decDigits n).length)) ++ mk (decDigits n) = mk T) := by show _ = _; rw [mk_app, h]
  have hsz : (mk (decDigits n)).size = (decDigits n).length := mk_size _
  have HZ : Hid ((wd : Int) - ((mk (decDigits n)).size : Int) = ((wd - (decDigits n).length : Nat) : Int)) := by show _ = _; rw [hsz]; omega
  have hz1 : ((mk (decDigits n)).size : Int) ≤ 4 := by rw [hsz]; omega
  have hwi : (wd : Int) ≤ 4 := by omega
  have k2' : ∀ w, Calls Tryd.prog 53 #[.string ⟨#[48]⟩, .int .i64 ((wd : Int) - ((mk (decDigits n)).size : Int))] w fun e w' => e = .returned (.string (mk (repeatL [48] (wd - (decDigits n).length)))) ∧ Below w.heap.size w w' := fun w => by
    rw [HZ.out]
    exact k2 w
  have hR : (mk (repeatL [48] (wd - (decDigits n).length))).size ≤ 4 := by rw [mk_size, repeatL_length]; simp; omega
  have hD : (mk (decDigits n)).size ≤ 4 := by rw [hsz]; omega
  clear h k2 hsz hl
  generalize mk (repeatL [48] (wd - (decDigits n).length)) = R at *
  have k1' : Calls Tryd.prog 52 #[.int .i64 n] w fun e w' => e = .returned (.string (mk (decDigits n))) ∧ Below w.heap.size w w' := k1.mono fun e w' ⟨he, k, os, hw⟩ => ⟨he, hw ▸ below_grown w k os⟩
  clear k1
  generalize mk (decDigits n) = D at *
  generalize mk T = T' at *
  have hz2 : (0 : Int) ≤ (D.size : Int) := by omega
  have hz3 : ¬ (140737488355328 : Int) < (R.size : Int) + D.size := by omega
  go_enter Tryd.func30, Tryd.ntmps30
  go_wp2_with fail
  go_fit k1'
  rintro e w1 ⟨rfl, b1⟩
  go_wp2_with fail
  go_fit (k2' _)
  rintro e w2 ⟨rfl, b2⟩
  go_wp2
  go_ret
  exact ⟨by rw [← HT.out]; rfl, b1.trans (b2.mono b1.size)⟩
end Go.Proofs.YtmfeckpcnofkhabDoor
