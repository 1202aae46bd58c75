/- The reference's reader: time. -/
import Derived.Test.YtedlmjieclaojabDoorHa
namespace Go.Proofs.YtedlmjieclaojabDoor
open Go.RowKit

/-- The change that the reference reads. -/
def tmE (B : Nat → Nat) (N p : Nat) : Int := s64 (scL (wyF B N 4 p).1 + s64 (tkV B N (wyF B N 4 p).2.1 (scW (wyF B N 4 p).1) : Nat))
def tmP (B : Nat → Nat) (N p : Nat) : Nat := tkP N (wyF B N 4 p).2.1 (scW (wyF B N 4 p).1)
def tmX (B : Nat → Nat) (N p : Nat) (b : Bool) : Bool := (b || (wyF B N 4 p).2.2) || tkX N (wyF B N 4 p).2.1 (scW (wyF B N 4 p).1)
set_option maxHeartbeats 4000000 in
set_option maxRecDepth 100000 in
theorem rtime_any (B c : Nat) (a0 : Option Addr) (xs : List Int) (p : Nat) (b : Bool) (w : World) (h : Rq w B a0 c xs p b) (hx : By xs) (hN : xs.length ≤ 140737488355328) :
    Calls Tryd.prog 28 #[.pointer (some ⟨B, 0, none⟩)] w fun e w' => e = .returned (.int .i64 (tmE (bt 8 xs) (8 * xs.length) p)) ∧ Rq w' B a0 c xs (tmP (bt 8 xs) (8 * xs.length) p) (tmX (bt 8 xs) (8 * xs.length) p b) ∧ Kp (fun k => k = B) w w' := by
  have k1 := ones_any B c a0 xs p b 4 w h hx (by decide) hN
  have hq := wyF_p (bt 8 xs) (8 * xs.length) 4 p h.le
  have hk := wyF_le (bt 8 xs) (8 * xs.length) 4 p
  unfold tmE tmP tmX
  generalize wyF (bt 8 xs) (8 * xs.length) 4 p = R at *
  obtain ⟨k, q, xb⟩ := R
  dsimp only at *
  have HT : Hid (∀ n, n ≤ 64 → ∀ w1, Rq w1 B a0 c xs q (b || xb) → Calls Tryd.prog 27 #[.pointer (some ⟨B, 0, none⟩), .int .i64 (n : Nat)] w1 fun e w' => e = .returned (.int .u64 (tkV (bt 8 xs) (8 * xs.length) q n : Nat)) ∧ Rq w' B a0 c xs (tkP (8 * xs.length) q n) ((b || xb) || tkX (8 * xs.length) q n) ∧ Kp (fun k => k = B) w1 w') := fun n hn w1 h1 => rtake_any B c a0 xs q (b || xb) n w1 h1 hx hn hN
  have HV : Hid (∀ n, tkV (bt 8 xs) (8 * xs.length) q n < 2 ^ n) := fun n => tkV_lt (bt 8 xs) (bt_lt 8 xs) _ q n
  have cases5 : k = 0 ∨ k = 1 ∨ k = 2 ∨ k = 3 ∨ k = 4 := by omega
  clear h hx hN hk
  rcases cases5 with rfl | rfl | rfl | rfl | rfl
  · have t1 : tkP (8 * xs.length) q (scW 0) = q := by unfold tkP; rw [show scW 0 = 0 from rfl, if_pos (by omega)]; rfl
    have t2 : tkX (8 * xs.length) q (scW 0) = false := by unfold tkX; rw [show scW 0 = 0 from rfl]; exact decide_eq_false (by omega)
    have t3 : s64 (scL 0 + s64 ((tkV (bt 8 xs) (8 * xs.length) q (scW 0) : Nat) : Int)) = 0 := by
      have := HV.out (scW 0)
      have e0 : tkV (bt 8 xs) (8 * xs.length) q (scW 0) = 0 := by have h2 : (2 : Nat) ^ scW 0 = 1 := rfl; omega
      rw [e0]
      decide +kernel
    rw [t1, t2, t3, Bool.or_false]
    clear t1 t2 t3 HT HV
    go_enter Tryd.func28, Tryd.ntmps28
    go_wp2_with fail
    go_fit k1
    rintro e w1 ⟨rfl, h1, q1⟩
    have HE : Hid _ := And.intro h1 q1
    clear k1 h1 q1
    go_wp2
    go_ret
    exact ⟨rfl, HE.out⟩
  · obtain ⟨V, hV⟩ : ∃ V, V = tkV (bt 8 xs) (8 * xs.length) q (scW 1) := ⟨_, rfl⟩
    have hVl : V < 128 := by rw [hV]; exact HV.out 7
    have t3 : s64 (scL 1 + s64 ((V : Nat) : Int)) = (V : Int) - 63 := by unfold s64; show (-63 + _ + _) % _ - _ = _; omega
    rw [← hV, t3]
    have K2 : Hid (∀ w1, Rq w1 B a0 c xs q (b || xb) → _) := fun w1 h1 => HT.out 7 (by decide) w1 h1
    rw [show tkV (bt 8 xs) (8 * xs.length) q 7 = V from hV.symm] at K2
    have e1 : IntKind.i64.wrap (V : Int) = (V : Int) := by rw [IntKind.wrap_i64]; omega
    have e2 : IntKind.i64.wrap ((V : Int) - 63) = (V : Int) - 63 := by rw [IntKind.wrap_i64]; omega
    clear t3 HT HV hV
    go_enter Tryd.func28, Tryd.ntmps28
    go_wp2_with fail
    go_fit k1
    rintro e w1 ⟨rfl, h1, q1⟩
    have k2 := K2.out w1 h1
    have HQ : Hid (Kp (fun k => k = B) w w1) := q1
    clear k1 h1 q1 K2
    go_wp2_with fail
    go_fit k2
    rintro e w2 ⟨rfl, h2, q2⟩
    have HE : Hid (Rq w2 B a0 c xs (tkP (8 * xs.length) q (scW 1)) ((b || xb) || tkX (8 * xs.length) q (scW 1)) ∧ Kp (fun k => k = B) w w2) := ⟨h2, HQ.out.trans q2⟩
    clear k2 h2 q2 HQ
    go_wp2
    go_ret
    exact ⟨rfl, HE.out⟩
  · obtain ⟨V, hV⟩ : ∃ V, V = tkV (bt 8 xs) (8 * xs.length) q (scW 2) := ⟨_, rfl⟩
    have hVl : V < 512 := by rw [hV]; exact HV.out 9
    have t3 : s64 (scL 2 + s64 ((V : Nat) : Int)) = (V : Int) - 255 := by unfold s64; show (-255 + _ + _) % _ - _ = _; omega
    rw [← hV, t3]
    have K2 : Hid (∀ w1, Rq w1 B a0 c xs q (b || xb) → _) := fun w1 h1 => HT.out 9 (by decide) w1 h1
    rw [show tkV (bt 8 xs) (8 * xs.length) q 9 = V from hV.symm] at K2
    have e1 : IntKind.i64.wrap (V : Int) = (V : Int) := by rw [IntKind.wrap_i64]; omega
    have e2 : IntKind.i64.wrap ((V : Int) - 255) = (V : Int) - 255 := by rw [IntKind.wrap_i64]; omega
    clear t3 HT HV hV
    go_enter Tryd.func28, Tryd.ntmps28
    go_wp2_with fail
    go_fit k1
    rintro e w1 ⟨rfl, h1, q1⟩
    have k2 := K2.out w1 h1
    have HQ : Hid (Kp (fun k => k = B) w w1) := q1
    clear k1 h1 q1 K2
    go_wp2_with fail
    go_fit k2
    rintro e w2 ⟨rfl, h2, q2⟩
    have HE : Hid (Rq w2 B a0 c xs (tkP (8 * xs.length) q (scW 2)) ((b || xb) || tkX (8 * xs.length) q (scW 2)) ∧ Kp (fun k => k = B) w w2) := ⟨h2, HQ.out.trans q2⟩
    clear k2 h2 q2 HQ
    go_wp2
    go_ret
    exact ⟨rfl, HE.out⟩
  · obtain ⟨V, hV⟩ : ∃ V, V = tkV (bt 8 xs) (8 * xs.length) q (scW 3) := ⟨_, rfl⟩
    have hVl : V < 4096 := by rw [hV]; exact HV.out 12
    have t3 : s64 (scL 3 + s64 ((V : Nat) : Int)) = (V : Int) - 2047 := by unfold s64; show (-2047 + _ + _) % _ - _ = _; omega
    rw [← hV, t3]
    have K2 : Hid (∀ w1, Rq w1 B a0 c xs q (b || xb) → _) := fun w1 h1 => HT.out 12 (by decide) w1 h1
    rw [show tkV (bt 8 xs) (8 * xs.length) q 12 = V from hV.symm] at K2
    have e1 : IntKind.i64.wrap (V : Int) = (V : Int) := by rw [IntKind.wrap_i64]; omega
    have e2 : IntKind.i64.wrap ((V : Int) - 2047) = (V : Int) - 2047 := by rw [IntKind.wrap_i64]; omega
    clear t3 HT HV hV
    go_enter Tryd.func28, Tryd.ntmps28
    go_wp2_with fail
    go_fit k1
    rintro e w1 ⟨rfl, h1, q1⟩
    have k2 := K2.out w1 h1
    have HQ : Hid (Kp (fun k => k = B) w w1) := q1
    clear k1 h1 q1 K2
    go_wp2_with fail
    go_fit k2
    rintro e w2 ⟨rfl, h2, q2⟩
    have HE : Hid (Rq w2 B a0 c xs (tkP (8 * xs.length) q (scW 3)) ((b || xb) || tkX (8 * xs.length) q (scW 3)) ∧ Kp (fun k => k = B) w w2) := ⟨h2, HQ.out.trans q2⟩
    clear k2 h2 q2 HQ
    go_wp2
    go_ret
    exact ⟨rfl, HE.out⟩
  · obtain ⟨V, hV⟩ : ∃ V, V = tkV (bt 8 xs) (8 * xs.length) q (scW 4) := ⟨_, rfl⟩
    have hVl : V < 18446744073709551616 := by rw [hV]; exact HV.out 64
    have t3 : s64 (scL 4 + s64 ((V : Nat) : Int)) = s64 (V : Int) := by unfold s64; show (0 + _ + _) % _ - _ = _; omega
    rw [← hV, t3]
    have K2 : Hid (∀ w1, Rq w1 B a0 c xs q (b || xb) → _) := fun w1 h1 => HT.out 64 (by decide) w1 h1
    rw [show tkV (bt 8 xs) (8 * xs.length) q 64 = V from hV.symm] at K2
    obtain ⟨VI, hVI⟩ : ∃ VI : Int, VI = (V : Nat) := ⟨_, rfl⟩
    have v0 : 0 ≤ VI := by omega
    have v1 : VI ≤ 18446744073709551615 := by omega
    have e1 : IntKind.i64.wrap VI = s64 VI := by rw [IntKind.wrap_i64]; unfold s64; omega
    rw [← hVI] at K2 ⊢
    clear t3 HT HV hV hVI hVl
    generalize s64 VI = SV at *
    go_enter Tryd.func28, Tryd.ntmps28
    go_wp2_with fail
    go_fit k1
    rintro e w1 ⟨rfl, h1, q1⟩
    have k2 := K2.out w1 h1
    have HQ : Hid (Kp (fun k => k = B) w w1) := q1
    clear k1 h1 q1 K2
    go_wp2_with fail
    go_fit k2
    rintro e w2 ⟨rfl, h2, q2⟩
    have HE : Hid (Rq w2 B a0 c xs (tkP (8 * xs.length) q (scW 4)) ((b || xb) || tkX (8 * xs.length) q (scW 4)) ∧ Kp (fun k => k = B) w w2) := ⟨h2, HQ.out.trans q2⟩
    clear k2 h2 q2 HQ
    go_wp2
    go_ret
    exact ⟨rfl, HE.out⟩
end Go.Proofs.YtedlmjieclaojabDoor
