/- The walks of the reference's back, written, Quote and Json. -/
import Derived.Test.YtdnbkgbgpfmipabDoorWritten
namespace Go.Proofs.YtdnbkgbgpfmipabDoor
open Go.RowKit Go.Lib

/-- The letter for a byte in a list of letters and bytes, from a pair on; 0: none. -/
def bkF (L : ByteArray) (c : Int) : Nat → Nat → Int
  | 0, _ => 0
  | f + 1, j => if bt L (2 * j + 1) = c then bt L (2 * j) else bkF L c f (j + 1)

set_option maxHeartbeats 1000000 in
theorem rback_gen (L : ByteArray) (N : Nat) (hL : L.size = 2 * N) (hN : N ≤ 100) (c : Int) (w : World) :
    Calls Tryd.prog 66 #[.int .u8 c, .string L] w fun e w' => e = .returned (.int .u8 (bkF L c N 0)) ∧ w' = w := by
  generalize hR : bkF L c N 0 = R
  have HR : Hid (bkF L c N 0 = R) := hR
  clear hR
  go_enter Tryd.func66, Tryd.ntmps66
  go_wp2
  go_loopw [5] (fun t w' => ∃ j J : Nat, t = .int .i64 (J : Int) ∧ Hid (J = 2 * j) ∧ j ≤ N ∧ Hid (bkF L c (N - j) j = R) ∧ w' = w) (fun t _ => (match t with | .int _ x => 2 * N - x.toNat | _ => 0))
  case atStart => exact ⟨0, 0, rfl, rfl, by omega, HR, rfl⟩
  case round =>
    obtain ⟨j, J, rfl, HJ, hj, hh, rfl⟩ := hrel
    have hJ := HJ.out
    have hJb : (J : Int) ≤ 200 := by omega
    by_cases hlt : j < N
    · have p1 : J + 1 < L.size := by omega
      have p0 : J < L.size := by omega
      have x1 := bt_at L (J + 1) p1
      have x0 := bt_at L J p0
      have HE : Hid (R = if bt L (J + 1) = c then bt L J else bkF L c (N - (j + 1)) (j + 1)) := by
        show _ = _
        rw [← hh.out, hJ]
        obtain ⟨m, hm⟩ : ∃ m, N - j = m + 1 := ⟨N - j - 1, by omega⟩
        rw [hm, bkF, show N - (j + 1) = m by omega]
      have q2 : (J : Int) + 1 < L.size := by omega
      have q3 : (J : Int) < L.size := by omega
      have HS : Hid (L.size = 2 * N) := hL
      generalize bt L (J + 1) = d at *
      generalize bt L J = e at *
      clear hh hJ hL
      by_cases hd : d = c
      · have hdt : (d == c) = true := by rw [beq_iff_eq]; exact hd
        go_wp2
        go_ret
        exact ⟨by rw [HE.out, if_pos hd]; rfl, rfl⟩
      · have hdt : (d == c) = false := by rw [beq_eq_false_iff_ne]; exact hd
        have HN : Hid (bkF L c (N - (j + 1)) (j + 1) = R) := by show _ = _; rw [HE.out, if_neg hd]
        go_wp2
        go_roundw
        case rel => exact ⟨j + 1, J + 2, rfl, (by have := HJ.out; omega : _ = _), by omega, HN, trivial⟩
        case measure =>
          have h1 := HJ.out
          have h2 := HS.out
          simp
          omega
    · have HE : Hid (R = 0) := by
        show _ = _
        rw [← hh.out, show N - j = 0 by omega]; rfl
      have q2 : ¬ (J : Int) + 1 < L.size := by omega
      clear hh hJ hL
      go_wp2
      go_ret
      exact ⟨by rw [HE.out]; rfl, rfl⟩

/-- How a byte is written, by the letter for it, a head and whether 127 counts. -/
def bW (bk : Int → Int) (H : List Int) (del : Bool) (c : Int) : List Int := if bk c ≠ 0 then [92, bk c] else if c < 32 ∨ (del = true ∧ c = 127) then H ++ [hx (c / 16), hx (c % 16)] else [c]
def bkQ (c : Int) : Int := if c = 34 ∨ c = 92 then c else if 7 ≤ c ∧ c ≤ 13 then l7 c else 0
def bkJ (c : Int) : Int := if c = 34 ∨ c = 92 then c else if 8 ≤ c ∧ c ≤ 13 ∧ c ≠ 11 then l7 c else 0
theorem l7_pos (c : Int) : 97 ≤ l7 c := by
  unfold l7
  repeat' split
  all_goals omega
theorem bW_Q (c : Int) : bW bkQ [92, 120] true c = byteQ c := by
  have := l7_pos c
  unfold bW bkQ byteQ
  by_cases h1 : c = 34 ∨ c = 92
  · simp only [if_pos h1]; rw [if_pos (by omega)]
  · simp only [if_neg h1]
    by_cases h2 : 7 ≤ c ∧ c ≤ 13
    · simp only [if_pos h2]; rw [if_pos (by omega)]
    · simp only [if_neg h2]
      rw [if_neg (by simp)]
      simp
theorem bW_J (c : Int) : bW bkJ [92, 117, 48, 48] false c = byteJ c := by
  have := l7_pos c
  unfold bW bkJ byteJ
  by_cases h1 : c = 34 ∨ c = 92
  · simp only [if_pos h1]; rw [if_pos (by omega)]
  · simp only [if_neg h1]
    by_cases h2 : 8 ≤ c ∧ c ≤ 13 ∧ c ≠ 11
    · simp only [if_pos h2]; rw [if_pos (by omega)]
    · simp only [if_neg h2]
      rw [if_neg (by simp)]
      simp
theorem bkQ_fin : ∀ x : Fin 256, bkF ⟨#[34, 34, 92, 92, 97, 7, 98, 8, 116, 9, 110, 10, 118, 11, 102, 12, 114, 13]⟩ (x.val : Int) 9 0 = bkQ (x.val : Int) := by decide +kernel
theorem bkJ_fin : ∀ x : Fin 256, bkF ⟨#[34, 34, 92, 92, 98, 8, 116, 9, 110, 10, 102, 12, 114, 13]⟩ (x.val : Int) 7 0 = bkJ (x.val : Int) := by decide +kernel
theorem rbackQ (c : Int) (w : World) (h0 : 0 ≤ c) (h1 : c ≤ 255) :
    Calls Tryd.prog 66 #[.int .u8 c, .string ⟨#[34, 34, 92, 92, 97, 7, 98, 8, 116, 9, 110, 10, 118, 11, 102, 12, 114, 13]⟩] w fun e w' => e = .returned (.int .u8 (bkQ c)) ∧ w' = w := by
  have k := rback_gen ⟨#[34, 34, 92, 92, 97, 7, 98, 8, 116, 9, 110, 10, 118, 11, 102, 12, 114, 13]⟩ 9 rfl (by omega) c w
  have e := bkQ_fin ⟨c.toNat, by omega⟩
  simp only [Int.toNat_of_nonneg h0] at e
  rw [e] at k
  exact k
theorem rbackJ (c : Int) (w : World) (h0 : 0 ≤ c) (h1 : c ≤ 255) :
    Calls Tryd.prog 66 #[.int .u8 c, .string ⟨#[34, 34, 92, 92, 98, 8, 116, 9, 110, 10, 102, 12, 114, 13]⟩] w fun e w' => e = .returned (.int .u8 (bkJ c)) ∧ w' = w := by
  have k := rback_gen ⟨#[34, 34, 92, 92, 98, 8, 116, 9, 110, 10, 102, 12, 114, 13]⟩ 7 rfl (by omega) c w
  have e := bkJ_fin ⟨c.toNat, by omega⟩
  simp only [Int.toNat_of_nonneg h0] at e
  rw [e] at k
  exact k
end Go.Proofs.YtdnbkgbgpfmipabDoor
