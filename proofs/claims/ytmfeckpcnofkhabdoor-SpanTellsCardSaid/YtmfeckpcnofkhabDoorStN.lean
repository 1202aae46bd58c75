/- Offsets on both sides: the zone's parts. -/
import Derived.Test.YtmfeckpcnofkhabDoorStK
namespace Go.Proofs.YtmfeckpcnofkhabDoor
open Go.RowKit

theorem dB1970 : dB 1970 = 719528 := by decide
theorem mom1970 (h mi : Int) : momV 1970 1 1 h mi 0 0 = h * 3600000 + mi * 60000 := by
  unfold momV
  rw [dB1970, cum_one]
  omega
/-- Two digits, as the program's number tells them. -/
theorem num2 (s : ByteArray) (i : Nat) (hi : i + 2 ≤ s.size) (h1 : isD s i) (h2 : isD s (i + 1)) : ∀ w, Calls Tryd.prog 55 #[.string (s.extract i (i + 2))] w fun e w' => e = .returned (.int .i64 (d2 s i)) ∧ w' = w := by
  intro w
  have e : (s.extract i (i + 2)).size = 2 := by rw [ByteArray.size_extract]; omega
  have b0 : bt (s.extract i (i + 2)) 0 = bt s i := by rw [bt_ext s i (i + 2) 0 (by omega) hi, Nat.add_zero]
  have b1 : bt (s.extract i (i + 2)) 1 = bt s (i + 1) := by rw [bt_ext s i (i + 2) 1 (by omega) hi]
  have hd : ∀ k, k < (s.extract i (i + 2)).size → isD (s.extract i (i + 2)) k := fun k hk => by
    rw [e] at hk
    obtain rfl | rfl : k = 0 ∨ k = 1 := by omega
    · exact ⟨by omega, by rw [b0]; exact h1.2⟩
    · exact ⟨by omega, by rw [b1]; exact h2.2⟩
  have k := number_any (s.extract i (i + 2)) w (by omega) hd
  have q1 := h1.2
  have q2 := h2.2
  rw [e, show min (vl (s.extract i (i + 2)) 2) 9999 = d2 s i by rw [vl, vl, vl, b0, b1]; unfold d2; omega] at k
  exact k
theorem num4 (s : ByteArray) (i : Nat) (hi : i + 4 ≤ s.size) (h1 : isD s i) (h2 : isD s (i + 1)) (h3 : isD s (i + 2)) (h4 : isD s (i + 3)) : ∀ w, Calls Tryd.prog 55 #[.string (s.extract i (i + 4))] w fun e w' => e = .returned (.int .i64 (d2 s i * 100 + d2 s (i + 2))) ∧ w' = w := by
  intro w
  have e : (s.extract i (i + 4)).size = 4 := by rw [ByteArray.size_extract]; omega
  have b : ∀ k, k < 4 → bt (s.extract i (i + 4)) k = bt s (i + k) := fun k hk => bt_ext s i (i + 4) k (by omega) hi
  have hd : ∀ k, k < (s.extract i (i + 4)).size → isD (s.extract i (i + 4)) k := fun k hk => by
    rw [e] at hk
    refine ⟨by omega, ?_⟩
    rw [b k hk]
    obtain rfl | rfl | rfl | rfl : k = 0 ∨ k = 1 ∨ k = 2 ∨ k = 3 := by omega
    · exact h1.2
    · exact h2.2
    · exact h3.2
    · exact h4.2
  have k := number_any (s.extract i (i + 4)) w (by omega) hd
  have q1 := h1.2
  have q2 := h2.2
  have q3 := h3.2
  have q4 := h4.2
  have b0 : bt (s.extract i (i + 4)) 0 = bt s i := b 0 (by omega)
  have b1 := b 1 (by omega)
  have b2 := b 2 (by omega)
  have b3 := b 3 (by omega)
  rw [e, show min (vl (s.extract i (i + 4)) 4) 9999 = d2 s i * 100 + d2 s (i + 2) by
    simp only [vl, b0, b1, b2, b3]
    unfold d2
    have e5 : bt s (i + 2 + 1) = bt s (i + 3) := rfl
    rw [e5]
    omega] at k
  exact k
end Go.Proofs.YtmfeckpcnofkhabDoor
