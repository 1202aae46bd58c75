/- The law's same and alive. -/
import Derived.Test.YtljnllenpdkccaaRp
namespace Go.Proofs.Ytljnllenpdkccaa
open Go.RowKit

theorem Small.bytes {xs : List Int} (h : Small 8 xs) : By xs := fun j hj => by
  obtain ⟨h1, h2⟩ := h j hj
  have h3 : xs.getD j 0 < 256 := by simpa using h2
  exact ⟨h1, by omega⟩
set_option maxHeartbeats 1000000 in
theorem same_any (a b : Option Addr) (c d : Nat) (xs ys : List Int) (w : World) (hx : Im w a xs) (hy : Im w b ys) (sx : Small 8 xs) (sy : Small 8 ys) :
    Calls Try.prog 8 #[.slice a xs.length c, .slice b ys.length d] w fun r w' => r = .returned (.bool (decide (xs = ys))) ∧ w' = w := by
  have h1 := conv_im w a c xs hx
  have h2 := conv_im w b d ys hy
  have he : decide (xs = ys) = ((strOfNums xs).toList == (strOfNums ys).toList) := by
    by_cases h : xs = ys
    · simp [h]
    · have : strOfNums xs ≠ strOfNums ys := fun h' => h (son_inj xs ys sx.bytes sy.bytes h')
      have h2 : (strOfNums xs).toList ≠ (strOfNums ys).toList := fun h3 => this (by
        rw [ByteArray.toList_eq, ByteArray.toList_eq] at h3
        exact ByteArray.ext (Array.ext' h3))
      simp [h, h2]
  rw [he]
  clear he
  go_enter Try.func8, Try.ntmps8
  go_wp2
  go_ret
  exact ⟨rfl, rfl⟩

theorem al_dec : dcl (nm ⟨#[90, 109, 57, 118]⟩) = [102, 111, 111] ∧ dce (nm ⟨#[90, 109, 57, 118]⟩) = 0 := by decide +kernel
theorem al_pack : pkL 258 ⟨#[120]⟩ = [0, 0, 0, 0, 0, 0, 1, 2, 120] ∧ pkE ⟨#[120]⟩ = 0 := by decide +kernel
theorem al_unp : upX [255, 255, 255, 255, 255, 255, 255, 254, 97] = -2 ∧ upE [255, 255, 255, 255, 255, 255, 255, 254, 97] = 0 ∧ upS [255, 255, 255, 255, 255, 255, 255, 254, 97] = ⟨#[97]⟩ := by decide +kernel
theorem al_enc : strOfNums (enc [251]) = ⟨#[45, 119]⟩ := by decide +kernel
theorem small_dec (f : Nat) (xs : List Int) (h : ∀ x ∈ xs, 0 ≤ x ∧ x < 2 ^ f) : Small f xs := fun j hj => by
  have := h (xs.getD j 0) (by simp [List.getD, hj])
  exact this

abbrev nine : Obj := .cells #[.int .u8 255, .int .u8 255, .int .u8 255, .int .u8 255, .int .u8 255, .int .u8 255, .int .u8 255, .int .u8 254, .int .u8 97] 5
theorem al_mid {w w1 w2 w3 : World} {a1 : Option Addr} {c1 : Nat} (i1 : Im w1 a1 [102, 111, 111]) (b1 : Below w.heap.size w w1) (b2 : Below w1.heap.size w1 w2) (b3 : Below (w2.alloc nine).heap.size (w2.alloc nine) w3) :
    (convert 24 9 (.slice a1 3 c1)).run Try.prog (w3.alloc (.cells #[.int .i64 (-2), .string ⟨#[97]⟩] 23)) = .ok (.string ⟨#[102, 111, 111]⟩) (w3.alloc (.cells #[.int .i64 (-2), .string ⟨#[97]⟩] 23)) ∧ Below w.heap.size w (w3.alloc (.cells #[.int .i64 (-2), .string ⟨#[97]⟩] 23)) := by
  have h2 : Below w2.heap.size w2 w3 := ((Below.refl w2.heap.size w2).alloc (Nat.le_refl _) nine).trans (b3.mono (by simp))
  have h4 : Below w1.heap.size w1 (w3.alloc (.cells #[.int .i64 (-2), .string ⟨#[97]⟩] 23)) := (b2.trans (h2.mono b2.size)).alloc (Nat.le_trans b2.size h2.size) _
  exact ⟨conv_im _ a1 c1 [102, 111, 111] (i1.below h4), b1.trans (h4.mono b1.size)⟩
theorem al_end {w w1 w2 w3 w5 : World} {a2 : Option Addr} (i2 : Im w2 a2 [0, 0, 0, 0, 0, 0, 1, 2, 120]) (b1 : Below w.heap.size w w1) (b2 : Below w1.heap.size w1 w2) (b3 : Below (w2.alloc nine).heap.size (w2.alloc nine) w3)
    (b5 : Below ((w3.alloc (.cells #[.int .i64 (-2), .string ⟨#[97]⟩] 23)).alloc (.cells #[.int .u8 251] 5)).heap.size ((w3.alloc (.cells #[.int .i64 (-2), .string ⟨#[97]⟩] 23)).alloc (.cells #[.int .u8 251] 5)) w5) :
    (convert 24 9 (.slice a2 9 9)).run Try.prog w5 = .ok (.string ⟨#[0, 0, 0, 0, 0, 0, 1, 2, 120]⟩) w5 ∧ w5.cell? ⟨w3.heap.size, 0, none⟩ = some (.int .i64 (-2)) ∧ w5.cell? ⟨w3.heap.size, 1, none⟩ = some (.string ⟨#[97]⟩) ∧ Below w.heap.size w w5 := by
  have h2 : Below w2.heap.size w2 w3 := ((Below.refl w2.heap.size w2).alloc (Nat.le_refl _) nine).trans (b3.mono (by simp))
  have h4 : Below w3.heap.size w3 w5 := (((Below.refl w3.heap.size w3).alloc (Nat.le_refl _) (.cells #[.int .i64 (-2), .string ⟨#[97]⟩] 23)).alloc (by simp) (.cells #[.int .u8 251] 5)).trans (b5.mono (by simp; omega))
  have h5 := h2.trans (h4.mono h2.size)
  have h6 : w5.heap[w3.heap.size]? = some (.cells #[.int .i64 (-2), .string ⟨#[97]⟩] 23) := by
    rw [b5.block w3.heap.size (by simp; omega), heap_alloc_old _ _ (by simp)]
    exact heap_alloc_new w3 _
  refine ⟨conv_im _ a2 9 [0, 0, 0, 0, 0, 0, 1, 2, 120] (i2.below h5), ?_, ?_, b1.trans ((b2.trans (h5.mono b2.size)).mono b1.size)⟩
  · rw [cell_of_row w5 _ 0 _ 23 (0, 0) h6]; rfl
  · rw [cell_of_row w5 _ 1 _ 23 (0, 0) h6]; rfl

set_option maxHeartbeats 2000000 in
set_option maxRecDepth 100000 in
theorem alive_any (w : World) : Calls Try.prog 5 #[] w fun r w' => r = .returned (.bool true) ∧ Below w.heap.size w w' := by
  have kd := decode_any ⟨#[90, 109, 57, 118]⟩ w (by decide)
  rw [al_dec.1, al_dec.2] at kd
  have kp := fun w' => pack_any 258 ⟨#[120]⟩ w' (by decide)
  rw [al_pack.1, al_pack.2] at kp
  have ku : Hid (∀ W : World, Calls Try.prog 10 #[.slice (some ⟨W.heap.size, 0, none⟩) 9 9] (W.alloc (.cells #[.int .u8 255, .int .u8 255, .int .u8 255, .int .u8 255, .int .u8 255, .int .u8 255, .int .u8 255, .int .u8 254, .int .u8 97] 5)) fun r w' => r = .returned (.tuple #[.agg #[.int .i64 (-2), .string ⟨#[97]⟩], .int .i64 0]) ∧ Below (W.alloc (.cells #[.int .u8 255, .int .u8 255, .int .u8 255, .int .u8 255, .int .u8 255, .int .u8 255, .int .u8 255, .int .u8 254, .int .u8 97] 5)).heap.size (W.alloc (.cells #[.int .u8 255, .int .u8 255, .int .u8 255, .int .u8 255, .int .u8 255, .int .u8 255, .int .u8 255, .int .u8 254, .int .u8 97] 5)) w') := fun W => by
    have l : Lies (W.alloc (.cells #[.int .u8 255, .int .u8 255, .int .u8 255, .int .u8 255, .int .u8 255, .int .u8 255, .int .u8 255, .int .u8 254, .int .u8 97] 5)) W.heap.size [255, 255, 255, 255, 255, 255, 255, 254, 97] := heap_alloc_new W _
    have := unpack_any (some ⟨W.heap.size, 0, none⟩) 9 [255, 255, 255, 255, 255, 255, 255, 254, 97] _ (l.im 9) (small_dec 8 _ (by decide)) (by decide) (by decide)
    rw [al_unp.1, al_unp.2.1, al_unp.2.2] at this
    exact this
  have ke : Hid (∀ W : World, Calls Try.prog 12 #[.slice (some ⟨W.heap.size, 0, none⟩) 1 1] (W.alloc (.cells #[.int .u8 251] 5)) fun r w' => r = .returned (.string ⟨#[45, 119]⟩) ∧ Below (W.alloc (.cells #[.int .u8 251] 5)).heap.size (W.alloc (.cells #[.int .u8 251] 5)) w') := fun W => by
    have l : Lies (W.alloc (.cells #[.int .u8 251] 5)) W.heap.size [251] := heap_alloc_new W _
    have := encode_any (some ⟨W.heap.size, 0, none⟩) 1 [251] _ (l.im 1) (small_dec 8 _ (by decide)) (by decide)
    rw [al_enc] at this
    exact this
  go_enter Try.func5, Try.ntmps5
  go_wp2_with (first
    | (go_at_call 13; go_fit kd; rintro x w1 ⟨a1, c1, rfl, i1, b1⟩)
    | (go_at_call 6; go_fit (kp _); rintro x w2 ⟨a2, rfl, i2, b2⟩; have ku2 := ku.out w2)
    | (go_at_call 10; go_fit ku2; rintro x w3 ⟨rfl, b3⟩; obtain ⟨cv1, B4⟩ := al_mid (c1 := c1) i1 b1 b2 b3; have ke4 := ke.out (w3.alloc (.cells #[.int .i64 (-2), .string ⟨#[97]⟩] 23)); rw [show (w3.alloc (.cells #[.int .i64 (-2), .string ⟨#[97]⟩] 23)).heap.size = w3.heap.size + 1 by simp] at ke4)
    | (go_at_call 12; go_fit ke4; rintro x w5 ⟨rfl, b5⟩; obtain ⟨cv2, q0, q1, B5⟩ := al_end i2 b1 b2 b3 b5))
  go_ret
  exact ⟨rfl, B5⟩
end Go.Proofs.Ytljnllenpdkccaa
