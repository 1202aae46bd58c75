/- Lists of bytes in memory; both sides' Equal. -/
import Derived.Test.YtnoicgjjckgpmaaRows
import Derived.WalkKit
import Derived.WalkSpells
import Derived.WalkLawsBesides
import Derived.Below
import Derived.Deep.DeepFit
import Derived.Laws.BytesArg
import Derived.OwnWalk
import Derived.Laws.CopyOwn
import Derived.Laws.IdiomCopy
import Derived.Laws.OwnMore
import Derived.Laws.MakeOwn
import Derived.Laws.BitsLemmas
import Derived.Laws.Closers25b
namespace Go.Proofs.Ytnoicgjjckgpmaa
open Go.RowKit

/-- The cells of a list of bytes. -/
def bc (l : List Int) : List Value := l.map (Value.int .u8)
theorem bc_len (l : List Int) : (bc l).length = l.length := by simp [bc]
theorem bc_app (l m : List Int) : bc (l ++ m) = bc l ++ bc m := by simp [bc]
theorem bc_one (l : List Int) : ∀ u ∈ bc l, u.oneCell' = true := by
  intro u hu
  obtain ⟨x, _, rfl⟩ := List.mem_map.1 hu
  rfl
theorem info5 : (Try.prog.info? 5).map (fun i => (i.zero, i.size, i.bytes)) = some (some (.int .u8 0), 1, 1) := by kernel_rfl

/-- Bytes in memory from a place on. -/
def At (w : World) (g o : Nat) (xs : List Int) : Prop := ∀ j, j < xs.length → w.cell? ⟨g, o + j, none⟩ = some (.int .u8 (xs.getD j 0))
/-- A slice's bytes. -/
def Im (w : World) (a : Option Addr) (xs : List Int) : Prop := xs = [] ∨ ∃ g o, a = some ⟨g, o, none⟩ ∧ g < w.heap.size ∧ At w g o xs
/-- They are bytes. -/
def By (xs : List Int) : Prop := ∀ j, j < xs.length → 0 ≤ xs.getD j 0 ∧ xs.getD j 0 ≤ 255

theorem Im.below {w w' : World} {a : Option Addr} {xs : List Int} (h : Im w a xs) (hb : Below w.heap.size w w') : Im w' a xs := by
  rcases h with h | ⟨g, o, rfl, hg, h⟩
  · exact .inl h
  · exact .inr ⟨g, o, rfl, Nat.lt_of_lt_of_le hg hb.size, fun j hj => (hb.cell (p := ⟨g, o + j, none⟩) hg).trans (h j hj)⟩

theorem or_u8 (a b : Int) (ha : 0 ≤ a ∧ a ≤ 255) (hb : 0 ≤ b ∧ b ≤ 255) : bits .or .u8 a b = 0 ↔ a = 0 ∧ b = 0 := by
  obtain ⟨m, rfl⟩ := Int.eq_ofNat_of_zero_le ha.1
  obtain ⟨n, rfl⟩ := Int.eq_ofNat_of_zero_le hb.1
  rw [(bits_nat .u8 8 (by decide) wraps_u8 m n (by omega) (by omega)).2]
  have h1 : m ≤ m ||| n := Nat.left_le_or
  have h2 : n ≤ m ||| n := Nat.right_le_or
  constructor
  · intro h
    omega
  · rintro ⟨h3, h4⟩
    obtain rfl : m = 0 := by omega
    obtain rfl : n = 0 := by omega
    rfl
theorem xor_u8 (a b : Int) (ha : 0 ≤ a ∧ a ≤ 255) (hb : 0 ≤ b ∧ b ≤ 255) : bits .xor .u8 a b = 0 ↔ a = b := by
  obtain ⟨m, rfl⟩ := Int.eq_ofNat_of_zero_le ha.1
  obtain ⟨n, rfl⟩ := Int.eq_ofNat_of_zero_le hb.1
  have e : bits .xor .u8 (m : Int) (n : Int) = ((m ^^^ n : Nat) : Int) := by
    have hx : m ^^^ n < 2 ^ 8 := Nat.xor_lt_two_pow (by omega) (by omega)
    have h1 : (BitVec.ofInt 8 (m : Int)).toNat = m := by
      rw [BitVec.ofInt_natCast, BitVec.toNat_ofNat]; exact Nat.mod_eq_of_lt (by omega)
    have h2 : (BitVec.ofInt 8 (n : Int)).toNat = n := by
      rw [BitVec.ofInt_natCast, BitVec.toNat_ofNat]; exact Nat.mod_eq_of_lt (by omega)
    show IntKind.u8.wrap ((BitVec.ofInt 8 (m : Int) ^^^ BitVec.ofInt 8 (n : Int)).toNat : Int) = _
    rw [BitVec.toNat_xor, h1, h2]
    exact wraps_u8 _ (Int.natCast_nonneg _) (by omega)
  rw [e]
  constructor
  · intro h
    have h0 : m ^^^ n = 0 := by omega
    have h1 : m ^^^ (m ^^^ n) = n := by rw [← Nat.xor_assoc, Nat.xor_self, Nat.zero_xor]
    rw [h0, Nat.xor_zero] at h1
    rw [h1]
  · intro h
    obtain rfl : m = n := by omega
    rw [Nat.xor_self]
    rfl

/-- The bits that two lists part in, up to a place. -/
def pt (xs ys : List Int) : Nat → Int
  | 0 => 0
  | k + 1 => bits .or .u8 (pt xs ys k) (bits .xor .u8 (xs.getD k 0) (ys.getD k 0))

theorem pt_bd (xs ys : List Int) : ∀ k, 0 ≤ pt xs ys k ∧ pt xs ys k ≤ 255
  | 0 => by simp [pt]
  | k + 1 => ⟨bits_lo_u8 _ _ _, bits_hi_u8 _ _ _⟩

theorem pt_iff (xs ys : List Int) (hx : By xs) (hy : By ys) (h : xs.length = ys.length) : ∀ k, k ≤ xs.length → (pt xs ys k = 0 ↔ xs.take k = ys.take k)
  | 0, _ => by simp [pt]
  | k + 1, hk => by
    have ih := pt_iff xs ys hx hy h k (by omega)
    have h1 := hx k (by omega)
    have h2 := hy k (by omega)
    have e1 : xs.take (k + 1) = xs.take k ++ [xs.getD k 0] := by
      rw [List.take_add_one]
      simp [List.getD, List.getElem?_eq_getElem (show k < xs.length by omega)]
    have e2 : ys.take (k + 1) = ys.take k ++ [ys.getD k 0] := by
      rw [List.take_add_one]
      simp [List.getD, List.getElem?_eq_getElem (show k < ys.length by omega)]
    rw [e1, e2, pt, or_u8 _ _ (pt_bd xs ys k) ⟨bits_lo_u8 _ _ _, bits_hi_u8 _ _ _⟩, xor_u8 _ _ h1 h2, ih]
    have hl : (xs.take k).length = (ys.take k).length := by simp [h]
    constructor
    · rintro ⟨h4, h5⟩
      rw [h4, h5]
    · intro h3
      obtain ⟨h4, h5⟩ := List.append_inj h3 hl
      exact ⟨h4, by simpa using h5⟩

theorem pt_eq (xs ys : List Int) (hx : By xs) (hy : By ys) (h : xs.length = ys.length) : (pt xs ys xs.length = 0 ↔ xs = ys) := by
  rw [pt_iff xs ys hx hy h xs.length (Nat.le_refl _), List.take_of_length_le (Nat.le_refl _), List.take_of_length_le (by omega)]

theorem conv_im (w : World) (a : Option Addr) (c : Nat) (xs : List Int) (h : Im w a xs) : (convert 24 9 (.slice a xs.length c)).run Try.prog w = .ok (.string (strOfNums xs)) w := by
  rcases h with rfl | ⟨g, o, rfl, _, h⟩
  · cases a with
    | none => 
      rw [show ([] : List Int).length = 0 from rfl]
      have := run_convert_bytes_nil (P := Try.prog) w 24 5 Try.underlying24 Try.underlying5 0 c 9 Try.underlying9
      rw [this]
      rfl
    | some x =>
      rw [run_convert_bytes_string w 24 9 5 _ _ c Try.underlying24 Try.underlying5 Try.underlying9]
      simp [Conv.bytesToString, loadCells, strOfNums]
      rfl
  · exact run_convert_bytes_arg (P := Try.prog) w 24 5 Try.underlying24 Try.underlying5 g o xs.length c xs rfl h 9 Try.underlying9

theorem son_inj (xs ys : List Int) (hx : By xs) (hy : By ys) (h : strOfNums xs = strOfNums ys) : xs = ys := by
  have h1 : xs.map (fun n => UInt8.ofNat n.toNat) = ys.map fun n => UInt8.ofNat n.toNat := by
    have := congrArg (fun b : ByteArray => b.data.toList) h
    simpa [strOfNums] using this
  have hl : xs.length = ys.length := by simpa using congrArg List.length h1
  refine List.ext_getElem hl fun i h2 h3 => ?_
  have h4 := congrArg (fun l : List UInt8 => l[i]?) h1
  simp only [List.getElem?_map, List.getElem?_eq_getElem h2, List.getElem?_eq_getElem h3, Option.map_some, Option.some.injEq] at h4
  have h5 := hx i h2
  have h6 := hy i h3
  simp only [List.getD, List.getElem?_eq_getElem h2, List.getElem?_eq_getElem h3, Option.getD_some] at h5 h6
  have h7 := congrArg UInt8.toNat h4
  simp only [UInt8.toNat_ofNat'] at h7
  omega

set_option maxHeartbeats 1000000 in
theorem requal_any (a b : Option Addr) (c d : Nat) (xs ys : List Int) (w : World) (hx : Im w a xs) (hy : Im w b ys) (bx : By xs) (by_ : By ys) :
    Calls Try.prog 8 #[.slice a xs.length c, .slice b ys.length d] w fun r w' => r = .returned (.bool (decide (xs = ys))) ∧ w' = w := by
  have h1 := conv_im w a c xs hx
  have h2 := conv_im w b d ys hy
  have he : decide (xs = ys) = ((strOfNums xs).toList == (strOfNums ys).toList) := by
    by_cases h : xs = ys
    · simp [h]
    · have : strOfNums xs ≠ strOfNums ys := fun h' => h (son_inj xs ys bx by_ h')
      have h2 : (strOfNums xs).toList ≠ (strOfNums ys).toList := fun h3 => this (by
        rw [ByteArray.toList_eq, ByteArray.toList_eq] at h3
        exact ByteArray.ext (Array.ext' h3))
      simp [h, h2]
  rw [he]
  clear he
  go_enter Try.func8, Try.ntmps8
  go_wp2
  go_ret
  exact ⟨rfl, rfl⟩

set_option maxHeartbeats 1000000 in
theorem equal_any (a b : Option Addr) (c d : Nat) (xs ys : List Int) (w : World) (hx : Im w a xs) (hy : Im w b ys) (bx : By xs) (by_ : By ys) (hn : xs.length ≤ 16777216) (hm : ys.length ≤ 16777216) :
    Calls Try.prog 4 #[.slice a xs.length c, .slice b ys.length d] w fun r w' => r = .returned (.bool (decide (xs = ys))) ∧ Below w.heap.size w w' := by
  by_cases hl : xs.length = ys.length
  · have hd : decide (xs = ys) = (pt xs ys xs.length == 0) := by
      have := pt_eq xs ys bx by_ hl
      by_cases h : xs = ys
      · simp [h, (pt_eq ys ys by_ by_ rfl).2 rfl]
      · have h2 : ¬ pt xs ys xs.length = 0 := fun h' => h (this.1 h')
        simp [h, h2]
    rw [hd]
    have HX : Hid (∀ j, j < xs.length → ∃ g o, a = some ⟨g, o, none⟩ ∧ g < w.heap.size ∧ w.cell? ⟨g, o + j, none⟩ = some (.int .u8 (xs.getD j 0))) := fun j hj => by
      rcases hx with rfl | ⟨g, o, h1, hg, h2⟩
      · simp at hj
      · exact ⟨g, o, h1, hg, h2 j hj⟩
    have HY : Hid (∀ j, j < xs.length → ∃ g o, b = some ⟨g, o, none⟩ ∧ g < w.heap.size ∧ w.cell? ⟨g, o + j, none⟩ = some (.int .u8 (ys.getD j 0))) := fun j hj => by
      rcases hy with rfl | ⟨g, o, h1, hg, h2⟩
      · rw [hl] at hj; simp at hj
      · exact ⟨g, o, h1, hg, h2 j (by omega)⟩
    have HB : Hid (∀ j, j < xs.length → (0 ≤ xs.getD j 0 ∧ xs.getD j 0 ≤ 255) ∧ (0 ≤ ys.getD j 0 ∧ ys.getD j 0 ≤ 255) ∧ 0 ≤ pt xs ys j ∧ pt xs ys j ≤ 255) := fun j hj => ⟨bx j hj, by_ j (by omega), pt_bd xs ys j⟩
    rw [← hl]
    clear hd hm hl hx hy bx by_
    have hP : Hid (∀ j, pt xs ys (j + 1) = bits .or .u8 (pt xs ys j) (bits .xor .u8 (xs.getD j 0) (ys.getD j 0))) := fun j => rfl
    have hP0 : Hid (pt xs ys 0 = 0) := rfl
    generalize xs.length = n at *
    have hni : (n : Int) ≤ 16777216 := by omega
    generalize pt xs ys = p at *
    go_enter Try.func4, Try.ntmps4
    go_wp2
    go_loopw [5, 14] (fun q t w' => ∃ j : Nat, t = .int .i64 (j : Int) ∧ q = .int .u8 (p j) ∧ j ≤ n ∧ Below w.heap.size w w') (fun _ t _ => n - (RowKit.intOf t).toNat)
    case atStart => exact ⟨0, rfl, by rw [hP0.out], by omega, Below.refl _ _⟩
    case round =>
      obtain ⟨j, rfl, rfl, hj, hbw⟩ := hrel
      by_cases hlt : j < n
      · obtain ⟨g, o, rfl, hg1, c1'⟩ := HX.out j hlt
        obtain ⟨g', o', rfl, hg2, c2'⟩ := HY.out j hlt
        have c1 := (hbw.cell (p := ⟨g, o + j, none⟩) hg1).trans c1'
        have c2 := (hbw.cell (p := ⟨g', o' + j, none⟩) hg2).trans c2'
        clear c1' c2'
        obtain ⟨⟨u0, u1⟩, ⟨v0, v1⟩, q0, q1⟩ := HB.out j hlt
        have HE : Hid (_ = _) := hP.out j
        have hji : (j : Int) < n := by omega
        generalize xs.getD j 0 = x at *
        generalize ys.getD j 0 = y at *
        go_wp2_with fail
        go_region
        go_wp2
        exact ⟨⟨j + 1, by go_num, by rw [HE.out], by omega, hbw.drew⟩, by simp [RowKit.intOf]; omega⟩
      · have hji : ¬ (j : Int) < n := by omega
        obtain rfl : j = n := by omega
        go_wp2
        go_ret
        exact ⟨rfl, hbw⟩
  · have hd : decide (xs = ys) = false := by
      have : xs ≠ ys := fun h => hl (by rw [h])
      simp [this]
    rw [hd]
    clear hd
    generalize xs.length = n at *
    generalize ys.length = m at *
    have hl' : ¬ (n : Int) = m := by omega
    go_enter Try.func4, Try.ntmps4
    go_wp2
    go_ret
    exact ⟨rfl, Below.refl _ _⟩
end Go.Proofs.Ytnoicgjjckgpmaa
