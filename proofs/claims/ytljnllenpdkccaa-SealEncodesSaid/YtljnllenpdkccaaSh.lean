/- strings.IndexByte at this program; a letter's value by it. -/
import Derived.Shelf.Small.Strs
import Derived.Test.YtljnllenpdkccaaBm
namespace Go.Proofs
open Go.Shelf Go.RowKit Go.Lib
def Try.lays137_ren : Go.Shelf.Ren := ⟨fun | 137 => 21 | 217 => 23 | 266 => 24 | n => n, fun | 9 => 9 | 5 => 5 | 3 => 3 | n => n, fun | n => n⟩
theorem Try.lays137 : Go.Proofs.Lays.n137 Try.prog Try.lays137_ren := {
  mixed := by kernel_rfl
  f137 := Try.func21.trans (congrArg some (by kernel_rfl))
  f217 := Try.func23.trans (congrArg some (by kernel_rfl))
  f266 := Try.func24.trans (congrArg some (by kernel_rfl))
  t3 := Try.underlying3
  a3 := Try.isAgg3
  z3 := Try.sizeOf3
  v3 := Try.zeroValue3
  t5 := Try.underlying5
  a5 := Try.isAgg5
  z5 := Try.sizeOf5
  v5 := Try.zeroValue5
  t9 := Try.underlying9
  a9 := Try.isAgg9
  z9 := Try.sizeOf9
  v9 := Try.zeroValue9 }
theorem Try.strings_IndexByte (s : ByteArray) (c : Int) (w : World) :
    Calls Try.prog 21 #[.string s, .int .u8 c] w fun e w' => e = .returned (.int .i64 (Lib.indexByte s.data.toList c.toNat.toUInt8)) ∧ w' = w := Any.strings_IndexByte Try.lays137 s c w
namespace Ytljnllenpdkccaa
/-- The alphabet. -/
abbrev alph : ByteArray := ⟨#[65, 66, 67, 68, 69, 70, 71, 72, 73, 74, 75, 76, 77, 78, 79, 80, 81, 82, 83, 84, 85, 86, 87, 88, 89, 90, 97, 98, 99, 100, 101, 102, 103, 104, 105, 106, 107, 108, 109, 110, 111, 112, 113, 114, 115, 116, 117, 118, 119, 120, 121, 122, 48, 49, 50, 51, 52, 53, 54, 55, 56, 57, 45, 95]⟩
theorem index_fin : ∀ c : Fin 256, Lib.indexByte alph.data.toList (UInt8.ofNat c.val) = vf (c.val : Int) := by decide +kernel
theorem index_alph (c : UInt8) (w : World) : Calls Try.prog 21 #[.string alph, .int .u8 c.toNat] w fun e w' => e = .returned (.int .i64 (vf (c.toNat : Int))) ∧ w' = w := by
  refine (Try.strings_IndexByte alph c.toNat w).mono ?_
  rintro e w' ⟨rfl, rfl⟩
  have := index_fin ⟨c.toNat, c.toNat_lt⟩
  simp only at this
  refine ⟨?_, rfl⟩
  rw [Int.toNat_natCast, show c.toNat.toUInt8 = UInt8.ofNat c.toNat from rfl, this]
theorem alph_fin : ∀ v : Fin 64, ((alph[v.val]'(by have := v.isLt; show v.val < 64; exact this)).toNat : Int) = lt (v.val : Int) := by decide +kernel
theorem alph_at (k : Nat) (h : k < 64) : ((alph[k]'(by show k < 64; exact h)).toNat : Int) = lt (k : Int) := alph_fin ⟨k, h⟩
end Ytljnllenpdkccaa
end Go.Proofs
