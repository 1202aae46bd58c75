/- The bytes of a date's text, and what the program reads there. -/
import Derived.Test.YtmfeckpcnofkhabDoorOfB
import Derived.Test.YtmfeckpcnofkhabDoorStN
import Derived.Test.YtmfeckpcnofkhabDoorStM
import Derived.Test.YtmfeckpcnofkhabDoorStE
namespace Go.Proofs.YtmfeckpcnofkhabDoor
open Go.RowKit Go.Lib

theorem bt_mk (l : List UInt8) (i : Nat) (h : i < l.length) : bt (mk l) i = ((l.getD i 0).toNat : Int) := by
  rw [← bt_at (mk l) i (by rw [mk_size]; exact h)]
  simp only [List.getD, List.getElem?_eq_getElem h, Option.getD_some]
  rfl
theorem u8v (n : Nat) (h : n ≤ 9) : ((UInt8.ofNat (48 + n)).toNat : Int) = 48 + (n : Int) := by
  rw [UInt8.toNat_ofNat']
  omega
theorem ext_mk (a b : List UInt8) : (mk (a ++ b)).extract a.length (mk (a ++ b)).size = mk b := by
  have hz : (mk (a ++ b)).size = a.length + b.length := by rw [mk_size, List.length_append]
  refine ba_ext (by rw [ByteArray.size_extract, hz, mk_size]; omega) (fun i hi => ?_)
  rw [ByteArray.size_extract, hz] at hi
  rw [bt_extract, bt_mk _ _ (by rw [List.length_append]; omega), bt_mk _ _ (by omega)]
  congr 2
  simp only [List.getD]
  rw [List.getElem?_append_right (by omega), Nat.add_sub_cancel_left]
theorem pre_mk (a b : List UInt8) : (mk (a ++ b)).extract 0 a.length = mk a := by
  have hz : (mk (a ++ b)).size = a.length + b.length := by rw [mk_size, List.length_append]
  refine ba_ext (by rw [ByteArray.size_extract, hz, mk_size]; omega) (fun i hi => ?_)
  rw [ByteArray.size_extract, hz] at hi
  rw [bt_ext _ 0 _ i (by omega) (by omega), Nat.zero_add, bt_mk _ _ (by rw [List.length_append]; omega), bt_mk _ _ (by omega)]
  congr 2
  simp only [List.getD]
  rw [List.getElem?_append_left (by omega)]

section
variable (Y M D h mi s : Nat) (r : List UInt8)
theorem dt_len : (dt19 Y M D h mi s).length = 19 := rfl
theorem dt_lt (i : Nat) (hi : i < 19) : i < (dt19 Y M D h mi s ++ r).length := by rw [List.length_append, dt_len]; omega
theorem at0 (g : Y < 10000) : bt (mk (dt19 Y M D h mi s ++ r)) 0 = 48 + ((Y / 1000 : Nat) : Int) := by
  rw [bt_mk _ _ (dt_lt Y M D h mi s r 0 (by omega))]
  show ((UInt8.ofNat (48 + Y / 1000)).toNat : Int) = _
  exact u8v _ (by omega)
theorem at1 : bt (mk (dt19 Y M D h mi s ++ r)) 1 = 48 + ((Y / 100 % 10 : Nat) : Int) := by
  rw [bt_mk _ _ (dt_lt Y M D h mi s r 1 (by omega))]
  show ((UInt8.ofNat (48 + Y / 100 % 10)).toNat : Int) = _
  exact u8v _ (by omega)
theorem at2 : bt (mk (dt19 Y M D h mi s ++ r)) 2 = 48 + ((Y / 10 % 10 : Nat) : Int) := by
  rw [bt_mk _ _ (dt_lt Y M D h mi s r 2 (by omega))]
  show ((UInt8.ofNat (48 + Y / 10 % 10)).toNat : Int) = _
  exact u8v _ (by omega)
theorem at3 : bt (mk (dt19 Y M D h mi s ++ r)) 3 = 48 + ((Y % 10 : Nat) : Int) := by
  rw [bt_mk _ _ (dt_lt Y M D h mi s r 3 (by omega))]
  show ((UInt8.ofNat (48 + Y % 10)).toNat : Int) = _
  exact u8v _ (by omega)
theorem at4 : bt (mk (dt19 Y M D h mi s ++ r)) 4 = 45 := by rw [bt_mk _ _ (dt_lt Y M D h mi s r 4 (by omega))]; rfl
theorem at5 (g : M < 100) : bt (mk (dt19 Y M D h mi s ++ r)) 5 = 48 + ((M / 10 : Nat) : Int) := by
  rw [bt_mk _ _ (dt_lt Y M D h mi s r 5 (by omega))]
  show ((UInt8.ofNat (48 + M / 10)).toNat : Int) = _
  exact u8v _ (by omega)
theorem at6 : bt (mk (dt19 Y M D h mi s ++ r)) 6 = 48 + ((M % 10 : Nat) : Int) := by
  rw [bt_mk _ _ (dt_lt Y M D h mi s r 6 (by omega))]
  show ((UInt8.ofNat (48 + M % 10)).toNat : Int) = _
  exact u8v _ (by omega)
theorem at7 : bt (mk (dt19 Y M D h mi s ++ r)) 7 = 45 := by rw [bt_mk _ _ (dt_lt Y M D h mi s r 7 (by omega))]; rfl
theorem at8 (g : D < 100) : bt (mk (dt19 Y M D h mi s ++ r)) 8 = 48 + ((D / 10 : Nat) : Int) := by
  rw [bt_mk _ _ (dt_lt Y M D h mi s r 8 (by omega))]
  show ((UInt8.ofNat (48 + D / 10)).toNat : Int) = _
  exact u8v _ (by omega)
theorem at9 : bt (mk (dt19 Y M D h mi s ++ r)) 9 = 48 + ((D % 10 : Nat) : Int) := by
  rw [bt_mk _ _ (dt_lt Y M D h mi s r 9 (by omega))]
  show ((UInt8.ofNat (48 + D % 10)).toNat : Int) = _
  exact u8v _ (by omega)
theorem at10 : bt (mk (dt19 Y M D h mi s ++ r)) 10 = 84 := by rw [bt_mk _ _ (dt_lt Y M D h mi s r 10 (by omega))]; rfl
theorem at11 (g : h < 100) : bt (mk (dt19 Y M D h mi s ++ r)) 11 = 48 + ((h / 10 : Nat) : Int) := by
  rw [bt_mk _ _ (dt_lt Y M D h mi s r 11 (by omega))]
  show ((UInt8.ofNat (48 + h / 10)).toNat : Int) = _
  exact u8v _ (by omega)
theorem at12 : bt (mk (dt19 Y M D h mi s ++ r)) 12 = 48 + ((h % 10 : Nat) : Int) := by
  rw [bt_mk _ _ (dt_lt Y M D h mi s r 12 (by omega))]
  show ((UInt8.ofNat (48 + h % 10)).toNat : Int) = _
  exact u8v _ (by omega)
theorem at13 : bt (mk (dt19 Y M D h mi s ++ r)) 13 = 58 := by rw [bt_mk _ _ (dt_lt Y M D h mi s r 13 (by omega))]; rfl
theorem at14 (g : mi < 100) : bt (mk (dt19 Y M D h mi s ++ r)) 14 = 48 + ((mi / 10 : Nat) : Int) := by
  rw [bt_mk _ _ (dt_lt Y M D h mi s r 14 (by omega))]
  show ((UInt8.ofNat (48 + mi / 10)).toNat : Int) = _
  exact u8v _ (by omega)
theorem at15 : bt (mk (dt19 Y M D h mi s ++ r)) 15 = 48 + ((mi % 10 : Nat) : Int) := by
  rw [bt_mk _ _ (dt_lt Y M D h mi s r 15 (by omega))]
  show ((UInt8.ofNat (48 + mi % 10)).toNat : Int) = _
  exact u8v _ (by omega)
theorem at16 : bt (mk (dt19 Y M D h mi s ++ r)) 16 = 58 := by rw [bt_mk _ _ (dt_lt Y M D h mi s r 16 (by omega))]; rfl
theorem at17 (g : s < 100) : bt (mk (dt19 Y M D h mi s ++ r)) 17 = 48 + ((s / 10 : Nat) : Int) := by
  rw [bt_mk _ _ (dt_lt Y M D h mi s r 17 (by omega))]
  show ((UInt8.ofNat (48 + s / 10)).toNat : Int) = _
  exact u8v _ (by omega)
theorem at18 : bt (mk (dt19 Y M D h mi s ++ r)) 18 = 48 + ((s % 10 : Nat) : Int) := by
  rw [bt_mk _ _ (dt_lt Y M D h mi s r 18 (by omega))]
  show ((UInt8.ofNat (48 + s % 10)).toNat : Int) = _
  exact u8v _ (by omega)
end
theorem digit_of {t : ByteArray} {j : Nat} {n : Nat} (hj : j < t.size) (h : bt t j = 48 + (n : Int)) (hn : n ≤ 9) : isD t j := ⟨hj, by omega, by omega⟩

/-- What is known of the head of a date's text. -/
structure Dh (t : ByteArray) (Y M D h mi s : Nat) : Prop where
  sz : 19 ≤ t.size
  dg : ∀ j, j = 0 ∨ j = 1 ∨ j = 2 ∨ j = 3 ∨ j = 5 ∨ j = 6 ∨ j = 8 ∨ j = 9 ∨ j = 11 ∨ j = 12 ∨ j = 14 ∨ j = 15 ∨ j = 17 ∨ j = 18 → isD t j
  b4 : bt t 4 = 45
  b7 : bt t 7 = 45
  b10 : bt t 10 = 84
  b13 : bt t 13 = 58
  b16 : bt t 16 = 58
  y : d2 t 0 * 100 + d2 t 2 = (Y : Int)
  m : d2 t 5 = (M : Int)
  d : d2 t 8 = (D : Int)
  hh : d2 t 11 = (h : Int)
  mm : d2 t 14 = (mi : Int)
  ss : d2 t 17 = (s : Int)
theorem dh_of (Y M D h mi s : Nat) (r : List UInt8) (g0 : Y < 10000) (g1 : M < 100) (g2 : D < 100) (g3 : h < 100) (g4 : mi < 100) (g5 : s < 100) : Dh (mk (dt19 Y M D h mi s ++ r)) Y M D h mi s := by
  have hz : 19 ≤ (mk (dt19 Y M D h mi s ++ r)).size := by rw [mk_size, List.length_append, dt_len]; omega
  have e0 := at0 Y M D h mi s r g0
  have e1 := at1 Y M D h mi s r
  have e2 := at2 Y M D h mi s r
  have e3 := at3 Y M D h mi s r
  have e4 := at4 Y M D h mi s r
  have e5 := at5 Y M D h mi s r g1
  have e6 := at6 Y M D h mi s r
  have e7 := at7 Y M D h mi s r
  have e8 := at8 Y M D h mi s r g2
  have e9 := at9 Y M D h mi s r
  have e10 := at10 Y M D h mi s r
  have e11 := at11 Y M D h mi s r g3
  have e12 := at12 Y M D h mi s r
  have e13 := at13 Y M D h mi s r
  have e14 := at14 Y M D h mi s r g4
  have e15 := at15 Y M D h mi s r
  have e16 := at16 Y M D h mi s r
  have e17 := at17 Y M D h mi s r g5
  have e18 := at18 Y M D h mi s r
  refine ⟨hz, fun j hj => ?_, e4, e7, e10, e13, e16, ?_, ?_, ?_, ?_, ?_, ?_⟩
  · rcases hj with rfl | rfl | rfl | rfl | rfl | rfl | rfl | rfl | rfl | rfl | rfl | rfl | rfl | rfl
    · exact digit_of (by omega) e0 (by omega)
    · exact digit_of (by omega) e1 (by omega)
    · exact digit_of (by omega) e2 (by omega)
    · exact digit_of (by omega) e3 (by omega)
    · exact digit_of (by omega) e5 (by omega)
    · exact digit_of (by omega) e6 (by omega)
    · exact digit_of (by omega) e8 (by omega)
    · exact digit_of (by omega) e9 (by omega)
    · exact digit_of (by omega) e11 (by omega)
    · exact digit_of (by omega) e12 (by omega)
    · exact digit_of (by omega) e14 (by omega)
    · exact digit_of (by omega) e15 (by omega)
    · exact digit_of (by omega) e17 (by omega)
    · exact digit_of (by omega) e18 (by omega)
  · unfold d2; rw [e0, e1, e2, e3]; omega
  · unfold d2; rw [e5, e6]; omega
  · unfold d2; rw [e8, e9]; omega
  · unfold d2; rw [e11, e12]; omega
  · unfold d2; rw [e14, e15]; omega
  · unfold d2; rw [e17, e18]; omega
end Go.Proofs.YtmfeckpcnofkhabDoor
