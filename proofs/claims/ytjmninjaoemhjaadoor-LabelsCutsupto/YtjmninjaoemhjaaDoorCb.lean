/- Labels: Compare on both sides, same. -/
import Derived.Test.YtjmninjaoemhjaaDoorCa
namespace Go.Proofs.YtjmninjaoemhjaaDoor
open Go.RowKit

theorem call41 (x y : ByteArray) (w : World) : (callFunc 100 #[.string x, .string y]).run Tryd.prog w = .ok (.value (.int .i64 (od x y))) w := by
  rw [run_callFunc_extern Tryd.func100 (e := Extern.BytealgCompare.compare) (by kernel_rfl) (by kernel_rfl) (by kernel_rfl) (by kernel_rfl), Lib.run_compareString]
  rfl
set_option maxHeartbeats 1000000 in
theorem compare_any (x y : ByteArray) (w : World) : Calls Tryd.prog 52 #[.string x, .string y] w fun e w' => e = .returned (.int .i64 (od x y)) ∧ w' = w := by
  have k : ∀ w, Calls Tryd.prog 71 #[.string x, .string y] w fun e w' => e = .returned (.int .i64 (od x y)) ∧ w' = w := fun w => by
    have hc := call41 x y w
    generalize od x y = C at *
    go_enter Tryd.func71, Tryd.ntmps71
    go_wp2
    go_ret
    exact ⟨rfl, rfl⟩
  generalize od x y = C at *
  go_enter Tryd.func52, Tryd.ntmps52
  go_wp2_with fail
  go_fit (k _)
  rintro e w1 ⟨rfl, rfl⟩
  clear k
  go_wp2
  go_ret
  exact ⟨rfl, rfl⟩
set_option maxHeartbeats 1000000 in
theorem order_any (x y : ByteArray) (w : World) : Calls Tryd.prog 67 #[.string x, .string y] w fun e w' => e = .returned (.int .i64 (od x y)) ∧ w' = w := by
  rcases od_cases x y with ⟨h1, h2, h3⟩ | ⟨h1, h2, h3⟩ | ⟨h1, h2, h3⟩
  · rw [h1]
    go_enter Tryd.func67, Tryd.ntmps67
    go_wp2
    go_ret
    exact ⟨rfl, rfl⟩
  · rw [h1]
    go_enter Tryd.func67, Tryd.ntmps67
    go_wp2
    go_ret
    exact ⟨rfl, rfl⟩
  · rw [h1]
    go_enter Tryd.func67, Tryd.ntmps67
    go_wp2
    go_ret
    exact ⟨rfl, rfl⟩

abbrev lbV (x : Lb) : Value := .agg #[.string x.1, .string x.2]
abbrev lbX (x : Lb) : Obj := .cells #[.string x.1, .string x.2] 26
set_option maxHeartbeats 1000000 in
theorem or_two (g : Nat) (c d : Int) (w : World) (h0 : w.cell? ⟨g, 0, none⟩ = some (.int .i64 c)) (h1 : w.cell? ⟨g, 1, none⟩ = some (.int .i64 d)) :
    Calls Tryd.prog 51 #[.slice (some ⟨g, 0, none⟩) 2 2] w fun e w' => e = .returned (.int .i64 (if c = 0 then d else c)) ∧ w' = w := by
  go_enter Tryd.func51, Tryd.ntmps51
  go_wp2
  go_loopw [8] (fun t w' => ∃ i : Nat, t = .int .i64 (i : Int) ∧ i ≤ 2 ∧ (1 ≤ i → c = 0) ∧ (2 ≤ i → d = 0) ∧ w' = w) (fun t _ => 2 - (RowKit.intOf t).toNat)
  case atStart => exact ⟨0, rfl, by omega, by omega, by omega, rfl⟩
  case round =>
    obtain ⟨i, rfl, hi, hc, hd, rfl⟩ := hrel
    by_cases e0 : i = 0
    · subst e0
      by_cases c0 : c = 0
      · subst c0
        go_wp2
        exact ⟨⟨1, by go_num, by omega, fun _ => trivial, fun h => by omega, trivial⟩, by simp [RowKit.intOf]⟩
      · have c1 : (c != 0) = true := by simpa using c0
        go_wp2
        go_ret
        exact ⟨rfl, rfl⟩
    · have hc0 := hc (by omega)
      subst hc0
      by_cases e1 : i = 1
      · subst e1
        by_cases d0 : d = 0
        · subst d0
          go_wp2
          exact ⟨⟨2, by go_num, by omega, fun _ => trivial, fun _ => trivial, trivial⟩, by simp [RowKit.intOf]⟩
        · have d1 : (d != 0) = true := by simpa using d0
          go_wp2
          go_ret
          exact ⟨rfl, rfl⟩
      · obtain rfl : i = 2 := by omega
        have hd0 := hd (by omega)
        subst hd0
        go_wp2
        go_ret
        exact ⟨rfl, rfl⟩
end Go.Proofs.YtjmninjaoemhjaaDoor
