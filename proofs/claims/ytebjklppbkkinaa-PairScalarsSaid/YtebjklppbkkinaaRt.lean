/- The reference's Turn and Beat. -/
import Derived.Test.YtebjklppbkkinaaTu
namespace Go.Proofs.Ytebjklppbkkinaa
open Go.RowKit

set_option maxHeartbeats 400000 in
theorem rbits_any (n : Int) (w : World) : Calls Try.prog 49 #[.int .u64 n] w fun r w' => r = .returned (.float .f64 n.toNat) ∧ w' = w := by
  have h3 := callFrom
  go_enter Try.func49, Try.ntmps49
  go_wp2
  go_ret
  exact ⟨rfl, rfl⟩
set_option maxHeartbeats 400000 in
theorem rhalf_any (w : World) : Calls Try.prog 68 #[] w fun r w' => r = .returned (.float .f64 4604544271217802189) ∧ w' = w := by
  have k1 := rbits_any 4604544271217802189
  go_enter Try.func68, Try.ntmps68
  go_wp2_with fail
  go_fit (k1 _)
  rintro r w ⟨rfl, rfl⟩
  go_wp2
  go_ret
  exact ⟨rfl, rfl⟩

abbrev coss : Array Value := #[.float .f64 4607182418800017408, .float .f64 4604544271217802189, .float .f64 0, .float .f64 13827916308072577997, .float .f64 13830554455654793216, .float .f64 13827916308072577997, .float .f64 0, .float .f64 4604544271217802189]
abbrev sins : Array Value := #[.float .f64 0, .float .f64 4604544271217802189, .float .f64 4607182418800017408, .float .f64 4604544271217802189, .float .f64 0, .float .f64 13827916308072577997, .float .f64 13830554455654793216, .float .f64 13827916308072577997]
theorem cos_at (k : Nat) (hk : k < 8) : coss[k]? = some (.float .f64 (cw k)) := by
  rcases (show k = 0 ∨ k = 1 ∨ k = 2 ∨ k = 3 ∨ k = 4 ∨ k = 5 ∨ k = 6 ∨ k = 7 by omega) with rfl | rfl | rfl | rfl | rfl | rfl | rfl | rfl <;> rfl
theorem sin_at (k : Nat) (hk : k < 8) : sins[k]? = some (.float .f64 (sw k)) := by
  rcases (show k = 0 ∨ k = 1 ∨ k = 2 ∨ k = 3 ∨ k = 4 ∨ k = 5 ∨ k = 6 ∨ k = 7 by omega) with rfl | rfl | rfl | rfl | rfl | rfl | rfl | rfl <;> rfl

end Go.Proofs.Ytebjklppbkkinaa
