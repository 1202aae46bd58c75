
/- A pile of strings: Pop. -/
import Derived.Test.YtcgpjmpppajfdaaWh
namespace Go.Proofs.Ytcgpjmpppajfdaa.Ws
open Go.RowKit

theorem field_rk (x : ByteArray) (z : Int) (w : World) : (Instr.field 92 (.agg #[.string x, .int .i64 z]) 0).run Try.prog w = .ok (.string x) w := by kernel_rfl
theorem ppop_none (b bx m : Nat) (lv v : Value) (f : Nat → Wk) (w : World) (h : Pl w b bx lv v 0 f m) :
    Calls Try.prog 67 #[.pointer (some ⟨b, 0, none⟩)] w fun r w' => r = .returned (.tuple #[iv ⟨#[]⟩, .bool false]) ∧ Below w.heap.size w w' := by
  have kL := len_any b bx 0 m lv v f _ h
  clear h
  go_enter Try.func67, Try.ntmps67
  go_wp2_with fail
  refine kL.mono ?_
  rintro r w2 ⟨rfl, rfl⟩
  go_wp2
  refine bodyPost_ret (results_tmp2 rfl _ _ _) rfl ?_
  exact ⟨rfl, Below.refl _ _⟩

set_option maxHeartbeats 1000000 in
set_option maxRecDepth 100000 in
theorem ppop_some (A : Wk → Wk → Bool) (b bx g c p m : Nat) (lv : Value) (f : Nat → Wk) (w : World) (hA : AhC lv A) (h : Pl w b bx lv (.slice (some ⟨g, 0, none⟩) (p + 1) c) (p + 1) f m) (hn : p + 1 ≤ 1152921504606846976) :
    Calls Try.prog 67 #[.pointer (some ⟨b, 0, none⟩)] w fun r w' => r = .returned (.tuple #[iv (f 0).1, .bool true]) ∧ Pl w' b bx lv (.slice (some ⟨g, 0, none⟩) p c) p (sinkF A p (up f 0 (f p)) 0) m ∧ Kp (fun k => k = b ∨ k = g) w w' := by
  have kL := len_any b bx (p + 1) m lv _ f _ h
  have kP := pop_any A b bx g c p lv f _ hA h.hp hn
  obtain ⟨⟨xs, xr⟩, hx⟩ : ∃ x, f 0 = x := ⟨_, rfl⟩
  have HS : Hid (∀ w3, Fld b w w3 → Hp w3 b bx lv (.slice (some ⟨g, 0, none⟩) p c) p (sinkF A p (up f 0 (f p)) 0) → Pl w3 b bx lv (.slice (some ⟨g, 0, none⟩) p c) p (sinkF A p (up f 0 (f p)) 0) m) := fun w3 fl o3 => by
    obtain ⟨q3, z3⟩ := fl 2 _ (by decide) h.cm h.fm
    exact Pl.mk o3 q3 z3
  rw [hx] at kP ⊢
  dsimp only at kP ⊢
  generalize sinkF A p (up f 0 (f p)) 0 = FF at *
  clear h hx
  go_enter Try.func67, Try.ntmps67
  go_wp2_with fail
  refine kL.mono ?_
  rintro r w2 ⟨rfl, rfl⟩
  go_wp2_with fail
  refine kP.mono ?_
  rintro r w3 ⟨er, o3, k3, fl⟩
  have er : r = .returned (.agg #[.string xs, .int .i64 xr]) := er
  subst er
  have hfd := field_rk
  have O4 : Hid _ := HS.out w3 fl o3
  have K4 : Hid _ := k3
  clear o3 k3 fl HS kP kL
  go_wp2
  refine bodyPost_ret (results_tmp2 rfl _ _ _) rfl ?_
  exact ⟨rfl, O4.out, K4.out⟩
end Go.Proofs.Ytcgpjmpppajfdaa.Ws
