/- Frames: the bits 0 ahead and behind; covers, size. -/
import Derived.Test.YtedlmjieclaojaaDoorCe
import Derived.Test.YtedlmjieclaojaaDoorSh
import Derived.Test.YtedlmjieclaojaaDoorFl
import Derived.Shelf.Spec.TrailingZeros
namespace Go.Proofs.YtedlmjieclaojaaDoor
open Go.RowKit

theorem bl_log (x : Nat) : ∀ f, x < f → 0 < x → x < 2 ^ 64 → Lib.bitLen x = x.log2 + 1 := by
  intro f
  induction f generalizing x with
  | zero => intro h; omega
  | succ f ih =>
    intro hf h0 h1
    rw [Lib.bitLen_half x (by omega) h1]
    by_cases h2 : x = 1
    · subst h2
      decide
    · rw [ih (x / 2) (by omega) (by omega) (by omega), Nat.log2_def x, if_pos (by omega)]
      omega
theorem lz_bl (x : Nat) (h0 : 0 < x) (h1 : x < 18446744073709551616) : (64 : Int) - (Lib.bitLen x : Nat) = (lz x : Nat) := by
  have h := bl_log x (x + 1) (by omega) h0 h1
  have h3 : x.log2 < 64 := (Nat.log2_lt (by omega)).2 h1
  unfold lz
  omega
theorem tzf_ctz : ∀ k x, tzf k x = Lib.ctzFrom k x
  | 0, _ => rfl
  | k + 1, x => by unfold tzf Lib.ctzFrom; rw [tzf_ctz k (x / 2)]
theorem tz_ctz (x : Nat) (h0 : x ≠ 0) : Lib.ctz 64 x = tz x := by
  unfold Lib.ctz tz
  rw [if_neg h0, tzf_ctz]
/-- The library's table lies in this world. -/
def Tab (w : World) : Prop := 2 < w.heap.size ∧ TabAt 2 Lib.deBruijn64tab w
theorem Tab.kp {M : Nat → Prop} {w w' : World} (h : Tab w) (k : Kp M w w') (hm : ¬ M 2) : Tab w' :=
  ⟨Nat.lt_of_lt_of_le h.1 k.size, fun j hj => k.cell (h.2 j hj) hm⟩
theorem Tab.below {w w' : World} (h : Tab w) (b : Below w.heap.size w w') : Tab w' := h.kp (M := fun _ => False) (Kp.of b) id

set_option maxHeartbeats 1000000 in
theorem tz_core (x k idx : Nat) (w : World) (hx0 : ((x : Int) == 0) = false)
    (key : IntKind.u64.wrap (bits BinOp.and IntKind.u64 (x : Int) (IntKind.u64.wrap (-(x : Int))) * 285870213051353865) / 288230376151711744 = (idx : Int))
    (hi : idx < 64) (hk : k < 64) (hcell : w.cell? ⟨2, idx, none⟩ = some (.int .u8 k)) :
    Calls Tryd.prog 56 #[.int .u64 x] w fun e w' => e = .returned (.int .i64 k) ∧ w' = w := by
  go_enter Tryd.func56, Tryd.ntmps56
  go_wp2_with (simp only [key])
  go_ret
  exact ⟨rfl, rfl⟩
theorem trailing_any (x : Nat) (h0 : 0 < x) (hx : x < 18446744073709551616) (w : World) (hT : Tab w) :
    Calls Tryd.prog 56 #[.int .u64 x] w fun e w' => e = .returned (.int .i64 (tz x : Nat)) ∧ w' = w := by
  have hx0 : x ≠ 0 := by omega
  obtain ⟨hlow, hk⟩ := Lib.lowest_bit 64 x hx0 hx
  obtain ⟨hi, htab⟩ := Lib.deBruijn64_at _ hk
  have hcell := hT.2 _ hi
  rw [htab] at hcell
  rw [← tz_ctz x hx0] at *
  exact tz_core x _ _ w (by simp; omega) (tz64_key x _ hx hx0 hlow) hi hk hcell
theorem leading_any (x : Nat) (h0 : 0 < x) (hx : x < 18446744073709551616) (w : World) : Calls Tryd.prog 55 #[.int .u64 (x : Nat)] w fun e w' => e = .returned (.int .i64 (lz x : Nat)) ∧ w' = w := by
  refine (Tryd.bits_LeadingZeros64 (x : Int) w (by omega) (by omega)).mono ?_
  rintro e w' ⟨rfl, rfl⟩
  rw [Int.toNat_natCast, lz_bl x h0 hx]
  exact ⟨rfl, rfl⟩

set_option maxHeartbeats 1000000 in
theorem frameOf_any (x : Nat) (h0 : 0 < x) (hx : x < 18446744073709551616) (w : World) (hT : Tab w) :
    Calls Tryd.prog 42 #[.int .u64 (x : Nat)] w fun e w' => e = .returned (.agg #[.int .i64 (lz x : Nat), .int .i64 ((64 - tz x : Nat) : Int)]) ∧ Below w.heap.size w w' := by
  have hl := (lz_spec x h0 hx).1
  have ht := (tz_spec x h0 hx).1
  have k1 := fun W => leading_any x h0 hx W
  have k2 := fun W hW => trailing_any x h0 hx W hW
  have HT : Hid (Tab w) := hT
  obtain ⟨X, hX⟩ : ∃ X : Int, X = (x : Nat) := ⟨_, rfl⟩
  have HE : Hid (((64 - tz x : Nat) : Int) = 64 - (tz x : Nat)) := by show _ = _; omega
  rw [HE.out]
  simp only [← hX] at k1 k2 ⊢
  generalize lz x = l at *
  generalize tz x = t at *
  clear hX hx h0 hT
  go_enter Tryd.func42, Tryd.ntmps42
  go_wp2_with (first | (go_at_call 55; go_fit (k1 _); rintro e w1 ⟨rfl, rfl⟩) | (go_at_call 56; go_fit (k2 _ (HT.out.below ((Below.refl _ _).alloc (Nat.le_refl _) _))); rintro e w1 ⟨rfl, rfl⟩))
  refine bodyPost_ret (v := .agg #[.int .i64 (l : Nat), .int .i64 (64 - (t : Nat) : Int)]) (by simp [results, Tryd.results42, go_sem]) rfl ⟨rfl, ?_⟩
  exact (Below.refl _ _).alloc (Nat.le_refl _) _
set_option maxHeartbeats 1000000 in
theorem covers_any (a b c d : Nat) (w : World) : Calls Tryd.prog 43 #[.agg #[.int .i64 (a : Nat), .int .i64 (b : Nat)], .agg #[.int .i64 (c : Nat), .int .i64 (d : Nat)]] w fun e w' => e = .returned (.bool (decide (a ≤ c) && decide (d ≤ b))) ∧ Below w.heap.size w w' := by
  have HB : Hid (Below w.heap.size w ((w.alloc (.cells #[.int .i64 (a : Nat), .int .i64 (b : Nat)] 66)).alloc (.cells #[.int .i64 (c : Nat), .int .i64 (d : Nat)] 66))) := ((Below.refl _ _).alloc (Nat.le_refl _) _).alloc (by simp) _
  by_cases h1 : a ≤ c
  · have h1' : (a : Int) ≤ (c : Int) := by omega
    have e : (decide (a ≤ c) && decide (d ≤ b)) = decide ((d : Int) ≤ (b : Int)) := by simp [h1]
    rw [e]
    clear h1 e
    go_enter Tryd.func43, Tryd.ntmps43
    go_wp2
    go_ret
    exact ⟨by simp, HB.out⟩
  · have h1' : ¬ (a : Int) ≤ (c : Int) := by omega
    have e : (decide (a ≤ c) && decide (d ≤ b)) = false := by simp [h1]
    rw [e]
    clear h1 e
    go_enter Tryd.func43, Tryd.ntmps43
    go_wp2
    go_ret
    exact ⟨rfl, HB.out⟩
set_option maxHeartbeats 1000000 in
theorem size_any (a b : Nat) (hab : a ≤ b) (hb : b ≤ 64) (w : World) : Calls Tryd.prog 44 #[.agg #[.int .i64 (a : Nat), .int .i64 (b : Nat)]] w fun e w' => e = .returned (.int .i64 ((b - a : Nat) : Int)) ∧ Below w.heap.size w w' := by
  have HB : Hid (Below w.heap.size w (w.alloc (.cells #[.int .i64 (a : Nat), .int .i64 (b : Nat)] 66))) := (Below.refl _ _).alloc (Nat.le_refl _) _
  have HE : Hid (((b - a : Nat) : Int) = (b : Nat) - (a : Nat)) := by show _ = _; omega
  rw [HE.out]
  go_enter Tryd.func44, Tryd.ntmps44
  go_wp2
  go_ret
  exact ⟨rfl, HB.out⟩

theorem callBits0 (args : Array Value) (w : World) : (callFunc 30 args).run Tryd.prog w = ((Extern.MathFloatBits.float64bits args).run Tryd.prog w).andThen fun v w' => .ok (.value v) w' :=
  run_callFunc_extern Tryd.func30 (by kernel_rfl) (by kernel_rfl) (by kernel_rfl) (by kernel_rfl) args w
theorem callBits (x : Nat) (w : World) : (callFunc 30 #[.float .f64 x]).run Tryd.prog w = .ok (.value (.int .u64 (x : Int))) w := by
  rw [callBits0]; rfl
theorem callFrom0 (args : Array Value) (w : World) : (callFunc 60 args).run Tryd.prog w = ((Extern.MathFloatBits.float64frombits args).run Tryd.prog w).andThen fun v w' => .ok (.value v) w' :=
  run_callFunc_extern Tryd.func60 (by kernel_rfl) (by kernel_rfl) (by kernel_rfl) (by kernel_rfl) args w
theorem callFrom (n : Int) (w : World) : (callFunc 60 #[.int .u64 n]).run Tryd.prog w = .ok (.value (.float .f64 n.toNat)) w := by
  rw [callFrom0]; rfl
theorem isNaN_any (x : Nat) (w : World) : Calls Tryd.prog 45 #[.float .f64 x] w fun r w' => r = .returned (.bool (nanB x)) ∧ w' = w := by
  have e := fo_self x
  cases h : nanB x
  · rw [h, if_neg (by decide)] at e
    go_enter Tryd.func45, Tryd.ntmps45
    go_wp2
    go_ret
    exact ⟨rfl, rfl⟩
  · rw [h, if_pos rfl] at e
    go_enter Tryd.func45, Tryd.ntmps45
    go_wp2
    go_ret
    exact ⟨rfl, rfl⟩
theorem cb_nan (x : Nat) : cb x = if nanB x = true then 9221120237041090561 else x := by
  rw [nanB_eq]
  unfold cb
  simp
set_option maxHeartbeats 400000 in
theorem bits_any (x : Nat) (w : World) : Calls Tryd.prog 35 #[.float .f64 x] w fun r w' => r = .returned (.int .u64 (cb x : Nat)) ∧ w' = w := by
  have k := isNaN_any x w
  have h1 := callBits x
  rw [cb_nan]
  cases h : nanB x
  · rw [h] at k
    rw [if_neg (by decide)]
    go_enter Tryd.func35, Tryd.ntmps35
    go_wp2_with fail
    go_fit k
    rintro r w1 ⟨rfl, rfl⟩
    go_wp2
    go_ret
    exact ⟨rfl, rfl⟩
  · rw [h] at k
    rw [if_pos rfl]
    go_enter Tryd.func35, Tryd.ntmps35
    go_wp2_with fail
    go_fit k
    rintro r w1 ⟨rfl, rfl⟩
    go_wp2
    go_ret
    exact ⟨rfl, rfl⟩
end Go.Proofs.YtedlmjieclaojaaDoor
