/- Pair: Scalars on both sides; alike. -/
import Derived.Test.YtebjklppbkkinaaSa3
namespace Go.Proofs.Ytebjklppbkkinaa
open Go.RowKit

theorem alike_c (a b : Nat) (h : cl a = cl b) (w : World) : Calls Try.prog 6 #[.float .f64 a, .float .f64 b] w fun r w' => r = .returned (.bool true) ∧ w' = w := by
  have h1 := callBits
  have ea := fo_self a
  have eb := fo_self b
  rcases alike_of h with ⟨ha, hb⟩ | rfl
  · rw [if_pos ha] at ea
    rw [if_pos hb] at eb
    go_enter Try.func6, Try.ntmps6
    go_wp2
    go_ret
    exact ⟨rfl, rfl⟩
  · by_cases ha : nanB a = true
    · rw [if_pos ha] at ea
      go_enter Try.func6, Try.ntmps6
      go_wp2
      go_ret
      exact ⟨rfl, rfl⟩
    · rw [if_neg ha] at ea
      go_enter Try.func6, Try.ntmps6
      go_wp2
      go_ret
      exact ⟨rfl, rfl⟩

/-- A number and an error. -/
def RN (w : World) (c : Option Nat) (e : Int) (r : Ending) (w' : World) : Prop := ∃ z, r = .returned (.tuple #[.float .f64 z, .int .i64 e]) ∧ Below w.heap.size w w' ∧ z < 18446744073709551616 ∧ cl z = c
theorem bcell {w w' : World} {g o : Nat} {v : Value} (b : Below w.heap.size w w') (h : w.cell? ⟨g, o, none⟩ = some v) (hg : g < w.heap.size) : w'.cell? ⟨g, o, none⟩ = some v := (b.cell (p := ⟨g, o, none⟩) hg).trans h
/-- An operation in a box. -/
abbrev opX (s : ByteArray) (q : Nat) (y : Bool) : Obj := .cells #[.string s, .int .i64 (q : Nat), .bool y] 32
def OpC (s : ByteArray) (q : Nat) (y : Bool) (B : Nat) (W : World) : Prop := W.cell? ⟨B, 0, none⟩ = some (.string s) ∧ W.cell? ⟨B, 1, none⟩ = some (.int .i64 (q : Nat)) ∧ W.cell? ⟨B, 2, none⟩ = some (.bool y)
theorem opC_new (s : ByteArray) (q : Nat) (y : Bool) (w : World) : ∀ W, Below (w.alloc (opX s q y)).heap.size (w.alloc (opX s q y)) W → OpC s q y w.heap.size W := fun W b => by
  have e0 : (w.alloc (opX s q y)).heap[w.heap.size]? = some (opX s q y) := heap_alloc_new w _
  have hb : w.heap.size < (w.alloc (opX s q y)).heap.size := by simp
  exact ⟨bcell b (by unfold World.cell?; rw [e0]; rfl) hb, bcell b (by unfold World.cell?; rw [e0]; rfl) hb, bcell b (by unfold World.cell?; rw [e0]; rfl) hb⟩

/-- What Scalars answers of a comparison. -/
def hdV (k x y : Nat) : Nat := if hdB k x y = true then 4607182418800017408 else 0
theorem hdV_lt (k x y : Nat) : hdV k x y < 18446744073709551616 := by unfold hdV; split <;> decide
theorem cmV_yes (k x y p : Nat) : cmV k true x y p = (hdV k x y, true) := by unfold cmV hdV; rfl
theorem opLast (w w3 w4 : World) (s : ByteArray) (q : Nat) (y : Bool) (b3 : Below (w.alloc (opX s q y)).heap.size (w.alloc (opX s q y)) w3) (b4 : Below w3.heap.size w3 w4) : Below w.heap.size w w4 :=
  ((Below.refl _ w).alloc (Nat.le_refl _) _).trans ((b3.trans (b4.mono b3.size)).mono (by simp))

set_option maxHeartbeats 4000000 in
set_option maxRecDepth 100000 in
theorem scalars_walk (s : ByteArray) (q x y : Nat) (c : Option Nat) (hk : ∀ w, Calls Try.prog 7 #[.string s] w fun r w' => r = .returned (.int .i64 (q : Nat)) ∧ w' = w)
    (ht : ∀ w, Calls Try.prog 8 #[.agg #[.string s, .int .i64 (q : Nat), .bool true]] w fun r w' => r = .returned (.bool true) ∧ Below w.heap.size w w')
    (hb : ∀ w, Calls Try.prog 9 #[.agg #[.string s, .int .i64 (q : Nat), .bool true], .float .f64 x, .float .f64 y, .float .f64 x] w fun r w' => ∃ z, r = .returned (.tuple #[.float .f64 z, .bool true]) ∧ Below w.heap.size w w' ∧ z < 18446744073709551616 ∧ cl z = c) (w : World) :
    Calls Try.prog 4 #[.string s, .float .f64 x, .float .f64 y] w (RN w c 0) := by
  have KK : Hid (∀ w, Calls Try.prog 7 #[.string s] w fun r w' => r = .returned (.int .i64 (q : Nat)) ∧ w' = w) := hk
  have KT : Hid (∀ w, Calls Try.prog 8 #[.agg #[.string s, .int .i64 (q : Nat), .bool true]] w fun r w' => r = .returned (.bool true) ∧ Below w.heap.size w w') := ht
  have KB : Hid (∀ w, Calls Try.prog 9 #[.agg #[.string s, .int .i64 (q : Nat), .bool true], .float .f64 x, .float .f64 y, .float .f64 x] w fun r w' => ∃ z, r = .returned (.tuple #[.float .f64 z, .bool true]) ∧ Below w.heap.size w w' ∧ z < 18446744073709551616 ∧ cl z = c) := hb
  clear hk ht hb
  go_enter Try.func4, Try.ntmps4
  go_wp2_with fail
  go_fit (KK.out _)
  rintro e w2 ⟨rfl, rfl⟩
  go_wp2_with fail
  go_fit (KT.out _)
  rintro e w3 ⟨rfl, b3⟩
  obtain ⟨c0, c1, c2⟩ := opC_new s q true w2 w3 b3
  have B3 : Hid (Below (w2.alloc (opX s q true)).heap.size (w2.alloc (opX s q true)) w3) := b3
  clear b3
  go_wp2_with fail
  go_fit (KB.out _)
  rintro e w4 ⟨z, rfl, b4, hz, hc⟩
  have HR : Hid (RN w2 c 0 (.returned (.tuple #[.float .f64 z, .int .i64 0])) w4) := ⟨z, rfl, opLast w2 w3 w4 s q true B3.out b4, hz, hc⟩
  clear b4 hz hc
  go_wp2
  go_ret2
  exact HR.out
set_option maxHeartbeats 4000000 in
set_option maxRecDepth 100000 in
theorem scalars_none (s : ByteArray) (k x y : Nat) (h12 : 12 ≤ k) (h16 : k < 16) (h : OpK s k) (w : World) :
    Calls Try.prog 4 #[.string s, .float .f64 x, .float .f64 y] w (RN w (some 0) 7) := by
  have KK : Hid (∀ w, Calls Try.prog 7 #[.string s] w fun r w' => r = .returned (.int .i64 (knN k)) ∧ w' = w) := (show ∀ w, _ from fun w => kindOf_k s k h16 h w)
  have KT : Hid (∀ w, Calls Try.prog 8 #[.agg #[.string s, .int .i64 (knN k), .bool true]] w fun r w' => r = .returned (.bool false) ∧ Below w.heap.size w w') := (show ∀ w, _ from fun w => (takes_any s k true w).mono fun r w' q => by rw [show decide (k < 12) = false from decide_eq_false (by omega)] at q; exact q)
  generalize knN k = q at *
  clear h h12 h16
  go_enter Try.func4, Try.ntmps4
  go_wp2_with fail
  go_fit (KK.out _)
  rintro e w2 ⟨rfl, rfl⟩
  go_wp2_with fail
  go_fit (KT.out _)
  rintro e w3 ⟨rfl, b3⟩
  have HR : Hid (RN w2 (some 0) 7 (.returned (.tuple #[.float .f64 0, .int .i64 7])) w3) := ⟨0, rfl, opLast w2 w3 w3 s q true b3 (Below.refl _ _), by decide, by decide +kernel⟩
  clear b3
  go_wp2
  go_ret2
  exact HR.out
set_option maxHeartbeats 4000000 in
set_option maxRecDepth 100000 in
theorem rscalars_arith (s : ByteArray) (k : Nat) (hk : k < 6) (h : OpK s k) (x y : Nat) (c : Option Nat) (hv : BothV 15 11 s x y c) (w : World) :
    Calls Try.prog 5 #[.string s, .float .f64 x, .float .f64 y] w (RN w c 0) := by
  have KK : Hid (∀ w, Calls Try.prog 10 #[.string s] w fun r w' => r = .returned (.int .i64 1) ∧ w' = w) := (show ∀ w, _ from fun w => by have := rkind_k s k (by omega) h w; rw [show knN k = 1 by unfold knN; simp [hk]] at this; exact this)
  have KV : Hid (∀ w, Calls Try.prog 11 #[.string s, .float .f64 x, .float .f64 y] w (RF w c)) := hv.2
  clear hv h hk
  go_enter Try.func5, Try.ntmps5
  go_wp2_with fail
  go_fit (KK.out _)
  rintro e w2 ⟨rfl, rfl⟩
  go_wp2_with fail
  go_fit (KV.out _)
  rintro e w4 ⟨z, n, rfl, rfl, hz, hc⟩
  have HR : Hid (RN w2 c 0 (.returned (.tuple #[.float .f64 z, .int .i64 0])) (w2.drewN n)) := ⟨z, rfl, below_drewN (Below.refl _ _) n, hz, hc⟩
  clear hz hc
  go_wp2
  go_ret2
  exact HR.out
theorem yesNo_any (b : Bool) (w : World) : Calls Try.prog 12 #[.bool b] w fun r w' => r = .returned (.float .f64 (if b = true then 4607182418800017408 else 0)) ∧ w' = w := by
  cases b
  · go_enter Try.func12, Try.ntmps12
    go_wp2
    go_ret
    exact ⟨rfl, rfl⟩
  · go_enter Try.func12, Try.ntmps12
    go_wp2
    go_ret
    exact ⟨rfl, rfl⟩
set_option maxHeartbeats 4000000 in
set_option maxRecDepth 100000 in
theorem rscalars_cmp (s : ByteArray) (k : Nat) (h6 : 6 ≤ k) (hk : k < 12) (h : OpK s k) (x y : Nat) (w : World) :
    Calls Try.prog 5 #[.string s, .float .f64 x, .float .f64 y] w (RN w (cl (hdV k x y)) 0) := by
  have KK : Hid (∀ w, Calls Try.prog 10 #[.string s] w fun r w' => r = .returned (.int .i64 2) ∧ w' = w) := (show ∀ w, _ from fun w => by have := rkind_k s k (by omega) h w; rw [show knN k = 2 by unfold knN; simp [hk]; omega] at this; exact this)
  have KH : Hid (∀ w, Calls Try.prog 13 #[.string s, .float .f64 x, .float .f64 y] w fun r w' => r = .returned (.bool (hdB k x y)) ∧ w' = w) := (show ∀ w, _ from fun w => rholds_k s k h6 hk h x y w)
  have KY : Hid (∀ w, Calls Try.prog 12 #[.bool (hdB k x y)] w fun r w' => r = .returned (.float .f64 (hdV k x y)) ∧ w' = w) := (show ∀ w, _ from fun w => yesNo_any _ w)
  have HL : Hid (hdV k x y < 18446744073709551616) := hdV_lt k x y
  generalize hdB k x y = b at *
  generalize hdV k x y = z at *
  clear h h6 hk
  go_enter Try.func5, Try.ntmps5
  go_wp2_with fail
  go_fit (KK.out _)
  rintro e w2 ⟨rfl, rfl⟩
  go_wp2_with fail
  go_fit (KH.out _)
  rintro e w3 ⟨rfl, rfl⟩
  go_wp2_with fail
  go_fit (KY.out _)
  rintro e w4 ⟨rfl, rfl⟩
  go_wp2
  go_ret2
  exact ⟨z, rfl, Below.refl _ _, HL.out, rfl⟩
set_option maxHeartbeats 4000000 in
set_option maxRecDepth 100000 in
theorem rscalars_none (s : ByteArray) (k x y : Nat) (h12 : 12 ≤ k) (h16 : k < 16) (h : OpK s k) (w : World) :
    Calls Try.prog 5 #[.string s, .float .f64 x, .float .f64 y] w (RN w (some 0) 7) := by
  have KK : ∃ q : Nat, (q = 3 ∨ q = 0) ∧ ∀ w, Calls Try.prog 10 #[.string s] w fun r w' => r = .returned (.int .i64 (q : Nat)) ∧ w' = w := by
    refine ⟨knN k, ?_, fun w => rkind_k s k h16 h w⟩
    rcases knN_vals k with ⟨a, e⟩ | ⟨a, b, e⟩ | ⟨a, b, e⟩ | ⟨a, e⟩
    · omega
    · omega
    · exact .inl e
    · exact .inr e
  obtain ⟨q, hq, KK⟩ := KK
  clear h h12 h16
  rcases hq with rfl | rfl
  all_goals
    go_enter Try.func5, Try.ntmps5
    go_wp2_with fail
    go_fit (KK _)
    rintro e w2 ⟨rfl, rfl⟩
    go_wp2
    go_ret2
    exact ⟨0, rfl, Below.refl _ _, by decide, by decide +kernel⟩

/-- Scalars on both sides. -/
theorem scalars_both (s : ByteArray) (x y : Nat) (hx : x < 18446744073709551616) (hy : y < 18446744073709551616) : ∃ c e, (∀ w, Calls Try.prog 4 #[.string s, .float .f64 x, .float .f64 y] w (RN w c e)) ∧ (∀ w, Calls Try.prog 5 #[.string s, .float .f64 x, .float .f64 y] w (RN w c e)) := by
  obtain ⟨k, h, h16⟩ : ∃ k, OpK s k ∧ k < 16 := ⟨opN s, opK s, opN_le s⟩
  by_cases h1 : k < 6
  · obtain ⟨c, hv⟩ := value_both s k h1 h x y hx hy
    refine ⟨c, 0, fun w => scalars_walk s (knN k) x y c (kindOf_k s k h16 h) ?_ (between_arith s k h1 true x y x c hv.1) w, fun w => rscalars_arith s k h1 h x y c hv w⟩
    exact fun w => (takes_any s k true w).mono fun r w' q => by rw [show decide (k < 12) = true from decide_eq_true (by omega)] at q; exact q
  · by_cases h2 : k < 12
    · refine ⟨cl (hdV k x y), 0, fun w => scalars_walk s (knN k) x y _ (kindOf_k s k h16 h) ?_ ?_ w, fun w => rscalars_cmp s k (by omega) h2 h x y w⟩
      · exact fun w => (takes_any s k true w).mono fun r w' q => by rw [show decide (k < 12) = true from decide_eq_true (by omega)] at q; exact q
      · refine fun w => (between_cmp s k (by omega) h2 h true x y x w).mono fun r w' q => ?_
        rw [cmV_yes] at q
        exact ⟨_, q.1, q.2, hdV_lt _ _ _, rfl⟩
    · exact ⟨some 0, 7, fun w => scalars_none s k x y (by omega) h16 h w, fun w => rscalars_none s k x y (by omega) h16 h w⟩
end Go.Proofs.Ytebjklppbkkinaa
