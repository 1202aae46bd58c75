/- bits.Mul, slices.Repeat. -/
import Derived.Test.YtnpgkiidpeaapaaDoorMo
import Derived.Laws.CopyRow
import Derived.Laws.BitsAllLaws
namespace Go.Proofs.YtnpgkiidpeaapaaDoor
open Go.RowKit

theorem step_copy_run {P : Program} {ops : Array Oper} {o : Oper} {a : Act} {w w' : World} {v' : Value} {K : Act → World → Prop} {Q : Exit → Act → World → Prop} {E : Prop} (hgd : o.guard = none) (s x : Operand) (t tx : TypeId)
    (ho : o.op = .call { callee := .builtin .copy, args := #[s, x], argTypes := #[t, tx] }) (vs vx : Value) (hs : a.eval s = vs) (hx : a.eval x = vx)
    (hr : (Builtin.copy_ #[t, tx] o.type #[vs, vx]).run P w = .ok v' w') (h : K (a.put o.dst v') w') : if Region.wanted o (yielded ops a.tmps) = true then Oper.wp P o a w K Q else E := by
  have hw : Region.wanted o (yielded ops a.tmps) = true := by simp [Region.wanted, hgd]
  rw [if_pos hw]
  unfold Oper.wp execOp
  simp only [ho, resolve, invoke, builtin, Sem.run_bind, Sem.run_pure, Result.andThen_ok, List.map_toArray, List.map_cons, List.map_nil, hs, hx, hr]
  exact h
set_option maxHeartbeats 1000000 in
theorem mul64_any (c : Nat) (hc : c < 4294967296) (w : World) : Calls Tryd.prog 32 #[.int .u64 1, .int .u64 (c : Int)] w fun e w' => e = .returned (.tuple #[.int .u64 0, .int .u64 (c : Int)]) ∧ w' = w := by
  have hA : bits .and .u64 (c : Int) 4294967295 = (c : Int) := by
    have := u64_and_nat c 4294967295 (by omega) (by omega)
    rw [show ((4294967295 : Nat) : Int) = 4294967295 from rfl] at this
    rw [this, show (4294967295 : Nat) = 2 ^ 32 - 1 from rfl, Nat.and_two_pow_sub_one_eq_mod, Nat.mod_eq_of_lt (by omega)]
  have hB : bits .and .u64 1 4294967295 = 1 := by decide +kernel
  have hi : (c : Int) < 4294967296 := by omega
  have hd : (c : Int) / 4294967296 = 0 := by omega
  have hZ : bits .and .u64 0 4294967295 = 0 := by decide +kernel
  have hw0 : IntKind.u64.wrap 0 = 0 := by decide +kernel
  go_enter Tryd.func32, Tryd.ntmps32
  go_wp2
  go_ret2
  exact ⟨rfl, rfl⟩
set_option maxHeartbeats 1000000 in
theorem mul_any (c : Nat) (hc : c < 4294967296) (w : World) : Calls Tryd.prog 28 #[.int .u64 1, .int .u64 (c : Int)] w fun e w' => e = .returned (.tuple #[.int .u64 0, .int .u64 (c : Int)]) ∧ w' = w := by
  have k := mul64_any c hc w
  go_enter Tryd.func28, Tryd.ntmps28
  go_wp2_with fail
  go_fit k
  rintro e w1 ⟨rfl, rfl⟩
  go_wp2
  go_ret2
  exact ⟨rfl, rfl⟩
theorem Ri.blk {w : World} {S g n : Nat} {F : Nat → Int} (h : Ri w S g n n F) : w.heap[g]? = some (.cells (sc (slc F) n).toArray 3) := by
  rcases h.2 with ⟨h0, _⟩ | ⟨g', cap, cur, hv, _, hg, _, _, h3, h4⟩
  · cases h0
  · cases hv
    rw [hg]
    congr 2
    rw [Nat.mul_one] at h3 h4
    rw [← h4, List.take_of_length_le (by simp; omega)]
theorem Ri.of_blk {w : World} {S g n : Nat} {F : Nat → Int} (h : w.heap[g]? = some (.cells (sc (slc F) n).toArray 3)) (hS : S ≤ g) (hn : n ≤ maxLen) : Ri w S g n n F := by
  refine ⟨by rw [sc_len, Nat.mul_one], .inr ⟨g, n, _, rfl, hS, h, Nat.le_refl _, hn, by simp [sc_len], ?_⟩⟩
  rw [Nat.mul_one]
  simp [List.take_of_length_le, sc_len]
def mn (k : Nat) : Nat → Int := fun i => if i < k then -1 else 0
theorem mn_splice (n k m : Nat) (h : k + m ≤ n) : ((sc (slc (mn k)) n).toArray.toList.take k ++ List.replicate m (Value.int .i64 (-1)) ++ (sc (slc (mn k)) n).toArray.toList.drop (k + (List.replicate m (Value.int .i64 (-1))).length)).toArray = (sc (slc (mn (k + m))) n).toArray := by
  congr 1
  rw [List.length_replicate]
  apply List.ext_getElem?
  intro j
  have hl : (sc (slc (mn k)) n).length = n := sc_len _ _
  by_cases h1 : j < k
  · rw [List.append_assoc, List.getElem?_append_left (by simp [hl]; omega), List.getElem?_take, if_pos h1]
    show (sc (slc (mn k)) n)[j]? = _
    rw [sc_get _ _ _ (by omega), sc_get _ _ _ (by omega)]
    unfold slc mn
    rw [if_pos h1, if_pos (by omega)]
  · have hl2 : ((sc (slc (mn k)) n).toArray.toList.take k).length = k := by simp [hl]; omega
    by_cases h2 : j < k + m
    · rw [List.append_assoc, List.getElem?_append_right (by omega), hl2, List.getElem?_append_left (by simp; omega), List.getElem?_replicate, if_pos (by omega), sc_get _ _ _ (by omega)]
      unfold slc mn
      rw [if_pos h2]
    · rw [List.getElem?_append_right (by rw [List.length_append, hl2, List.length_replicate]; omega), List.length_append, hl2, List.length_replicate, List.getElem?_drop, show k + m + (j - (k + m)) = j by omega]
      rw [show (sc (slc (mn k)) n).toArray.toList = sc (slc (mn k)) n from rfl]
      by_cases h3 : j < n
      · rw [sc_get _ _ _ h3, sc_get _ _ _ h3]
        unfold slc mn
        rw [if_neg h1, if_neg h2]
      · rw [List.getElem?_eq_none (by omega), List.getElem?_eq_none (by rw [sc_len]; omega)]
theorem szI : (Tryd.prog.info? 3).map (·.size) = some 1 := by kernel_rfl
theorem setRow_kp (w : World) (g : Nat) (cs : Array Value) : Kp (· = g) w (w.setRow g cs) := ⟨rfl, rfl, rfl, by simp [World.setRow], fun k _ hm => setRow_other w g k cs hm⟩
/-- A copy of so many -1. -/
theorem copy_mn (w : World) (g n k m dl dc sl sc' : Nat) (a : Addr) (h : w.heap[g]? = some (.cells (sc (slc (mn k)) n).toArray 3)) (hm : m = Nat.min sl dl) (hk : k + m ≤ n) (hs : ∀ j, j < m → w.cell? (a.add j) = some (.int .i64 (-1))) :
    (Builtin.copy_ #[31, 31] 3 #[.slice (some ⟨g, k, none⟩) dl dc, .slice (some a) sl sc']).run Tryd.prog w = .ok (.int .i64 (m : Int)) (w.setRow g (sc (slc (mn (k + m))) n).toArray) ∧ (w.setRow g (sc (slc (mn (k + m))) n).toArray).heap[g]? = some (.cells (sc (slc (mn (k + m))) n).toArray 3) := by
  have hr := run_copy_row (P := Tryd.prog) w 31 31 3 3 g k dl dc a sl sc' _ 3 (List.replicate m (.int .i64 (-1))) Tryd.underlying31 szI h (by rw [List.length_replicate]; exact hm) (fun j v hj => by
    have hjm : j < m := by
      have := (List.getElem?_eq_some_iff.1 hj).1
      rwa [List.length_replicate] at this
    rw [List.getElem?_replicate, if_pos hjm] at hj
    rw [← Option.some.inj hj]
    exact hs j hjm) (by simp [sc_len]; omega) (by intro v hv; rw [List.eq_of_mem_replicate hv]; rfl)
  rw [mn_splice n k m hk, List.length_replicate] at hr
  exact ⟨hr, setRow_heap w g _ _ 3 _ h⟩
theorem mn_full (n : Nat) : sc (slc (mn n)) n = sc (slc fun _ => -1) n := slc_congr _ _ _ fun i hi => by unfold mn; rw [if_pos hi]
theorem mn_zero (n : Nat) : sc (slc (mn 0)) n = sc (slc fun _ => 0) n := slc_congr _ _ _ fun i hi => by unfold mn; rw [if_neg (by omega)]

set_option maxHeartbeats 400000 in
set_option maxRecDepth 100000 in
theorem repeat_any (xb n : Nat) (w : World) (hx : w.cell? ⟨xb, 0, none⟩ = some (.int .i64 (-1))) (h2 : 2 ≤ n) (hn : n ≤ 1000) :
    Calls Tryd.prog 19 #[.slice (some ⟨xb, 0, none⟩) 1 1, .int .i64 (n : Int)] w fun e w' => ∃ g, e = .returned (.slice (some ⟨g, 0, none⟩) n n) ∧ Ri w' w.heap.size g n n (fun _ => -1) ∧ Below w.heap.size w w' := by
  have kM := mul_any n (by omega) w
  obtain ⟨W1, rm, RW, bW⟩ := make_i w w.heap.size n (Nat.le_refl _) (by omega)
  obtain ⟨G, hG⟩ : ∃ G, G = w.heap.size := ⟨_, rfl⟩
  have hbk := RW.blk
  rw [← mn_zero] at hbk
  rw [← hG] at rm hbk
  have hxlt := World.block_lt_of_cell? w _ hx
  have hx1 := bcell2 bW hx
  obtain ⟨c1, c2⟩ := copy_mn W1 G n 0 1 n n 1 1 ⟨xb, 0, none⟩ hbk (by show 1 = min 1 n; omega) (by omega) (fun j hj => by
    obtain rfl : j = 0 := by omega
    exact hx1)
  rw [Nat.zero_add] at c1 c2
  have kR := setRow_kp W1 G (sc (slc (mn 1)) n).toArray
  obtain ⟨W2, hW2⟩ : ∃ W2, W2 = W1.setRow G (sc (slc (mn 1)) n).toArray := ⟨_, rfl⟩
  rw [← hW2] at c1 c2 kR
  have b2 : Below w.heap.size w W2 := bW.trans (kR.below bW.size (fun i hi e => by omega))
  have HC2 : Hid (W2.heap[G]? = some (.cells (sc (slc (mn 1)) n).toArray 3)) := c2
  have HG : Hid (G = w.heap.size) := hG
  have hn0 : ¬ (n : Int) < 0 := by omega
  have hni : (n : Int) ≤ 1000 := by omega
  have hn2 : (2 : Int) ≤ (n : Int) := by omega
  have c1' : (Builtin.copy_ #[31, 31] 3 #[.slice (some ⟨G, 0, none⟩) n n, .slice (some ⟨xb, 0, none⟩) 1 1]).run Tryd.prog W1 = .ok (.int .i64 1) W2 := c1
  clear RW bW hbk c1 c2 kR hW2 hG hx1 hx hxlt
  go_enter Tryd.func19, Tryd.ntmps19
  go_wp2_with fail
  go_fit kM
  rintro e w1 ⟨rfl, rfl⟩
  go_wp2_with fail
  go_loopg [8] n (fun g t W => ∃ k : Nat, 1 ≤ k ∧ k ≤ n ∧ n - k ≤ g ∧ t = .int .i64 (k : Int) ∧ Hid (W.heap[G]? = some (.cells (sc (slc (mn k)) n).toArray 3)) ∧ Below w1.heap.size w1 W)
  case atStart => exact ⟨1, by omega, by omega, by omega, rfl, HC2, b2⟩
  case round =>
    obtain ⟨k, hk1, hkn, hg, rfl, hB, hbw⟩ := hrel
    by_cases hlt : k < n
    · obtain ⟨m, hm⟩ : ∃ m, m = Nat.min k (n - k) := ⟨_, rfl⟩
      have hm1 : m ≤ k ∧ k + m ≤ n ∧ 1 ≤ m := by
        have : m = min k (n - k) := hm
        omega
      obtain ⟨r1, r2⟩ := copy_mn wr.drew G n k m (n - k) (n - k) k n ⟨G, 0, none⟩ hB.out hm hm1.2.1 (fun j hj => by
        rw [Go.WideShapes.add_plain, Nat.zero_add, cell_of_row wr.drew G j _ 3 (0, 0) hB.out]
        rw [List.getElem?_toArray, sc_get _ _ _ (by omega)]
        unfold slc mn
        rw [if_pos (by omega)])
      have kR := setRow_kp wr.drew G (sc (slc (mn (k + m))) n).toArray
      obtain ⟨W3, hW3⟩ : ∃ W3, W3 = wr.drew.setRow G (sc (slc (mn (k + m))) n).toArray := ⟨_, rfl⟩
      rw [← hW3] at r1 r2 kR
      have b3 : Below w1.heap.size w1 W3 := hbw.drew.trans (kR.below hbw.size (fun i hi e => by have := HG.out; omega))
      have hki : (k : Int) < (n : Int) := by omega
      have hki1 : (1 : Int) ≤ (k : Int) := by omega
      have hnk : ¬ n = k := by omega
      have hmi : (m : Int) ≤ 1000 := by omega
      have HR2 : Hid _ := r2
      clear r2 kR hW3 hm c1' rm kM
      go_wp2_with fail
      go_region
      all_goals go_wp2
      all_goals go_roundg (n - (k + m))
      case measure => omega
      case rel => exact ⟨k + m, by omega, by omega, Nat.le_refl _, by rw [show (k : Int) + (m : Int) = ((k + m : Nat) : Int) by omega], HR2, b3⟩
    · obtain rfl : k = n := by omega
      have hki : ¬ (k : Int) < (k : Int) := by omega
      have R : Ri wr w1.heap.size G k k (fun _ => -1) := Ri.of_blk (by rw [← mn_full]; exact hB.out) (by have := HG.out; omega) (by unfold maxLen; omega)
      have HR : Hid _ := R
      clear R
      go_wp2
      go_ret
      exact ⟨G, rfl, HR.out, hbw⟩
end Go.Proofs.YtnpgkiidpeaapaaDoor
