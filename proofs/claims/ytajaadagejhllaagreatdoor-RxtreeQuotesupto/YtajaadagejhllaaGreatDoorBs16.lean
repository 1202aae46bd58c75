/- A bundle of texts. -/
import Derived.RangeFuncNested
import Derived.RangeFuncBound
import Derived.RangeFuncCalls
import Derived.RangeFuncLeaves
import Derived.RangeFuncBox
import Derived.RangeFuncFrom
import Derived.Shelf.Abstract
import Derived.Shelf.RegionOpen
import Derived.WalkKit
import Derived.OwnWalkIn
import Derived.TacticsInMore
import Derived.LoopNIn
import Derived.LoopIn
import Derived.Deep.AppendSrc
import Derived.Lib.OthersKept
import Derived.WalkSmall
import Derived.LoopTactic
import Derived.Test.YtajaadagejhllaaGreatDoorBs15
import Derived.Maps.AppendAt
/- slices.Values over ranges, as an iterator. -/
namespace Go.Proofs.YtajaadagejhllaaGreatDoor
open Go.RowKit Go.Lib Go.Shelf

attribute [local go_sem] Oper.semAt_some

/-- What a round keeps. -/
def AK (n₀ : Nat) (W W' : World) : Prop := Below n₀ W W' ∧ KeepsWalks W W'
theorem AK_t {n₀ : Nat} {A B C : World} (h : AK n₀ A B) (k : AK n₀ B C) : AK n₀ A C := ⟨h.1.trans k.1, h.2.trans k.2⟩
theorem AK_b {n₀ : Nat} {w : World} (hn : n₀ ≤ w.heap.size) (W : World) (l : Nat) (o o' : Obj) (hl : w.heap.size ≤ l) (h : W.heap[l]? = some o) (h1 : o.isCells = false) (h2 : o.isWalk = false) : AK n₀ W (W.putObj l o') :=
  ⟨belowK_b hn W l o o' hl h h1 h2, KeepsWalks.putObj _ h h2⟩
theorem grown_below {w w' : World} (h : Below w.heap.size w w') : w.grownBy w' none := ⟨h.os, h.tape, h.output, h.size, fun k hk _ => h.block k hk⟩
abbrev encR (x : Rg) : Array Value := #[.agg #[.int .i32 x.1, .int .i32 x.2]]
def lf (f : Nat → Rg) (i : Nat) : List Rg := (List.range i).map f
theorem lf_succ (f : Nat → Rg) (i : Nat) : lf f (i + 1) = lf f i ++ [f i] := by unfold lf; rw [List.range_succ, List.map_append]; rfl
theorem lf_len (f : Nat → Rg) (i : Nat) : (lf f i).length = i := by simp [lf]

set_option maxRecDepth 100000 in
set_option maxHeartbeats 4000000 in
theorem vals1 (n : Nat) (hn : 1 ≤ n) (l Bs n₀ : Nat) (a : Option Addr) (f : Nat → Rg) (N c : Nat) (hN : N ≤ 140737488351232) (J Jx : List Rg → World → Prop) (W : World) (hJ : AbidesFrom W.heap.size J)
    (hY : ∀ pre x W1, J pre W1 → pre.length < N → YieldAt Fence.wide (n - 1) Tryz.prog l (encR x) W1 fun e W' => (e = .returned (.bool true) ∧ J (pre ++ [x]) W' ∧ AK n₀ W1 W') ∨ (e = .returned (.bool false) ∧ Jx (pre ++ [x]) W'))
    (hBs : W.cell? ⟨Bs, 0, none⟩ = some (.slice a N c)) (hR : Rmb n₀ W a f N) (hnW : n₀ ≤ W.heap.size) (h0 : J [] W) :
    CallsIn Fence.wide n Tryz.prog 162 #[.func (.yield l) #[] #[], .pointer (some ⟨Bs, 0, none⟩)] W fun e W' => (∃ v, e = .returned v) ∧ ((∃ xs, xs = lf f N ∧ J xs W') ∨ (∃ pre, pre <+: lf f N ∧ Jx pre W')) := by
  refine callsIn_of_wp Tryz.func162 rfl trivial ?_ rfl
  simp only [Tryz.ntmps162, List.size_toArray, List.length_cons, List.length_nil, Nat.reduceAdd, Nat.reduceSub, Array.replicate_succ, Array.replicate_zero, List.push_toArray, List.append_toArray, List.nil_append, List.cons_append]
  gi_wp2
  gi_loopw [7] (fun ivv w' => ∃ i : Nat, ivv = .int .i64 (i : Int) ∧ i ≤ N ∧ Below n₀ W w' ∧ J (lf f i) w') (fun ivv _ => N - (RowKit.intOf ivv).toNat)
  case atStart => exact ⟨0, rfl, by omega, Below.refl _ _, h0⟩
  case round =>
    obtain ⟨i, rfl, hi, hbw, hj⟩ := hrel
    by_cases hlt : i < N
    · have hii : (i : Int) < (N : Int) := by omega
      obtain ⟨g, o, rfl, hg, hlo, hhi⟩ := (hR.below hbw).at i hlt
      have HYY : Hid (YieldAt Fence.wide (n - 1) Tryz.prog l (encR (f i)) (wr.alloc (rgX (f i))) fun e W' => (e = .returned (.bool true) ∧ J (lf f i ++ [f i]) W' ∧ AK n₀ (wr.alloc (rgX (f i))) W') ∨ (e = .returned (.bool false) ∧ Jx (lf f i ++ [f i]) W')) := hY (lf f i) (f i) _ (hJ _ _ _ none hj (World.grownBy_alloc wr _ none) (fun r e => by cases e)) (by rw [lf_len]; exact hlt)
      have HB1 : Hid (Below n₀ W (wr.alloc (rgX (f i)))) := hbw.alloc (Nat.le_trans hnW hbw.size) _
      have HS : Hid (lf f (i + 1) = lf f i ++ [f i]) := lf_succ f i
      have HP : Hid (lf f i ++ [f i] <+: lf f N) := by
        unfold Hid
        rw [← lf_succ]
        unfold lf
        refine ⟨(List.range' (i + 1) (N - (i + 1))).map f, ?_⟩
        rw [← List.map_append, List.range_eq_range', List.range_eq_range']
        congr 1
        have := List.range'_append (s := 0) (m := i + 1) (n := N - (i + 1)) (step := 1)
        simp only [Nat.one_mul, Nat.zero_add] at this
        rw [this]
        congr 1
        omega
      clear hY hj
      obtain ⟨x, hx⟩ : ∃ x, f i = x := ⟨_, rfl⟩
      rw [hx] at hlo hhi HYY HB1 HS HP
      clear hx
      obtain ⟨fn, tmps, assign, body, hy, hR'⟩ := HYY.out
      gi_wp2
      refine hR'.mono ?_
      rintro e W3 (⟨rfl, hJ3, hk3⟩ | ⟨rfl, hJx3⟩)
      · have HB3 : Hid (Below n₀ W W3) := HB1.out.trans hk3.1
        have HJ3 : Hid (J (lf f (i + 1)) W3) := by unfold Hid; rw [HS.out]; exact hJ3
        gi_wp2
        go_roundw
        case rel => exact ⟨i + 1, by go_num, by omega, HB3.out, HJ3.out⟩
        case measure => simp [RowKit.intOf]; omega
      · gi_wp2
        refine bodyPost_ret (results_none rfl _ _ _) rfl ?_
        exact ⟨⟨_, rfl⟩, .inr ⟨_, HP.out, hJx3⟩⟩
    · have hii : ¬ (i : Int) < (N : Int) := by omega
      have hin : i = N := by omega
      subst hin
      gi_wp2
      go_end0
      exact ⟨⟨_, rfl⟩, .inl hj⟩
set_option maxHeartbeats 1000000 in
/-- Values(set): the slice is boxed; the function value captures the box. -/
theorem values_in (n : Nat) (a : Option Addr) (N c : Nat) (w : World) :
    CallsIn Fence.wide n Tryz.prog 155 #[.slice a N c] w fun e w' => e = .returned (.func (.func 162) #[] #[.pointer (some ⟨w.heap.size, 0, none⟩)]) ∧ w' = w.alloc (.cells #[.slice a N c] 22) := by
  refine callsIn_of_wp Tryz.func155 rfl trivial ?_ rfl
  simp only [Tryz.ntmps155, List.size_toArray, List.length_cons, List.length_nil, Nat.reduceAdd, Nat.reduceSub, Array.replicate_succ, Array.replicate_zero, List.push_toArray, List.append_toArray, List.nil_append, List.cons_append]
  gi_wp2
  go_ret
  exact ⟨rfl, rfl⟩
theorem yield_to {F : Fence} {n : Nat} {P : Program} {l : Nat} {vs : Array Value} {w : World} {R R' : Ending → World → Prop} (h : YieldAt F n P l vs w R) (hm : ∀ e w', R e w' → R' e w') : YieldAt F n P l vs w R' := by
  obtain ⟨fn, tmps, assign, body, hy, hR⟩ := h
  exact ⟨fn, tmps, assign, body, hy, hR.mono hm⟩
theorem vals_stops (n : Nat) (hn : 1 ≤ n) (Bs n₀ : Nat) (a : Option Addr) (f : Nat → Rg) (N c : Nat) (hN : N ≤ 140737488351232) (w : World) (hBs : w.cell? ⟨Bs, 0, none⟩ = some (.slice a N c)) (hBn : Bs < n₀) (hR : Rmb n₀ w a f N) (hnw : n₀ ≤ w.heap.size) :
    SeqStopsK Fence.wide n Tryz.prog 162 #[.pointer (some ⟨Bs, 0, none⟩)] encR (AK n₀) (fun xs => xs = lf f N) (fun pre => pre <+: lf f N) N w := fun l J Jx W hW hJ _ hY h0 => by
  refine (vals1 n hn l Bs n₀ a f N c hN J Jx W hJ ?_ ((hW.cell (p := ⟨Bs, 0, none⟩) (Nat.lt_of_lt_of_le hBn hnw)).trans hBs) (hR.below (hW.mono hnw)) (Nat.le_trans hnw hW.size) h0).mono ?_
  · intro pre x W1 hj hl
    exact hY pre x W1 hj hl
  · rintro e W' ⟨hv, ⟨xs, h1, h2⟩ | ⟨pre, h0, h2⟩⟩
    · exact ⟨hv, .inl ⟨xs, h1, h2⟩⟩
    · exact ⟨hv, .inr ⟨pre, h0, h2⟩⟩
end Go.Proofs.YtajaadagejhllaaGreatDoor
/- slices.Collect of slices.Values over ranges. -/
namespace Go.Proofs.YtajaadagejhllaaGreatDoor
open Go.RowKit Go.Lib Go.Shelf

attribute [local go_sem] Oper.semAt_some

theorem info58 : (Tryz.prog.info? 58).map (fun i => (i.zero, i.size, i.bytes)) = some (some (.agg #[.int .i32 0, .int .i32 0]), 2, 8) := by kernel_rfl
def rs2 (xs : List Rg) : List Value := xs.flatMap r2
theorem rs2_app (xs : List Rg) (x : Rg) : rs2 (xs ++ [x]) = rs2 xs ++ [.int .i32 x.1, .int .i32 x.2] := by simp [rs2, r2]
theorem cell_two_new (w : World) (x : Rg) : ∀ j u, ([.int .i32 x.1, .int .i32 x.2] : List Value)[j]? = some u → (w.alloc (rgX x)).cell? ((⟨w.heap.size, 0, none⟩ : Addr).add j) = some u := by
  intro j u hj
  have hc := rgX_cells (w := w) x (W := w.alloc (rgX x)) (Below.refl _ _)
  match j, hj with
  | 0, hj => simp at hj; subst hj; simp [Addr.add, hc.1]
  | 1, hj => simp at hj; subst hj; simp [Addr.add, hc.2]
  | j + 2, hj => simp at hj

set_option maxRecDepth 100000 in
set_option maxHeartbeats 4000000 in
theorem appendSeq_in (n : Nat) (hn : 3 ≤ n) (Bs : Nat) (a : Option Addr) (f : Nat → Rg) (N c : Nat) (hN : N ≤ 17592186044416) (w : World) (hBs : w.cell? ⟨Bs, 0, none⟩ = some (.slice a N c)) (hBn : Bs < w.heap.size) (hR : Rmb w.heap.size w a f N) :
    CallsIn Fence.wide n Tryz.prog 165 #[.slice none 0 0, .func (.func 162) #[] #[.pointer (some ⟨Bs, 0, none⟩)]] w fun e W' => ∃ v, e = .returned v ∧ W'.ownsRow w.heap.size 58 2 v N (rs2 (lf f N)) ∧ Below w.heap.size w W' := by
  have h1 : 1 ≤ n := by omega
  obtain ⟨i0, hi, hz0, hz1, hz2⟩ := info_parts info58
  refine callsIn_of_wp_marks Tryz.func165 rfl trivial ?_ rfl
  simp only [Tryz.ntmps165, List.size_toArray, List.length_cons, List.length_nil, Nat.reduceAdd, Nat.reduceSub, Array.replicate_succ, Array.replicate_zero, List.push_toArray, List.append_toArray, List.nil_append, List.cons_append]
  gi_wp2
  have bO := Boxed.new w 22 (.slice none 0 0)
  have hB0 : Below w.heap.size w (w.alloc (.cells #[.slice none 0 0] 22)) := (Below.refl _ w).alloc (Nat.le_refl _) _
  refine wpIn_rangeFunc_ownH rfl h1 (gf := 162) (lb := #[.pointer (some ⟨Bs, 0, none⟩)]) rfl trivial (enters_of Tryz.func162 (by kernel_rfl) rfl)
    (vals_stops (n - 1) (by omega) Bs w.heap.size a f N c (by omega) _ ((hB0.cell (p := ⟨Bs, 0, none⟩) hBn).trans hBs) hBn (hR.below hB0) (by simp)) AK_t (AK_b (by simp)) (Below.refl _ _) (fun _ => rfl)
    (fun pre W => (∃ v, Boxed W w.heap.size 22 v ∧ W.ownsRow w.heap.size 58 2 v pre.length (rs2 pre) ∧ True) ∧ Below w.heap.size w W)
    (fun _ _ _ => False)
    (OwnFrom.and (Own.from (holdsRow_own w.heap.size w.heap.size 22 58 2 (fun pre => pre.length) (fun pre => rs2 pre) (fun _ _ => True)) _) (ownFrom_below (Nat.le_refl _) (by simp)))
    (fun _ _ _ _ _ hs _ _ => hs)
    ⟨⟨_, bO, World.ownsRow_nil _ _ _ _, trivial⟩, hB0⟩
    (fun x a' W => ∃ G, a' = { tmps := #[.slice none 0 0, .func (.func 162) #[] #[.pointer (some ⟨Bs, 0, none⟩)], .pointer (some ⟨w.heap.size, 0, none⟩), undef, .slice none 0 0, .pointer (some ⟨G, 0, none⟩), .func (.func 162) #[] #[.pointer (some ⟨Bs, 0, none⟩)], .agg #[.int .i32 x.1, .int .i32 x.2], undef, undef, undef, undef, undef], defers := [] } ∧ W.cell? ⟨G, 0, none⟩ = some (.int .i32 x.1) ∧ W.cell? ⟨G, 1, none⟩ = some (.int .i32 x.2))
    (fun x a' _ W W' row hs hg hr => by
      obtain ⟨G, e, c0, c1⟩ := hs
      exact ⟨G, e, cell_kept c0 hg (fun r e => (hr r e).2), cell_kept c1 hg (fun r e => (hr r e).2)⟩)
    ?assign ?body ?done ?stop
  case assign =>
    rintro l pre x W K ⟨⟨v, hv, hrow, -⟩, hB⟩ hK
    have hc := rgX_cells (w := W) x (W := W.alloc (rgX x)) (Below.refl _ _)
    have hK' := hK { tmps := #[.slice none 0 0, .func (.func 162) #[] #[.pointer (some ⟨Bs, 0, none⟩)], .pointer (some ⟨w.heap.size, 0, none⟩), undef, .slice none 0 0, .pointer (some ⟨W.heap.size, 0, none⟩), .func (.func 162) #[] #[.pointer (some ⟨Bs, 0, none⟩)], .agg #[.int .i32 x.1, .int .i32 x.2], undef, undef, undef, undef, undef], defers := [] } (W.alloc (rgX x)) ((KeepsOthers.alloc W _).from _) ⟨(Below.refl _ W).alloc hB.size _, KeepsWalks.alloc W _⟩ ⟨⟨v, hv.alloc _, hrow.alloc _, trivial⟩, hB.alloc hB.size _⟩ ⟨_, rfl, hc.1, hc.2⟩
    clear hK hv hrow hB hc
    gi_wp2
    exact hK'
  case body =>
    rintro l pre x a' W hl hlr ⟨⟨v, hv, hrow, -⟩, hB⟩ ⟨G, rfl, c0, c1⟩ hlt
    have hc := hv.cell
    clear hlr
    gi_wp2_with (gi_at_builtin; refine wpListIn_append_own _ rfl _ _ 22 rfl w.heap.size 58 i0 (.agg #[.int .i32 0, .int .i32 0]) 2 8 Tryz.underlying22 hi hz0 hz1 hz2 rfl (by decide) _ _ _ rfl (hrow.alloc _) ⟨W.heap.size, 0, none⟩ 1 1 [.int .i32 x.1, .int .i32 x.2] rfl rfl (cell_two_new _ x) (by simp [Value.oneCell']) (by have : maxLen = 9223372036854775807 := rfl; omega) (by omega) (by have := hB.size; simp; omega) ?_; intro v' w1 hown' hgrow _; obtain ⟨g', cap', rfl⟩ := ownsRow_succ hown'; obtain ⟨hv1, hv2, hr2, hk2, hb2⟩ := hv.appended (by decide) hrow hB.size (Nat.le_refl _) hown' hgrow; have hc1 := hv1.cell; have hf1 := hv1.frozen)
    exact ⟨hk2.from _, ⟨hb2, hk2.walks⟩, ⟨_, hv2, by rw [rs2_app]; simpa using hr2, trivial⟩, hB.trans hb2⟩
  case done =>
    rintro D ys W hD rfl ⟨⟨v, hv, hrow, -⟩, hB⟩ hK
    have hc := hv.cell
    gi_wp2
    refine ⟨by simp, .inl ⟨_, _, rfl, run_takeDeferred hK, ?_⟩⟩
    refine ⟨_, results_tmp rfl _ _ _, v, rfl, ?_, hB.trans (belowK_b (w := w) (Nat.le_refl _) W D _ _ (by simp at hD; omega) hK rfl rfl)⟩
    have := ownsRow_putObj hrow (Obj.deferred none) hK rfl
    rw [lf_len] at this
    exact this
  case stop =>
    rintro D c pre W _ _ h _
    exact h.elim
end Go.Proofs.YtajaadagejhllaaGreatDoor
/- Sorting one range. -/
namespace Go.Proofs.YtajaadagejhllaaGreatDoor
open Go.RowKit Go.Lib

set_option maxRecDepth 100000 in
theorem insertion1 (v f : Value) (w : World) : Calls Tryz.prog 168 #[v, .int .i64 0, .int .i64 1, f] w fun e w' => (∃ u, e = .returned u) ∧ w' = w := by
  go_enter Tryz.func168, Tryz.ntmps168
  go_wp2_with fail
  go_loopw [8] (fun ivv w' => ivv = .int .i64 1 ∧ w' = w) (fun _ _ => 0)
  case atStart => exact ⟨rfl, rfl⟩
  case round =>
    obtain ⟨rfl, rfl⟩ := hrel
    go_wp2
    go_end0
    exact ⟨⟨_, rfl⟩, rfl⟩
set_option maxRecDepth 100000 in
theorem pdq1 (v f : Value) (w : World) : Calls Tryz.prog 166 #[v, .int .i64 0, .int .i64 1, .int .i64 1, f] w fun e w' => (∃ u, e = .returned u) ∧ w' = w := by
  have k := insertion1 v f w
  go_enter Tryz.func166, Tryz.ntmps166
  go_wp2_with fail
  go_loopw [1, 2] (fun x y w' => x = .int .i64 0 ∧ y = .int .i64 1 ∧ w' = w) (fun _ _ _ => 0)
  case atStart => exact ⟨rfl, rfl, rfl⟩
  case round =>
    obtain ⟨rfl, rfl, rfl⟩ := hrel
    go_wp2_with fail
    go_fit k
    rintro e w2 ⟨⟨u, rfl⟩, rfl⟩
    go_wp2
    refine bodyPost_ret (results_none rfl _ _ _) rfl ⟨⟨_, rfl⟩, rfl⟩
set_option maxRecDepth 100000 in
theorem len64_1 (w : World) : Calls Tryz.prog 140 #[.int .u64 1] w fun e w' => e = .returned (.int .i64 1) ∧ ∃ m, w' = w.drewN m := by
  go_enter Tryz.func140, Tryz.ntmps140
  go_wp2
  go_ret
  exact ⟨by kernel_rfl, 0, rfl⟩
set_option maxRecDepth 100000 in
theorem len_1 (w : World) : Calls Tryz.prog 167 #[.int .u64 1] w fun e w' => e = .returned (.int .i64 1) ∧ ∃ m, w' = w.drewN m := by
  have k := len64_1 w
  go_enter Tryz.func167, Tryz.ntmps167
  go_wp2_with fail
  go_fit k
  rintro e w2 ⟨rfl, h2⟩
  go_wp2
  go_ret
  exact ⟨rfl, h2⟩
set_option maxRecDepth 100000 in
theorem sort1 (a : Option Addr) (c : Nat) (f : Value) (w : World) : Calls Tryz.prog 161 #[.slice a 1 c, f] w fun e w' => (∃ u, e = .returned u) ∧ ∃ m, w' = w.drewN m := by
  have k := len_1 w
  go_enter Tryz.func161, Tryz.ntmps161
  go_wp2_with fail
  go_fit k
  rintro e w2 ⟨rfl, h2⟩
  have k2 := pdq1 (.slice a 1 c) f w2
  go_wp2_with fail
  go_fit k2
  rintro e w3 ⟨⟨u, rfl⟩, rfl⟩
  go_wp2
  go_end0
  exact ⟨⟨_, rfl⟩, h2⟩
end Go.Proofs.YtajaadagejhllaaGreatDoor
