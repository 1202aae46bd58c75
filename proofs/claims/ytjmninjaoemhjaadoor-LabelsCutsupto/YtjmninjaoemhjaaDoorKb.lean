/- slices.Values and slices.Collect over texts. -/
import Derived.RangeFuncNested
import Derived.RangeFuncBound
import Derived.RangeFuncCalls
import Derived.RangeFuncLeaves
import Derived.RangeFuncBox
import Derived.RangeFuncFrom
import Derived.Shelf.Abstract
import Derived.Shelf.RegionOpen
import Derived.WalkKit
import Derived.OwnWalkIn
import Derived.TacticsInMore
import Derived.LoopNIn
import Derived.LoopIn
import Derived.Deep.AppendSrc
import Derived.Lib.OthersKept
import Derived.WalkSmall
import Derived.LoopTactic
import Derived.Test.YtjmninjaoemhjaaDoorCa
namespace Go.Proofs.YtjmninjaoemhjaaDoor.K
open Go.RowKit Go.Lib Go.Shelf

attribute [local go_sem] Oper.semAt_some

/-- Texts that a slice shows, in a block below n₀. -/
def Smb (n₀ : Nat) (w : World) (a : Option Addr) (f : Nat → ByteArray) (n : Nat) : Prop := n = 0 ∨ ∃ g o, a = some ⟨g, o, none⟩ ∧ g < n₀ ∧ ∀ j, j < n → w.cell? ⟨g, o + j, none⟩ = some (.string (f j))
theorem Smb.below {n₀ : Nat} {w w' : World} {a : Option Addr} {f : Nat → ByteArray} {n : Nat} (h : Smb n₀ w a f n) (hb : Below n₀ w w') : Smb n₀ w' a f n := by
  rcases h with h | ⟨g, o, e, hg, hc⟩
  · exact .inl h
  · exact .inr ⟨g, o, e, hg, fun j hj => (hb.cell (p := ⟨g, o + j, none⟩) hg).trans (hc j hj)⟩
theorem Smb.at {n₀ : Nat} {w : World} {a : Option Addr} {f : Nat → ByteArray} {n : Nat} (h : Smb n₀ w a f n) (j : Nat) (hj : j < n) : ∃ g o, a = some ⟨g, o, none⟩ ∧ g < n₀ ∧ w.cell? ⟨g, o + j, none⟩ = some (.string (f j)) := by
  rcases h with h | ⟨g, o, e, hg, hat⟩
  · omega
  · exact ⟨g, o, e, hg, hat j hj⟩
/-- What a round keeps. -/
def AK (n₀ : Nat) (W W' : World) : Prop := Below n₀ W W' ∧ KeepsWalks W W'
theorem AK_t {n₀ : Nat} {A B C : World} (h : AK n₀ A B) (k : AK n₀ B C) : AK n₀ A C := ⟨h.1.trans k.1, h.2.trans k.2⟩
theorem AK_b {n₀ : Nat} {w : World} (hn : n₀ ≤ w.heap.size) (W : World) (l : Nat) (o o' : Obj) (hl : w.heap.size ≤ l) (h : W.heap[l]? = some o) (h1 : o.isCells = false) (h2 : o.isWalk = false) : AK n₀ W (W.putObj l o') :=
  ⟨belowK_b hn W l o o' hl h h1 h2, KeepsWalks.putObj _ h h2⟩
abbrev encS (x : ByteArray) : Array Value := #[.string x]
def lf (f : Nat → ByteArray) (i : Nat) : List ByteArray := (List.range i).map f
theorem lf_succ (f : Nat → ByteArray) (i : Nat) : lf f (i + 1) = lf f i ++ [f i] := by unfold lf; rw [List.range_succ, List.map_append]; rfl
theorem lf_len (f : Nat → ByteArray) (i : Nat) : (lf f i).length = i := by simp [lf]

set_option maxRecDepth 100000 in
set_option maxHeartbeats 4000000 in
theorem vals1 (n : Nat) (hn : 1 ≤ n) (l Bs n₀ : Nat) (a : Option Addr) (f : Nat → ByteArray) (N c : Nat) (hN : N ≤ 140737488351232) (J Jx : List ByteArray → World → Prop) (W : World)
    (hY : ∀ pre x W1, J pre W1 → pre.length < N → YieldAt Fence.wide (n - 1) Tryd.prog l (encS x) W1 fun e W' => (e = .returned (.bool true) ∧ J (pre ++ [x]) W' ∧ AK n₀ W1 W') ∨ (e = .returned (.bool false) ∧ Jx (pre ++ [x]) W'))
    (hBs : W.cell? ⟨Bs, 0, none⟩ = some (.slice a N c)) (hR : Smb n₀ W a f N) (h0 : J [] W) :
    CallsIn Fence.wide n Tryd.prog 87 #[.func (.yield l) #[] #[], .pointer (some ⟨Bs, 0, none⟩)] W fun e W' => (∃ v, e = .returned v) ∧ ((∃ xs, xs = lf f N ∧ J xs W') ∨ (∃ pre, pre <+: lf f N ∧ Jx pre W')) := by
  refine callsIn_of_wp Tryd.func87 rfl trivial ?_ rfl
  simp only [Tryd.ntmps87, List.size_toArray, List.length_cons, List.length_nil, Nat.reduceAdd, Nat.reduceSub, Array.replicate_succ, Array.replicate_zero, List.push_toArray, List.append_toArray, List.nil_append, List.cons_append]
  gi_wp2
  gi_loopw [7] (fun ivv w' => ∃ i : Nat, ivv = .int .i64 (i : Int) ∧ i ≤ N ∧ Below n₀ W w' ∧ J (lf f i) w') (fun ivv _ => N - (RowKit.intOf ivv).toNat)
  case atStart => exact ⟨0, rfl, by omega, Below.refl _ _, h0⟩
  case round =>
    obtain ⟨i, rfl, hi, hbw, hj⟩ := hrel
    by_cases hlt : i < N
    · have hii : (i : Int) < (N : Int) := by omega
      obtain ⟨g, o, rfl, hg, hlo⟩ := (hR.below hbw).at i hlt
      have HYY : Hid (YieldAt Fence.wide (n - 1) Tryd.prog l (encS (f i)) wr fun e W' => (e = .returned (.bool true) ∧ J (lf f i ++ [f i]) W' ∧ AK n₀ wr W') ∨ (e = .returned (.bool false) ∧ Jx (lf f i ++ [f i]) W')) := hY (lf f i) (f i) _ hj (by rw [lf_len]; exact hlt)
      have HB1 : Hid (Below n₀ W wr) := hbw
      have HS : Hid (lf f (i + 1) = lf f i ++ [f i]) := lf_succ f i
      have HP : Hid (lf f i ++ [f i] <+: lf f N) := by
        unfold Hid
        rw [← lf_succ]
        unfold lf
        refine ⟨(List.range' (i + 1) (N - (i + 1))).map f, ?_⟩
        rw [← List.map_append, List.range_eq_range', List.range_eq_range']
        congr 1
        have := List.range'_append (s := 0) (m := i + 1) (n := N - (i + 1)) (step := 1)
        simp only [Nat.one_mul, Nat.zero_add] at this
        rw [this]
        congr 1
        omega
      clear hY hj
      obtain ⟨x, hx⟩ : ∃ x, f i = x := ⟨_, rfl⟩
      rw [hx] at hlo HYY HS HP
      clear hx
      obtain ⟨fn, tmps, assign, body, hy, hR'⟩ := HYY.out
      gi_wp2
      refine hR'.mono ?_
      rintro e W3 (⟨rfl, hJ3, hk3⟩ | ⟨rfl, hJx3⟩)
      · have HB3 : Hid (Below n₀ W W3) := HB1.out.trans hk3.1
        have HJ3 : Hid (J (lf f (i + 1)) W3) := by unfold Hid; rw [HS.out]; exact hJ3
        gi_wp2
        go_roundw
        case rel => exact ⟨i + 1, by go_num, by omega, HB3.out, HJ3.out⟩
        case measure => simp [RowKit.intOf]; omega
      · gi_wp2
        refine bodyPost_ret (results_none rfl _ _ _) rfl ?_
        exact ⟨⟨_, rfl⟩, .inr ⟨_, HP.out, hJx3⟩⟩
    · have hii : ¬ (i : Int) < (N : Int) := by omega
      have hin : i = N := by omega
      subst hin
      gi_wp2
      go_end0
      exact ⟨⟨_, rfl⟩, .inl hj⟩
set_option maxHeartbeats 1000000 in
/-- Values(names): the slice is boxed; the function value captures the box. -/
theorem values_any (a : Option Addr) (N c : Nat) (w : World) :
    Calls Tryd.prog 62 #[.slice a N c] w fun e w' => e = .returned (.func (.func 87) #[] #[.pointer (some ⟨w.heap.size, 0, none⟩)]) ∧ w' = w.alloc (.cells #[.slice a N c] 29) := by
  go_enter Tryd.func62, Tryd.ntmps62
  go_wp2
  go_ret
  exact ⟨rfl, rfl⟩
theorem vals_stops (n : Nat) (hn : 1 ≤ n) (Bs n₀ : Nat) (a : Option Addr) (f : Nat → ByteArray) (N c : Nat) (hN : N ≤ 140737488351232) (w : World) (hBs : w.cell? ⟨Bs, 0, none⟩ = some (.slice a N c)) (hBn : Bs < n₀) (hR : Smb n₀ w a f N) (hnw : n₀ ≤ w.heap.size) :
    SeqStopsK Fence.wide n Tryd.prog 87 #[.pointer (some ⟨Bs, 0, none⟩)] encS (AK n₀) (fun xs => xs = lf f N) (fun pre => pre <+: lf f N) N w := fun l J Jx W hW hJ _ hY h0 => by
  refine (vals1 n hn l Bs n₀ a f N c hN J Jx W ?_ ((hW.cell (p := ⟨Bs, 0, none⟩) (Nat.lt_of_lt_of_le hBn hnw)).trans hBs) (hR.below (hW.mono hnw)) h0).mono ?_
  · intro pre x W1 hj hl
    exact hY pre x W1 hj hl
  · rintro e W' ⟨hv, ⟨xs, h1, h2⟩ | ⟨pre, h0, h2⟩⟩
    · exact ⟨hv, .inl ⟨xs, h1, h2⟩⟩
    · exact ⟨hv, .inr ⟨pre, h0, h2⟩⟩
end Go.Proofs.YtjmninjaoemhjaaDoor.K
