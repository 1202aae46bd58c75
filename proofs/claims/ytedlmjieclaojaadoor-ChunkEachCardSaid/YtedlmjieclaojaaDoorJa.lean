/- ChunkEach: slices.Values over samples, as an iterator. -/
import Derived.RangeFuncNested
import Derived.RangeFuncBound
import Derived.RangeFuncCalls
import Derived.RangeFuncLeaves
import Derived.RangeFuncBox
import Derived.RangeFuncFrom
import Derived.Shelf.Abstract
import Derived.Shelf.RegionOpen
import Derived.WalkKit
import Derived.OwnWalkIn
import Derived.TacticsInMore
import Derived.LoopNIn
import Derived.LoopIn
import Derived.Deep.AppendSrc
import Derived.Lib.OthersKept
import Derived.WalkSmall
import Derived.LoopTactic
import Derived.Test.YtedlmjieclaojaaDoorFc
import Derived.Test.YtedlmjieclaojaaDoorDh
namespace Go.Proofs.YtedlmjieclaojaaDoor
open Go.RowKit Go.Lib Go.Shelf

attribute [local go_sem] Oper.semAt_some

/-- What a round keeps. -/
def AK (n₀ : Nat) (W W' : World) : Prop := Below n₀ W W' ∧ KeepsWalks W W'
theorem AK_t {n₀ : Nat} {A B C : World} (h : AK n₀ A B) (k : AK n₀ B C) : AK n₀ A C := ⟨h.1.trans k.1, h.2.trans k.2⟩
theorem AK_b {n₀ : Nat} {w : World} (hn : n₀ ≤ w.heap.size) (W : World) (l : Nat) (o o' : Obj) (hl : w.heap.size ≤ l) (h : W.heap[l]? = some o) (h1 : o.isCells = false) (h2 : o.isWalk = false) : AK n₀ W (W.putObj l o') :=
  ⟨belowK_b hn W l o o' hl h h1 h2, KeepsWalks.putObj _ h h2⟩
abbrev encS (x : Smp) : Array Value := #[.agg #[.int .i64 x.t, .float .f64 x.v, .bool x.s]]
/-- Samples that lie below a height. -/
def Sb (n₀ : Nat) (w : World) (a : Option Addr) (l : List Smp) : Prop := l = [] ∨ ∃ g o, a = some ⟨g, o, none⟩ ∧ g < n₀ ∧ ∀ j x, l[j]? = some x → w.cell? ⟨g, o + j * 3, none⟩ = some (.int .i64 x.t) ∧ w.cell? ⟨g, o + j * 3 + 1, none⟩ = some (.float .f64 x.v) ∧ w.cell? ⟨g, o + j * 3 + 2, none⟩ = some (.bool x.s)
theorem Sb.of {n₀ : Nat} {w : World} {a : Option Addr} {l : List Smp} (h : Sm w a l) (hn : w.heap.size ≤ n₀) : Sb n₀ w a l := by
  rcases h with h | ⟨g, o, e, hg, hc⟩
  · exact .inl h
  · exact .inr ⟨g, o, e, Nat.lt_of_lt_of_le hg hn, hc⟩
theorem Sb.below {n₀ : Nat} {w w' : World} {a : Option Addr} {l : List Smp} (h : Sb n₀ w a l) (b : Below n₀ w w') : Sb n₀ w' a l := by
  rcases h with h | ⟨g, o, e, hg, hc⟩
  · exact .inl h
  · refine .inr ⟨g, o, e, hg, fun j x hj => ?_⟩
    obtain ⟨h1, h2, h3⟩ := hc j x hj
    exact ⟨(b.cell (p := ⟨g, o + j * 3, none⟩) hg).trans h1, (b.cell (p := ⟨g, o + j * 3 + 1, none⟩) hg).trans h2, (b.cell (p := ⟨g, o + j * 3 + 2, none⟩) hg).trans h3⟩
theorem Sb.mono {n₀ n₁ : Nat} {w : World} {a : Option Addr} {l : List Smp} (h : Sb n₀ w a l) (hn : n₀ ≤ n₁) : Sb n₁ w a l := by
  rcases h with h | ⟨g, o, e, hg, hc⟩
  · exact .inl h
  · exact .inr ⟨g, o, e, Nat.lt_of_lt_of_le hg hn, hc⟩
theorem take_succ (l : List Smp) (i : Nat) (x : Smp) (h : l[i]? = some x) : l.take (i + 1) = l.take i ++ [x] := by
  rw [List.take_add_one, h]
  rfl

set_option maxRecDepth 100000 in
set_option maxHeartbeats 4000000 in
theorem vals1 (n : Nat) (hn : 1 ≤ n) (l Bs n₀ : Nat) (a : Option Addr) (L : List Smp) (N c : Nat) (hNL : N = L.length) (hN : N ≤ 140737488351232) (J Jx : List Smp → World → Prop) (W : World) (hJ : AbidesFrom W.heap.size J)
    (hY : ∀ pre x W1, J pre W1 → pre.length < N → YieldAt Fence.wide (n - 1) Tryd.prog l (encS x) W1 fun e W' => (e = .returned (.bool true) ∧ J (pre ++ [x]) W' ∧ AK n₀ W1 W') ∨ (e = .returned (.bool false) ∧ Jx (pre ++ [x]) W'))
    (hBs : W.cell? ⟨Bs, 0, none⟩ = some (.slice a N c)) (hR : Sb n₀ W a L) (hnW : n₀ ≤ W.heap.size) (h0 : J [] W) :
    CallsIn Fence.wide n Tryd.prog 40 #[.func (.yield l) #[] #[], .pointer (some ⟨Bs, 0, none⟩)] W fun e W' => (∃ v, e = .returned v) ∧ ((∃ xs, xs = L ∧ J xs W') ∨ (∃ pre, pre <+: L ∧ Jx pre W')) := by
  have HL : Hid (N = L.length) := hNL
  have HR : Hid (Sb n₀ W a L) := hR
  clear hNL hR
  refine callsIn_of_wp Tryd.func40 rfl trivial ?_ rfl
  simp only [Tryd.ntmps40, List.size_toArray, List.length_cons, List.length_nil, Nat.reduceAdd, Nat.reduceSub, Array.replicate_succ, Array.replicate_zero, List.push_toArray, List.append_toArray, List.nil_append, List.cons_append]
  gi_wp2
  gi_loopw [7] (fun ivv w' => ∃ i : Nat, ivv = .int .i64 (i : Int) ∧ i ≤ N ∧ Below n₀ W w' ∧ J (L.take i) w') (fun ivv _ => N - (RowKit.intOf ivv).toNat)
  case atStart => exact ⟨0, rfl, by omega, Below.refl _ _, h0⟩
  case round =>
    obtain ⟨i, rfl, hi, hbw, hj⟩ := hrel
    by_cases hlt : i < N
    · have hii : (i : Int) < (N : Int) := by omega
      have hiL : i < L.length := by have := HL.out; omega
      obtain ⟨x, hx⟩ : ∃ x, L[i]? = some x := ⟨L[i], List.getElem?_eq_getElem _⟩
      obtain ⟨g, o, rfl, hg, hcs⟩ : ∃ g o, a = some ⟨g, o, none⟩ ∧ g < n₀ ∧ _ := by
        rcases HR.out.below hbw with h | h
        · rw [h] at hiL; simp at hiL
        · exact h
      obtain ⟨y0, y1, y2⟩ := hcs i x hx
      have hsf := @run_store_float Tryd.prog
      have HYY : Hid (YieldAt Fence.wide (n - 1) Tryd.prog l (encS x) (wr.alloc (smX x)) fun e W' => (e = .returned (.bool true) ∧ J (L.take i ++ [x]) W' ∧ AK n₀ (wr.alloc (smX x)) W') ∨ (e = .returned (.bool false) ∧ Jx (L.take i ++ [x]) W')) := hY (L.take i) x _ (hJ _ _ _ none hj (World.grownBy_alloc wr _ none) (fun r e => by cases e)) (by rw [List.length_take]; omega)
      have HB1 : Hid (Below n₀ W (wr.alloc (smX x))) := hbw.alloc (Nat.le_trans hnW hbw.size) _
      have HS : Hid (L.take (i + 1) = L.take i ++ [x]) := take_succ L i x hx
      have HP : Hid (L.take i ++ [x] <+: L) := by
        unfold Hid
        rw [← take_succ L i x hx]
        exact List.take_prefix _ _
      clear hY hj hcs hx hiL
      obtain ⟨t, v, s⟩ := x
      obtain ⟨fn, tmps, assign, body, hy, hR'⟩ := HYY.out
      gi_wp2
      refine hR'.mono ?_
      rintro e W3 (⟨rfl, hJ3, hk3⟩ | ⟨rfl, hJx3⟩)
      · have HB3 : Hid (Below n₀ W W3) := HB1.out.trans hk3.1
        have HJ3 : Hid (J (L.take (i + 1)) W3) := by unfold Hid; rw [HS.out]; exact hJ3
        gi_wp2
        go_roundw
        case rel => exact ⟨i + 1, by go_num, by omega, HB3.out, HJ3.out⟩
        case measure => simp [RowKit.intOf]; omega
      · gi_wp2
        refine bodyPost_ret (results_none rfl _ _ _) rfl ?_
        exact ⟨⟨_, rfl⟩, .inr ⟨_, HP.out, hJx3⟩⟩
    · have hii : ¬ (i : Int) < (N : Int) := by omega
      have hin : i = N := by omega
      subst hin
      have HE : Hid (L.take i = L) := by unfold Hid; rw [HL.out, List.take_length]
      gi_wp2
      go_end0
      exact ⟨⟨_, rfl⟩, .inl (by rw [HE.out] at hj; exact hj)⟩
set_option maxHeartbeats 1000000 in
/-- Values(s): the slice is boxed; the function value captures the box. -/
theorem values_any (a : Option Addr) (N c : Nat) (w : World) :
    Calls Tryd.prog 29 #[.slice a N c] w fun e w' => e = .returned (.func (.func 40) #[] #[.pointer (some ⟨w.heap.size, 0, none⟩)]) ∧ w' = w.alloc (.cells #[.slice a N c] 22) := by
  go_enter Tryd.func29, Tryd.ntmps29
  go_wp2
  go_ret
  exact ⟨rfl, rfl⟩
theorem vals_stops (n : Nat) (hn : 1 ≤ n) (Bs n₀ : Nat) (a : Option Addr) (L : List Smp) (N c : Nat) (hNL : N = L.length) (hN : N ≤ 140737488351232) (w : World) (hBs : w.cell? ⟨Bs, 0, none⟩ = some (.slice a N c)) (hBn : Bs < n₀) (hR : Sb n₀ w a L) (hnw : n₀ ≤ w.heap.size) :
    SeqStopsK Fence.wide n Tryd.prog 40 #[.pointer (some ⟨Bs, 0, none⟩)] encS (AK n₀) (fun xs => xs = L) (fun pre => pre <+: L) N w := fun l J Jx W hW hJ _ hY h0 => by
  refine (vals1 n hn l Bs n₀ a L N c hNL hN J Jx W hJ ?_ ((hW.cell (p := ⟨Bs, 0, none⟩) (Nat.lt_of_lt_of_le hBn hnw)).trans hBs) (hR.below (hW.mono hnw)) (Nat.le_trans hnw hW.size) h0).mono ?_
  · intro pre x W1 hj hl
    exact hY pre x W1 hj hl
  · rintro e W' ⟨hv, ⟨xs, h1, h2⟩ | ⟨pre, h0, h2⟩⟩
    · exact ⟨hv, .inl ⟨xs, h1, h2⟩⟩
    · exact ⟨hv, .inr ⟨pre, h0, h2⟩⟩
set_option maxHeartbeats 1000000 in
/-- Each: what Unpack answers, gone over by an iterator. -/
theorem each_any (a : Option Addr) (c : Nat) (xs : List Int) (w : World) (hi : Im w a xs) (hx : By xs) (hs : Scl w) (ht : Tab w) (hcap : xs.length ≤ c) :
    Calls Tryd.prog 14 #[.slice a xs.length c] w fun e w' => ∃ (a2 : Option Addr) (c2 B : Nat), e = .returned (.func (.func 40) #[] #[.pointer (some ⟨B, 0, none⟩)]) ∧ w'.cell? ⟨B, 0, none⟩ = some (.slice a2 (upL xs).length c2) ∧ w.heap.size ≤ B ∧ B < w'.heap.size ∧ w'.ownsRow w.heap.size 38 3 (.slice a2 (upL xs).length c2) (upL xs).length (smc (upL xs)) ∧ Below w.heap.size w w' := by
  have k1 := unpack_any a c xs w hi hx hs ht hcap
  obtain ⟨n, hn⟩ : ∃ n, n = xs.length := ⟨_, rfl⟩
  rw [← hn] at k1 ⊢
  have HN : Hid (n = xs.length) := hn
  clear hn hi hx hs ht hcap
  go_enter Tryd.func14, Tryd.ntmps14
  go_wp2_with fail
  go_fit k1
  rintro e w1 ⟨v, rfl, o1, b1⟩
  obtain ⟨a2, c2, rfl⟩ := row_form o1
  have HO : Hid (w1.ownsRow w.heap.size 38 3 (.slice a2 (upL xs).length c2) (upL xs).length (smc (upL xs))) := o1
  have HB : Hid (Below w.heap.size w w1) := b1
  obtain ⟨m, hm⟩ : ∃ m, m = (upL xs).length := ⟨_, rfl⟩
  rw [← hm]
  have HM : Hid (m = (upL xs).length) := hm
  have k2 := values_any a2 m c2 w1
  clear o1 b1 k1 hm
  go_wp2_with fail
  go_fit k2
  rintro e w2 ⟨rfl, rfl⟩
  clear k2
  go_wp2
  go_ret
  exact ⟨a2, c2, w1.heap.size, rfl, by rw [← HM.out]; unfold World.cell?; rw [heap_alloc_new]; rfl, HB.out.size, by simp, HO.out.alloc _, HB.out.alloc HB.out.size _⟩
end Go.Proofs.YtedlmjieclaojaaDoor
