/- UtfAlls: the iterator that All answers. -/
import Derived.RangeFuncNested
import Derived.RangeFuncBound
import Derived.RangeFuncCalls
import Derived.RangeFuncLeaves
import Derived.RangeFuncBox
import Derived.RangeFuncFrom
import Derived.Shelf.Abstract
import Derived.Shelf.RegionOpen
import Derived.WalkKit
import Derived.OwnWalkIn
import Derived.TacticsInMore
import Derived.LoopNIn
import Derived.LoopIn
import Derived.Test.YtdnbkgbgpfmipaaDoorAlsB
namespace Go.Proofs.YtdnbkgbgpfmipaaDoor
open Go.RowKit Go.Lib Go.Shelf

attribute [local go_sem] Oper.semAt_some

/-- What a round of a loop over All keeps. -/
def AK (n₀ : Nat) (W W' : World) : Prop := Below n₀ W W' ∧ KeepsWalks W W'
theorem AK_t {n₀ : Nat} {A B C : World} (h : AK n₀ A B) (k : AK n₀ B C) : AK n₀ A C := ⟨h.1.trans k.1, h.2.trans k.2⟩
theorem AK_b {n₀ : Nat} {w : World} (hn : n₀ ≤ w.heap.size) (W : World) (l : Nat) (o o' : Obj) (hl : w.heap.size ≤ l) (h : W.heap[l]? = some o) (h1 : o.isCells = false) (h2 : o.isWalk = false) : AK n₀ W (W.putObj l o') :=
  ⟨belowK_b hn W l o o' hl h h1 h2, KeepsWalks.putObj _ h h2⟩

theorem grown_iterAt (w : World) (k : Nat) (s : ByteArray) (p' : Nat) : w.grownBy (w.iterAt k s p') (some k) := by
  have hb : Below 0 w (w.iterAt k s p') := below_iterAt (Below.refl _ _) (Nat.zero_le _) s p'
  exact ⟨hb.os, hb.tape, hb.output, hb.size, fun j _ hj => iterAt_other w k j s p' (fun e => hj (by rw [e]))⟩
theorem grown_below {w w' : World} (h : Below w.heap.size w w') : w.grownBy w' none := ⟨h.os, h.tape, h.output, h.size, fun k hk _ => h.block k hk⟩

abbrev enc2 (x : Int × Int) : Array Value := #[.int .i64 x.1, .int .i32 x.2]

set_option maxRecDepth 100000 in
set_option maxHeartbeats 4000000 in
theorem als1 (n : Nat) (hn : 1 ≤ n) (l Bs n₀ : Nat) (s : ByteArray) (hs : s.size ≤ 1048576) (J Jx : List (Int × Int) → World → Prop) (W : World) (hJ : AbidesFrom W.heap.size J)
    (hY : ∀ pre x W1, J pre W1 → pre.length < s.size → YieldAt Fence.wide (n - 1) Tryd.prog l (enc2 x) W1 fun e W' => (e = .returned (.bool true) ∧ J (pre ++ [x]) W' ∧ AK n₀ W1 W') ∨ (e = .returned (.bool false) ∧ Jx (pre ++ [x]) W'))
    (hBs : W.cell? ⟨Bs, 0, none⟩ = some (.string s)) (hBn : Bs < n₀) (h1n : 1 < n₀) (hnW : n₀ ≤ W.heap.size) (hT : Lib.Utf8Tabs 0 1 W) (h0 : J [] W) :
    CallsIn Fence.wide n Tryd.prog 30 #[.func (.yield l) #[] #[], .pointer (some ⟨Bs, 0, none⟩)] W fun e W' => (∃ v, e = .returned v) ∧ ((∃ xs, xs = al s ∧ J xs W') ∨ (∃ pre, pre <+: al s ∧ Jx pre W')) := by
  have HT : Hid (Lib.Utf8Tabs 0 1 W) := hT
  have HS : Hid (s.size ≤ 1048576) := hs
  clear hT hs
  refine callsIn_of_wp Tryd.func30 rfl trivial ?_ rfl
  simp only [Tryd.ntmps30, List.size_toArray, List.length_cons, List.length_nil, Nat.reduceAdd, Nat.reduceSub, Array.replicate_succ, Array.replicate_zero, List.push_toArray, List.append_toArray, List.nil_append, List.cons_append]
  gi_wp2
  gi_loopw [] (fun w' => ∃ (pos f : Nat) (pre : List (Int × Int)), w'.heap[W.heap.size]? = some (.stringIter s pos) ∧ Below n₀ W w' ∧ J pre w' ∧ Hid (pre ++ alF s f pos = al s) ∧ s.size ≤ pos + f ∧ pre.length ≤ pos) (fun w' => s.size - w'.iterPos W.heap.size)
  case atStart => exact ⟨0, s.size, [], World.iter_heap W s 0, (Below.refl _ _).alloc hnW _, hJ _ _ _ none h0 (World.grownBy_alloc W _ none) (fun r e => by cases e), rfl, by omega, by simp⟩
  case round =>
    obtain ⟨pos, f, pre, hk, hbw, hj, hp, hf, hpl⟩ := hrel
    by_cases hlt : pos < s.size
    · have hnx : ∀ ty, (Instr.next (.pointer (some ⟨W.heap.size, 0, none⟩)) true ty).run Tryd.prog wr = _ := fun ty => run_next_any_at wr W.heap.size s pos ty hk hlt
      have hwd := (decode_width s pos).1
      have hb1 : Below n₀ W (wr.iterAt W.heap.size s (pos + (Utf8.decode s pos).2)) := below_iterAt hbw hnW s _
      have hk1 := iterAt_heap wr W.heap.size s pos (pos + (Utf8.decode s pos).2) hk
      have hj1 : J pre (wr.iterAt W.heap.size s (pos + (Utf8.decode s pos).2)) := hJ _ _ _ (some W.heap.size) hj (grown_iterAt wr W.heap.size s _) (fun r e => by cases e; exact ⟨Nat.le_refl _, _, hk, rfl⟩)
      have cB := begins_any s pos (wr.iterAt W.heap.size s (pos + (Utf8.decode s pos).2)) (by have := HS.out; unfold maxLen; omega) (tabs_below HT.out h1n hb1) hlt
      have hsz1 : W.heap.size < (wr.iterAt W.heap.size s (pos + (Utf8.decode s pos).2)).heap.size := (Array.getElem?_eq_some_iff.1 hk1).1
      have hbx : (wr.iterAt W.heap.size s (pos + (Utf8.decode s pos).2)).cell? ⟨Bs, 0, none⟩ = some (.string s) := (hb1.cell (p := ⟨Bs, 0, none⟩) hBn).trans hBs
      have hnn := nxt_width s pos
      have HP : Hid (pre ++ alF s f pos = al s) := hp
      have HW2 : Hid (wr.heap[W.heap.size]? = some (.stringIter s pos)) := hk
      have HJ1 : Hid (J pre (wr.iterAt W.heap.size s (pos + (Utf8.decode s pos).2))) := hj1
      clear hp hj hj1 hk
      by_cases hz : (nxt s pos).2 = 0
      · have hd : decide ((nxt s pos).2 ≠ 0) = false := by simp [hz]
        rw [hd] at cB
        have HE : Hid (pre = al s) := by
          have := HP.out
          rw [alF_stop s f pos (fun x => x.2 hz), List.append_nil] at this
          exact this
        clear hd hz hnn hk1 hwd
        generalize (Utf8.decode s pos).2 = D at *
        generalize (Utf8.decode s pos).1 = R at *
        generalize wr.iterAt W.heap.size s (pos + D) = X at *
        gi_wp2_with (refine ⟨trivial, ?_⟩; gi_at_call 26; refine (callsIn_wide.2 cB).mono ?_; rintro e w2 ⟨rfl, hb2⟩)
        refine ⟨fun _ h => (by cases h), ?_⟩
        gi_wp2
        refine bodyPost_ret (results_none rfl _ _ _) rfl ?_
        exact ⟨⟨_, rfl⟩, .inl ⟨pre, HE.out, hJ _ _ _ none HJ1.out (grown_below hb2) (fun r e => by cases e)⟩⟩
      · obtain ⟨f', rfl⟩ : ∃ f', f = f' + 1 := ⟨f - 1, by omega⟩
        obtain ⟨n1, n2⟩ := hnn hz
        have hd : decide ((nxt s pos).2 ≠ 0) = true := by simp [hz]
        rw [hd] at cB
        have HN : Hid ((pre ++ [((pos : Int), (nxt s pos).1)]) ++ alF s f' (pos + (Utf8.decode s pos).2) = al s) := by
          have := HP.out
          rw [alF_go s f' pos hlt hz] at this
          show _ = _
          rw [← this]
          simp
        rw [n2] at HN
        have HYY : Hid (∀ w2, Below (wr.iterAt W.heap.size s (pos + (Utf8.decode s pos).2)).heap.size (wr.iterAt W.heap.size s (pos + (Utf8.decode s pos).2)) w2 → YieldAt Fence.wide (n - 1) Tryd.prog l #[.int .i64 pos, .int .i32 ((Utf8.decode s pos).1 : Int)] w2 fun e W' => (e = .returned (.bool true) ∧ J (pre ++ [((pos : Int), ((Utf8.decode s pos).1 : Int))]) W' ∧ AK n₀ w2 W') ∨ (e = .returned (.bool false) ∧ Jx (pre ++ [((pos : Int), ((Utf8.decode s pos).1 : Int))]) W')) := fun w2 b2 =>
          hY pre ((pos : Int), ((Utf8.decode s pos).1 : Int)) w2 (hJ _ _ _ none HJ1.out (grown_below b2) (fun r e => by cases e)) (by omega)
        have hpl2 : (pre ++ [((pos : Int), ((Utf8.decode s pos).1 : Int))]).length ≤ pos + (Utf8.decode s pos).2 := by simp; omega
        have HK1 : Hid ((wr.iterAt W.heap.size s (pos + (Utf8.decode s pos).2)).heap[W.heap.size]? = some (.stringIter s (pos + (Utf8.decode s pos).2))) := hk1
        clear hd hz hnn hk1 n1 n2 hY
        generalize (Utf8.decode s pos).2 = D at *
        generalize (Utf8.decode s pos).1 = R at *
        generalize wr.iterAt W.heap.size s (pos + D) = X at *
        gi_wp2_with (refine ⟨trivial, ?_⟩; gi_at_call 26; refine (callsIn_wide.2 cB).mono ?_; rintro e w2 ⟨rfl, hb2⟩; obtain ⟨fn, tmps, assign, body, hy, hR⟩ := HYY.out w2 hb2)
        refine hR.mono ?_
        have hk2 : w2.heap[W.heap.size]? = some (.stringIter s (pos + D)) := (hb2.block _ hsz1).trans HK1.out
        have hbb : Below n₀ W w2 := hb1.trans (hb2.mono (Nat.le_trans hnW (Nat.le_of_lt hsz1)))
        rintro e W3 (⟨rfl, hJ3, hk3⟩ | ⟨rfl, hJx3⟩)
        · have hk4 : W3.heap[W.heap.size]? = some (.stringIter s (pos + D)) := hk3.2.same _ _ hk2 rfl
          have HK4 : Hid (W3.heap[W.heap.size]? = some (.stringIter s (pos + D))) := hk4
          clear hk4 hk2
          gi_wp2
          go_roundw
          case rel => exact ⟨pos + D, f', pre ++ [((pos : Int), (R : Int))], HK4.out, hbb.trans hk3.1, hJ3, HN, by omega, hpl2⟩
          case measure =>
            rw [iterPos_at HW2.out, iterPos_at HK4.out]
            omega
        · gi_wp2
          refine bodyPost_ret (results_none rfl _ _ _) rfl ?_
          exact ⟨⟨_, rfl⟩, .inr ⟨pre ++ [((pos : Int), (R : Int))], ⟨_, HN.out⟩, hJx3⟩⟩
    · have hnx : ∀ ty, (Instr.next (.pointer (some ⟨W.heap.size, 0, none⟩)) true ty).run Tryd.prog wr = _ := fun ty => run_next_end_at wr W.heap.size s pos ty hk hlt
      have HE : Hid (pre = al s) := by
        have := hp.out
        rw [alF_stop s f pos (fun x => hlt x.1), List.append_nil] at this
        exact this
      clear hk hp
      gi_wp2
      go_end0
      exact ⟨⟨_, rfl⟩, .inl ⟨pre, HE.out, hj⟩⟩

set_option maxHeartbeats 1000000 in
/-- All(s): the text is boxed; the function value captures the box. -/
theorem all_in (n : Nat) (s : ByteArray) (w : World) :
    CallsIn Fence.wide n Tryd.prog 16 #[.string s] w fun e w' => e = .returned (.func (.func 30) #[] #[.pointer (some ⟨w.heap.size, 0, none⟩)]) ∧ w' = w.alloc (.cells #[.string s] 9) := by
  refine callsIn_of_wp Tryd.func16 rfl trivial ?_ rfl
  simp only [Tryd.ntmps16, List.size_toArray, List.length_cons, List.length_nil, Nat.reduceAdd, Nat.reduceSub, Array.replicate_succ, Array.replicate_zero, List.push_toArray, List.append_toArray, List.nil_append, List.cons_append]
  gi_wp2
  go_ret
  exact ⟨rfl, rfl⟩

theorem als_stops (n : Nat) (hn : 1 ≤ n) (Bs n₀ : Nat) (s : ByteArray) (hs : s.size ≤ 1048576) (w : World) (hBs : w.cell? ⟨Bs, 0, none⟩ = some (.string s)) (hBn : Bs < n₀) (h1n : 1 < n₀) (hnw : n₀ ≤ w.heap.size) (hT : Lib.Utf8Tabs 0 1 w) :
    SeqStopsK Fence.wide n Tryd.prog 30 #[.pointer (some ⟨Bs, 0, none⟩)] enc2 (AK n₀) (fun xs => xs = al s) (fun pre => pre <+: al s) s.size w := fun l J Jx W hW hJ _ hY h0 =>
  als1 n hn l Bs n₀ s hs J Jx W hJ hY ((hW.cell (p := ⟨Bs, 0, none⟩) (Nat.lt_of_lt_of_le hBn hnw)).trans hBs) hBn h1n (Nat.le_trans hnw hW.size) (tabs_below hT (Nat.lt_of_lt_of_le h1n hnw) hW) h0
end Go.Proofs.YtdnbkgbgpfmipaaDoor
