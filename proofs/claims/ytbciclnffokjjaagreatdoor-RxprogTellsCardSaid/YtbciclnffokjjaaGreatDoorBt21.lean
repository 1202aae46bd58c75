/- A bundle of texts. -/
import Derived.Test.YtbciclnffokjjaaGreatDoorBt20
import Derived.Test.YtbciclnffokjjaaGreatDoorBt12
import Derived.WalkKit
import Derived.WalkLawsBesides
import Derived.WalkSpells
import Derived.Below
import Derived.Deep.DeepFit
import Derived.Outline
import Derived.RangeFuncNested
import Derived.RangeFuncBound
import Derived.RangeFuncCalls
import Derived.RangeFuncLeaves
import Derived.RangeFuncBox
import Derived.RangeFuncFrom
import Derived.Shelf.Abstract
import Derived.Shelf.RegionOpen
import Derived.OwnWalkIn
import Derived.TacticsInMore
import Derived.LoopNIn
import Derived.LoopIn
import Derived.Deep.AppendSrc
import Derived.Lib.OthersKept
import Derived.WalkSmall
import Derived.LoopTactic
import Derived.Test.YtbciclnffokjjaaGreatDoorBt11
/- The walks of utf.Next and utf.begins. -/
namespace Go.Proofs.YtbciclnffokjjaaGreatDoor
open Go.RowKit Go.Lib

theorem decodeGo_extract (s : ByteArray) (i : Nat) (h : i < s.size) : Lib.decodeGo (s.extract i s.size) = Utf8.decode s i := by
  unfold Lib.decodeGo
  rw [if_neg (by simp; omega), decode_extract]

set_option maxHeartbeats 400000 in
theorem next_out (s : ByteArray) (a : Int) (w : World) (hs : s.size ≤ maxLen) (h : a < 0 ∨ (s.size : Int) ≤ a) :
    Calls Tryz.prog 73 #[.string s, .int .i64 a] w fun e w' => e = .returned (.tuple #[.int .i32 (-1), .int .i64 0]) ∧ Below w.heap.size w w' := by
  unfold maxLen at hs
  rcases h with h | h
  · go_enter Tryz.func73, Tryz.ntmps73
    go_wp2
    go_ret2
    exact ⟨rfl, Below.refl _ _⟩
  · have h0 : ¬ a < 0 := by omega
    go_enter Tryz.func73, Tryz.ntmps73
    go_wp2
    go_ret2
    exact ⟨rfl, Below.refl _ _⟩

set_option maxHeartbeats 400000 in
theorem next_in (s : ByteArray) (i : Nat) (w : World) (_hs : s.size ≤ maxLen) (hT : Lib.Utf8Tabs 0 1 w) (h : i < s.size) :
    Calls Tryz.prog 73 #[.string s, .int .i64 i] w fun e w' => e = .returned (.tuple #[.int .i32 (nxt s i).1, .int .i64 (nxt s i).2]) ∧ Below w.heap.size w w' := by
  unfold maxLen at _hs
  have h0 : ¬ (i : Int) < 0 := by omega
  have h1 : ¬ (s.size : Int) ≤ i := by omega
  have hd := decodeGo_extract s i h
  have HT : Hid (Lib.Utf8Tabs 0 1 w) := hT
  obtain ⟨R, hR⟩ : ∃ R, (Utf8.decode s i).1 = R := ⟨_, rfl⟩
  obtain ⟨K, hK⟩ : ∃ K, (Utf8.decode s i).2 = K := ⟨_, rfl⟩
  have hn : nxt s i = if R = 65533 ∧ K = 1 then (-1, 0) else ((R : Int), (K : Int)) := by
    unfold nxt; rw [if_pos h, hR, hK]
  have cD := Tryz.utf8_DecodeRuneInString (s.extract i s.size) w hT
  rw [hd, hR, hK] at cD
  clear hd hT hR hK
  by_cases hr : R = 65533
  · by_cases hk : K = 1
    · rw [hn, if_pos ⟨hr, hk⟩]
      clear hn
      subst hr; subst hk
      go_enter Tryz.func73, Tryz.ntmps73
      go_wp2_with (go_at_call 90; go_fit cD; rintro e w' ⟨rfl, hb⟩)
      all_goals go_ret2
      all_goals exact ⟨rfl, hb⟩
    · have hkb : ((K : Int) == 1) = false := by rw [beq_eq_false_iff_ne]; omega
      rw [hn, if_neg (fun h => hk h.2)]
      clear hn hk
      subst hr
      go_enter Tryz.func73, Tryz.ntmps73
      go_wp2_with (go_at_call 90; go_fit cD; rintro e w' ⟨rfl, hb⟩)
      go_ret2
      exact ⟨rfl, hb⟩
  · have hrb : ((R : Int) == 65533) = false := by rw [beq_eq_false_iff_ne]; omega
    rw [hn, if_neg (fun h => hr h.1)]
    clear hn hr
    go_enter Tryz.func73, Tryz.ntmps73
    go_wp2_with (go_at_call 90; go_fit cD; rintro e w' ⟨rfl, hb⟩)
    go_ret2
    exact ⟨rfl, hb⟩

theorem next_any (s : ByteArray) (a : Int) (w : World) (hs : s.size ≤ maxLen) (hT : Lib.Utf8Tabs 0 1 w) :
    Calls Tryz.prog 73 #[.string s, .int .i64 a] w fun e w' => e = .returned (.tuple #[.int .i32 (nxtZ s a).1, .int .i64 (nxtZ s a).2]) ∧ Below w.heap.size w w' := by
  by_cases h0 : a < 0
  · have e1 : nxtZ s a = (-1, 0) := by unfold nxtZ; rw [if_neg (by omega)]
    rw [e1]
    exact next_out s a w hs (Or.inl h0)
  · obtain ⟨i, rfl⟩ := Int.eq_ofNat_of_zero_le (show 0 ≤ a by omega)
    have e1 : nxtZ s (i : Int) = nxt s i := by unfold nxtZ; rw [if_pos (by omega)]; simp
    rw [e1]
    by_cases h1 : i < s.size
    · exact next_in s i w hs hT h1
    · rw [nxt_out s i (by omega)]
      exact next_out s i w hs (Or.inr (by omega))

/-! The tables stand in every later world. -/
theorem lt_of_cell {w : World} {b o : Nat} {v : Value} (h : w.cell? ⟨b, o, none⟩ = some v) : b < w.heap.size := by
  unfold World.cell? at h
  by_cases hb : b < w.heap.size
  · exact hb
  · rw [Array.getElem?_eq_none (by simpa using hb)] at h
    cases h
theorem tabs_size {w : World} (h : Lib.Utf8Tabs 0 1 w) : 1 < w.heap.size := lt_of_cell (h.2 0 (by omega)).1
theorem tabs_below {w w' : World} {B : Nat} (h : Lib.Utf8Tabs 0 1 w) (hB : 1 < B) (hb : Below B w w') : Lib.Utf8Tabs 0 1 w' :=
  ⟨fun c hc => by rw [hb.cell (show (0 : Nat) < B by omega)]; exact h.1 c hc, fun i hi => ⟨by rw [hb.cell (show (1 : Nat) < B by omega)]; exact (h.2 i hi).1, by rw [hb.cell (show (1 : Nat) < B by omega)]; exact (h.2 i hi).2⟩⟩

set_option maxHeartbeats 400000 in
theorem begins_any (s : ByteArray) (i : Nat) (w : World) (hs : s.size ≤ maxLen) (hT : Lib.Utf8Tabs 0 1 w) (h : i < s.size) :
    Calls Tryz.prog 89 #[.string s, .int .i64 i, .int .i32 (Utf8.decode s i).1] w fun e w' => e = .returned (.bool (decide ((nxt s i).2 ≠ 0))) ∧ Below w.heap.size w w' := by
  have hno := nxt_no s i h
  have hp := nxt_pos s i
  have cN := next_in s i w hs hT h
  obtain ⟨R, hR⟩ : ∃ R, (Utf8.decode s i).1 = R := ⟨_, rfl⟩
  rw [hR] at hno ⊢
  clear hs hT
  by_cases hr : R = 65533
  · subst hr
    obtain ⟨X, hX⟩ : ∃ X, (nxt s i).1 = X := ⟨_, rfl⟩
    obtain ⟨Y, hY⟩ : ∃ Y, (nxt s i).2 = Y := ⟨_, rfl⟩
    rw [hX, hY] at cN
    rw [hY] at hp ⊢
    clear hno hX hY hR
    obtain ⟨b, hb⟩ : ∃ b, decide (Y ≠ 0) = b := ⟨_, rfl⟩
    have hb' : decide (0 < Y) = b := by rw [← hb]; apply decide_eq_decide.2; omega
    rw [hb]
    have HB : Hid (decide (Y ≠ 0) = b) := hb
    clear hb
    cases b
    all_goals
      go_enter Tryz.func89, Tryz.ntmps89
      go_wp2_with (go_at_call 73; go_fit cN; rintro e w' ⟨rfl, hb⟩)
      go_ret
      exact ⟨rfl, hb⟩
  · have hrb : ((R : Int) != 65533) = true := by rw [bne_iff_ne]; omega
    have hb : decide ((nxt s i).2 ≠ 0) = true := by simp only [decide_eq_true_eq]; intro h2; exact hr (hno.1 h2).1
    rw [hb]
    clear hno cN hR hp hb hr
    go_enter Tryz.func89, Tryz.ntmps89
    go_wp2
    go_ret
    exact ⟨rfl, Below.refl _ _⟩
end Go.Proofs.YtbciclnffokjjaaGreatDoor
/- utf.All. -/
namespace Go.Proofs.YtbciclnffokjjaaGreatDoor
open Go.RowKit Go.Lib Go.Shelf

theorem iterPos_at {w : World} {k : Nat} {s : ByteArray} {pos : Nat} (h : w.heap[k]? = some (.stringIter s pos)) : w.iterPos k = pos := by
  unfold World.iterPos; rw [h]
/-- The places at which runes begin, with the runes, from a place on, up to the first fault. -/
def alF (s : ByteArray) : Nat → Nat → List (Int × Int)
  | 0, _ => []
  | f + 1, p => if p < s.size ∧ (nxt s p).2 ≠ 0 then ((p : Int), (nxt s p).1) :: alF s f (p + (Utf8.decode s p).2) else []
def al (s : ByteArray) : List (Int × Int) := alF s s.size 0
theorem alF_stop (s : ByteArray) (f p : Nat) (h : ¬ (p < s.size ∧ (nxt s p).2 ≠ 0)) : alF s f p = [] := by
  cases f with
  | zero => rfl
  | succ f => unfold alF; rw [if_neg h]
theorem alF_go (s : ByteArray) (f p : Nat) (h : p < s.size) (hz : (nxt s p).2 ≠ 0) : alF s (f + 1) p = ((p : Int), (nxt s p).1) :: alF s f (p + (Utf8.decode s p).2) := by
  rw [alF, if_pos ⟨h, hz⟩]
theorem alF_len (s : ByteArray) : ∀ f p, (alF s f p).length ≤ f
  | 0, _ => Nat.le_refl _
  | f + 1, p => by
    unfold alF
    split
    · have := alF_len s f (p + (Utf8.decode s p).2)
      simp
      omega
    · simp
attribute [local go_sem] Oper.semAt_some

/-- What a round of a loop over All keeps. -/
def AK (n₀ : Nat) (W W' : World) : Prop := Below n₀ W W' ∧ KeepsWalks W W'
theorem AK_t {n₀ : Nat} {A B C : World} (h : AK n₀ A B) (k : AK n₀ B C) : AK n₀ A C := ⟨h.1.trans k.1, h.2.trans k.2⟩
theorem AK_b {n₀ : Nat} {w : World} (hn : n₀ ≤ w.heap.size) (W : World) (l : Nat) (o o' : Obj) (hl : w.heap.size ≤ l) (h : W.heap[l]? = some o) (h1 : o.isCells = false) (h2 : o.isWalk = false) : AK n₀ W (W.putObj l o') :=
  ⟨belowK_b hn W l o o' hl h h1 h2, KeepsWalks.putObj _ h h2⟩

theorem grown_iterAt (w : World) (k : Nat) (s : ByteArray) (p' : Nat) : w.grownBy (w.iterAt k s p') (some k) := by
  have hb : Below 0 w (w.iterAt k s p') := below_iterAt (Below.refl _ _) (Nat.zero_le _) s p'
  exact ⟨hb.os, hb.tape, hb.output, hb.size, fun j _ hj => iterAt_other w k j s p' (fun e => hj (by rw [e]))⟩
theorem grown_below {w w' : World} (h : Below w.heap.size w w') : w.grownBy w' none := ⟨h.os, h.tape, h.output, h.size, fun k hk _ => h.block k hk⟩

abbrev enc2 (x : Int × Int) : Array Value := #[.int .i64 x.1, .int .i32 x.2]

set_option maxRecDepth 100000 in
set_option maxHeartbeats 4000000 in
theorem als1 (n : Nat) (hn : 1 ≤ n) (l Bs n₀ : Nat) (s : ByteArray) (hs : s.size ≤ 1048576) (J Jx : List (Int × Int) → World → Prop) (W : World) (hJ : AbidesFrom W.heap.size J)
    (hY : ∀ pre x W1, J pre W1 → pre.length < s.size → (0 ≤ x.1 ∧ x.1 < (s.size : Int)) → YieldAt Fence.wide (n - 1) Tryz.prog l (enc2 x) W1 fun e W' => (e = .returned (.bool true) ∧ J (pre ++ [x]) W' ∧ AK n₀ W1 W') ∨ (e = .returned (.bool false) ∧ Jx (pre ++ [x]) W'))
    (hBs : W.cell? ⟨Bs, 0, none⟩ = some (.string s)) (hBn : Bs < n₀) (h1n : 1 < n₀) (hnW : n₀ ≤ W.heap.size) (hT : Lib.Utf8Tabs 0 1 W) (h0 : J [] W) :
    CallsIn Fence.wide n Tryz.prog 88 #[.func (.yield l) #[] #[], .pointer (some ⟨Bs, 0, none⟩)] W fun e W' => (∃ v, e = .returned v) ∧ ((∃ xs, xs = al s ∧ J xs W') ∨ (∃ pre, pre <+: al s ∧ Jx pre W')) := by
  have HT : Hid (Lib.Utf8Tabs 0 1 W) := hT
  have HS : Hid (s.size ≤ 1048576) := hs
  clear hT hs
  refine callsIn_of_wp Tryz.func88 rfl trivial ?_ rfl
  simp only [Tryz.ntmps88, List.size_toArray, List.length_cons, List.length_nil, Nat.reduceAdd, Nat.reduceSub, Array.replicate_succ, Array.replicate_zero, List.push_toArray, List.append_toArray, List.nil_append, List.cons_append]
  gi_wp2
  gi_loopw [] (fun w' => ∃ (pos f : Nat) (pre : List (Int × Int)), w'.heap[W.heap.size]? = some (.stringIter s pos) ∧ Below n₀ W w' ∧ J pre w' ∧ Hid (pre ++ alF s f pos = al s) ∧ s.size ≤ pos + f ∧ pre.length ≤ pos) (fun w' => s.size - w'.iterPos W.heap.size)
  case atStart => exact ⟨0, s.size, [], World.iter_heap W s 0, (Below.refl _ _).alloc hnW _, hJ _ _ _ none h0 (World.grownBy_alloc W _ none) (fun r e => by cases e), rfl, by omega, by simp⟩
  case round =>
    obtain ⟨pos, f, pre, hk, hbw, hj, hp, hf, hpl⟩ := hrel
    by_cases hlt : pos < s.size
    · have hnx : ∀ ty, (Instr.next (.pointer (some ⟨W.heap.size, 0, none⟩)) true ty).run Tryz.prog wr = _ := fun ty => run_next_any_at wr W.heap.size s pos ty hk hlt
      have hwd := (decode_width s pos).1
      have hb1 : Below n₀ W (wr.iterAt W.heap.size s (pos + (Utf8.decode s pos).2)) := below_iterAt hbw hnW s _
      have hk1 := iterAt_heap wr W.heap.size s pos (pos + (Utf8.decode s pos).2) hk
      have hj1 : J pre (wr.iterAt W.heap.size s (pos + (Utf8.decode s pos).2)) := hJ _ _ _ (some W.heap.size) hj (grown_iterAt wr W.heap.size s _) (fun r e => by cases e; exact ⟨Nat.le_refl _, _, hk, rfl⟩)
      have cB := begins_any s pos (wr.iterAt W.heap.size s (pos + (Utf8.decode s pos).2)) (by have := HS.out; unfold maxLen; omega) (tabs_below HT.out h1n hb1) hlt
      have hsz1 : W.heap.size < (wr.iterAt W.heap.size s (pos + (Utf8.decode s pos).2)).heap.size := (Array.getElem?_eq_some_iff.1 hk1).1
      have hbx : (wr.iterAt W.heap.size s (pos + (Utf8.decode s pos).2)).cell? ⟨Bs, 0, none⟩ = some (.string s) := (hb1.cell (p := ⟨Bs, 0, none⟩) hBn).trans hBs
      have hnn := nxt_width s pos
      have HP : Hid (pre ++ alF s f pos = al s) := hp
      have HW2 : Hid (wr.heap[W.heap.size]? = some (.stringIter s pos)) := hk
      have HJ1 : Hid (J pre (wr.iterAt W.heap.size s (pos + (Utf8.decode s pos).2))) := hj1
      clear hp hj hj1 hk
      by_cases hz : (nxt s pos).2 = 0
      · have hd : decide ((nxt s pos).2 ≠ 0) = false := by simp [hz]
        rw [hd] at cB
        have HE : Hid (pre = al s) := by
          have := HP.out
          rw [alF_stop s f pos (fun x => x.2 hz), List.append_nil] at this
          exact this
        clear hd hz hnn hk1 hwd
        generalize (Utf8.decode s pos).2 = D at *
        generalize (Utf8.decode s pos).1 = R at *
        generalize wr.iterAt W.heap.size s (pos + D) = X at *
        gi_wp2_with (refine ⟨trivial, ?_⟩; gi_at_call 89; refine (callsIn_wide.2 cB).mono ?_; rintro e w2 ⟨rfl, hb2⟩)
        refine ⟨fun _ h => (by cases h), ?_⟩
        gi_wp2
        refine bodyPost_ret (results_none rfl _ _ _) rfl ?_
        exact ⟨⟨_, rfl⟩, .inl ⟨pre, HE.out, hJ _ _ _ none HJ1.out (grown_below hb2) (fun r e => by cases e)⟩⟩
      · obtain ⟨f', rfl⟩ : ∃ f', f = f' + 1 := ⟨f - 1, by omega⟩
        obtain ⟨n1, n2⟩ := hnn hz
        have hd : decide ((nxt s pos).2 ≠ 0) = true := by simp [hz]
        rw [hd] at cB
        have HN : Hid ((pre ++ [((pos : Int), (nxt s pos).1)]) ++ alF s f' (pos + (Utf8.decode s pos).2) = al s) := by
          have := HP.out
          rw [alF_go s f' pos hlt hz] at this
          show _ = _
          rw [← this]
          simp
        rw [n2] at HN
        have HYY : Hid (∀ w2, Below (wr.iterAt W.heap.size s (pos + (Utf8.decode s pos).2)).heap.size (wr.iterAt W.heap.size s (pos + (Utf8.decode s pos).2)) w2 → YieldAt Fence.wide (n - 1) Tryz.prog l #[.int .i64 pos, .int .i32 ((Utf8.decode s pos).1 : Int)] w2 fun e W' => (e = .returned (.bool true) ∧ J (pre ++ [((pos : Int), ((Utf8.decode s pos).1 : Int))]) W' ∧ AK n₀ w2 W') ∨ (e = .returned (.bool false) ∧ Jx (pre ++ [((pos : Int), ((Utf8.decode s pos).1 : Int))]) W')) := fun w2 b2 =>
          hY pre ((pos : Int), ((Utf8.decode s pos).1 : Int)) w2 (hJ _ _ _ none HJ1.out (grown_below b2) (fun r e => by cases e)) (by omega) ⟨by dsimp only; omega, by dsimp only; omega⟩
        have hpl2 : (pre ++ [((pos : Int), ((Utf8.decode s pos).1 : Int))]).length ≤ pos + (Utf8.decode s pos).2 := by simp; omega
        have HK1 : Hid ((wr.iterAt W.heap.size s (pos + (Utf8.decode s pos).2)).heap[W.heap.size]? = some (.stringIter s (pos + (Utf8.decode s pos).2))) := hk1
        clear hd hz hnn hk1 n1 n2 hY
        generalize (Utf8.decode s pos).2 = D at *
        generalize (Utf8.decode s pos).1 = R at *
        generalize wr.iterAt W.heap.size s (pos + D) = X at *
        gi_wp2_with (refine ⟨trivial, ?_⟩; gi_at_call 89; refine (callsIn_wide.2 cB).mono ?_; rintro e w2 ⟨rfl, hb2⟩; obtain ⟨fn, tmps, assign, body, hy, hR⟩ := HYY.out w2 hb2)
        refine hR.mono ?_
        have hk2 : w2.heap[W.heap.size]? = some (.stringIter s (pos + D)) := (hb2.block _ hsz1).trans HK1.out
        have hbb : Below n₀ W w2 := hb1.trans (hb2.mono (Nat.le_trans hnW (Nat.le_of_lt hsz1)))
        rintro e W3 (⟨rfl, hJ3, hk3⟩ | ⟨rfl, hJx3⟩)
        · have hk4 : W3.heap[W.heap.size]? = some (.stringIter s (pos + D)) := hk3.2.same _ _ hk2 rfl
          have HK4 : Hid (W3.heap[W.heap.size]? = some (.stringIter s (pos + D))) := hk4
          clear hk4 hk2
          gi_wp2
          go_roundw
          case rel => exact ⟨pos + D, f', pre ++ [((pos : Int), (R : Int))], HK4.out, hbb.trans hk3.1, hJ3, HN, by omega, hpl2⟩
          case measure =>
            rw [iterPos_at HW2.out, iterPos_at HK4.out]
            omega
        · gi_wp2
          refine bodyPost_ret (results_none rfl _ _ _) rfl ?_
          exact ⟨⟨_, rfl⟩, .inr ⟨pre ++ [((pos : Int), (R : Int))], ⟨_, HN.out⟩, hJx3⟩⟩
    · have hnx : ∀ ty, (Instr.next (.pointer (some ⟨W.heap.size, 0, none⟩)) true ty).run Tryz.prog wr = _ := fun ty => run_next_end_at wr W.heap.size s pos ty hk hlt
      have HE : Hid (pre = al s) := by
        have := hp.out
        rw [alF_stop s f pos (fun x => hlt x.1), List.append_nil] at this
        exact this
      clear hk hp
      gi_wp2
      go_end0
      exact ⟨⟨_, rfl⟩, .inl ⟨pre, HE.out, hj⟩⟩

set_option maxHeartbeats 1000000 in
/-- All(s): the text is boxed; the function value captures the box. -/
theorem all_in (n : Nat) (s : ByteArray) (w : World) :
    CallsIn Fence.wide n Tryz.prog 72 #[.string s] w fun e w' => e = .returned (.func (.func 88) #[] #[.pointer (some ⟨w.heap.size, 0, none⟩)]) ∧ w' = w.alloc (.cells #[.string s] 9) := by
  refine callsIn_of_wp Tryz.func72 rfl trivial ?_ rfl
  simp only [Tryz.ntmps72, List.size_toArray, List.length_cons, List.length_nil, Nat.reduceAdd, Nat.reduceSub, Array.replicate_succ, Array.replicate_zero, List.push_toArray, List.append_toArray, List.nil_append, List.cons_append]
  gi_wp2
  go_ret
  exact ⟨rfl, rfl⟩

/-- A place of a text, with what stands there. -/
abbrev Plc (s : ByteArray) := { x : Int × Int // 0 ≤ x.1 ∧ x.1 < (s.size : Int) }
theorem yield_to {F : Fence} {n : Nat} {P : Program} {l : Nat} {vs : Array Value} {w : World} {R R' : Ending → World → Prop} (h : YieldAt F n P l vs w R) (hm : ∀ e w', R e w' → R' e w') : YieldAt F n P l vs w R' := by
  obtain ⟨fn, tmps, assign, body, hy, hR⟩ := h
  exact ⟨fn, tmps, assign, body, hy, hR.mono hm⟩
theorem als_stops (n : Nat) (hn : 1 ≤ n) (Bs n₀ : Nat) (s : ByteArray) (hs : s.size ≤ 1048576) (w : World) (hBs : w.cell? ⟨Bs, 0, none⟩ = some (.string s)) (hBn : Bs < n₀) (h1n : 1 < n₀) (hnw : n₀ ≤ w.heap.size) (hT : Lib.Utf8Tabs 0 1 w) :
    SeqStopsK Fence.wide n Tryz.prog 88 #[.pointer (some ⟨Bs, 0, none⟩)] (fun x : Plc s => enc2 x.1) (AK n₀) (fun xs => xs.map (·.1) = al s) (fun pre => pre.map (·.1) <+: al s) s.size w := fun l J Jx W hW hJ _ hY h0 => by
  refine (als1 n hn l Bs n₀ s hs (fun pre W => ∃ ys : List (Plc s), ys.map (·.1) = pre ∧ J ys W) (fun pre W => ∃ ys : List (Plc s), ys.map (·.1) = pre ∧ Jx ys W) W ?_ ?_ ((hW.cell (p := ⟨Bs, 0, none⟩) (Nat.lt_of_lt_of_le hBn hnw)).trans hBs) hBn h1n (Nat.le_trans hnw hW.size) (tabs_below hT (Nat.lt_of_lt_of_le h1n hnw) hW) ⟨[], rfl, h0⟩).mono ?_
  · rintro pre A B row ⟨ys, e, hj⟩ hg hr
    exact ⟨ys, e, hJ ys A B row hj hg hr⟩
  · rintro pre x W1 ⟨ys, rfl, hj⟩ hl hx
    rw [List.length_map] at hl
    refine yield_to (hY ys ⟨x, hx⟩ W1 hj hl) ?_
    rintro e W' (⟨rfl, h1, h2⟩ | ⟨rfl, h1⟩)
    · exact .inl ⟨rfl, ⟨ys ++ [⟨x, hx⟩], by simp, h1⟩, h2⟩
    · exact .inr ⟨rfl, ⟨ys ++ [⟨x, hx⟩], by simp, h1⟩⟩
  · rintro e W' ⟨hv, ⟨xs, rfl, ys, h1, h2⟩ | ⟨pre, h0, ys, rfl, h2⟩⟩
    · exact ⟨hv, .inl ⟨ys, h1, h2⟩⟩
    · exact ⟨hv, .inr ⟨ys, h0, h2⟩⟩
end Go.Proofs.YtbciclnffokjjaaGreatDoor
/- How far two texts go together. -/
namespace Go.Proofs.YtbciclnffokjjaaGreatDoor
open Go.RowKit

/-- How far two texts go together, rune by rune, as the program goes. -/
def cmF (a b : ByteArray) : Nat → Nat → Nat
  | 0, _ => a.size
  | f + 1, p => if p < a.size ∧ (nxt a p).2 ≠ 0 then (if (nxt b p).1 = (nxt a p).1 then cmF a b f (p + (Utf8.decode a p).2) else p) else a.size
theorem cmF_stop (a b : ByteArray) (f p : Nat) (h : ¬ (p < a.size ∧ (nxt a p).2 ≠ 0)) : cmF a b f p = a.size := by
  cases f with
  | zero => rfl
  | succ f => unfold cmF; rw [if_neg h]
theorem cmF_all (a b : ByteArray) : ∀ f p, (∀ x ∈ alF a f p, (nxt b x.1.toNat).1 = x.2) → cmF a b f p = a.size
  | 0, _, _ => rfl
  | f + 1, p, h => by
    by_cases hc : p < a.size ∧ (nxt a p).2 ≠ 0
    · rw [alF_go a f p hc.1 hc.2] at h
      have h0 := h _ (List.mem_cons_self)
      have h0' : (nxt b p).1 = (nxt a p).1 := by simpa using h0
      unfold cmF
      rw [if_pos hc, if_pos h0']
      exact cmF_all a b f _ (fun x hx => h x (List.mem_cons_of_mem _ hx))
    · exact cmF_stop a b _ p hc
theorem cmF_part (a b : ByteArray) : ∀ f p (pre : List (Int × Int)) (x : Int × Int), pre ++ [x] <+: alF a f p → (∀ y ∈ pre, (nxt b y.1.toNat).1 = y.2) → (nxt b x.1.toNat).1 ≠ x.2 → cmF a b f p = x.1.toNat
  | 0, p, pre, x, h, _, _ => by
    have := h.length_le
    simp [alF] at this
  | f + 1, p, pre, x, h, h1, h2 => by
    by_cases hc : p < a.size ∧ (nxt a p).2 ≠ 0
    · rw [alF_go a f p hc.1 hc.2] at h
      unfold cmF
      rw [if_pos hc]
      cases pre with
      | nil =>
        have hx : x = ((p : Int), (nxt a p).1) := by
          have := List.cons_prefix_cons.1 h
          exact this.1
        subst hx
        have h2' : ¬ (nxt b p).1 = (nxt a p).1 := by simpa using h2
        rw [if_neg h2']
        simp
      | cons y pre =>
        obtain ⟨hy, hr⟩ := List.cons_prefix_cons.1 h
        subst hy
        have h0 := h1 _ (List.mem_cons_self)
        have h0' : (nxt b p).1 = (nxt a p).1 := by simpa using h0
        rw [if_pos h0']
        exact cmF_part a b f _ pre x hr (fun z hz => h1 z (List.mem_cons_of_mem _ hz)) h2
    · rw [alF_stop a (f + 1) p hc] at h
      have := h.length_le
      simp at this
theorem cmF_bd (a b : ByteArray) : ∀ f p, p ≤ a.size → p ≤ cmF a b f p ∧ cmF a b f p ≤ a.size
  | 0, _, h => ⟨h, Nat.le_refl _⟩
  | f + 1, p, h => by
    unfold cmF
    split
    · rename_i hc
      split
      · have := cmF_bd a b f (p + (Utf8.decode a p).2) (dec_size a p hc.1)
        omega
      · exact ⟨Nat.le_refl _, h⟩
    · exact ⟨h, Nat.le_refl _⟩
end Go.Proofs.YtbciclnffokjjaaGreatDoor
/- The front of a tree. -/
namespace Go.Proofs.YtbciclnffokjjaaGreatDoor
open Go.RowKit

abbrev Fr := List UInt8 × Bool
def rowF (G : Nat → Fr) : Nat → Fr
  | 0 => ([], true)
  | n + 1 => if (rowF G n).2 = true then ((rowF G n).1 ++ (G n).1, (G n).2) else rowF G n
def comF (C : List UInt8 → List UInt8 → List UInt8) (G : Nat → Fr) : Nat → Fr
  | 0 => G 0
  | n + 1 => (C (comF C G n).1 (G (n + 1)).1, (comF C G n).2 && (G (n + 1)).2 && ((G (n + 1)).1 == (comF C G n).1))
def timL (l : List UInt8) : Nat → List UInt8
  | 0 => []
  | n + 1 => timL l n ++ l
theorem timL_len (l : List UInt8) : ∀ n, (timL l n).length = n * l.length
  | 0 => by simp [timL]
  | n + 1 => by unfold timL; rw [List.length_append, timL_len l n, Nat.add_mul, Nat.one_mul]
def repF (k : Fr) (mn mx : Int) : Fr :=
  if mx = 0 then ([], true)
  else if mn = 0 then ([], k.2 && k.1 == [])
  else if k.2 = false then k
  else (timL k.1 mn.toNat, (k.2 && k.1 == []) || mx == mn)
def frF (C : List UInt8 → List UInt8 → List UInt8) : Nat → Tr → Fr
  | 0, _ => ([], false)
  | m + 1, t =>
    if (t []).kind = 2 then (if Utf8.valid (t []).r = true then ((Utf8.encode (t []).r).data.toList, true) else ([], false))
    else if (t []).kind = 3 then ([], false)
    else if (t []).kind = 4 then rowF (fun q => frF C m (kid t q)) (t []).kn
    else if (t []).kind = 5 then comF C (fun q => frF C m (kid t q)) ((t []).kn - 1)
    else if (t []).kind = 6 then repF (frF C m (kid t 0)) (t []).mn (t []).mx
    else if (t []).kind = 7 then frF C m (kid t 0)
    else ([], true)
end Go.Proofs.YtbciclnffokjjaaGreatDoor
