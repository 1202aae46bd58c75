/- A bundle of texts. -/
import Derived.RangeFuncNested
import Derived.RangeFuncBound
import Derived.RangeFuncCalls
import Derived.RangeFuncLeaves
import Derived.RangeFuncBox
import Derived.RangeFuncFrom
import Derived.Shelf.Abstract
import Derived.Shelf.RegionOpen
import Derived.WalkKit
import Derived.OwnWalkIn
import Derived.TacticsInMore
import Derived.LoopNIn
import Derived.LoopIn
import Derived.Deep.AppendSrc
import Derived.Lib.OthersKept
import Derived.WalkSmall
import Derived.LoopTactic
import Derived.Test.YtbciclnffokjjaaDoorBb02
import Derived.Laws.Cover4
/- utf.All. -/
namespace Go.Proofs.YtbciclnffokjjaaDoor
open Go.RowKit Go.Lib Go.Shelf

theorem iterPos_at {w : World} {k : Nat} {s : ByteArray} {pos : Nat} (h : w.heap[k]? = some (.stringIter s pos)) : w.iterPos k = pos := by
  unfold World.iterPos; rw [h]
/-- The places at which runes begin, with the runes, from a place on, up to the first fault. -/
def alF (s : ByteArray) : Nat → Nat → List (Int × Int)
  | 0, _ => []
  | f + 1, p => if p < s.size ∧ (nxt s p).2 ≠ 0 then ((p : Int), (nxt s p).1) :: alF s f (p + (Utf8.decode s p).2) else []
def al (s : ByteArray) : List (Int × Int) := alF s s.size 0
theorem alF_stop (s : ByteArray) (f p : Nat) (h : ¬ (p < s.size ∧ (nxt s p).2 ≠ 0)) : alF s f p = [] := by
  cases f with
  | zero => rfl
  | succ f => unfold alF; rw [if_neg h]
theorem alF_go (s : ByteArray) (f p : Nat) (h : p < s.size) (hz : (nxt s p).2 ≠ 0) : alF s (f + 1) p = ((p : Int), (nxt s p).1) :: alF s f (p + (Utf8.decode s p).2) := by
  rw [alF, if_pos ⟨h, hz⟩]
theorem alF_len (s : ByteArray) : ∀ f p, (alF s f p).length ≤ f
  | 0, _ => Nat.le_refl _
  | f + 1, p => by
    unfold alF
    split
    · have := alF_len s f (p + (Utf8.decode s p).2)
      simp
      omega
    · simp
attribute [local go_sem] Oper.semAt_some

/-- What a round of a loop over All keeps. -/
def AK (n₀ : Nat) (W W' : World) : Prop := Below n₀ W W' ∧ KeepsWalks W W'
theorem AK_t {n₀ : Nat} {A B C : World} (h : AK n₀ A B) (k : AK n₀ B C) : AK n₀ A C := ⟨h.1.trans k.1, h.2.trans k.2⟩
theorem AK_b {n₀ : Nat} {w : World} (hn : n₀ ≤ w.heap.size) (W : World) (l : Nat) (o o' : Obj) (hl : w.heap.size ≤ l) (h : W.heap[l]? = some o) (h1 : o.isCells = false) (h2 : o.isWalk = false) : AK n₀ W (W.putObj l o') :=
  ⟨belowK_b hn W l o o' hl h h1 h2, KeepsWalks.putObj _ h h2⟩

theorem grown_iterAt (w : World) (k : Nat) (s : ByteArray) (p' : Nat) : w.grownBy (w.iterAt k s p') (some k) := by
  have hb : Below 0 w (w.iterAt k s p') := below_iterAt (Below.refl _ _) (Nat.zero_le _) s p'
  exact ⟨hb.os, hb.tape, hb.output, hb.size, fun j _ hj => iterAt_other w k j s p' (fun e => hj (by rw [e]))⟩
theorem grown_below {w w' : World} (h : Below w.heap.size w w') : w.grownBy w' none := ⟨h.os, h.tape, h.output, h.size, fun k hk _ => h.block k hk⟩

abbrev enc2 (x : Int × Int) : Array Value := #[.int .i64 x.1, .int .i32 x.2]

set_option maxRecDepth 100000 in
set_option maxHeartbeats 4000000 in
theorem als1 (n : Nat) (hn : 1 ≤ n) (l Bs n₀ : Nat) (s : ByteArray) (hs : s.size ≤ 1048576) (J Jx : List (Int × Int) → World → Prop) (W : World) (hJ : AbidesFrom W.heap.size J)
    (hY : ∀ pre x W1, J pre W1 → pre.length < s.size → (0 ≤ x.1 ∧ x.1 < (s.size : Int)) → YieldAt Fence.wide (n - 1) Tryd.prog l (enc2 x) W1 fun e W' => (e = .returned (.bool true) ∧ J (pre ++ [x]) W' ∧ AK n₀ W1 W') ∨ (e = .returned (.bool false) ∧ Jx (pre ++ [x]) W'))
    (hBs : W.cell? ⟨Bs, 0, none⟩ = some (.string s)) (hBn : Bs < n₀) (h1n : 1 < n₀) (hnW : n₀ ≤ W.heap.size) (hT : Lib.Utf8Tabs 0 1 W) (h0 : J [] W) :
    CallsIn Fence.wide n Tryd.prog 57 #[.func (.yield l) #[] #[], .pointer (some ⟨Bs, 0, none⟩)] W fun e W' => (∃ v, e = .returned v) ∧ ((∃ xs, xs = al s ∧ J xs W') ∨ (∃ pre, pre <+: al s ∧ Jx pre W')) := by
  have HT : Hid (Lib.Utf8Tabs 0 1 W) := hT
  have HS : Hid (s.size ≤ 1048576) := hs
  clear hT hs
  refine callsIn_of_wp Tryd.func57 rfl trivial ?_ rfl
  simp only [Tryd.ntmps57, List.size_toArray, List.length_cons, List.length_nil, Nat.reduceAdd, Nat.reduceSub, Array.replicate_succ, Array.replicate_zero, List.push_toArray, List.append_toArray, List.nil_append, List.cons_append]
  gi_wp2
  gi_loopw [] (fun w' => ∃ (pos f : Nat) (pre : List (Int × Int)), w'.heap[W.heap.size]? = some (.stringIter s pos) ∧ Below n₀ W w' ∧ J pre w' ∧ Hid (pre ++ alF s f pos = al s) ∧ s.size ≤ pos + f ∧ pre.length ≤ pos) (fun w' => s.size - w'.iterPos W.heap.size)
  case atStart => exact ⟨0, s.size, [], World.iter_heap W s 0, (Below.refl _ _).alloc hnW _, hJ _ _ _ none h0 (World.grownBy_alloc W _ none) (fun r e => by cases e), rfl, by omega, by simp⟩
  case round =>
    obtain ⟨pos, f, pre, hk, hbw, hj, hp, hf, hpl⟩ := hrel
    by_cases hlt : pos < s.size
    · have hnx : ∀ ty, (Instr.next (.pointer (some ⟨W.heap.size, 0, none⟩)) true ty).run Tryd.prog wr = _ := fun ty => run_next_any_at wr W.heap.size s pos ty hk hlt
      have hwd := (decode_width s pos).1
      have hb1 : Below n₀ W (wr.iterAt W.heap.size s (pos + (Utf8.decode s pos).2)) := below_iterAt hbw hnW s _
      have hk1 := iterAt_heap wr W.heap.size s pos (pos + (Utf8.decode s pos).2) hk
      have hj1 : J pre (wr.iterAt W.heap.size s (pos + (Utf8.decode s pos).2)) := hJ _ _ _ (some W.heap.size) hj (grown_iterAt wr W.heap.size s _) (fun r e => by cases e; exact ⟨Nat.le_refl _, _, hk, rfl⟩)
      have cB := begins_any s pos (wr.iterAt W.heap.size s (pos + (Utf8.decode s pos).2)) (by have := HS.out; unfold maxLen; omega) (tabs_below HT.out h1n hb1) hlt
      have hsz1 : W.heap.size < (wr.iterAt W.heap.size s (pos + (Utf8.decode s pos).2)).heap.size := (Array.getElem?_eq_some_iff.1 hk1).1
      have hbx : (wr.iterAt W.heap.size s (pos + (Utf8.decode s pos).2)).cell? ⟨Bs, 0, none⟩ = some (.string s) := (hb1.cell (p := ⟨Bs, 0, none⟩) hBn).trans hBs
      have hnn := nxt_width s pos
      have HP : Hid (pre ++ alF s f pos = al s) := hp
      have HW2 : Hid (wr.heap[W.heap.size]? = some (.stringIter s pos)) := hk
      have HJ1 : Hid (J pre (wr.iterAt W.heap.size s (pos + (Utf8.decode s pos).2))) := hj1
      clear hp hj hj1 hk
      by_cases hz : (nxt s pos).2 = 0
      · have hd : decide ((nxt s pos).2 ≠ 0) = false := by simp [hz]
        rw [hd] at cB
        have HE : Hid (pre = al s) := by
          have := HP.out
          rw [alF_stop s f pos (fun x => x.2 hz), List.append_nil] at this
          exact this
        clear hd hz hnn hk1 hwd
        generalize (Utf8.decode s pos).2 = D at *
        generalize (Utf8.decode s pos).1 = R at *
        generalize wr.iterAt W.heap.size s (pos + D) = X at *
        gi_wp2_with (refine ⟨trivial, ?_⟩; gi_at_call 58; refine (callsIn_wide.2 cB).mono ?_; rintro e w2 ⟨rfl, hb2⟩)
        refine ⟨fun _ h => (by cases h), ?_⟩
        gi_wp2
        refine bodyPost_ret (results_none rfl _ _ _) rfl ?_
        exact ⟨⟨_, rfl⟩, .inl ⟨pre, HE.out, hJ _ _ _ none HJ1.out (grown_below hb2) (fun r e => by cases e)⟩⟩
      · obtain ⟨f', rfl⟩ : ∃ f', f = f' + 1 := ⟨f - 1, by omega⟩
        obtain ⟨n1, n2⟩ := hnn hz
        have hd : decide ((nxt s pos).2 ≠ 0) = true := by simp [hz]
        rw [hd] at cB
        have HN : Hid ((pre ++ [((pos : Int), (nxt s pos).1)]) ++ alF s f' (pos + (Utf8.decode s pos).2) = al s) := by
          have := HP.out
          rw [alF_go s f' pos hlt hz] at this
          show _ = _
          rw [← this]
          simp
        rw [n2] at HN
        have HYY : Hid (∀ w2, Below (wr.iterAt W.heap.size s (pos + (Utf8.decode s pos).2)).heap.size (wr.iterAt W.heap.size s (pos + (Utf8.decode s pos).2)) w2 → YieldAt Fence.wide (n - 1) Tryd.prog l #[.int .i64 pos, .int .i32 ((Utf8.decode s pos).1 : Int)] w2 fun e W' => (e = .returned (.bool true) ∧ J (pre ++ [((pos : Int), ((Utf8.decode s pos).1 : Int))]) W' ∧ AK n₀ w2 W') ∨ (e = .returned (.bool false) ∧ Jx (pre ++ [((pos : Int), ((Utf8.decode s pos).1 : Int))]) W')) := fun w2 b2 =>
          hY pre ((pos : Int), ((Utf8.decode s pos).1 : Int)) w2 (hJ _ _ _ none HJ1.out (grown_below b2) (fun r e => by cases e)) (by omega) ⟨by dsimp only; omega, by dsimp only; omega⟩
        have hpl2 : (pre ++ [((pos : Int), ((Utf8.decode s pos).1 : Int))]).length ≤ pos + (Utf8.decode s pos).2 := by simp; omega
        have HK1 : Hid ((wr.iterAt W.heap.size s (pos + (Utf8.decode s pos).2)).heap[W.heap.size]? = some (.stringIter s (pos + (Utf8.decode s pos).2))) := hk1
        clear hd hz hnn hk1 n1 n2 hY
        generalize (Utf8.decode s pos).2 = D at *
        generalize (Utf8.decode s pos).1 = R at *
        generalize wr.iterAt W.heap.size s (pos + D) = X at *
        gi_wp2_with (refine ⟨trivial, ?_⟩; gi_at_call 58; refine (callsIn_wide.2 cB).mono ?_; rintro e w2 ⟨rfl, hb2⟩; obtain ⟨fn, tmps, assign, body, hy, hR⟩ := HYY.out w2 hb2)
        refine hR.mono ?_
        have hk2 : w2.heap[W.heap.size]? = some (.stringIter s (pos + D)) := (hb2.block _ hsz1).trans HK1.out
        have hbb : Below n₀ W w2 := hb1.trans (hb2.mono (Nat.le_trans hnW (Nat.le_of_lt hsz1)))
        rintro e W3 (⟨rfl, hJ3, hk3⟩ | ⟨rfl, hJx3⟩)
        · have hk4 : W3.heap[W.heap.size]? = some (.stringIter s (pos + D)) := hk3.2.same _ _ hk2 rfl
          have HK4 : Hid (W3.heap[W.heap.size]? = some (.stringIter s (pos + D))) := hk4
          clear hk4 hk2
          gi_wp2
          go_roundw
          case rel => exact ⟨pos + D, f', pre ++ [((pos : Int), (R : Int))], HK4.out, hbb.trans hk3.1, hJ3, HN, by omega, hpl2⟩
          case measure =>
            rw [iterPos_at HW2.out, iterPos_at HK4.out]
            omega
        · gi_wp2
          refine bodyPost_ret (results_none rfl _ _ _) rfl ?_
          exact ⟨⟨_, rfl⟩, .inr ⟨pre ++ [((pos : Int), (R : Int))], ⟨_, HN.out⟩, hJx3⟩⟩
    · have hnx : ∀ ty, (Instr.next (.pointer (some ⟨W.heap.size, 0, none⟩)) true ty).run Tryd.prog wr = _ := fun ty => run_next_end_at wr W.heap.size s pos ty hk hlt
      have HE : Hid (pre = al s) := by
        have := hp.out
        rw [alF_stop s f pos (fun x => hlt x.1), List.append_nil] at this
        exact this
      clear hk hp
      gi_wp2
      go_end0
      exact ⟨⟨_, rfl⟩, .inl ⟨pre, HE.out, hj⟩⟩

set_option maxHeartbeats 1000000 in
/-- All(s): the text is boxed; the function value captures the box. -/
theorem all_in (n : Nat) (s : ByteArray) (w : World) :
    CallsIn Fence.wide n Tryd.prog 44 #[.string s] w fun e w' => e = .returned (.func (.func 57) #[] #[.pointer (some ⟨w.heap.size, 0, none⟩)]) ∧ w' = w.alloc (.cells #[.string s] 9) := by
  refine callsIn_of_wp Tryd.func44 rfl trivial ?_ rfl
  simp only [Tryd.ntmps44, List.size_toArray, List.length_cons, List.length_nil, Nat.reduceAdd, Nat.reduceSub, Array.replicate_succ, Array.replicate_zero, List.push_toArray, List.append_toArray, List.nil_append, List.cons_append]
  gi_wp2
  go_ret
  exact ⟨rfl, rfl⟩

/-- A place of a text, with what stands there. -/
abbrev Plc (s : ByteArray) := { x : Int × Int // 0 ≤ x.1 ∧ x.1 < (s.size : Int) }
theorem yield_to {F : Fence} {n : Nat} {P : Program} {l : Nat} {vs : Array Value} {w : World} {R R' : Ending → World → Prop} (h : YieldAt F n P l vs w R) (hm : ∀ e w', R e w' → R' e w') : YieldAt F n P l vs w R' := by
  obtain ⟨fn, tmps, assign, body, hy, hR⟩ := h
  exact ⟨fn, tmps, assign, body, hy, hR.mono hm⟩
theorem als_stops (n : Nat) (hn : 1 ≤ n) (Bs n₀ : Nat) (s : ByteArray) (hs : s.size ≤ 1048576) (w : World) (hBs : w.cell? ⟨Bs, 0, none⟩ = some (.string s)) (hBn : Bs < n₀) (h1n : 1 < n₀) (hnw : n₀ ≤ w.heap.size) (hT : Lib.Utf8Tabs 0 1 w) :
    SeqStopsK Fence.wide n Tryd.prog 57 #[.pointer (some ⟨Bs, 0, none⟩)] (fun x : Plc s => enc2 x.1) (AK n₀) (fun xs => xs.map (·.1) = al s) (fun pre => pre.map (·.1) <+: al s) s.size w := fun l J Jx W hW hJ _ hY h0 => by
  refine (als1 n hn l Bs n₀ s hs (fun pre W => ∃ ys : List (Plc s), ys.map (·.1) = pre ∧ J ys W) (fun pre W => ∃ ys : List (Plc s), ys.map (·.1) = pre ∧ Jx ys W) W ?_ ?_ ((hW.cell (p := ⟨Bs, 0, none⟩) (Nat.lt_of_lt_of_le hBn hnw)).trans hBs) hBn h1n (Nat.le_trans hnw hW.size) (tabs_below hT (Nat.lt_of_lt_of_le h1n hnw) hW) ⟨[], rfl, h0⟩).mono ?_
  · rintro pre A B row ⟨ys, e, hj⟩ hg hr
    exact ⟨ys, e, hJ ys A B row hj hg hr⟩
  · rintro pre x W1 ⟨ys, rfl, hj⟩ hl hx
    rw [List.length_map] at hl
    refine yield_to (hY ys ⟨x, hx⟩ W1 hj hl) ?_
    rintro e W' (⟨rfl, h1, h2⟩ | ⟨rfl, h1⟩)
    · exact .inl ⟨rfl, ⟨ys ++ [⟨x, hx⟩], by simp, h1⟩, h2⟩
    · exact .inr ⟨rfl, ⟨ys ++ [⟨x, hx⟩], by simp, h1⟩⟩
  · rintro e W' ⟨hv, ⟨xs, rfl, ys, h1, h2⟩ | ⟨pre, h0, ys, rfl, h2⟩⟩
    · exact ⟨hv, .inl ⟨ys, h1, h2⟩⟩
    · exact ⟨hv, .inr ⟨ys, h0, h2⟩⟩
end Go.Proofs.YtbciclnffokjjaaDoor
/- Runes written one behind the other. -/
namespace Go.Proofs.YtbciclnffokjjaaDoor
open Go.Lib

theorem dec1 (n b0 b1 b2 b3 : Nat) (h : b0 < 128) : decodeN n b0 b1 b2 b3 = (b0, 1) := by
  unfold decodeN; rw [if_pos h]
set_option maxHeartbeats 1000000 in
theorem dec2 (n b0 b1 b2 b3 : Nat) (g : Int) (hn : 1 < n) (h0 : b0 < 256) (h1 : b1 < 256) (hg : g = ((b0 : Int) - 192) * 64 + b1 - 128) (l : 128 ≤ g) (u : g < 2048)
    (e0 : (b0 : Int) = 192 + g / 64) (_e1 : (b1 : Int) = 128 + g % 64) : decodeN n b0 b1 b2 b3 = (g.toNat, 2) := by
  unfold decodeN
  repeat' split
  all_goals first | (exfalso; omega) | (apply Prod.ext <;> simp only <;> omega)
set_option maxHeartbeats 1000000 in
theorem dec3 (n b0 b1 b2 b3 : Nat) (g : Int) (hn : 2 < n) (h0 : b0 < 256) (h1 : b1 < 256) (h2 : b2 < 256) (hg : g = (((b0 : Int) - 224) * 64 + b1 - 128) * 64 + b2 - 128) (l : 2048 ≤ g) (u : g < 65536)
    (r : g < 55296 ∨ 57343 < g) (e0 : (b0 : Int) = 224 + g / 4096) (e1 : (b1 : Int) = 128 + g / 64 % 64) (e2 : (b2 : Int) = 128 + g % 64) : decodeN n b0 b1 b2 b3 = (g.toNat, 3) := by
  unfold decodeN
  repeat' split
  all_goals first | (exfalso; omega) | (apply Prod.ext <;> simp only <;> omega)
set_option maxHeartbeats 1000000 in
theorem dec4 (n b0 b1 b2 b3 : Nat) (g : Int) (hn : 3 < n) (h0 : b0 < 256) (_h1 : b1 < 256) (h2 : b2 < 256) (_h3 : b3 < 256) (hg : g = ((((b0 : Int) - 240) * 64 + b1 - 128) * 64 + b2 - 128) * 64 + b3 - 128) (l : 65536 ≤ g) (u : g ≤ 1114111)
    (e0 : (b0 : Int) = 240 + g / 262144) (e1 : (b1 : Int) = 128 + g / 4096 % 64) (e2 : (b2 : Int) = 128 + g / 64 % 64) (e3 : (b3 : Int) = 128 + g % 64) : decodeN n b0 b1 b2 b3 = (g.toNat, 4) := by
  unfold decodeN
  repeat' split
  all_goals first | (exfalso; omega) | (apply Prod.ext <;> simp only <;> omega)
def isRune (n : Int) : Bool := decide (0 ≤ n ∧ n ≤ 1114111 ∧ (n < 55296 ∨ 57343 < n))
theorem isRune_iff (n : Int) : isRune n = true ↔ 0 ≤ n ∧ n ≤ 1114111 ∧ (n < 55296 ∨ 57343 < n) := by unfold isRune; simp

/-- How many bytes a rune's form has. -/
def wd (x : Int) : Nat := if x < 128 then 1 else if x < 2048 then 2 else if x < 65536 then 3 else 4
theorem wd_bd (x : Int) : 1 ≤ wd x ∧ wd x ≤ 4 := by unfold wd; repeat' split
                                                    all_goals omega

theorem valid_iff (x : Int) : Utf8.valid x = isRune x := by
  unfold Utf8.valid isRune
  rw [Bool.eq_iff_iff]
  simp
  omega
theorem byte_of (n : Nat) (h : n < 256) : (UInt8.ofNat n).toNat = n := by simp; omega

theorem get!_mk (l : List UInt8) (k : Nat) (u : UInt8) (h : l[k]? = some u) : (ByteArray.mk l.toArray).get! k = u := by
  have hk : k < l.length := (List.getElem?_eq_some_iff.1 h).1
  have : (ByteArray.mk l.toArray).get! k = l.toArray[k]! := rfl
  rw [this, getElem!_pos l.toArray k (by simpa using hk)]
  rw [List.getElem?_eq_getElem hk] at h
  simpa using Option.some.inj h

theorem enc_size (x : Int) (h : isRune x = true) : (Utf8.encode x).size = wd x := by
  have hq := (isRune_iff x).1 h
  unfold Utf8.encode wd
  rw [valid_iff, h]
  simp only [if_true]
  by_cases h1 : x < 128
  · rw [if_pos (show x.toNat < 0x80 by omega), if_pos h1]; rfl
  · rw [if_neg (show ¬ x.toNat < 0x80 by omega), if_neg h1]
    by_cases h2 : x < 2048
    · rw [if_pos (show x.toNat < 0x800 by omega), if_pos h2]; rfl
    · rw [if_neg (show ¬ x.toNat < 0x800 by omega), if_neg h2]
      by_cases h3 : x < 65536
      · rw [if_pos (show x.toNat < 0x10000 by omega), if_pos h3]; rfl
      · rw [if_neg (show ¬ x.toNat < 0x10000 by omega), if_neg h3]; rfl

set_option maxHeartbeats 2000000 in
theorem enc_decode (x : Int) (h : isRune x = true) (r : ByteArray) : Utf8.decode (Utf8.encode x ++ r) 0 = (x.toNat, wd x) := by
  have hq := (isRune_iff x).1 h
  have hsz := enc_size x h
  have hd := decode_at (Utf8.encode x ++ r) 0
  rw [hd]
  have hw := wd_bd x
  have hg : ∀ k, k < wd x → (Utf8.encode x ++ r).get! (0 + k) = (Utf8.encode x).get! k := fun k hk => by rw [Nat.zero_add]; exact get!_left _ _ k (by omega)
  have hn : (Utf8.encode x ++ r).size - 0 = wd x + r.size := by simp [hsz]
  rw [hn]
  have e0 := hg 0 (by omega)
  rw [Nat.zero_add] at e0
  generalize (Utf8.encode x ++ r) = s at *
  unfold Utf8.encode at hg e0
  rw [valid_iff, h] at hg e0
  simp only [if_true] at hg e0
  by_cases h1 : x < 128
  · have hwd : wd x = 1 := by unfold wd; rw [if_pos h1]
    rw [if_pos (show x.toNat < 0x80 by omega)] at e0
    have v0 : s.get! 0 = UInt8.ofNat x.toNat := e0.trans (get!_mk _ 0 _ rfl)
    rw [v0, byte_of _ (by omega), hwd]
    exact dec1 _ _ _ _ _ (by omega)
  · rw [if_neg (show ¬ x.toNat < 0x80 by omega)] at hg e0
    by_cases h2 : x < 2048
    · have hwd : wd x = 2 := by unfold wd; rw [if_neg h1, if_pos h2]
      rw [if_pos (show x.toNat < 0x800 by omega)] at hg e0
      rw [hwd] at hg ⊢
      have v0 := e0.trans (get!_mk _ 0 _ rfl)
      have v1 := (hg 1 (by omega)).trans (get!_mk _ 1 _ rfl)
      rw [v0, v1, byte_of _ (by omega), byte_of _ (by omega)]
      exact dec2 _ _ _ _ _ x (by omega) (by omega) (by omega) (by omega) (by omega) h2 (by omega) (by omega)
    · rw [if_neg (show ¬ x.toNat < 0x800 by omega)] at hg e0
      by_cases h3 : x < 65536
      · have hwd : wd x = 3 := by unfold wd; rw [if_neg h1, if_neg h2, if_pos h3]
        rw [if_pos (show x.toNat < 0x10000 by omega)] at hg e0
        rw [hwd] at hg ⊢
        have v0 := e0.trans (get!_mk _ 0 _ rfl)
        have v1 := (hg 1 (by omega)).trans (get!_mk _ 1 _ rfl)
        have v2 := (hg 2 (by omega)).trans (get!_mk _ 2 _ rfl)
        rw [v0, v1, v2, byte_of _ (by omega), byte_of _ (by omega), byte_of _ (by omega)]
        exact dec3 _ _ _ _ _ x (by omega) (by omega) (by omega) (by omega) (by omega) (by omega) h3 hq.2.2 (by omega) (by omega) (by omega)
      · have hwd : wd x = 4 := by unfold wd; rw [if_neg h1, if_neg h2, if_neg h3]
        rw [if_neg (show ¬ x.toNat < 0x10000 by omega)] at hg e0
        rw [hwd] at hg ⊢
        have v0 := e0.trans (get!_mk _ 0 _ rfl)
        have v1 := (hg 1 (by omega)).trans (get!_mk _ 1 _ rfl)
        have v2 := (hg 2 (by omega)).trans (get!_mk _ 2 _ rfl)
        have v3 := (hg 3 (by omega)).trans (get!_mk _ 3 _ rfl)
        rw [v0, v1, v2, v3, byte_of _ (by omega), byte_of _ (by omega), byte_of _ (by omega), byte_of _ (by omega)]
        exact dec4 _ _ _ _ _ x (by omega) (by omega) (by omega) (by omega) (by omega) (by omega) (by omega) hq.2.1 (by omega) (by omega) (by omega) (by omega)

theorem enc_good (x : Int) (h : isRune x = true) (r : ByteArray) : good (Utf8.encode x ++ r) 0 := by
  unfold good
  rw [enc_decode x h r]
  have hq := (isRune_iff x).1 h
  intro hc
  have h1 : x.toNat = 65533 := hc.1
  have h2 : wd x = 1 := hc.2
  unfold wd at h2
  rw [if_neg (by omega), if_neg (by omega), if_pos (by omega)] at h2
  omega

/-! ### Many -/
theorem rb_nil : runesBytes [] = ByteArray.empty := rfl
theorem foldl_enc (xs : List Int) : ∀ (s : ByteArray), xs.foldl (fun r n => r ++ Utf8.encode n) s = s ++ runesBytes xs := by
  induction xs with
  | nil => intro s; simp [runesBytes]
  | cons x xs ih =>
    intro s
    unfold runesBytes
    rw [List.foldl_cons, List.foldl_cons, ih, ih, ByteArray.append_assoc, ByteArray.empty_append]
theorem rb_cons (x : Int) (xs : List Int) : runesBytes (x :: xs) = Utf8.encode x ++ runesBytes xs := by
  show (x :: xs).foldl (fun r n => r ++ Utf8.encode n) ByteArray.empty = _
  rw [List.foldl_cons, foldl_enc, ByteArray.empty_append]
theorem rb_append (xs ys : List Int) : runesBytes (xs ++ ys) = runesBytes xs ++ runesBytes ys := by
  show (xs ++ ys).foldl (fun r n => r ++ Utf8.encode n) ByteArray.empty = _
  rw [List.foldl_append, foldl_enc ys]
  rfl

theorem enc_vld (x : Int) (h : isRune x = true) : vld (Utf8.encode x) (Utf8.encode x).size 0 = true ∧ rns (Utf8.encode x) (Utf8.encode x).size 0 = [x] := by
  have hs := enc_size x h
  have hw := wd_bd x
  have hq := (isRune_iff x).1 h
  have hd := enc_decode x h ByteArray.empty
  have hg := enc_good x h ByteArray.empty
  rw [ByteArray.append_empty] at hd hg
  obtain ⟨f, hf⟩ : ∃ f, (Utf8.encode x).size = f + 1 := ⟨(Utf8.encode x).size - 1, by omega⟩
  constructor
  · rw [hf, vld_step _ _ _ (by omega)]
    refine ⟨hg, vld_end _ _ _ (by rw [hd]; simp only; omega)⟩
  · rw [hf]
    unfold rns
    rw [if_pos (by omega), rns_end _ _ _ (by rw [hd]; simp only; omega), hd]
    simp only
    rw [Int.toNat_of_nonneg hq.1]

theorem rb_vld : ∀ (xs : List Int), (∀ x ∈ xs, isRune x = true) → vld (runesBytes xs) (runesBytes xs).size 0 = true ∧ rns (runesBytes xs) (runesBytes xs).size 0 = xs
  | [], _ => ⟨rfl, rfl⟩
  | x :: xs, h => by
    obtain ⟨r1, r2⟩ := rb_vld xs (fun y hy => h y (List.mem_cons_of_mem _ hy))
    obtain ⟨e1, e2⟩ := enc_vld x (h x (List.mem_cons_self ..))
    rw [rb_cons]
    have hj := join_ok (Utf8.encode x) (runesBytes xs) r1 (Utf8.encode x).size 0 (by omega) (by omega) e1
    rw [e2, r2] at hj
    rw [ByteArray.size_append]
    exact hj

end Go.Proofs.YtbciclnffokjjaaDoor
/- How far two texts go together. -/
namespace Go.Proofs.YtbciclnffokjjaaDoor
open Go.RowKit

/-- How far two texts go together, rune by rune, as the program goes. -/
def cmF (a b : ByteArray) : Nat → Nat → Nat
  | 0, _ => a.size
  | f + 1, p => if p < a.size ∧ (nxt a p).2 ≠ 0 then (if (nxt b p).1 = (nxt a p).1 then cmF a b f (p + (Utf8.decode a p).2) else p) else a.size
theorem cmF_stop (a b : ByteArray) (f p : Nat) (h : ¬ (p < a.size ∧ (nxt a p).2 ≠ 0)) : cmF a b f p = a.size := by
  cases f with
  | zero => rfl
  | succ f => unfold cmF; rw [if_neg h]
theorem cmF_all (a b : ByteArray) : ∀ f p, (∀ x ∈ alF a f p, (nxt b x.1.toNat).1 = x.2) → cmF a b f p = a.size
  | 0, _, _ => rfl
  | f + 1, p, h => by
    by_cases hc : p < a.size ∧ (nxt a p).2 ≠ 0
    · rw [alF_go a f p hc.1 hc.2] at h
      have h0 := h _ (List.mem_cons_self)
      have h0' : (nxt b p).1 = (nxt a p).1 := by simpa using h0
      unfold cmF
      rw [if_pos hc, if_pos h0']
      exact cmF_all a b f _ (fun x hx => h x (List.mem_cons_of_mem _ hx))
    · exact cmF_stop a b _ p hc
theorem cmF_part (a b : ByteArray) : ∀ f p (pre : List (Int × Int)) (x : Int × Int), pre ++ [x] <+: alF a f p → (∀ y ∈ pre, (nxt b y.1.toNat).1 = y.2) → (nxt b x.1.toNat).1 ≠ x.2 → cmF a b f p = x.1.toNat
  | 0, p, pre, x, h, _, _ => by
    have := h.length_le
    simp [alF] at this
  | f + 1, p, pre, x, h, h1, h2 => by
    by_cases hc : p < a.size ∧ (nxt a p).2 ≠ 0
    · rw [alF_go a f p hc.1 hc.2] at h
      unfold cmF
      rw [if_pos hc]
      cases pre with
      | nil =>
        have hx : x = ((p : Int), (nxt a p).1) := by
          have := List.cons_prefix_cons.1 h
          exact this.1
        subst hx
        have h2' : ¬ (nxt b p).1 = (nxt a p).1 := by simpa using h2
        rw [if_neg h2']
        simp
      | cons y pre =>
        obtain ⟨hy, hr⟩ := List.cons_prefix_cons.1 h
        subst hy
        have h0 := h1 _ (List.mem_cons_self)
        have h0' : (nxt b p).1 = (nxt a p).1 := by simpa using h0
        rw [if_pos h0']
        exact cmF_part a b f _ pre x hr (fun z hz => h1 z (List.mem_cons_of_mem _ hz)) h2
    · rw [alF_stop a (f + 1) p hc] at h
      have := h.length_le
      simp at this
theorem cmF_bd (a b : ByteArray) : ∀ f p, p ≤ a.size → p ≤ cmF a b f p ∧ cmF a b f p ≤ a.size
  | 0, _, h => ⟨h, Nat.le_refl _⟩
  | f + 1, p, h => by
    unfold cmF
    split
    · rename_i hc
      split
      · have := cmF_bd a b f (p + (Utf8.decode a p).2) (dec_size a p hc.1)
        omega
      · exact ⟨Nat.le_refl _, h⟩
    · exact ⟨h, Nat.le_refl _⟩
end Go.Proofs.YtbciclnffokjjaaDoor
