/- A bundle of texts. -/
import Derived.Lib.DecodeN
import Derived.Test.YtjmninjaoemhjaaDoorBv01
import Derived.Lib.Strings
import Derived.Lib.IndexBytes
import Derived.WalkKit
import Derived.WalkLawsBesides
import Derived.WalkSpells
import Derived.Below
import Derived.Deep.DeepFit
import Derived.Outline
import Derived.Lib.OthersKept
import Derived.WalkSmall
import Derived.LoopTactic
/- The plain mathematics of layer 1: what Next answers, by the model's own decoder. -/
namespace Go.Proofs.YtjmninjaoemhjaaDoor

/-- The rune that begins at a place, and its width; -1 and 0: none. -/
def nxt (s : ByteArray) (i : Nat) : Int × Int :=
  if i < s.size then (if (Utf8.decode s i).1 = 65533 ∧ (Utf8.decode s i).2 = 1 then (-1, 0) else (((Utf8.decode s i).1 : Nat), ((Utf8.decode s i).2 : Nat))) else (-1, 0)

theorem get!_big (s : ByteArray) (k : Nat) (h : s.size ≤ k) : s.get! k = 0 := by
  cases s with
  | mk d =>
    show d[k]! = 0
    rw [getElem!_neg d k (by have h' : d.size ≤ k := h; omega)]
    rfl
theorem get!_lt (s : ByteArray) (k : Nat) (h : k < s.size) : s.get! k = s[k]'h := by
  cases s with
  | mk d => exact getElem!_pos d k h

theorem get!_extract (s : ByteArray) (a i : Nat) : (s.extract a s.size).get! i = s.get! (a + i) := by
  by_cases h : a + i < s.size
  · rw [get!_lt _ _ (by simp; omega), get!_lt _ _ h]
    simp [ByteArray.getElem_extract]
  · rw [get!_big s _ (by omega), get!_big _ _ (by simp; omega)]

theorem decode_extract (s : ByteArray) (a : Nat) : Utf8.decode (s.extract a s.size) 0 = Utf8.decode s a := by
  rw [Lib.decode_at, Lib.decode_at]
  simp only [get!_extract, Nat.zero_add, Nat.add_zero]
  congr 1
  simp
/-- The same at a place that may be below 0. -/
def nxtZ (s : ByteArray) (a : Int) : Int × Int := if 0 ≤ a then nxt s a.toNat else (-1, 0)
theorem nxt_out (s : ByteArray) (i : Nat) (h : s.size ≤ i) : nxt s i = (-1, 0) := by
  unfold nxt; rw [if_neg (by omega)]
/-- A rune begins at a place of the text just where the decoder does not answer (65533, 1). -/
theorem nxt_no (s : ByteArray) (i : Nat) (h : i < s.size) : (nxt s i).2 = 0 ↔ (Utf8.decode s i).1 = 65533 ∧ (Utf8.decode s i).2 = 1 := by
  have hw := decode_width s i
  unfold nxt
  rw [if_pos h]
  by_cases hc : (Utf8.decode s i).1 = 65533 ∧ (Utf8.decode s i).2 = 1
  · rw [if_pos hc]; simp [hc]
  · rw [if_neg hc]
    constructor
    · intro h2
      have : ((Utf8.decode s i).2 : Int) = 0 := h2
      omega
    · intro h2; exact absurd h2 hc
theorem nxt_pos (s : ByteArray) (i : Nat) : 0 ≤ (nxt s i).2 := by
  unfold nxt
  repeat' split
  all_goals simp
theorem nxt_width (s : ByteArray) (i : Nat) (h : (nxt s i).2 ≠ 0) : (nxt s i).2 = ((Utf8.decode s i).2 : Nat) ∧ (nxt s i).1 = ((Utf8.decode s i).1 : Nat) := by
  unfold nxt at h ⊢
  split
  · split
    · simp_all
    · exact ⟨rfl, rfl⟩
  · simp_all
/-- Is the text UTF-8 from a place on? -/
def vld (s : ByteArray) : Nat → Nat → Bool
  | 0, _ => true
  | f + 1, i => if i < s.size then (if (nxt s i).2 = 0 then false else vld s f (i + (Utf8.decode s i).2)) else true
theorem vld_end (s : ByteArray) (f i : Nat) (h : ¬ i < s.size) : vld s f i = true := by
  cases f with
  | zero => rfl
  | succ f => simp [vld, h]
theorem vld_bad (s : ByteArray) (f i : Nat) (h : i < s.size) (hz : (nxt s i).2 = 0) : vld s (f + 1) i = false := by
  simp [vld, h, hz]
theorem vld_good (s : ByteArray) (f i : Nat) (h : i < s.size) (hz : (nxt s i).2 ≠ 0) : vld s (f + 1) i = vld s f (i + (Utf8.decode s i).2) := by
  simp [vld, h, hz]
end Go.Proofs.YtjmninjaoemhjaaDoor
/- The walks of utf.Next and utf.begins. -/
namespace Go.Proofs.YtjmninjaoemhjaaDoor
open Go.RowKit Go.Lib

theorem decodeGo_extract (s : ByteArray) (i : Nat) (h : i < s.size) : Lib.decodeGo (s.extract i s.size) = Utf8.decode s i := by
  unfold Lib.decodeGo
  rw [if_neg (by simp; omega), decode_extract]

set_option maxHeartbeats 400000 in
theorem next_out (s : ByteArray) (a : Int) (w : World) (hs : s.size ≤ maxLen) (h : a < 0 ∨ (s.size : Int) ≤ a) :
    Calls Tryd.prog 73 #[.string s, .int .i64 a] w fun e w' => e = .returned (.tuple #[.int .i32 (-1), .int .i64 0]) ∧ Below w.heap.size w w' := by
  unfold maxLen at hs
  rcases h with h | h
  · go_enter Tryd.func73, Tryd.ntmps73
    go_wp2
    go_ret2
    exact ⟨rfl, Below.refl _ _⟩
  · have h0 : ¬ a < 0 := by omega
    go_enter Tryd.func73, Tryd.ntmps73
    go_wp2
    go_ret2
    exact ⟨rfl, Below.refl _ _⟩

set_option maxHeartbeats 400000 in
theorem next_in (s : ByteArray) (i : Nat) (w : World) (_hs : s.size ≤ maxLen) (hT : Lib.Utf8Tabs 1 2 w) (h : i < s.size) :
    Calls Tryd.prog 73 #[.string s, .int .i64 i] w fun e w' => e = .returned (.tuple #[.int .i32 (nxt s i).1, .int .i64 (nxt s i).2]) ∧ Below w.heap.size w w' := by
  unfold maxLen at _hs
  have h0 : ¬ (i : Int) < 0 := by omega
  have h1 : ¬ (s.size : Int) ≤ i := by omega
  have hd := decodeGo_extract s i h
  have HT : Hid (Lib.Utf8Tabs 1 2 w) := hT
  obtain ⟨R, hR⟩ : ∃ R, (Utf8.decode s i).1 = R := ⟨_, rfl⟩
  obtain ⟨K, hK⟩ : ∃ K, (Utf8.decode s i).2 = K := ⟨_, rfl⟩
  have hn : nxt s i = if R = 65533 ∧ K = 1 then (-1, 0) else ((R : Int), (K : Int)) := by
    unfold nxt; rw [if_pos h, hR, hK]
  have cD := Tryd.utf8_DecodeRuneInString (s.extract i s.size) w hT
  rw [hd, hR, hK] at cD
  clear hd hT hR hK
  by_cases hr : R = 65533
  · by_cases hk : K = 1
    · rw [hn, if_pos ⟨hr, hk⟩]
      clear hn
      subst hr; subst hk
      go_enter Tryd.func73, Tryd.ntmps73
      go_wp2_with (go_at_call 101; go_fit cD; rintro e w' ⟨rfl, hb⟩)
      all_goals go_ret2
      all_goals exact ⟨rfl, hb⟩
    · have hkb : ((K : Int) == 1) = false := by rw [beq_eq_false_iff_ne]; omega
      rw [hn, if_neg (fun h => hk h.2)]
      clear hn hk
      subst hr
      go_enter Tryd.func73, Tryd.ntmps73
      go_wp2_with (go_at_call 101; go_fit cD; rintro e w' ⟨rfl, hb⟩)
      go_ret2
      exact ⟨rfl, hb⟩
  · have hrb : ((R : Int) == 65533) = false := by rw [beq_eq_false_iff_ne]; omega
    rw [hn, if_neg (fun h => hr h.1)]
    clear hn hr
    go_enter Tryd.func73, Tryd.ntmps73
    go_wp2_with (go_at_call 101; go_fit cD; rintro e w' ⟨rfl, hb⟩)
    go_ret2
    exact ⟨rfl, hb⟩

theorem next_any (s : ByteArray) (a : Int) (w : World) (hs : s.size ≤ maxLen) (hT : Lib.Utf8Tabs 1 2 w) :
    Calls Tryd.prog 73 #[.string s, .int .i64 a] w fun e w' => e = .returned (.tuple #[.int .i32 (nxtZ s a).1, .int .i64 (nxtZ s a).2]) ∧ Below w.heap.size w w' := by
  by_cases h0 : a < 0
  · have e1 : nxtZ s a = (-1, 0) := by unfold nxtZ; rw [if_neg (by omega)]
    rw [e1]
    exact next_out s a w hs (Or.inl h0)
  · obtain ⟨i, rfl⟩ := Int.eq_ofNat_of_zero_le (show 0 ≤ a by omega)
    have e1 : nxtZ s (i : Int) = nxt s i := by unfold nxtZ; rw [if_pos (by omega)]; simp
    rw [e1]
    by_cases h1 : i < s.size
    · exact next_in s i w hs hT h1
    · rw [nxt_out s i (by omega)]
      exact next_out s i w hs (Or.inr (by omega))

/-! The tables stand in every later world. -/
theorem lt_of_cell {w : World} {b o : Nat} {v : Value} (h : w.cell? ⟨b, o, none⟩ = some v) : b < w.heap.size := by
  unfold World.cell? at h
  by_cases hb : b < w.heap.size
  · exact hb
  · rw [Array.getElem?_eq_none (by simpa using hb)] at h
    cases h
theorem tabs_size {w : World} (h : Lib.Utf8Tabs 1 2 w) : 2 < w.heap.size := lt_of_cell (h.2 0 (by omega)).1
theorem tabs_below {w w' : World} {B : Nat} (h : Lib.Utf8Tabs 1 2 w) (hB : 2 < B) (hb : Below B w w') : Lib.Utf8Tabs 1 2 w' :=
  ⟨fun c hc => by rw [hb.cell (show (1 : Nat) < B by omega)]; exact h.1 c hc, fun i hi => ⟨by rw [hb.cell (show (2 : Nat) < B by omega)]; exact (h.2 i hi).1, by rw [hb.cell (show (2 : Nat) < B by omega)]; exact (h.2 i hi).2⟩⟩

set_option maxHeartbeats 400000 in
theorem begins_any (s : ByteArray) (i : Nat) (w : World) (hs : s.size ≤ maxLen) (hT : Lib.Utf8Tabs 1 2 w) (h : i < s.size) :
    Calls Tryd.prog 55 #[.string s, .int .i64 i, .int .i32 (Utf8.decode s i).1] w fun e w' => e = .returned (.bool (decide ((nxt s i).2 ≠ 0))) ∧ Below w.heap.size w w' := by
  have hno := nxt_no s i h
  have hp := nxt_pos s i
  have cN := next_in s i w hs hT h
  obtain ⟨R, hR⟩ : ∃ R, (Utf8.decode s i).1 = R := ⟨_, rfl⟩
  rw [hR] at hno ⊢
  clear hs hT
  by_cases hr : R = 65533
  · subst hr
    obtain ⟨X, hX⟩ : ∃ X, (nxt s i).1 = X := ⟨_, rfl⟩
    obtain ⟨Y, hY⟩ : ∃ Y, (nxt s i).2 = Y := ⟨_, rfl⟩
    rw [hX, hY] at cN
    rw [hY] at hp ⊢
    clear hno hX hY hR
    obtain ⟨b, hb⟩ : ∃ b, decide (Y ≠ 0) = b := ⟨_, rfl⟩
    have hb' : decide (0 < Y) = b := by rw [← hb]; apply decide_eq_decide.2; omega
    rw [hb]
    have HB : Hid (decide (Y ≠ 0) = b) := hb
    clear hb
    cases b
    all_goals
      go_enter Tryd.func55, Tryd.ntmps55
      go_wp2_with (go_at_call 73; go_fit cN; rintro e w' ⟨rfl, hb⟩)
      go_ret
      exact ⟨rfl, hb⟩
  · have hrb : ((R : Int) != 65533) = true := by rw [bne_iff_ne]; omega
    have hb : decide ((nxt s i).2 ≠ 0) = true := by simp only [decide_eq_true_eq]; intro h2; exact hr (hno.1 h2).1
    rw [hb]
    clear hno cN hR hp hb hr
    go_enter Tryd.func55, Tryd.ntmps55
    go_wp2
    go_ret
    exact ⟨rfl, Below.refl _ _⟩
end Go.Proofs.YtjmninjaoemhjaaDoor
/- The walk of utf.Valid: a range over the text. -/
namespace Go.Proofs.YtjmninjaoemhjaaDoor
open Go.RowKit Go.Lib

theorem vld_bad' (s : ByteArray) (b i : Nat) (h : i < s.size) (hb : 0 < b) (hz : (nxt s i).2 = 0) : vld s b i = false := by
  obtain ⟨f, rfl⟩ : ∃ f, b = f + 1 := ⟨b - 1, by omega⟩
  exact vld_bad s f i h hz
theorem vld_good' (s : ByteArray) (b i : Nat) (h : i < s.size) (hb : 0 < b) (hz : (nxt s i).2 ≠ 0) : vld s b i = vld s (b - 1) (i + (Utf8.decode s i).2) := by
  obtain ⟨f, rfl⟩ : ∃ f, b = f + 1 := ⟨b - 1, by omega⟩
  exact vld_good s f i h hz

set_option maxRecDepth 1000000 in
set_option maxHeartbeats 1000000 in
theorem valid_any (s : ByteArray) (w : World) (hs : s.size ≤ maxLen) (hT : Lib.Utf8Tabs 1 2 w) :
    Calls Tryd.prog 28 #[.string s] w fun e w' => e = .returned (.bool (vld s s.size 0)) ∧ Below w.heap.size w w' := by
  have hsz := tabs_size hT
  have HS : Hid (s.size ≤ maxLen) := hs
  have HT : Hid (Lib.Utf8Tabs 1 2 w) := hT
  clear hs hT
  go_enter Tryd.func28, Tryd.ntmps28
  go_wp2
  go_loopw [] (fun w' => ∃ (pos b : Nat), w'.heap[w.heap.size]? = some (.stringIter s pos) ∧ Below w.heap.size w w' ∧ vld s b pos = vld s s.size 0 ∧ s.size ≤ pos + b) (fun w' => s.size - w'.iterPos w.heap.size)
  case atStart => exact ⟨0, s.size, World.iter_heap w s 0, (Below.refl _ _).alloc (Nat.le_refl _) _, rfl, by omega⟩
  case round =>
    obtain ⟨pos, b, hk, hbw, hv, hb⟩ := hrel
    by_cases hp : pos < s.size
    · have hnx : ∀ ty, (Instr.next (.pointer (some ⟨w.heap.size, 0, none⟩)) true ty).run Tryd.prog wr = _ := fun ty => run_next_any_at wr w.heap.size s pos ty hk hp
      have hwd := (decode_width s pos).1
      have hb1 : Below w.heap.size w (wr.iterAt w.heap.size s (pos + (Utf8.decode s pos).2)) := below_iterAt hbw (Nat.le_refl _) s _
      have hk1 := iterAt_heap wr w.heap.size s pos (pos + (Utf8.decode s pos).2) hk
      have cB := begins_any s pos (wr.iterAt w.heap.size s (pos + (Utf8.decode s pos).2)) HS.out (tabs_below HT.out hsz hb1) hp
      have hsz1 : w.heap.size < (wr.iterAt w.heap.size s (pos + (Utf8.decode s pos).2)).heap.size := (Array.getElem?_eq_some_iff.1 hk1).1
      generalize hW : wr.iterAt w.heap.size s (pos + (Utf8.decode s pos).2) = W at *
      obtain ⟨K, hK⟩ : ∃ K, (Utf8.decode s pos).2 = K := ⟨_, rfl⟩
      obtain ⟨R, hR⟩ : ∃ R, (Utf8.decode s pos).1 = R := ⟨_, rfl⟩
      rw [hK] at hwd hk1
      rw [hR] at hnx cB
      have HV : Hid (vld s b pos = vld s s.size 0) := hv
      have HK : Hid ((Utf8.decode s pos).2 = K) := hK
      have HW1 : Hid (W.heap[w.heap.size]? = some (.stringIter s (pos + K))) := hk1
      have HW2 : Hid (wr.heap[w.heap.size]? = some (.stringIter s pos)) := hk
      clear hv hK hk1 hW hR hk
      by_cases hz : (nxt s pos).2 = 0
      · have hd : decide ((nxt s pos).2 ≠ 0) = false := by simp [hz]
        rw [hd] at cB
        have HZ : Hid ((nxt s pos).2 = 0) := hz
        clear hd hz
        go_wp2_with (go_at_call 55; go_fit cB; rintro e w' ⟨rfl, hb2⟩)
        go_ret
        exact ⟨by rw [← HV.out, vld_bad' s b pos hp (by omega) HZ.out]; rfl, hb1.trans (hb2.mono (Nat.le_of_lt hsz1))⟩
      · have hd : decide ((nxt s pos).2 ≠ 0) = true := by simp [hz]
        rw [hd] at cB
        have HZ : Hid ((nxt s pos).2 ≠ 0) := hz
        clear hd hz
        go_wp2_with (go_at_call 55; go_fit cB; rintro e w' ⟨rfl, hb2⟩)
        go_roundw
        case rel => exact ⟨pos + K, b - 1, (hb2.block _ hsz1).trans HW1.out, hb1.trans (hb2.mono (Nat.le_of_lt hsz1)), by rw [← HV.out, vld_good' s b pos hp (by omega) HZ.out, HK.out], by omega⟩
        case measure =>
          rw [iterPos_at HW2.out, iterPos_at ((hb2.block _ hsz1).trans HW1.out)]
          omega
    · have hnx : ∀ ty, (Instr.next (.pointer (some ⟨w.heap.size, 0, none⟩)) true ty).run Tryd.prog wr = _ := fun ty => run_next_end_at wr w.heap.size s pos ty hk hp
      have HV : Hid (vld s b pos = vld s s.size 0) := hv
      have HP : Hid (¬ pos < s.size) := hp
      clear hv hk
      go_wp2
      go_ret
      exact ⟨by rw [← HV.out, vld_end s b pos HP.out]; rfl, hbw⟩
end Go.Proofs.YtjmninjaoemhjaaDoor
/- Labels: rows of one's own that are written again. -/
namespace Go.Proofs.YtjmninjaoemhjaaDoor
open Go.RowKit

/-- But for the blocks of M all is as it was. -/
structure Kp (M : Nat → Prop) (w w' : World) : Prop where
  os : w'.os = w.os
  tape : w'.tape = w.tape
  output : w'.output = w.output
  size : w.heap.size ≤ w'.heap.size
  block : ∀ k, k < w.heap.size → ¬ M k → w'.heap[k]? = w.heap[k]?
namespace Kp
variable {M N : Nat → Prop} {a b c w w' : World}
theorem refl (M : Nat → Prop) (w : World) : Kp M w w := ⟨rfl, rfl, rfl, Nat.le_refl _, fun _ _ _ => rfl⟩
theorem trans (h : Kp M a b) (k : Kp M b c) : Kp M a c := ⟨k.os.trans h.os, k.tape.trans h.tape, k.output.trans h.output, Nat.le_trans h.size k.size, fun i hi hm => (k.block i (Nat.lt_of_lt_of_le hi h.size) hm).trans (h.block i hi hm)⟩
theorem of (h : Below w.heap.size w w') : Kp M w w' := ⟨h.os, h.tape, h.output, h.size, fun k hk _ => h.block k hk⟩
theorem below {B : Nat} (h : Kp M w w') (hB : B ≤ w.heap.size) (hm : ∀ k, k < B → ¬ M k) : Below B w w' := ⟨h.os, h.tape, h.output, h.size, fun k hk => h.block k (by omega) (hm k hk)⟩
theorem grown {row : Option Nat} (h : Kp M a w) (hg : w.grownBy w' row) (hr : ∀ k, row = some k → k < w.heap.size → M k) : Kp M a w' :=
  h.trans ⟨hg.os, hg.tape, hg.output, hg.size, fun k hk hm => hg.block k hk (fun e => hm (hr k e.symm hk))⟩
theorem row {S e s n : Nat} {v : Value} {xs : List Value} (h : Kp M w w') (o : w.ownsRow S e s v n xs) (hm : ∀ k, v.ownBlock = some k → ¬ M k) : w'.ownsRow S e s v n xs := by
  refine ⟨o.1, ?_⟩
  rcases o.2 with h0 | ⟨g, cap, cur, hv, hB, hg, r⟩
  · exact .inl h0
  · exact .inr ⟨g, cap, cur, hv, hB, (h.block g (Array.getElem?_eq_some_iff.1 hg).1 (hm g (by rw [hv]; rfl))).trans hg, r⟩
end Kp
theorem step_append_run {P : Program} {ops : Array Oper} {o : Oper} {a : Act} {w w' : World} {v' : Value} {K : Act → World → Prop} {Q : Exit → Act → World → Prop} {E : Prop} (hgd : o.guard = none) (s x : Operand) (t tx : TypeId)
    (ho : o.op = .call { callee := .builtin .append, args := #[s, x], argTypes := #[t, tx] }) (vs vx : Value) (hs : a.eval s = vs) (hx : a.eval x = vx)
    (hr : (Builtin.append_ #[t, tx] o.type #[vs, vx]).run P w = .ok v' w') (h : K (a.put o.dst v') w') : if Region.wanted o (yielded ops a.tmps) = true then Oper.wp P o a w K Q else E := by
  have hw : Region.wanted o (yielded ops a.tmps) = true := by simp [Region.wanted, hgd]
  rw [if_pos hw]
  unfold Oper.wp execOp
  simp only [ho, resolve, invoke, builtin, Sem.run_bind, Sem.run_pure, Result.andThen_ok, List.map_toArray, List.map_cons, List.map_nil, hs, hx, hr]
  exact h
theorem info_parts {P : Program} {e : TypeId} {z : Value} {size bytes : Nat} (h : (P.info? e).map (fun i => (i.zero, i.size, i.bytes)) = some (some z, size, bytes)) : ∃ i, P.info? e = some i ∧ i.zero = some z ∧ i.size = size ∧ i.bytes = bytes := by
  cases hi : P.info? e with
  | none => rw [hi] at h; cases h
  | some i =>
    rw [hi] at h
    simp at h
    exact ⟨i, rfl, h.1, h.2.1, h.2.2⟩
theorem infL : (Tryd.prog.info? 26).map (fun i => (i.zero, i.size, i.bytes)) = some (some (.agg #[.string ⟨#[]⟩, .string ⟨#[]⟩]), 2, 32) := by kernel_rfl
theorem own_bd {S e s n : Nat} {w : World} {v : Value} {xs : List Value} (h : w.ownsRow S e s v n xs) : ∀ G, v.ownBlock = some G → S ≤ G ∧ G < w.heap.size := by
  intro G hG
  rcases h.2 with ⟨rfl, _⟩ | ⟨g, cap, cur, rfl, hg, hh, _⟩
  · cases hG
  · have : g = G := Option.some.inj hG
    subst this
    exact ⟨hg, (Array.getElem?_eq_some_iff.1 hh).1⟩
/-- Cut to nothing. -/
theorem own0 {S n c : Nat} {w : World} {a : Option Addr} {xs : List Value} (h : w.ownsRow S 26 2 (.slice a n c) n xs) : w.ownsRow S 26 2 (.slice a 0 c) 0 [] := by
  rcases h.2 with ⟨e, h0⟩ | ⟨g, cap, cur, e, hg, hh, h1, h2, h3, h4⟩
  · cases e
    exact World.ownsRow_nil _ _ _ _
  · cases e
    exact ⟨rfl, .inr ⟨g, c, cur, rfl, hg, hh, Nat.zero_le _, h2, h3, by simp⟩⟩
/-- Labels written over a row that was cut to nothing. -/
theorem ap_row (w : World) (S : Nat) (ax : Option Addr) (cx : Nat) (hS : S ≤ w.heap.size) (o : w.ownsRow S 26 2 (.slice ax 0 cx) 0 []) (a : Option Addr) (m c : Nat) (f : Nat → Lb) (hz : a = none → m = 0 ∧ c = 0) (ha : Lm w a f m) (hm : m * 32 ≤ 140737488355328) :
    ∃ a' c' w', (Builtin.append_ #[22, 22] 22 #[.slice ax 0 cx, .slice a m c]).run Tryd.prog w = .ok (.slice a' m c') w' ∧ w'.ownsRow S 26 2 (.slice a' m c') m (lc f m) ∧ Kp (fun k => (Value.slice ax 0 cx).ownBlock = some k) w w' ∧ (∀ k, (Value.slice a' m c').ownBlock = some k → (Value.slice ax 0 cx).ownBlock = some k ∨ w.heap.size ≤ k) := by
  obtain ⟨i0, hi, hz0, hz1, hz2⟩ := info_parts infL
  cases a with
  | none =>
    obtain ⟨rfl, rfl⟩ := hz rfl
    exact ⟨ax, cx, w, run_append_owned_none _ S 22 22 26 i0 2 Tryd.underlying22 hi _ 0 [] o, o, Kp.refl _ _, fun k hk => .inl hk⟩
  | some p =>
    obtain ⟨v', w', r, o', g, _, h5⟩ := run_append_own_at (P := Tryd.prog) w S 22 22 26 i0 _ 2 32 Tryd.underlying22 hi hz0 hz1 hz2 rfl (by decide) (.slice ax 0 cx) 0 [] o p m c (lc f m) (lc_len f m) (fun j u hj => ha.cells j u hj) (lc_one f m) (by unfold maxLen; omega) (by rw [Nat.zero_add]; exact hm) hS
    rw [Nat.zero_add, List.nil_append] at o'
    have hk : Kp (fun k => (Value.slice ax 0 cx).ownBlock = some k) w w' := (Kp.refl _ w).grown g (fun k e _ => e)
    have h6 : ∀ k, v'.ownBlock = some k → (Value.slice ax 0 cx).ownBlock = some k ∨ w.heap.size ≤ k := fun k e => by
      rcases h5 with h5 | h5
      · exact .inl (h5.symm.trans e)
      · have : w.heap.size = k := Option.some.inj (h5.symm.trans e)
        exact .inr (by omega)
    rcases o'.2 with ⟨rfl, rfl⟩ | ⟨G, C, cur, rfl, _⟩
    · exact ⟨none, 0, w', r, o', hk, h6⟩
    · exact ⟨some ⟨G, 0, none⟩, C, w', r, o', hk, h6⟩
end Go.Proofs.YtjmninjaoemhjaaDoor
/- Labels: two labels sorted. -/
namespace Go.Proofs.YtjmninjaoemhjaaDoor
open Go.RowKit Go.Lib

theorem Kp.setCell {M : Nat → Prop} {a w : World} (h : Kp M a w) {p : Addr} (hp : M p.block) (u : Value) : Kp M a (w.setCell p u) :=
  h.trans ⟨rfl, rfl, rfl, by simp [World.setCell], fun k hk hm => Below.heap_setCell _ _ _ _ (fun e => hm (e ▸ hp))⟩
theorem Kp.trans' {M N : Nat → Prop} {a b c : World} (h : Kp M a b) (k : Kp N b c) (hn : ∀ i, i < a.heap.size → N i → M i) : Kp M a c := ⟨k.os.trans h.os, k.tape.trans h.tape, k.output.trans h.output, Nat.le_trans h.size k.size, fun i hi hm => (k.block i (Nat.lt_of_lt_of_le hi h.size) (fun x => hm (hn i hi x))).trans (h.block i hi hm)⟩
set_option maxHeartbeats 1000000 in
theorem byName_any (x y : Lb) (w : World) : Calls Tryd.prog 31 #[lbV x, lbV y] w fun e w' => e = .returned (.int .i64 (od x.1 y.1)) ∧ Below w.heap.size w w' := by
  obtain ⟨x1, x2⟩ := x
  obtain ⟨y1, y2⟩ := y
  have k := compare_any x1 y1 ((w.alloc (lbX (x1, x2))).alloc (lbX (y1, y2)))
  have HB : Hid (Below w.heap.size w ((w.alloc (lbX (x1, x2))).alloc (lbX (y1, y2)))) := ((Below.refl _ w).alloc (Nat.le_refl _) _).alloc (by simp) _
  dsimp only
  generalize od x1 y1 = C at *
  go_enter Tryd.func31, Tryd.ntmps31
  go_wp2_with fail
  go_fit k
  rintro e w1 ⟨rfl, rfl⟩
  clear k
  go_wp2
  go_ret
  exact ⟨rfl, HB.out⟩
/-- Four cells of a row of two labels. -/
def C4 (w : World) (g : Nat) (x y : Lb) : Prop := w.cell? ⟨g, 0, none⟩ = some (.string x.1) ∧ w.cell? ⟨g, 1, none⟩ = some (.string x.2) ∧ w.cell? ⟨g, 2, none⟩ = some (.string y.1) ∧ w.cell? ⟨g, 3, none⟩ = some (.string y.2) ∧ ∀ o, w.frozen? ⟨g, o, none⟩ = false
theorem C4.below {w w' : World} {g : Nat} {x y : Lb} (h : C4 w g x y) (b : Below w.heap.size w w') : C4 w' g x y := by
  obtain ⟨a, b1, c, d, e⟩ := h
  have hg := World.block_lt_of_cell? w _ a
  exact ⟨bcell2 b a, bcell2 b b1, bcell2 b c, bcell2 b d, fun o => (b.frozen (p := ⟨g, o, none⟩) hg).trans (e o)⟩
theorem undrew {w w' : World} (h : Below w.drew.heap.size w.drew w') : Below w.heap.size w w' := ⟨h.os, h.tape, h.output, h.size, h.block⟩
theorem C4.drewN {w : World} {g : Nat} {x y : Lb} (h : C4 w g x y) (n : Nat) : C4 (w.drewN n) g x y := h
theorem swap4 {w : World} {g : Nat} {x y : Lb} (h : C4 w g x y) : C4 ((((w.setCell ⟨g, 2, none⟩ (.string x.1)).setCell ⟨g, 3, none⟩ (.string x.2)).setCell ⟨g, 0, none⟩ (.string y.1)).setCell ⟨g, 1, none⟩ (.string y.2)).drew g y x ∧ Kp (· = g) w ((((w.setCell ⟨g, 2, none⟩ (.string x.1)).setCell ⟨g, 3, none⟩ (.string x.2)).setCell ⟨g, 0, none⟩ (.string y.1)).setCell ⟨g, 1, none⟩ (.string y.2)).drew := by
  obtain ⟨a1, a2, a3, a4, f⟩ := h
  have k1 : C4 ((((w.setCell ⟨g, 2, none⟩ (.string x.1)).setCell ⟨g, 3, none⟩ (.string x.2)).setCell ⟨g, 0, none⟩ (.string y.1)).setCell ⟨g, 1, none⟩ (.string y.2)) g y x := by
    refine ⟨?_, ?_, ?_, ?_, fun o => ?_⟩
    · simp [World.cell?_setCell_other, World.cell?_setCell_same', a1]
    · simp [World.cell?_setCell_other, World.cell?_setCell_same', a2]
    · simp [World.cell?_setCell_other, World.cell?_setCell_same', a3]
    · simp [World.cell?_setCell_other, World.cell?_setCell_same', a4]
    · simp [World.frozen?_setCell, f]
  refine ⟨?_, ?_⟩
  · generalize ((((w.setCell ⟨g, 2, none⟩ (.string x.1)).setCell ⟨g, 3, none⟩ (.string x.2)).setCell ⟨g, 0, none⟩ (.string y.1)).setCell ⟨g, 1, none⟩ (.string y.2)) = W at k1 ⊢
    exact ⟨k1.1, k1.2.1, k1.2.2.1, k1.2.2.2.1, k1.2.2.2.2⟩
  · have k : Kp (· = g) w ((((w.setCell ⟨g, 2, none⟩ (.string x.1)).setCell ⟨g, 3, none⟩ (.string x.2)).setCell ⟨g, 0, none⟩ (.string y.1)).setCell ⟨g, 1, none⟩ (.string y.2)) := ((((Kp.refl (· = g) w).setCell (p := ⟨g, 2, none⟩) rfl _).setCell (p := ⟨g, 3, none⟩) rfl _).setCell (p := ⟨g, 0, none⟩) rfl _).setCell (p := ⟨g, 1, none⟩) rfl _
    generalize ((((w.setCell ⟨g, 2, none⟩ (.string x.1)).setCell ⟨g, 3, none⟩ (.string x.2)).setCell ⟨g, 0, none⟩ (.string y.1)).setCell ⟨g, 1, none⟩ (.string y.2)) = W at k ⊢
    exact ⟨k.os, k.tape, k.output, k.size, k.block⟩
set_option maxHeartbeats 4000000 in
set_option maxRecDepth 100000 in
theorem insertion2 (g c : Nat) (x y : Lb) (w : World) (h : C4 w g x y) (hxy : od y.1 x.1 = -1) : Calls Tryd.prog 74 #[.slice (some ⟨g, 0, none⟩) 2 c, .int .i64 0, .int .i64 2, .func (.func 31) #[] #[]] w fun e w' => e = .returned (.tuple #[]) ∧ C4 w' g y x ∧ Kp (· = g) w w' := by
  have HC : Hid (C4 w g x y) := h
  have kb := byName_any y x w.drew
  rw [hxy] at kb
  obtain ⟨x1, x2⟩ := x
  obtain ⟨y1, y2⟩ := y
  have c0 : w.cell? ⟨g, 0, none⟩ = some (.string x1) := h.1
  have c1 : w.cell? ⟨g, 1, none⟩ = some (.string x2) := h.2.1
  have c2 : w.cell? ⟨g, 2, none⟩ = some (.string y1) := h.2.2.1
  have c3 : w.cell? ⟨g, 3, none⟩ = some (.string y2) := h.2.2.2.1
  have h00 : IntKind.i64.wrap 0 = 0 := by decide
  clear h hxy
  go_enter Tryd.func74, Tryd.ntmps74
  go_wp2_with fail
  go_loopw [8] (fun t w' => (t = .int .i64 1 ∧ w' = w) ∨ (t = .int .i64 2 ∧ Hid (C4 w' g (y1, y2) (x1, x2) ∧ Kp (· = g) w w'))) (fun t _ => 2 - (RowKit.intOf t).toNat)
  case atStart => exact .inl ⟨rfl, rfl⟩
  case round =>
    rcases hrel with ⟨rfl, rfl⟩ | ⟨rfl, HF⟩
    · go_wp2_with fail
      go_loopw [9] (fun t w' => (t = .int .i64 1 ∧ w' = wr) ∨ (t = .int .i64 0 ∧ Hid (C4 w' g (y1, y2) (x1, x2) ∧ Kp (· = g) wr w'))) (fun t _ => (RowKit.intOf t).toNat)
      case atStart => exact .inl ⟨rfl, rfl⟩
      case round =>
        rcases hrel with ⟨rfl, rfl⟩ | ⟨rfl, HF⟩
        · have HK : Hid (∀ w', Below wr.drew.heap.size wr.drew w' → C4 w' g (x1, x2) (y1, y2)) := fun w' b => HC.out.below (undrew b)
          have HK4 : Hid (∀ w', Below wr.drew.heap.size wr.drew w' → w'.cell? ⟨g, 0, none⟩ = some (.string x1) ∧ w'.cell? ⟨g, 1, none⟩ = some (.string x2) ∧ w'.cell? ⟨g, 2, none⟩ = some (.string y1) ∧ w'.cell? ⟨g, 3, none⟩ = some (.string y2)) := fun w' b => by
            obtain ⟨a1, a2, a3, a4, _⟩ := HK.out w' b
            exact ⟨a1, a2, a3, a4⟩
          go_wp2_with fail
          go_region_held3 (fun w' => w'.cell? ⟨g, 0, none⟩ = some (.string x1) ∧ w'.cell? ⟨g, 1, none⟩ = some (.string x2) ∧ w'.cell? ⟨g, 2, none⟩ = some (.string y1) ∧ w'.cell? ⟨g, 3, none⟩ = some (.string y2)) (first | exact ⟨c0, c1, c2, c3⟩ | exact HK4.out _ (by assumption)) ((go_at_call 31; go_fit kb; rintro e w3 ⟨rfl, b3⟩))
          have HK3 : Hid (C4 w3 g (x1, x2) (y1, y2)) := HK.out w3 b3
          have HB3 : Hid (Below wr.heap.size wr w3) := undrew b3
          clear c0 c1 c2 c3 kb b3 HK HK4
          obtain ⟨c0, c1, c2, c3, ff⟩ := HK3.out
          dsimp only at c0 c1 c2 c3
          go_wp2_with fail
          go_region
          have HSW : Hid (C4 ((((w3.setCell ⟨g, 2, none⟩ (.string x1)).setCell ⟨g, 3, none⟩ (.string x2)).setCell ⟨g, 0, none⟩ (.string y1)).setCell ⟨g, 1, none⟩ (.string y2)).drew g (y1, y2) (x1, x2) ∧ Kp (· = g) wr ((((w3.setCell ⟨g, 2, none⟩ (.string x1)).setCell ⟨g, 3, none⟩ (.string x2)).setCell ⟨g, 0, none⟩ (.string y1)).setCell ⟨g, 1, none⟩ (.string y2)).drew) := by
            have h := swap4 HK3.out
            exact ⟨h.1, (Kp.of HB3.out).trans h.2⟩
          clear c0 c1 c2 c3 ff HK3
          go_wp2
          exact ⟨.inr ⟨rfl, HSW⟩, by decide⟩
        · have HFN : Hid (∀ n, C4 (wr.drewN n) g (y1, y2) (x1, x2) ∧ Kp (· = g) _ (wr.drewN n)) := fun n => ⟨HF.out.1.drewN n, ⟨HF.out.2.os, HF.out.2.tape, HF.out.2.output, HF.out.2.size, HF.out.2.block⟩⟩
          go_wp2_with fail
          go_quiet (fail)
          go_wp2
          exact ⟨.inr ⟨rfl, HFN.out _⟩, by decide⟩
    · go_wp2
      go_end0
      exact ⟨rfl, HF.out⟩
set_option maxHeartbeats 4000000 in
set_option maxRecDepth 100000 in
theorem pdq2 (g c : Nat) (l : Int) (x y : Lb) (w : World) (h : C4 w g x y) (hxy : od y.1 x.1 = -1) : Calls Tryd.prog 56 #[.slice (some ⟨g, 0, none⟩) 2 c, .int .i64 0, .int .i64 2, .int .i64 l, .func (.func 31) #[] #[]] w fun e w' => e = .returned (.tuple #[]) ∧ C4 w' g y x ∧ Kp (· = g) w w' := by
  have k := insertion2 g c x y w h hxy
  clear h hxy
  go_enter Tryd.func56, Tryd.ntmps56
  go_wp2_with fail
  go_loopw [1, 2] (fun a b w' => a = .int .i64 0 ∧ b = .int .i64 2 ∧ w' = w) (fun _ _ _ => 0)
  case atStart => exact ⟨rfl, rfl, rfl⟩
  case round =>
    obtain ⟨rfl, rfl, rfl⟩ := hrel
    go_wp2_with fail
    go_fit k
    rintro e w1 ⟨rfl, h1, h2⟩
    have HF : Hid (C4 w1 g y x ∧ Kp (· = g) wr w1) := ⟨h1, h2⟩
    clear k h1 h2
    go_wp2
    refine bodyPost_ret (v := .tuple #[]) (by simp [results, Tryd.results56]) rfl ⟨rfl, HF.out⟩
set_option maxHeartbeats 4000000 in
theorem sort2 (g c : Nat) (x y : Lb) (w : World) (h : C4 w g x y) (hxy : od y.1 x.1 = -1) : Calls Tryd.prog 30 #[.slice (some ⟨g, 0, none⟩) 2 c, .func (.func 31) #[] #[]] w fun e w' => e = .returned (.tuple #[]) ∧ C4 w' g y x ∧ Kp (· = g) w w' := by
  have k1 := Tryd.bits_Len 2 w (by decide) (by decide)
  have k2 := pdq2 g c (Lib.bitLen (2 : Int).toNat) x y w h hxy
  clear h hxy
  go_enter Tryd.func30, Tryd.ntmps30
  go_wp2_with fail
  go_fit k1
  rintro e w1 ⟨rfl, rfl⟩
  clear k1
  go_wp2_with fail
  go_fit k2
  rintro e w1 ⟨rfl, h1, h2⟩
  have HF : Hid (C4 w1 g y x ∧ Kp (· = g) _ w1) := ⟨h1, h2⟩
  clear k2 h1 h2
  go_wp2
  go_end0
  exact ⟨rfl, HF.out⟩
end Go.Proofs.YtjmninjaoemhjaaDoor
