/- takes, find. -/
import Derived.Test.YtnpgkiidpeaapaaDoorFa
import Derived.Test.YtnpgkiidpeaapaaDoorPm
namespace Go.Proofs.YtnpgkiidpeaapaaDoor
open Go.RowKit

/-- A search's block at its beginning. -/
abbrev seX (mb sb sn sp : Nat) (s : ByteArray) (size : Int) : Obj := .cells #[.pointer (some ⟨mb, 0, none⟩), .string s, .slice (some ⟨sb, 0, none⟩) sn sp, .int .i64 size, .slice none 0 0, .slice none 0 0, .slice none 0 0, .slice none 0 0] 76
theorem start_Gs (k : Cx) (w : World) (sl0 : Nat → Int) (f : Fix k w) (hb : k.b = w.heap.size) (hR : w.ownsRow 0 3 1 (.slice (some ⟨k.sb, 0, none⟩) k.sn k.sp) k.sn (sc (slc sl0) k.sn)) :
    Gs k w (w.alloc (seX k.mb k.sb k.sn k.sp k.s (k.size : Int))) (fun _ => false) [] sl0 := by
  obtain ⟨W, hW⟩ : ∃ W, W = w.alloc (seX k.mb k.sb k.sn k.sp k.s (k.size : Int)) := ⟨_, rfl⟩
  have hblk : W.heap[k.b]? = some (seX k.mb k.sb k.sn k.sp k.s (k.size : Int)) := by rw [hW, hb]; exact heap_alloc_new w _
  have hc : ∀ j, W.cell? ⟨k.b, j, none⟩ = (#[.pointer (some ⟨k.mb, 0, none⟩), .string k.s, .slice (some ⟨k.sb, 0, none⟩) k.sn k.sp, .int .i64 (k.size : Int), .slice none 0 0, .slice none 0 0, .slice none 0 0, .slice none 0 0] : Array Value)[j]? := fun j => cell_of_row W k.b j _ 76 (0, 0) hblk
  have hz : ∀ j, W.frozen? ⟨k.b, j, none⟩ = false := fun j => frozen_of_row W k.b j _ 76 hblk
  have hs := (row_lt hR k.sb rfl).2
  have kk : Kp (fun _ => False) w W := by rw [hW]; exact (Kp.refl _ w).alloc _
  have nl : ∀ {S e s : Nat}, W.ownsRow S e s (.slice none 0 0) 0 [] := ⟨by simp, .inl ⟨rfl, rfl⟩⟩
  have none1 : ∀ i q, bl (.slice none 0 0) (.slice none 0 0) (.slice none 0 0) (fun _ => .slice none 0 0) 0 i = some q → False := fun i q e => by
    match i with
    | 0 => cases e
    | 1 => cases e
    | 2 => cases e
    | j + 3 =>
      have e' : (if j < 0 then (Value.slice none 0 0).ownBlock else none) = some q := e
      rw [if_neg (by omega)] at e'
      cases e'
  have none2 : ∀ n i q, ml (.slice none 0 0) (fun _ => .slice none 0 0) n i = some q → False := fun n i q e => by
    match i with
    | 0 => cases e
    | j + 1 =>
      have e' : (if j < n then (Value.slice none 0 0).ownBlock else none) = some q := e
      split at e' <;> cases e'
  have sk : Sk W k.sb k.b (fun _ => False) (fun _ => (0, 0)) 0 := ⟨0, 0, .slice none 0 0, .slice none 0 0, .slice none 0 0, fun _ => .slice none 0 0, rfl, Nat.zero_le _, hc 5, hc 6, hc 7, hz 5, hz 6, hz 7, nl, nl, nl, fun j hj => by omega, fun i j q hi _ => (none1 i q hi).elim, fun i q hi => (none1 i q hi).elim, fun _ h => h.elim⟩
  have ms : Ms W k.sb k.b (fun _ => False) k.size (fun _ _ => 0) := ⟨_, _, .slice none 0 0, fun _ => .slice none 0 0, rfl, rfl, by have := f.size_le.2; omega, hc 3, hc 4, hz 4, .inr ⟨rfl, fun _ => rfl⟩, fun j _ => .inl ⟨rfl, fun _ => rfl⟩, fun _ _ => by omega, fun i j q hi _ => (none2 _ i q hi).elim, fun i q hi => (none2 _ i q hi).elim, fun _ h => h.elim⟩
  rw [← hW]
  refine ⟨fun _ => False, fun _ => False, _, 0, _, ⟨hc 0, hc 1, hc 2, hz 0, hz 1, hz 2, hz 3, kk.row hR (fun _ _ => id), sk, ms, fun _ h => h.elim, fun _ h => h.elim, fun _ h => h.elim, by omega, id, id⟩, rfl, fun p _ _ _ => by unfold mkB; exact Nat.zero_testBit _, ?_⟩
  rw [hW]
  exact (Below.refl _ _).alloc (by omega) _
set_option maxHeartbeats 1000000 in
set_option maxRecDepth 100000 in
theorem takes_any (k : Cx) (w : World) (sl0 : Nat → Int) (f : Fix k w) (hb : k.b = w.heap.size) (hR : w.ownsRow 0 3 1 (.slice (some ⟨k.sb, 0, none⟩) k.sn k.sp) k.sn (sc (slc sl0) k.sn)) :
    Calls Tryd.prog 20 #[.pointer (some ⟨k.mb, 0, none⟩), .string k.s, .slice (some ⟨k.sb, 0, none⟩) k.sn k.sp] w (GW k w sl0) := by
  have G := start_Gs k w sl0 f hb hR
  have kG := goes_any k w _ sl0 f G
  have m5 := f.mach.m5
  have m1 := f.mach.m1
  have n1 : (w.alloc (seX k.mb k.sb k.sn k.sp k.s (k.size : Int))).cell? ⟨k.mb, 1, none⟩ = some (.int .i64 k.st) := cell_al _ m1
  have hsz : (k.s.size : Int) ≤ 2097152 := by have := f.hs; omega
  have hst : ((k.st.toNat : Nat) : Int) = k.st := by have := f.st0; omega
  rw [hst, hb] at kG
  have hsz2 := f.size_le.2
  have e1 : (k.size : Int) = (k.ct : Int) * ((k.s.size : Int) + 1) := by
    show ((k.ct * (k.L + 1) : Nat) : Int) = _
    rw [Int.natCast_mul]
    rfl
  rw [e1] at kG n1
  have hbd : (k.ct : Int) * ((k.s.size : Int) + 1) ≤ 20971530000 := by omega
  have hbd0 : 0 ≤ (k.ct : Int) * ((k.s.size : Int) + 1) := by omega
  generalize k.ct = CT at *
  clear G f hR e1
  go_enter Tryd.func20, Tryd.ntmps20
  go_wp2_with fail
  go_fit kG
  intro e w1 h
  obtain ⟨r, h1, rfl, h3, h4⟩ := h
  go_wp2
  go_ret
  exact ⟨r, h1, rfl, h3, h4⟩
end Go.Proofs.YtnpgkiidpeaapaaDoor
