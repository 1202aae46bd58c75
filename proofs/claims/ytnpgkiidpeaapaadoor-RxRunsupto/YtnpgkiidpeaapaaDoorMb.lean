/- page, add: the walks. -/
import Derived.Test.YtnpgkiidpeaapaaDoorMa
import Derived.Laws.Cover3
namespace Go.Proofs.YtnpgkiidpeaapaaDoor
open Go.RowKit

/-- Marks, whatever their pages. -/
def Ms (w : World) (S b : Nat) (L : Nat → Prop) (size : Nat) (wd : Nat → Nat → Nat) : Prop := ∃ np nw pv ps, Mk w S b L size wd np nw pv ps
def AftM (w w' : World) (S b : Nat) (L : Nat → Prop) (size : Nat) (wd : Nat → Nat → Nat) : Prop := ∃ L', Ms w' S b L' size wd ∧ Kp (fun k => k = b ∨ L k) w w' ∧ FldM b w w' ∧ ∀ k, L' k → L k ∨ w.heap.size ≤ k
/-- .. with a page that is there. -/
def AftP (w w' : World) (S b : Nat) (L : Nat → Prop) (size : Nat) (wd : Nat → Nat → Nat) (k : Nat) (v : Value) : Prop := ∃ L' np nw pg cp ps, Mk w' S b L' size wd np nw (.slice (some ⟨pg, 0, none⟩) np cp) ps ∧ ps k = v ∧ v ≠ .slice none 0 0 ∧ k < np ∧ Kp (fun k => k = b ∨ L k) w w' ∧ FldM b w w' ∧ ∀ k, L' k → L k ∨ w.heap.size ≤ k
theorem eq_nil68 (a : Option Addr) (n c : Nat) (w : World) : (binOp .eql 68 (.slice a n c) (.slice none 0 0)).run Tryd.prog w = .ok (.bool a.isNone) w := by
  simp [binOp, run_equal_slice_nil w 68 100 a n c Tryd.underlying68]
theorem eq_nil100 (a : Option Addr) (n c : Nat) (w : World) : (binOp .eql 100 (.slice a n c) (.slice none 0 0)).run Tryd.prog w = .ok (.bool a.isNone) w := by
  simp [binOp, run_equal_slice_nil w 100 82 a n c Tryd.underlying100]
theorem eq_nil31 (a : Option Addr) (n c : Nat) (w : World) : (binOp .eql 31 (.slice a n c) (.slice none 0 0)).run Tryd.prog w = .ok (.bool a.isNone) w := by
  simp [binOp, run_equal_slice_nil w 31 3 a n c Tryd.underlying31]
set_option maxHeartbeats 2000000 in
set_option maxRecDepth 100000 in
theorem page_there (w : World) (S b k : Nat) (L : Nat → Prop) (size : Nat) (wd : Nat → Nat → Nat) (np nw pg cp g c : Nat) (ps : Nat → Value) (h : Mk w S b L size wd np nw (.slice (some ⟨pg, 0, none⟩) np cp) ps) (hk : k < np) (hv : ps k = .slice (some ⟨g, 0, none⟩) nw c) :
    Calls Tryd.prog 46 #[.pointer (some ⟨b, 3, none⟩), .int .i64 (k : Int)] w fun r w' => ∃ v, r = .returned v ∧ AftP w w' S b L size wd k v := by
  have op : w.ownsRow S 100 1 (.slice (some ⟨pg, 0, none⟩) np cp) np (sc ps np) := by
    rcases h.pages with o | ⟨e, _⟩
    · exact o
    · cases e
  have cpk : w.cell? ⟨pg, k, none⟩ = some (.slice (some ⟨g, 0, none⟩) nw c) := by
    have := World.ownsRow.cellAt op k (by omega)
    rw [sc_get ps np k hk, hv] at this
    exact this
  have AF : Hid (AftP w w S b L size wd k (.slice (some ⟨g, 0, none⟩) nw c)) := ⟨L, np, nw, pg, cp, ps, h, hv, by simp, hk, Kp.refl _ _, FldM.kp (Kp.refl (fun _ => False) w) id, fun _ e => .inl e⟩
  have c4 := h.c4
  have hkn : (k : Int) < (np : Int) := by omega
  clear h op hv hk
  go_enter Tryd.func46, Tryd.ntmps46
  have q1 := eq_nil68
  have q2 := eq_nil100
  go_wp2
  go_ret
  exact ⟨_, rfl, AF.out⟩
theorem min_cast (size : Nat) : (if (size : Int) / 64 + 1 < 1024 then (size : Int) / 64 + 1 else 1024) = ((min 1024 (size / 64 + 1) : Nat) : Int) := by
  split <;> omega
set_option maxHeartbeats 2000000 in
set_option maxRecDepth 100000 in
theorem page_makes (w : World) (S b k : Nat) (L : Nat → Prop) (size : Nat) (wd : Nat → Nat → Nat) (np nw pg cp : Nat) (ps : Nat → Value) (h : Mk w S b L size wd np nw (.slice (some ⟨pg, 0, none⟩) np cp) ps) (hk : k < np) (hv : ps k = .slice none 0 0) (hS : S ≤ w.heap.size) :
    Calls Tryd.prog 46 #[.pointer (some ⟨b, 3, none⟩), .int .i64 (k : Int)] w fun r w' => ∃ v, r = .returned v ∧ AftP w w' S b L size wd k v := by
  have hb0 : Below w.heap.size w w.drew := (Below.refl _ w).drew
  obtain ⟨w1, r, s2, k2, fl2, pk, zk, p4, hlt⟩ := (h.below hb0).paged k hk hv hS
  have op : w.ownsRow S 100 1 (.slice (some ⟨pg, 0, none⟩) np cp) np (sc ps np) := by
    rcases h.pages with o | ⟨e, _⟩
    · exact o
    · cases e
  have cpk : w.cell? ⟨pg, k, none⟩ = some (.slice none 0 0) := by
    have := World.ownsRow.cellAt op k (by omega)
    rw [sc_get ps np k hk, hv] at this
    exact this
  obtain ⟨W2, hW2⟩ : ∃ W2, W2 = w1.setCell ⟨pg, k, none⟩ (.slice (some ⟨w.heap.size, 0, none⟩) nw nw) := ⟨_, rfl⟩
  have AF : Hid (AftP w W2 S b L size wd k (.slice (some ⟨w.heap.size, 0, none⟩) nw nw)) := by
    rw [hW2]
    exact ⟨_, np, nw, pg, cp, _, s2, up_same _ _ _, by simp, hk, (Kp.of hb0).trans k2, (FldM.kp (Kp.of (M := fun _ => False) hb0) id).trans fl2, fun q e => e.elim .inl (fun e => .inr e.1)⟩
  have d4 : W2.cell? ⟨b, 4, none⟩ = some (.slice (some ⟨pg, 0, none⟩) np cp) := by rw [hW2]; exact s2.c4
  have dk : W2.cell? ⟨pg, k, none⟩ = some (.slice (some ⟨w.heap.size, 0, none⟩) nw nw) := by rw [hW2]; exact World.cell?_setCell_same' _ _ _ (by rw [pk]; rfl)
  have HW2 : Hid (W2 = w1.setCell ⟨pg, k, none⟩ (.slice (some ⟨w.heap.size, 0, none⟩) nw nw)) := hW2
  have c4 := h.c4
  have c3 := h.c3
  have hkn : (k : Int) < (np : Int) := by omega
  have hsz : (size : Int) ≤ 281474976710656 := by have := h.hsz; omega
  have e3 := k2
  have r' : (Instr.makeSlice 100 (.int .i64 (if (size : Int) / 64 + 1 < 1024 then (size : Int) / 64 + 1 else 1024)) (.int .i64 (if (size : Int) / 64 + 1 < 1024 then (size : Int) / 64 + 1 else 1024))).run Tryd.prog w.drew = .ok (.slice (some ⟨w.heap.size, 0, none⟩) nw nw) w1 := by
    rw [min_cast, ← h.enw]
    exact r
  have q1 := eq_nil68
  have q2 := eq_nil100
  clear h op hv hk s2 k2 fl2 hW2 r e3 hS
  go_enter Tryd.func46, Tryd.ntmps46
  go_wp2_with fail
  go_region
  all_goals rw [← HW2.out]
  all_goals go_wp2
  all_goals go_ret
  all_goals exact ⟨_, rfl, AF.out⟩
set_option maxHeartbeats 2000000 in
set_option maxRecDepth 100000 in
theorem page_opens (w : World) (S b k : Nat) (L : Nat → Prop) (size : Nat) (wd : Nat → Nat → Nat) (np nw : Nat) (ps : Nat → Value) (h : Mk w S b L size wd np nw (.slice none 0 0) ps) (hk : k < np) (hps : ∀ j, ps j = .slice none 0 0) (hS : S ≤ w.heap.size) :
    Calls Tryd.prog 46 #[.pointer (some ⟨b, 3, none⟩), .int .i64 (k : Int)] w fun r w' => ∃ v, r = .returned v ∧ AftP w w' S b L size wd k v := by
  obtain ⟨w1, r, s2, k2, fl2, p4, z4, hlt⟩ := h.opens hps hS
  obtain ⟨G, hG⟩ : ∃ G, G = w.heap.size := ⟨_, rfl⟩
  rw [← hG] at r s2 k2 fl2
  obtain ⟨W2, hW2⟩ : ∃ W2, W2 = w1.setCell ⟨b, 4, none⟩ (.slice (some ⟨G, 0, none⟩) np np) := ⟨_, rfl⟩
  rw [← hW2] at s2 k2 fl2
  have hb0 : Below W2.heap.size W2 W2.drew := (Below.refl _ _).drew
  have hS2 : S ≤ W2.heap.size := Nat.le_trans hS k2.size
  have hs12 : W2.heap.size = w1.heap.size := by rw [hW2]; simp [World.setCell]
  obtain ⟨w3, r3, s4, k4, fl4, pk, zk, q4, hlt3⟩ := (s2.below hb0).paged k hk (hps k) hS2
  have op : W2.ownsRow S 100 1 (.slice (some ⟨G, 0, none⟩) np np) np (sc ps np) := by
    rcases s2.pages with o | ⟨e, _⟩
    · exact o
    · cases e
  have cpk : W2.cell? ⟨G, k, none⟩ = some (.slice none 0 0) := by
    have := World.ownsRow.cellAt op k (by omega)
    rw [sc_get ps np k hk, hps k] at this
    exact this
  have hGb : ¬ b = G := fun e => by have := (s2.inL 0 G rfl).2; omega
  have hGb' : ¬ G = b := fun e => hGb e.symm
  have ck1 : w1.cell? ⟨G, k, none⟩ = some (.slice none 0 0) := by
    have := cpk
    rw [hW2, World.cell?_setCell_other _ _ _ _ (fun e => hGb (congrArg Addr.block e))] at this
    exact this
  obtain ⟨H, hH⟩ : ∃ H, H = W2.heap.size := ⟨_, rfl⟩
  have r3b : (Instr.makeSlice 100 (.int .i64 (nw : Int)) (.int .i64 (nw : Int))).run Tryd.prog W2.drew = .ok (.slice (some ⟨H, 0, none⟩) nw nw) w3 := by rw [hH]; exact r3
  have s4b : Mk (w3.setCell ⟨G, k, none⟩ (.slice (some ⟨H, 0, none⟩) nw nw)) S b (more (more L w w1) W2.drew w3) size wd np nw (.slice (some ⟨G, 0, none⟩) np np) (up ps k (.slice (some ⟨H, 0, none⟩) nw nw)) := by rw [hH]; exact s4
  have k4b : Kp (fun i => i = b ∨ more L w w1 i) W2.drew (w3.setCell ⟨G, k, none⟩ (.slice (some ⟨H, 0, none⟩) nw nw)) := by rw [hH]; exact k4
  have fl4b : FldM b W2.drew (w3.setCell ⟨G, k, none⟩ (.slice (some ⟨H, 0, none⟩) nw nw)) := by rw [hH]; exact fl4
  obtain ⟨W4, hW4⟩ : ∃ W4, W4 = w3.setCell ⟨G, k, none⟩ (.slice (some ⟨H, 0, none⟩) nw nw) := ⟨_, rfl⟩
  rw [← hW4] at s4b k4b fl4b
  have AF : Hid (AftP w W4 S b L size wd k (.slice (some ⟨H, 0, none⟩) nw nw)) := by
    refine ⟨_, np, nw, G, np, _, s4b, up_same _ _ _, by simp, hk, (k2.trans (Kp.of hb0)).trans' k4b (fun i hi e => ?_), (fl2.trans (FldM.kp (Kp.of (M := fun _ => False) hb0) id)).trans fl4b, fun q e => ?_⟩
    · rcases e with e | e | e
      · exact .inl e
      · exact .inr e
      · have := e.1; omega
    · rcases e with (e | e) | e
      · exact .inl e
      · exact .inr e.1
      · exact .inr (by have : W2.heap.size ≤ q := e.1; have := k2.size; omega)
  have d4 : W4.cell? ⟨b, 4, none⟩ = some (.slice (some ⟨G, 0, none⟩) np np) := s4b.c4
  have dk : W4.cell? ⟨G, k, none⟩ = some (.slice (some ⟨H, 0, none⟩) nw nw) := by rw [hW4]; exact World.cell?_setCell_same' _ _ _ (by rw [pk]; rfl)
  have HW2 : Hid (W2 = w1.setCell ⟨b, 4, none⟩ (.slice (some ⟨G, 0, none⟩) np np)) := hW2
  have HW4 : Hid (W4 = w3.setCell ⟨G, k, none⟩ (.slice (some ⟨H, 0, none⟩) nw nw)) := hW4
  have c4 := h.c4
  have c3 := h.c3
  have y4 := s2.c4
  have y3 := s2.c3
  have hkn : (k : Int) < (np : Int) := by omega
  have hsz : (size : Int) ≤ 281474976710656 := by have := h.hsz; omega
  have r' : (Instr.makeSlice 68 (.int .i64 ((size : Int) / 65536 + 1)) (.int .i64 ((size : Int) / 65536 + 1))).run Tryd.prog w = .ok (.slice (some ⟨G, 0, none⟩) np np) w1 := by
    rw [show (size : Int) / 65536 + 1 = ((size / 65536 + 1 : Nat) : Int) by omega, ← h.enp]
    exact r
  have r3' : (Instr.makeSlice 100 (.int .i64 (if (size : Int) / 64 + 1 < 1024 then (size : Int) / 64 + 1 else 1024)) (.int .i64 (if (size : Int) / 64 + 1 < 1024 then (size : Int) / 64 + 1 else 1024))).run Tryd.prog W2.drew = .ok (.slice (some ⟨H, 0, none⟩) nw nw) w3 := by
    rw [min_cast, ← h.enw]
    exact r3b
  have q1 := eq_nil68
  have q2 := eq_nil100
  clear h op hps hk s2 k2 fl2 hW2 r hS s4 s4b k4 k4b fl4 fl4b hb0 r3 r3b hS2 hH hG hW4 hs12
  go_enter Tryd.func46, Tryd.ntmps46
  go_wp2_with fail
  rw [← HW2.out]
  go_region
  all_goals rw [← HW4.out]
  all_goals go_wp2
  all_goals go_ret
  all_goals exact ⟨_, rfl, AF.out⟩
theorem page_any (w : World) (S b k : Nat) (L : Nat → Prop) (size : Nat) (wd : Nat → Nat → Nat) (h : Ms w S b L size wd) (hk : k ≤ size / 65536) (hS : S ≤ w.heap.size) :
    Calls Tryd.prog 46 #[.pointer (some ⟨b, 3, none⟩), .int .i64 (k : Int)] w fun r w' => ∃ v, r = .returned v ∧ AftP w w' S b L size wd k v := by
  obtain ⟨np, nw, pv, ps, h⟩ := h
  have hk' : k < np := by rw [h.enp]; omega
  rcases h.pages with o | ⟨rfl, hp⟩
  · rcases o.2 with ⟨_, h0⟩ | ⟨pg, cp, cur, rfl, _⟩
    · omega
    · rcases h.each k hk' with ⟨e, _⟩ | ⟨g, c, e, _⟩
      · exact page_makes w S b k L size wd np nw pg cp ps h hk' e hS
      · exact page_there w S b k L size wd np nw pg cp g c ps h hk' e
  · exact page_opens w S b k L size wd np nw ps h hk' hp hS
end Go.Proofs.YtnpgkiidpeaapaaDoor
