/- A bundle of texts. -/
import Derived.Test.YtajaadagejhllaaGreatDoorBs17
/- The parser: a repeat's node; settings of flags that aren't there. -/
namespace Go.Proofs.YtajaadagejhllaaGreatDoor
open Go.RowKit

def zN : Nd := ⟨0, 0, none, 0, 0, fun _ => (0, 0), 0, 0, false, 0, ⟨#[]⟩, none, 0, 0⟩
/-- A node stored into a box. -/
abbrev st9 (W : World) (G : Nat) (e : Nd) : World := (((((((((W.setCell ⟨G, 0, none⟩ (.int .i64 e.kind)).setCell ⟨G, 1, none⟩ (.int .i32 e.r)).setCell ⟨G, 2, none⟩ (.slice e.ra e.rn e.rc)).setCell ⟨G, 3, none⟩ (.int .i64 e.mn)).setCell ⟨G, 4, none⟩ (.int .i64 e.mx)).setCell ⟨G, 5, none⟩ (.bool e.lz)).setCell ⟨G, 6, none⟩ (.int .i64 e.cp)).setCell ⟨G, 7, none⟩ (.string e.nm)).setCell ⟨G, 8, none⟩ (.slice e.ka e.kn e.kc))
theorem st9_kp (W : World) (G : Nat) (e : Nd) : Kp (· = G) W (st9 W G e) := (((((((((Kp.refl (· = G) W).setCell (p := ⟨G, 0, none⟩) rfl _).setCell (p := ⟨G, 1, none⟩) rfl _).setCell (p := ⟨G, 2, none⟩) rfl _).setCell (p := ⟨G, 3, none⟩) rfl _).setCell (p := ⟨G, 4, none⟩) rfl _).setCell (p := ⟨G, 5, none⟩) rfl _).setCell (p := ⟨G, 6, none⟩) rfl _).setCell (p := ⟨G, 7, none⟩) rfl _).setCell (p := ⟨G, 8, none⟩) rfl _
theorem st9_cs {W : World} {G : Nat} {d : Nd} (e : Nd) (h : Cs W G 0 d) : Cs (st9 W G e) G 0 e := by
  obtain ⟨q0, q1, q2, q3, q4, q5, q6, q7, q8⟩ := h
  simp only [Nat.zero_add] at q0 q1 q2 q3 q4 q5 q6 q7 q8
  constructor <;> simp [st9, World.cell?_setCell_other, World.cell?_setCell_same', q0, q1, q2, q3, q4, q5, q6, q7, q8]
/-- A box of one's own behind a reader that goes on. -/
theorem Rd.box {S : Nat} {w : World} {B : Nat} {v : Value} {a : Option Addr} {c : Nat} {R : List Int} {s : Ps} (h : Rd S w B v a c R s) (hS : S ≤ w.heap.size) (o : Obj) : Rd S (w.alloc o) B v a c R s ∧ S ≤ (w.alloc o).heap.size ∧ ¬ Mv B v w.heap.size ∧ w.heap.size < (w.alloc o).heap.size :=
  ⟨h.below hS ((Below.refl _ w).alloc (Nat.le_refl _) _), by simp; omega, fun e => by have := (h.base _ e).2; omega, by simp⟩
/-- What a box beyond is, the reader does not mind. -/
theorem Tk.past {S B : Nat} {v : Value} {a : Option Addr} {c : Nat} {R : List Int} {s : Ps} {w W W' : World} {G : Nat} (h : Tk S B v a c R s w W) (hS : S ≤ w.heap.size) (k : Kp (· = G) W W') (hG : ¬ Mv B v G) (hw : w.heap.size ≤ G) : Tk S B v a c R s w W' :=
  ⟨h.1.kp k (fun e => hG (.inl e.symm)) (fun _ e e' => hG (.inr (by rw [e, e']))) (k.below (Nat.le_trans hS h.2.size) (fun i hi e => by omega)), h.2.trans' k (fun i hi e => by omega)⟩
set_option maxRecDepth 100000 in
set_option maxHeartbeats 1000000 in
theorem repeat_no {S B : Nat} {v : Value} {a : Option Addr} {c : Nat} {R : List Int} {s : Ps} {w w1 : World} (h : Tk S B v a c R s w w1) (hS : S ≤ w.heap.size) (hat : s.p ≤ 5000) (hs1 : seB R s.p [42] = false) (hs2 : seB R s.p [43] = false) (hs3 : seB R s.p [63] = false) (hs : seB R s.p [123] = false) :
    Calls Tryz.prog 95 #[.pointer (some ⟨B, 0, none⟩)] w1 fun e w' => e = .returned (.tuple #[ndV zN, .bool false]) ∧ Tk S B v a c R s w w' := by
  have hS1 : S ≤ w1.heap.size := Nat.le_trans hS h.2.size
  obtain ⟨h1, hS2, hG, hlt⟩ := h.1.box hS1 (ndX zN)
  have k := times_no (Tk.refl h1) hS2 hat hs1 hs2 hs3 hs
  have HK : Hid (Kp (Mv B v) w (w1.alloc (ndX zN))) := h.2.trans (Kp.of ((Below.refl _ w1).alloc (Nat.le_refl _) _))
  have hsz : w.heap.size ≤ w1.heap.size := h.2.size
  clear h hs1 hs2 hs3 hs h1 hS2
  go_enter Tryz.func95, Tryz.ntmps95
  go_wp2_with fail
  go_fit k
  rintro e w2 ⟨rfl, h2⟩
  have bk := h2.2.block _ hlt hG
  have cc : Cs w2 w1.heap.size 0 zN := by
    have hc := ndX_cells (w := w1) zN (W := w1.alloc (ndX zN)) (Below.refl _ _)
    exact hc.kp h2.2 hG
  have ff : ∀ i, w2.frozen? ⟨w1.heap.size, i, none⟩ = false := fun i => (World.frozen?_of_block (w := w1.alloc (ndX zN)) bk).trans (by simp)
  have H2 : Hid (Tk S B v a c R s w w2) := ⟨h2.1, HK.out.trans h2.2⟩
  obtain ⟨q0, q1, q2, q3, q4, q5, q6, q7, q8⟩ := cc
  have cc' : Cs w2 w1.heap.size 0 zN := ⟨q0, q1, q2, q3, q4, q5, q6, q7, q8⟩
  have HC : Hid (Cs (st9 w2 w1.heap.size zN) w1.heap.size 0 zN) := st9_cs zN cc'
  simp only [Nat.zero_add] at q0 q1 q2 q3 q4 q5 q6 q7 q8
  clear k h2 cc' bk
  go_wp2_with fail
  clear q0 q1 q2 q3 q4 q5 q6 q7 q8
  obtain ⟨q0, q1, q2, q3, q4, q5, q6, q7, q8⟩ := HC.out
  have HT := H2.out.past hS (st9_kp w2 w1.heap.size zN) hG hsz
  change bodyPost _ _ _ _ _ (st9 w2 w1.heap.size zN)
  generalize st9 w2 w1.heap.size zN = W9 at *
  simp only [Nat.zero_add] at q0 q1 q2 q3 q4 q5 q6 q7 q8
  refine bodyPost_ret (v := .tuple #[ndV zN, .bool false]) (by simp [results, Tryz.results95, go_sem, q0, q1, q2, q3, q4, q5, q6, q7, q8]) rfl ⟨rfl, HT⟩
set_option maxRecDepth 100000 in
theorem turning_no {S B : Nat} {v : Value} {a : Option Addr} {c : Nat} {R : List Int} {s : Ps} {w w1 : World} (h : Tk S B v a c R s w w1) (hS : S ≤ w.heap.size) (hat : s.p ≤ 5000) (hs : seB R s.p [40, 63] = false) :
    Calls Tryz.prog 110 #[.pointer (some ⟨B, 0, none⟩)] w1 fun e w' => e = .returned (.tuple #[.int .u8 0, .int .u8 0, .bool false]) ∧ Tk S B v a c R s w w' := by
  have k := takes_no (x := ⟨#[40, 63]⟩) h hS (by decide) hat hs
  clear h
  go_enter Tryz.func110, Tryz.ntmps110
  go_wp2_with fail
  go_fit k
  rintro e w2 ⟨rfl, h2⟩
  have H2 : Hid _ := h2
  clear h2 k
  go_wp2
  refine bodyPost_ret (v := .tuple #[.int .u8 0, .int .u8 0, .bool false]) (by simp [results, Tryz.results110, go_sem]) rfl ?_
  exact ⟨rfl, H2.out⟩
set_option maxRecDepth 100000 in
theorem turns_no {S B : Nat} {v : Value} {a : Option Addr} {c : Nat} {R : List Int} {s : Ps} {w w1 : World} (h : Tk S B v a c R s w w1) (hS : S ≤ w.heap.size) (hat : s.p ≤ 5000) (x : ByteArray) (hs : seB R s.p [40, 63] = false) :
    Calls Tryz.prog 96 #[.pointer (some ⟨B, 0, none⟩), .string x] w1 fun e w' => e = .returned (.bool false) ∧ Tk S B v a c R s w w' := by
  have k := turning_no h hS hat hs
  have c1 := h.1.c1
  clear h
  go_enter Tryz.func96, Tryz.ntmps96
  go_wp2_with fail
  go_fit k
  rintro e w2 ⟨rfl, h2⟩
  have d1 := h2.1.c1
  have f1 := h2.1.fz 1
  have H2 : Hid (Tk S B v a c R s w (w2.setCell ⟨B, 1, none⟩ (.int .i64 (s.p : Int)))) := by
    have g := h2.1.go (Nat.le_trans hS h2.2.size) s.p
    exact ⟨g.1, h2.2.trans g.2⟩
  clear h2 k c1
  go_wp2
  go_ret
  exact ⟨rfl, H2.out⟩
end Go.Proofs.YtajaadagejhllaaGreatDoor
