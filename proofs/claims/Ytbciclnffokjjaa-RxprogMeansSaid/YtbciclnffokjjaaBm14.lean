/- A bundle of texts. -/
import Derived.Test.YtbciclnffokjjaaBm13
/- Code: node at the leaves. -/
namespace Go.Proofs.Ytbciclnffokjjaa
open Go.RowKit

def NodeC (m : Nat) : Prop := ∀ (Z : Nat → Prop) (T S B : Nat) (v : Value) (f : Nat → In) (c : List Ia) (t : Tr) (w : World), Cd Z S w B v f c → Tat T w t → T ≤ S → (∀ k, Z k → T ≤ k ∧ k < w.heap.size) → WF m t → S ≤ w.heap.size → c.length + (cod m t c.length).length ≤ 100000 →
  Calls Try.prog 47 #[.pointer (some ⟨B, 0, none⟩), ndV (t [])] w (Cp Z S B v c (cod m t c.length) w)
theorem Ro.tree {T S B : Nat} {Z : Nat → Prop} {w : World} {v : Value} {f : Nat → In} {c : List Ia} {t : Tr} (hv : Cd Z S w B v f c) (ht : Tat T w t) (hT : T ≤ S) (hZ : ∀ k, Z k → T ≤ k ∧ k < w.heap.size) : Ro w (MZ Z B v) (t []).ra (t []).rn (rsL (t [])) := by
  refine ⟨(rsL_len _).symm, ?_⟩
  rcases ht.ranges with h | ⟨g, o, e, hg, hc⟩
  · exact .inl h
  · by_cases h0 : (t []).rn = 0
    · exact .inl h0
    · refine .inr ⟨g, o, e, World.block_lt_of_cell? w _ (hc 0 (by omega)).1, fun x => ?_, fun j x hx => ?_⟩
      · rcases x with x | x
        · have := (hv.base g x).1; omega
        · have := (hZ g x).1; omega
      · obtain ⟨hj, hx'⟩ := rsL_get hx
        have := hc j hj
        rw [hx'] at this
        exact this
/-- A new block with one range. -/
theorem Ro.one {S B : Nat} {Z : Nat → Prop} {w W : World} {v : Value} {f : Nat → In} {c : List Ia} {T : Nat} (hv : Cd Z S w B v f c) (hZ : ∀ k, Z k → T ≤ k ∧ k < w.heap.size) (hW : w.heap.size ≤ W.heap.size) (r : Int) : Ro (W.alloc (.cells #[.int .i32 r, .int .i32 r] 50)) (MZ Z B v) (some ⟨W.heap.size, 0, none⟩) 1 [(r, r)] := by
  have e : (W.alloc (.cells #[.int .i32 r, .int .i32 r] 50)).heap[W.heap.size]? = some (.cells #[.int .i32 r, .int .i32 r] 50) := heap_alloc_new W _
  refine ⟨rfl, .inr ⟨W.heap.size, 0, rfl, by simp, fun x => ?_, fun j x hx => ?_⟩⟩
  · rcases x with x | x
    · have := (hv.base _ x).2; omega
    · have := (hZ _ x).2; omega
  · have hj : j = 0 := by
      have := (List.getElem?_eq_some_iff.1 hx).1
      simp at this
      exact this
    subst hj
    simp at hx
    subst hx
    constructor
    · unfold World.cell?; rw [e]; rfl
    · unfold World.cell?; rw [e]; rfl

set_option maxHeartbeats 1000000 in
set_option maxRecDepth 100000 in
theorem nodeC_lit (Z : Nat → Prop) (T S B : Nat) (v : Value) (f : Nat → In) (c : List Ia) (t : Tr) (w : World) (hv : Cd Z S w B v f c) (hZ : ∀ k, Z k → T ≤ k ∧ k < w.heap.size) (hS : S ≤ w.heap.size) (hn : c.length + 1 ≤ 100000) (hk : (t []).kind = 2) :
    Calls Try.prog 47 #[.pointer (some ⟨B, 0, none⟩), ndV (t [])] w (Cp Z S B v c [⟨2, (c.length : Int) + 1, 0, 0, [((t []).r, (t []).r)]⟩] w) := by
  have hb : Below w.heap.size w (w.alloc (ndX (t []))) := (Below.refl _ w).alloc (Nat.le_refl _) _
  have hb2 : Below w.heap.size w ((w.alloc (ndX (t []))).alloc (.cells #[.int .i32 (t []).r, .int .i32 (t []).r] 50)) := two_below _ _
  have hr := Ro.one hv hZ hb.size (t []).r
  have kS := step_any Z S B v f c 2 0 0 0 (some ⟨(w.alloc (ndX (t []))).heap.size, 0, none⟩) 1 1 [((t []).r, (t []).r)] _ (hv.below hb2) (Nat.le_trans hS hb2.size) (by omega) hr
  rw [World.size_alloc] at kS
  have HB : Hid (∀ l e w2, Cp Z S B v c l ((w.alloc (ndX (t []))).alloc (.cells #[.int .i32 (t []).r, .int .i32 (t []).r] 50)) e w2 → Cp Z S B v c l w e w2) := fun l e w2 h => Cp.from hb2 h
  have hcl : ((c.length : Nat) : Int) ≤ 1000000 := by omega
  clear hv hZ hS hn hb hb2 hr
  generalize t [] = d at *
  have t2 : (d.kind == 2) = true := by simp; omega
  have t3 : (d.kind == 3) = false := by simp; omega
  have t4 : (d.kind == 4) = false := by simp; omega
  have t5 : (d.kind == 5) = false := by simp; omega
  have t6 : (d.kind == 6) = false := by simp; omega
  have t7 : (d.kind == 7) = false := by simp; omega
  have t8 : (d.kind == 8) = false := by simp; omega
  have t9 : (d.kind == 9) = false := by simp; omega
  have t10 : (d.kind == 10) = false := by simp; omega
  have t11 : (d.kind == 11) = false := by simp; omega
  have t12 : (d.kind == 12) = false := by simp; omega
  have t13 : (d.kind == 13) = false := by simp; omega
  clear hk
  go_enter Try.func47, Try.ntmps47
  go_wp2_with fail
  go_fit kS
  rintro e w2 h2
  have H2 : Hid _ := HB.out _ _ _ h2
  have he := h2.1
  clear h2 HB
  subst he
  go_wp2
  go_end0
  exact ⟨rfl, H2.out.2⟩

set_option maxHeartbeats 1000000 in
set_option maxRecDepth 100000 in
theorem nodeC_class (Z : Nat → Prop) (T S B : Nat) (v : Value) (f : Nat → In) (c : List Ia) (t : Tr) (w : World) (hv : Cd Z S w B v f c) (ht : Tat T w t) (hT : T ≤ S) (hZ : ∀ k, Z k → T ≤ k ∧ k < w.heap.size) (hS : S ≤ w.heap.size) (hn : c.length + 1 ≤ 100000) (hk : (t []).kind = 3) :
    Calls Try.prog 47 #[.pointer (some ⟨B, 0, none⟩), ndV (t [])] w (Cp Z S B v c [clsC (rsL (t [])) c.length] w) := by
  have hb : Below w.heap.size w (w.alloc (ndX (t []))) := (Below.refl _ w).alloc (Nat.le_refl _) _
  have hv1 := hv.below hb
  have hS1 := Nat.le_trans hS hb.size
  have kS := fun cc => class_any Z S B v f c (t []).ra (t []).rn cc (rsL (t [])) _ hv1 hS1 (by omega) ((Ro.tree hv ht hT hZ).kp (Kp.of hb) (fun _ _ e => e))
  have HB : Hid (∀ l e w2, Cp Z S B v c l (w.alloc (ndX (t []))) e w2 → Cp Z S B v c l w e w2) := fun l e w2 h => Cp.from hb h
  clear hv ht hT hZ hS hn hb hv1 hS1
  generalize t [] = d at *
  have t2 : (d.kind == 2) = false := by simp; omega
  have t3 : (d.kind == 3) = true := by simp; omega
  have t4 : (d.kind == 4) = false := by simp; omega
  have t5 : (d.kind == 5) = false := by simp; omega
  have t6 : (d.kind == 6) = false := by simp; omega
  have t7 : (d.kind == 7) = false := by simp; omega
  have t8 : (d.kind == 8) = false := by simp; omega
  have t9 : (d.kind == 9) = false := by simp; omega
  have t10 : (d.kind == 10) = false := by simp; omega
  have t11 : (d.kind == 11) = false := by simp; omega
  have t12 : (d.kind == 12) = false := by simp; omega
  have t13 : (d.kind == 13) = false := by simp; omega
  clear hk
  go_enter Try.func47, Try.ntmps47
  go_wp2_with fail
  go_fit (kS _)
  rintro e w2 h2
  have H2 : Hid _ := HB.out _ _ _ h2
  have he := h2.1
  clear h2 HB
  subst he
  go_wp2
  go_end0
  exact ⟨rfl, H2.out.2⟩

set_option maxHeartbeats 1000000 in
set_option maxRecDepth 100000 in
theorem nodeC_m8 (Z : Nat → Prop) (S B : Nat) (v : Value) (f : Nat → In) (c : List Ia) (t : Tr) (w : World) (hv : Cd Z S w B v f c) (hS : S ≤ w.heap.size) (hn : c.length + 1 ≤ 100000) (hk : (t []).kind = 8) :
    Calls Try.prog 47 #[.pointer (some ⟨B, 0, none⟩), ndV (t [])] w (Cp Z S B v c [⟨5, (c.length : Int) + 1, 0, 0, []⟩] w) := by
  have hb : Below w.heap.size w (w.alloc (ndX (t []))) := (Below.refl _ w).alloc (Nat.le_refl _) _
  have hv1 := hv.below hb
  have hS1 := Nat.le_trans hS hb.size
  have kS := step_any Z S B v f c 5 0 0 0 none 0 0 [] _ hv1 hS1 (by omega) ⟨rfl, .inl rfl⟩
  have HB : Hid (∀ l e w2, Cp Z S B v c l (w.alloc (ndX (t []))) e w2 → Cp Z S B v c l w e w2) := fun l e w2 h => Cp.from hb h
  have hcl : ((c.length : Nat) : Int) ≤ 1000000 := by omega
  clear hv hS hn hb hv1 hS1
  generalize t [] = d at *
  have t2 : (d.kind == 2) = false := by simp; omega
  have t3 : (d.kind == 3) = false := by simp; omega
  have t4 : (d.kind == 4) = false := by simp; omega
  have t5 : (d.kind == 5) = false := by simp; omega
  have t6 : (d.kind == 6) = false := by simp; omega
  have t7 : (d.kind == 7) = false := by simp; omega
  have t8 : (d.kind == 8) = true := by simp; omega
  have t9 : (d.kind == 9) = false := by simp; omega
  have t10 : (d.kind == 10) = false := by simp; omega
  have t11 : (d.kind == 11) = false := by simp; omega
  have t12 : (d.kind == 12) = false := by simp; omega
  have t13 : (d.kind == 13) = false := by simp; omega
  clear hk
  go_enter Try.func47, Try.ntmps47
  go_wp2_with fail
  go_fit kS
  rintro e w2 h2
  have H2 : Hid _ := HB.out _ _ _ h2
  have he := h2.1
  clear h2 HB
  subst he
  go_wp2
  go_end0
  exact ⟨rfl, H2.out.2⟩

set_option maxHeartbeats 1000000 in
set_option maxRecDepth 100000 in
theorem nodeC_m9 (Z : Nat → Prop) (S B : Nat) (v : Value) (f : Nat → In) (c : List Ia) (t : Tr) (w : World) (hv : Cd Z S w B v f c) (hS : S ≤ w.heap.size) (hn : c.length + 1 ≤ 100000) (hk : (t []).kind = 9) :
    Calls Try.prog 47 #[.pointer (some ⟨B, 0, none⟩), ndV (t [])] w (Cp Z S B v c [⟨6, (c.length : Int) + 1, 0, 0, []⟩] w) := by
  have hb : Below w.heap.size w (w.alloc (ndX (t []))) := (Below.refl _ w).alloc (Nat.le_refl _) _
  have hv1 := hv.below hb
  have hS1 := Nat.le_trans hS hb.size
  have kS := step_any Z S B v f c 6 0 0 0 none 0 0 [] _ hv1 hS1 (by omega) ⟨rfl, .inl rfl⟩
  have HB : Hid (∀ l e w2, Cp Z S B v c l (w.alloc (ndX (t []))) e w2 → Cp Z S B v c l w e w2) := fun l e w2 h => Cp.from hb h
  have hcl : ((c.length : Nat) : Int) ≤ 1000000 := by omega
  clear hv hS hn hb hv1 hS1
  generalize t [] = d at *
  have t2 : (d.kind == 2) = false := by simp; omega
  have t3 : (d.kind == 3) = false := by simp; omega
  have t4 : (d.kind == 4) = false := by simp; omega
  have t5 : (d.kind == 5) = false := by simp; omega
  have t6 : (d.kind == 6) = false := by simp; omega
  have t7 : (d.kind == 7) = false := by simp; omega
  have t8 : (d.kind == 8) = false := by simp; omega
  have t9 : (d.kind == 9) = true := by simp; omega
  have t10 : (d.kind == 10) = false := by simp; omega
  have t11 : (d.kind == 11) = false := by simp; omega
  have t12 : (d.kind == 12) = false := by simp; omega
  have t13 : (d.kind == 13) = false := by simp; omega
  clear hk
  go_enter Try.func47, Try.ntmps47
  go_wp2_with fail
  go_fit kS
  rintro e w2 h2
  have H2 : Hid _ := HB.out _ _ _ h2
  have he := h2.1
  clear h2 HB
  subst he
  go_wp2
  go_end0
  exact ⟨rfl, H2.out.2⟩

set_option maxHeartbeats 1000000 in
set_option maxRecDepth 100000 in
theorem nodeC_m10 (Z : Nat → Prop) (S B : Nat) (v : Value) (f : Nat → In) (c : List Ia) (t : Tr) (w : World) (hv : Cd Z S w B v f c) (hS : S ≤ w.heap.size) (hn : c.length + 1 ≤ 100000) (hk : (t []).kind = 10) :
    Calls Try.prog 47 #[.pointer (some ⟨B, 0, none⟩), ndV (t [])] w (Cp Z S B v c [⟨7, (c.length : Int) + 1, 0, 0, []⟩] w) := by
  have hb : Below w.heap.size w (w.alloc (ndX (t []))) := (Below.refl _ w).alloc (Nat.le_refl _) _
  have hv1 := hv.below hb
  have hS1 := Nat.le_trans hS hb.size
  have kS := step_any Z S B v f c 7 0 0 0 none 0 0 [] _ hv1 hS1 (by omega) ⟨rfl, .inl rfl⟩
  have HB : Hid (∀ l e w2, Cp Z S B v c l (w.alloc (ndX (t []))) e w2 → Cp Z S B v c l w e w2) := fun l e w2 h => Cp.from hb h
  have hcl : ((c.length : Nat) : Int) ≤ 1000000 := by omega
  clear hv hS hn hb hv1 hS1
  generalize t [] = d at *
  have t2 : (d.kind == 2) = false := by simp; omega
  have t3 : (d.kind == 3) = false := by simp; omega
  have t4 : (d.kind == 4) = false := by simp; omega
  have t5 : (d.kind == 5) = false := by simp; omega
  have t6 : (d.kind == 6) = false := by simp; omega
  have t7 : (d.kind == 7) = false := by simp; omega
  have t8 : (d.kind == 8) = false := by simp; omega
  have t9 : (d.kind == 9) = false := by simp; omega
  have t10 : (d.kind == 10) = true := by simp; omega
  have t11 : (d.kind == 11) = false := by simp; omega
  have t12 : (d.kind == 12) = false := by simp; omega
  have t13 : (d.kind == 13) = false := by simp; omega
  clear hk
  go_enter Try.func47, Try.ntmps47
  go_wp2_with fail
  go_fit kS
  rintro e w2 h2
  have H2 : Hid _ := HB.out _ _ _ h2
  have he := h2.1
  clear h2 HB
  subst he
  go_wp2
  go_end0
  exact ⟨rfl, H2.out.2⟩

set_option maxHeartbeats 1000000 in
set_option maxRecDepth 100000 in
theorem nodeC_m11 (Z : Nat → Prop) (S B : Nat) (v : Value) (f : Nat → In) (c : List Ia) (t : Tr) (w : World) (hv : Cd Z S w B v f c) (hS : S ≤ w.heap.size) (hn : c.length + 1 ≤ 100000) (hk : (t []).kind = 11) :
    Calls Try.prog 47 #[.pointer (some ⟨B, 0, none⟩), ndV (t [])] w (Cp Z S B v c [⟨8, (c.length : Int) + 1, 0, 0, []⟩] w) := by
  have hb : Below w.heap.size w (w.alloc (ndX (t []))) := (Below.refl _ w).alloc (Nat.le_refl _) _
  have hv1 := hv.below hb
  have hS1 := Nat.le_trans hS hb.size
  have kS := step_any Z S B v f c 8 0 0 0 none 0 0 [] _ hv1 hS1 (by omega) ⟨rfl, .inl rfl⟩
  have HB : Hid (∀ l e w2, Cp Z S B v c l (w.alloc (ndX (t []))) e w2 → Cp Z S B v c l w e w2) := fun l e w2 h => Cp.from hb h
  have hcl : ((c.length : Nat) : Int) ≤ 1000000 := by omega
  clear hv hS hn hb hv1 hS1
  generalize t [] = d at *
  have t2 : (d.kind == 2) = false := by simp; omega
  have t3 : (d.kind == 3) = false := by simp; omega
  have t4 : (d.kind == 4) = false := by simp; omega
  have t5 : (d.kind == 5) = false := by simp; omega
  have t6 : (d.kind == 6) = false := by simp; omega
  have t7 : (d.kind == 7) = false := by simp; omega
  have t8 : (d.kind == 8) = false := by simp; omega
  have t9 : (d.kind == 9) = false := by simp; omega
  have t10 : (d.kind == 10) = false := by simp; omega
  have t11 : (d.kind == 11) = true := by simp; omega
  have t12 : (d.kind == 12) = false := by simp; omega
  have t13 : (d.kind == 13) = false := by simp; omega
  clear hk
  go_enter Try.func47, Try.ntmps47
  go_wp2_with fail
  go_fit kS
  rintro e w2 h2
  have H2 : Hid _ := HB.out _ _ _ h2
  have he := h2.1
  clear h2 HB
  subst he
  go_wp2
  go_end0
  exact ⟨rfl, H2.out.2⟩

set_option maxHeartbeats 1000000 in
set_option maxRecDepth 100000 in
theorem nodeC_m12 (Z : Nat → Prop) (S B : Nat) (v : Value) (f : Nat → In) (c : List Ia) (t : Tr) (w : World) (hv : Cd Z S w B v f c) (hS : S ≤ w.heap.size) (hn : c.length + 1 ≤ 100000) (hk : (t []).kind = 12) :
    Calls Try.prog 47 #[.pointer (some ⟨B, 0, none⟩), ndV (t [])] w (Cp Z S B v c [⟨9, (c.length : Int) + 1, 0, 0, []⟩] w) := by
  have hb : Below w.heap.size w (w.alloc (ndX (t []))) := (Below.refl _ w).alloc (Nat.le_refl _) _
  have hv1 := hv.below hb
  have hS1 := Nat.le_trans hS hb.size
  have kS := step_any Z S B v f c 9 0 0 0 none 0 0 [] _ hv1 hS1 (by omega) ⟨rfl, .inl rfl⟩
  have HB : Hid (∀ l e w2, Cp Z S B v c l (w.alloc (ndX (t []))) e w2 → Cp Z S B v c l w e w2) := fun l e w2 h => Cp.from hb h
  have hcl : ((c.length : Nat) : Int) ≤ 1000000 := by omega
  clear hv hS hn hb hv1 hS1
  generalize t [] = d at *
  have t2 : (d.kind == 2) = false := by simp; omega
  have t3 : (d.kind == 3) = false := by simp; omega
  have t4 : (d.kind == 4) = false := by simp; omega
  have t5 : (d.kind == 5) = false := by simp; omega
  have t6 : (d.kind == 6) = false := by simp; omega
  have t7 : (d.kind == 7) = false := by simp; omega
  have t8 : (d.kind == 8) = false := by simp; omega
  have t9 : (d.kind == 9) = false := by simp; omega
  have t10 : (d.kind == 10) = false := by simp; omega
  have t11 : (d.kind == 11) = false := by simp; omega
  have t12 : (d.kind == 12) = true := by simp; omega
  have t13 : (d.kind == 13) = false := by simp; omega
  clear hk
  go_enter Try.func47, Try.ntmps47
  go_wp2_with fail
  go_fit kS
  rintro e w2 h2
  have H2 : Hid _ := HB.out _ _ _ h2
  have he := h2.1
  clear h2 HB
  subst he
  go_wp2
  go_end0
  exact ⟨rfl, H2.out.2⟩

set_option maxHeartbeats 1000000 in
set_option maxRecDepth 100000 in
theorem nodeC_m13 (Z : Nat → Prop) (S B : Nat) (v : Value) (f : Nat → In) (c : List Ia) (t : Tr) (w : World) (hv : Cd Z S w B v f c) (hS : S ≤ w.heap.size) (hn : c.length + 1 ≤ 100000) (hk : (t []).kind = 13) :
    Calls Try.prog 47 #[.pointer (some ⟨B, 0, none⟩), ndV (t [])] w (Cp Z S B v c [⟨9, (c.length : Int) + 1, 0, 1, []⟩] w) := by
  have hb : Below w.heap.size w (w.alloc (ndX (t []))) := (Below.refl _ w).alloc (Nat.le_refl _) _
  have hv1 := hv.below hb
  have hS1 := Nat.le_trans hS hb.size
  have kS := step_any Z S B v f c 9 0 0 1 none 0 0 [] _ hv1 hS1 (by omega) ⟨rfl, .inl rfl⟩
  have HB : Hid (∀ l e w2, Cp Z S B v c l (w.alloc (ndX (t []))) e w2 → Cp Z S B v c l w e w2) := fun l e w2 h => Cp.from hb h
  have hcl : ((c.length : Nat) : Int) ≤ 1000000 := by omega
  clear hv hS hn hb hv1 hS1
  generalize t [] = d at *
  have t2 : (d.kind == 2) = false := by simp; omega
  have t3 : (d.kind == 3) = false := by simp; omega
  have t4 : (d.kind == 4) = false := by simp; omega
  have t5 : (d.kind == 5) = false := by simp; omega
  have t6 : (d.kind == 6) = false := by simp; omega
  have t7 : (d.kind == 7) = false := by simp; omega
  have t8 : (d.kind == 8) = false := by simp; omega
  have t9 : (d.kind == 9) = false := by simp; omega
  have t10 : (d.kind == 10) = false := by simp; omega
  have t11 : (d.kind == 11) = false := by simp; omega
  have t12 : (d.kind == 12) = false := by simp; omega
  have t13 : (d.kind == 13) = true := by simp; omega
  clear hk
  go_enter Try.func47, Try.ntmps47
  go_wp2_with fail
  go_fit kS
  rintro e w2 h2
  have H2 : Hid _ := HB.out _ _ _ h2
  have he := h2.1
  clear h2 HB
  subst he
  go_wp2
  go_end0
  exact ⟨rfl, H2.out.2⟩

set_option maxHeartbeats 1000000 in
set_option maxRecDepth 100000 in
theorem nodeC_empty (Z : Nat → Prop) (S B : Nat) (v : Value) (f : Nat → In) (c : List Ia) (t : Tr) (w : World) (hv : Cd Z S w B v f c) (hk : (t []).kind = 1) :
    Calls Try.prog 47 #[.pointer (some ⟨B, 0, none⟩), ndV (t [])] w (Cp Z S B v c [] w) := by
  have hb : Below w.heap.size w (w.alloc (ndX (t []))) := (Below.refl _ w).alloc (Nat.le_refl _) _
  have hv1 := hv.below hb
  have HB : Hid (Cp Z S B v c [] w (.returned (.tuple #[])) (w.alloc (ndX (t [])))) := ⟨rfl, ⟨v, f, by rw [List.append_nil]; exact hv1, Sub.refl _ _⟩, Kp.of hb⟩
  clear hv hb hv1
  generalize t [] = d at *
  have t2 : (d.kind == 2) = false := by simp; omega
  have t3 : (d.kind == 3) = false := by simp; omega
  have t4 : (d.kind == 4) = false := by simp; omega
  have t5 : (d.kind == 5) = false := by simp; omega
  have t6 : (d.kind == 6) = false := by simp; omega
  have t7 : (d.kind == 7) = false := by simp; omega
  have t8 : (d.kind == 8) = false := by simp; omega
  have t9 : (d.kind == 9) = false := by simp; omega
  have t10 : (d.kind == 10) = false := by simp; omega
  have t11 : (d.kind == 11) = false := by simp; omega
  have t12 : (d.kind == 12) = false := by simp; omega
  have t13 : (d.kind == 13) = false := by simp; omega
  clear hk
  go_enter Try.func47, Try.ntmps47
  go_wp2
  go_end0
  exact HB.out

end Go.Proofs.Ytbciclnffokjjaa
