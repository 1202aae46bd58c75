/- A bundle of texts. -/
import Derived.Test.YtbciclnffokjjaaDoorBb09
/- Code: lay. -/
namespace Go.Proofs.YtbciclnffokjjaaDoor
open Go.RowKit

theorem mvs_take (b : Int) (k : List Ia) (i : Nat) (x : Ia) (h : k[i]? = some x) : mvs b (k.take (i + 1)) = mvs b (k.take i) ++ [mv b x] := by
  unfold mvs
  rw [List.take_add_one, h, List.map_append]
  rfl
theorem Cp.next {Z : Nat → Prop} {S B : Nat} {v v1 : Value} {c l : List Ia} {w w1 : World} {e : Ending} {w' : World} (hs : Sub w v v1) (hk : Kp (Mv B v) w w1) (h : Cp Z S B v1 c l w1 e w') : e = .returned (.tuple #[]) ∧ (∃ v' f', Cd Z S w' B v' f' (c ++ l) ∧ Sub w v v') ∧ Kp (Mv B v) w w' := by
  obtain ⟨h1, ⟨v', f', h2, h3⟩, h4⟩ := h
  exact ⟨h1, ⟨v', f', h2, hs.trans h3 hk.size⟩, hk.next hs h4⟩
theorem MZ_sub {Z : Nat → Prop} {w : World} {B : Nat} {v v' : Value} (h : Sub w v v') : ∀ i, i < w.heap.size → MZ Z B v' i → MZ Z B v i := fun i hi e => e.imp (fun e => e.imp id (fun e => h i e hi)) id
theorem Mv_sub {w : World} {B : Nat} {v v' : Value} (h : Sub w v v') : ∀ i, i < w.heap.size → Mv B v' i → Mv B v i := fun i hi e => e.imp id (fun e => h i e hi)

set_option maxHeartbeats 4000000 in
set_option maxRecDepth 100000 in
theorem lay_any (Z : Nat → Prop) (S B : Nat) (v : Value) (f : Nat → In) (c k : List Ia) (a : Option Addr) (cc : Nat) (w : World) (hv : Cd Z S w B v f c) (hS : S ≤ w.heap.size) (hn : c.length + k.length ≤ 1000000) (hp : Pc w (MZ Z B v) a k) (hk : ∀ x ∈ k, Pl 1000000 x) :
    Calls Tryd.prog 54 #[.pointer (some ⟨B, 0, none⟩), .agg #[.slice a k.length cc]] w (Cp Z S B v c (mvs c.length k) w) := by
  have hb : Below w.heap.size w (w.alloc (.cells #[.slice a k.length cc] 62)) := (Below.refl _ w).alloc (Nat.le_refl _) _
  obtain ⟨W, hW⟩ : ∃ W, W = w.alloc (.cells #[.slice a k.length cc] 62) := ⟨_, rfl⟩
  have HW : Hid (W = w.alloc (.cells #[.slice a k.length cc] 62)) := hW
  have e0 : W.cell? ⟨w.heap.size, 0, none⟩ = some (.slice a k.length cc) := by
    rw [hW]
    unfold World.cell?
    rw [show (w.alloc (.cells #[.slice a k.length cc] 62)).heap[w.heap.size]? = _ from heap_alloc_new w _]
    rfl
  rw [← hW] at hb
  have hv1 := hv.below hb
  have HV1 : Hid (Cd Z S W B v f c) := hv1
  have HP1 : Hid (Pc W (MZ Z B v) a k) := hp.kp (Kp.of hb) (fun _ _ e => e)
  have HS1 : Hid (S ≤ W.heap.size) := Nat.le_trans hS hb.size
  have HB : Hid (Below w.heap.size w W) := hb
  have HK : Hid (∀ x ∈ k, Pl 1000000 x) := hk
  have HN : Hid (c.length + k.length ≤ 1000000) := hn
  obtain ⟨G, hG⟩ : ∃ G, G = w.heap.size := ⟨_, rfl⟩
  have HG : Hid (G = w.heap.size) := hG
  rw [← hG] at e0
  have kE := end_any Z S B v f c W hv1
  have hkl : ((k.length : Nat) : Int) ≤ 1000000 := by omega
  have hcl : ((c.length : Nat) : Int) ≤ 1000000 := by omega
  clear hv hS hn hp hk hb hv1 hW hG
  obtain ⟨N, hN⟩ : ∃ N, k.length = N := ⟨_, rfl⟩
  have HNN : Hid (k.length = N) := hN
  rw [hN] at e0 hkl HW
  rw [hN]
  clear hN
  go_enter Tryd.func54, Tryd.ntmps54
  go_upto_region 1 with fail
  rw [← HW.out, ← HG.out]
  go_wp2_with fail
  go_fit kE
  rintro e w1 ⟨rfl, rfl⟩
  clear kE
  go_wp2_with fail
  go_loopw [12] (fun ivv w' => ∃ i : Nat, ivv = .int .i64 (i : Int) ∧ i ≤ N ∧ Hid (∃ v' f', Cd Z S w' B v' f' (c ++ mvs c.length (k.take i)) ∧ Sub w1 v v' ∧ Kp (Mv B v) w1 w')) (fun ivv _ => N - (RowKit.intOf ivv).toNat)
  case atStart => exact ⟨0, rfl, by omega, v, f, by simpa [mvs] using HV1.out, Sub.refl _ _, Kp.refl _ _⟩
  case round =>
    obtain ⟨i, rfl, hi, hI⟩ := hrel
    by_cases hlt : i < N
    · have hii : (i : Int) < N := by omega
      obtain ⟨v', f', cd, sb, kp⟩ := hI.out
      have hil : i < k.length := by rw [HNN.out]; exact hlt
      obtain ⟨x, hget⟩ : ∃ x, k[i]? = some x := ⟨_, List.getElem?_eq_getElem hil⟩
      have hpl := HK.out x (List.mem_of_getElem? hget)
      have hpc := HP1.out.kp (kp.mono (fun _ _ e => .inl e)) (MZ_sub sb)
      have hSz : S ≤ wr.heap.size := Nat.le_trans HS1.out kp.size
      have hsnoc := mvs_take c.length k i x hget
      have hlen : (c ++ mvs c.length (k.take i)).length ≤ 1000000 := by have := HN.out; simp [mvs_len]; omega
      rcases hpc with h0 | ⟨g1, o1, fp, rfl, hg1, hm1, hc1⟩
      · omega
      obtain ⟨⟨p0, p1, p2, p3, p4⟩, hro⟩ := hc1 i _ hget
      have HA : Hid (∀ o, Below wr.heap.size wr (wr.alloc o)) := fun o => (Below.refl _ wr).alloc (Nat.le_refl _) o
      have kP := fun o op out alt arg => put_any Z S B v' f' (c ++ mvs c.length (k.take i)) op out alt arg (fp i).ra (fp i).rn (fp i).rc x.rs (wr.alloc o) (cd.below (HA.out o)) (Nat.le_trans hSz (HA.out o).size) (by omega) (hro.kp (Kp.of (HA.out o)) (fun _ _ e => e))
      have HC : Hid (∀ y o e w2, mv c.length x = y → Cp Z S B v' (c ++ mvs c.length (k.take i)) [y] (wr.alloc o) e w2 → e = .returned (.tuple #[]) ∧ (∃ v2 f2, Cd Z S w2 B v2 f2 (c ++ mvs c.length (k.take (i + 1))) ∧ Sub w1 v v2) ∧ Kp (Mv B v) w1 w2) := fun y o e w2 hy h => by
        subst hy
        have := Cp.next sb kp (Cp.from (HA.out o) h)
        rw [hsnoc, ← List.append_assoc]
        exact this
      obtain ⟨q1, q2, q3, q4⟩ := hpl
      clear cd sb kp hget hsnoc hlen hro hc1 hm1 hil
      obtain ⟨op, out, alt, arg, rs⟩ := x
      dsimp only at p0 p1 p2 p3 p4 kP q1 q2 q3 q4
      by_cases h11 : op = 11
      · have t11 : (op != 11) = false := by simpa using h11
        have t3 : (op == 3) = false := by simp; omega
        have HY : Hid (mv c.length ⟨op, out, alt, arg, rs⟩ = ⟨op, out, alt, arg, rs⟩) := by unfold Hid mv; dsimp only; rw [if_pos h11, if_neg (by omega)]
        clear h11
        go_wp2_with fail
        go_fit (kP _ _ _ _ _)
        rintro e w2 h2
        have H2 : Hid _ := HC.out _ _ _ _ HY.out h2
        have he := h2.1
        clear h2 kP HC
        subst he
        go_wp2
        obtain ⟨_, ⟨v2, f2, cd2, sb2⟩, kp2⟩ := H2.out
        exact ⟨⟨i + 1, by go_num, by omega, v2, f2, cd2, sb2, kp2⟩, by simp [RowKit.intOf]; omega⟩
      have t11 : (op != 11) = true := by simpa using h11
      by_cases h3 : op = 3
      · have t3 : (op == 3) = true := by simpa using h3
        have HY : Hid (mv c.length ⟨op, out, alt, arg, rs⟩ = ⟨op, out + c.length, alt + c.length, arg, rs⟩) := by unfold Hid mv; dsimp only; rw [if_neg h11, if_pos h3]
        clear h11 h3
        go_wp2_with fail
        go_fit (kP _ _ _ _ _)
        rintro e w2 h2
        have H2 : Hid _ := HC.out _ _ _ _ HY.out h2
        have he := h2.1
        clear h2 kP HC
        subst he
        go_wp2
        obtain ⟨_, ⟨v2, f2, cd2, sb2⟩, kp2⟩ := H2.out
        exact ⟨⟨i + 1, by go_num, by omega, v2, f2, cd2, sb2, kp2⟩, by simp [RowKit.intOf]; omega⟩
      · have t3 : (op == 3) = false := by simpa using h3
        have HY : Hid (mv c.length ⟨op, out, alt, arg, rs⟩ = ⟨op, out + c.length, alt, arg, rs⟩) := by unfold Hid mv; dsimp only; rw [if_neg h11, if_neg h3]
        clear h11 h3
        go_wp2_with fail
        go_fit (kP _ _ _ _ _)
        rintro e w2 h2
        have H2 : Hid _ := HC.out _ _ _ _ HY.out h2
        have he := h2.1
        clear h2 kP HC
        subst he
        go_wp2
        obtain ⟨_, ⟨v2, f2, cd2, sb2⟩, kp2⟩ := H2.out
        exact ⟨⟨i + 1, by go_num, by omega, v2, f2, cd2, sb2, kp2⟩, by simp [RowKit.intOf]; omega⟩
    · have hii : ¬ (i : Int) < N := by omega
      obtain rfl : i = N := by omega
      go_wp2
      go_end0
      obtain ⟨v', f', cd, sb, kp⟩ := hI.out
      rw [← HNN.out, List.take_length] at cd
      exact Cp.from HB.out ⟨rfl, ⟨v', f', cd, sb⟩, kp⟩
end Go.Proofs.YtbciclnffokjjaaDoor
/- Code: node at the leaves. -/
namespace Go.Proofs.YtbciclnffokjjaaDoor
open Go.RowKit

def NodeC (m : Nat) : Prop := ∀ (Z : Nat → Prop) (T S B : Nat) (v : Value) (f : Nat → In) (c : List Ia) (t : Tr) (w : World), Cd Z S w B v f c → Tat T w t → T ≤ S → (∀ k, Z k → T ≤ k ∧ k < w.heap.size) → WF m t → S ≤ w.heap.size → c.length + (cod m t c.length).length ≤ 100000 →
  Calls Tryd.prog 25 #[.pointer (some ⟨B, 0, none⟩), ndV (t [])] w (Cp Z S B v c (cod m t c.length) w)
theorem Ro.tree {T S B : Nat} {Z : Nat → Prop} {w : World} {v : Value} {f : Nat → In} {c : List Ia} {t : Tr} (hv : Cd Z S w B v f c) (ht : Tat T w t) (hT : T ≤ S) (hZ : ∀ k, Z k → T ≤ k ∧ k < w.heap.size) : Ro w (MZ Z B v) (t []).ra (t []).rn (rsL (t [])) := by
  refine ⟨(rsL_len _).symm, ?_⟩
  rcases ht.ranges with h | ⟨g, o, e, hg, hc⟩
  · exact .inl h
  · by_cases h0 : (t []).rn = 0
    · exact .inl h0
    · refine .inr ⟨g, o, e, World.block_lt_of_cell? w _ (hc 0 (by omega)).1, fun x => ?_, fun j x hx => ?_⟩
      · rcases x with x | x
        · have := (hv.base g x).1; omega
        · have := (hZ g x).1; omega
      · obtain ⟨hj, hx'⟩ := rsL_get hx
        have := hc j hj
        rw [hx'] at this
        exact this
/-- A new block with one range. -/
theorem Ro.one {S B : Nat} {Z : Nat → Prop} {w W : World} {v : Value} {f : Nat → In} {c : List Ia} {T : Nat} (hv : Cd Z S w B v f c) (hZ : ∀ k, Z k → T ≤ k ∧ k < w.heap.size) (hW : w.heap.size ≤ W.heap.size) (r : Int) : Ro (W.alloc (.cells #[.int .i32 r, .int .i32 r] 51)) (MZ Z B v) (some ⟨W.heap.size, 0, none⟩) 1 [(r, r)] := by
  have e : (W.alloc (.cells #[.int .i32 r, .int .i32 r] 51)).heap[W.heap.size]? = some (.cells #[.int .i32 r, .int .i32 r] 51) := heap_alloc_new W _
  refine ⟨rfl, .inr ⟨W.heap.size, 0, rfl, by simp, fun x => ?_, fun j x hx => ?_⟩⟩
  · rcases x with x | x
    · have := (hv.base _ x).2; omega
    · have := (hZ _ x).2; omega
  · have hj : j = 0 := by
      have := (List.getElem?_eq_some_iff.1 hx).1
      simp at this
      exact this
    subst hj
    simp at hx
    subst hx
    constructor
    · unfold World.cell?; rw [e]; rfl
    · unfold World.cell?; rw [e]; rfl

set_option maxHeartbeats 1000000 in
set_option maxRecDepth 100000 in
theorem nodeC_lit (Z : Nat → Prop) (T S B : Nat) (v : Value) (f : Nat → In) (c : List Ia) (t : Tr) (w : World) (hv : Cd Z S w B v f c) (hZ : ∀ k, Z k → T ≤ k ∧ k < w.heap.size) (hS : S ≤ w.heap.size) (hn : c.length + 1 ≤ 100000) (hk : (t []).kind = 2) :
    Calls Tryd.prog 25 #[.pointer (some ⟨B, 0, none⟩), ndV (t [])] w (Cp Z S B v c [⟨2, (c.length : Int) + 1, 0, 0, [((t []).r, (t []).r)]⟩] w) := by
  have hb : Below w.heap.size w (w.alloc (ndX (t []))) := (Below.refl _ w).alloc (Nat.le_refl _) _
  have hb2 : Below w.heap.size w ((w.alloc (ndX (t []))).alloc (.cells #[.int .i32 (t []).r, .int .i32 (t []).r] 51)) := two_below _ _
  have hr := Ro.one hv hZ hb.size (t []).r
  have kS := step_any Z S B v f c 2 0 0 0 (some ⟨(w.alloc (ndX (t []))).heap.size, 0, none⟩) 1 1 [((t []).r, (t []).r)] _ (hv.below hb2) (Nat.le_trans hS hb2.size) (by omega) hr
  rw [World.size_alloc] at kS
  have HB : Hid (∀ l e w2, Cp Z S B v c l ((w.alloc (ndX (t []))).alloc (.cells #[.int .i32 (t []).r, .int .i32 (t []).r] 51)) e w2 → Cp Z S B v c l w e w2) := fun l e w2 h => Cp.from hb2 h
  have hcl : ((c.length : Nat) : Int) ≤ 1000000 := by omega
  clear hv hZ hS hn hb hb2 hr
  generalize t [] = d at *
  have t2 : (d.kind == 2) = true := by simp; omega
  have t3 : (d.kind == 3) = false := by simp; omega
  have t4 : (d.kind == 4) = false := by simp; omega
  have t5 : (d.kind == 5) = false := by simp; omega
  have t6 : (d.kind == 6) = false := by simp; omega
  have t7 : (d.kind == 7) = false := by simp; omega
  have t8 : (d.kind == 8) = false := by simp; omega
  have t9 : (d.kind == 9) = false := by simp; omega
  have t10 : (d.kind == 10) = false := by simp; omega
  have t11 : (d.kind == 11) = false := by simp; omega
  have t12 : (d.kind == 12) = false := by simp; omega
  have t13 : (d.kind == 13) = false := by simp; omega
  clear hk
  go_enter Tryd.func25, Tryd.ntmps25
  go_wp2_with fail
  go_fit kS
  rintro e w2 h2
  have H2 : Hid _ := HB.out _ _ _ h2
  have he := h2.1
  clear h2 HB
  subst he
  go_wp2
  go_end0
  exact ⟨rfl, H2.out.2⟩

set_option maxHeartbeats 1000000 in
set_option maxRecDepth 100000 in
theorem nodeC_class (Z : Nat → Prop) (T S B : Nat) (v : Value) (f : Nat → In) (c : List Ia) (t : Tr) (w : World) (hv : Cd Z S w B v f c) (ht : Tat T w t) (hT : T ≤ S) (hZ : ∀ k, Z k → T ≤ k ∧ k < w.heap.size) (hS : S ≤ w.heap.size) (hn : c.length + 1 ≤ 100000) (hk : (t []).kind = 3) :
    Calls Tryd.prog 25 #[.pointer (some ⟨B, 0, none⟩), ndV (t [])] w (Cp Z S B v c [clsC (rsL (t [])) c.length] w) := by
  have hb : Below w.heap.size w (w.alloc (ndX (t []))) := (Below.refl _ w).alloc (Nat.le_refl _) _
  have hv1 := hv.below hb
  have hS1 := Nat.le_trans hS hb.size
  have kS := fun cc => class_any Z S B v f c (t []).ra (t []).rn cc (rsL (t [])) _ hv1 hS1 (by omega) ((Ro.tree hv ht hT hZ).kp (Kp.of hb) (fun _ _ e => e))
  have HB : Hid (∀ l e w2, Cp Z S B v c l (w.alloc (ndX (t []))) e w2 → Cp Z S B v c l w e w2) := fun l e w2 h => Cp.from hb h
  clear hv ht hT hZ hS hn hb hv1 hS1
  generalize t [] = d at *
  have t2 : (d.kind == 2) = false := by simp; omega
  have t3 : (d.kind == 3) = true := by simp; omega
  have t4 : (d.kind == 4) = false := by simp; omega
  have t5 : (d.kind == 5) = false := by simp; omega
  have t6 : (d.kind == 6) = false := by simp; omega
  have t7 : (d.kind == 7) = false := by simp; omega
  have t8 : (d.kind == 8) = false := by simp; omega
  have t9 : (d.kind == 9) = false := by simp; omega
  have t10 : (d.kind == 10) = false := by simp; omega
  have t11 : (d.kind == 11) = false := by simp; omega
  have t12 : (d.kind == 12) = false := by simp; omega
  have t13 : (d.kind == 13) = false := by simp; omega
  clear hk
  go_enter Tryd.func25, Tryd.ntmps25
  go_wp2_with fail
  go_fit (kS _)
  rintro e w2 h2
  have H2 : Hid _ := HB.out _ _ _ h2
  have he := h2.1
  clear h2 HB
  subst he
  go_wp2
  go_end0
  exact ⟨rfl, H2.out.2⟩

set_option maxHeartbeats 1000000 in
set_option maxRecDepth 100000 in
theorem nodeC_m8 (Z : Nat → Prop) (S B : Nat) (v : Value) (f : Nat → In) (c : List Ia) (t : Tr) (w : World) (hv : Cd Z S w B v f c) (hS : S ≤ w.heap.size) (hn : c.length + 1 ≤ 100000) (hk : (t []).kind = 8) :
    Calls Tryd.prog 25 #[.pointer (some ⟨B, 0, none⟩), ndV (t [])] w (Cp Z S B v c [⟨5, (c.length : Int) + 1, 0, 0, []⟩] w) := by
  have hb : Below w.heap.size w (w.alloc (ndX (t []))) := (Below.refl _ w).alloc (Nat.le_refl _) _
  have hv1 := hv.below hb
  have hS1 := Nat.le_trans hS hb.size
  have kS := step_any Z S B v f c 5 0 0 0 none 0 0 [] _ hv1 hS1 (by omega) ⟨rfl, .inl rfl⟩
  have HB : Hid (∀ l e w2, Cp Z S B v c l (w.alloc (ndX (t []))) e w2 → Cp Z S B v c l w e w2) := fun l e w2 h => Cp.from hb h
  have hcl : ((c.length : Nat) : Int) ≤ 1000000 := by omega
  clear hv hS hn hb hv1 hS1
  generalize t [] = d at *
  have t2 : (d.kind == 2) = false := by simp; omega
  have t3 : (d.kind == 3) = false := by simp; omega
  have t4 : (d.kind == 4) = false := by simp; omega
  have t5 : (d.kind == 5) = false := by simp; omega
  have t6 : (d.kind == 6) = false := by simp; omega
  have t7 : (d.kind == 7) = false := by simp; omega
  have t8 : (d.kind == 8) = true := by simp; omega
  have t9 : (d.kind == 9) = false := by simp; omega
  have t10 : (d.kind == 10) = false := by simp; omega
  have t11 : (d.kind == 11) = false := by simp; omega
  have t12 : (d.kind == 12) = false := by simp; omega
  have t13 : (d.kind == 13) = false := by simp; omega
  clear hk
  go_enter Tryd.func25, Tryd.ntmps25
  go_wp2_with fail
  go_fit kS
  rintro e w2 h2
  have H2 : Hid _ := HB.out _ _ _ h2
  have he := h2.1
  clear h2 HB
  subst he
  go_wp2
  go_end0
  exact ⟨rfl, H2.out.2⟩

set_option maxHeartbeats 1000000 in
set_option maxRecDepth 100000 in
theorem nodeC_m9 (Z : Nat → Prop) (S B : Nat) (v : Value) (f : Nat → In) (c : List Ia) (t : Tr) (w : World) (hv : Cd Z S w B v f c) (hS : S ≤ w.heap.size) (hn : c.length + 1 ≤ 100000) (hk : (t []).kind = 9) :
    Calls Tryd.prog 25 #[.pointer (some ⟨B, 0, none⟩), ndV (t [])] w (Cp Z S B v c [⟨6, (c.length : Int) + 1, 0, 0, []⟩] w) := by
  have hb : Below w.heap.size w (w.alloc (ndX (t []))) := (Below.refl _ w).alloc (Nat.le_refl _) _
  have hv1 := hv.below hb
  have hS1 := Nat.le_trans hS hb.size
  have kS := step_any Z S B v f c 6 0 0 0 none 0 0 [] _ hv1 hS1 (by omega) ⟨rfl, .inl rfl⟩
  have HB : Hid (∀ l e w2, Cp Z S B v c l (w.alloc (ndX (t []))) e w2 → Cp Z S B v c l w e w2) := fun l e w2 h => Cp.from hb h
  have hcl : ((c.length : Nat) : Int) ≤ 1000000 := by omega
  clear hv hS hn hb hv1 hS1
  generalize t [] = d at *
  have t2 : (d.kind == 2) = false := by simp; omega
  have t3 : (d.kind == 3) = false := by simp; omega
  have t4 : (d.kind == 4) = false := by simp; omega
  have t5 : (d.kind == 5) = false := by simp; omega
  have t6 : (d.kind == 6) = false := by simp; omega
  have t7 : (d.kind == 7) = false := by simp; omega
  have t8 : (d.kind == 8) = false := by simp; omega
  have t9 : (d.kind == 9) = true := by simp; omega
  have t10 : (d.kind == 10) = false := by simp; omega
  have t11 : (d.kind == 11) = false := by simp; omega
  have t12 : (d.kind == 12) = false := by simp; omega
  have t13 : (d.kind == 13) = false := by simp; omega
  clear hk
  go_enter Tryd.func25, Tryd.ntmps25
  go_wp2_with fail
  go_fit kS
  rintro e w2 h2
  have H2 : Hid _ := HB.out _ _ _ h2
  have he := h2.1
  clear h2 HB
  subst he
  go_wp2
  go_end0
  exact ⟨rfl, H2.out.2⟩

set_option maxHeartbeats 1000000 in
set_option maxRecDepth 100000 in
theorem nodeC_m10 (Z : Nat → Prop) (S B : Nat) (v : Value) (f : Nat → In) (c : List Ia) (t : Tr) (w : World) (hv : Cd Z S w B v f c) (hS : S ≤ w.heap.size) (hn : c.length + 1 ≤ 100000) (hk : (t []).kind = 10) :
    Calls Tryd.prog 25 #[.pointer (some ⟨B, 0, none⟩), ndV (t [])] w (Cp Z S B v c [⟨7, (c.length : Int) + 1, 0, 0, []⟩] w) := by
  have hb : Below w.heap.size w (w.alloc (ndX (t []))) := (Below.refl _ w).alloc (Nat.le_refl _) _
  have hv1 := hv.below hb
  have hS1 := Nat.le_trans hS hb.size
  have kS := step_any Z S B v f c 7 0 0 0 none 0 0 [] _ hv1 hS1 (by omega) ⟨rfl, .inl rfl⟩
  have HB : Hid (∀ l e w2, Cp Z S B v c l (w.alloc (ndX (t []))) e w2 → Cp Z S B v c l w e w2) := fun l e w2 h => Cp.from hb h
  have hcl : ((c.length : Nat) : Int) ≤ 1000000 := by omega
  clear hv hS hn hb hv1 hS1
  generalize t [] = d at *
  have t2 : (d.kind == 2) = false := by simp; omega
  have t3 : (d.kind == 3) = false := by simp; omega
  have t4 : (d.kind == 4) = false := by simp; omega
  have t5 : (d.kind == 5) = false := by simp; omega
  have t6 : (d.kind == 6) = false := by simp; omega
  have t7 : (d.kind == 7) = false := by simp; omega
  have t8 : (d.kind == 8) = false := by simp; omega
  have t9 : (d.kind == 9) = false := by simp; omega
  have t10 : (d.kind == 10) = true := by simp; omega
  have t11 : (d.kind == 11) = false := by simp; omega
  have t12 : (d.kind == 12) = false := by simp; omega
  have t13 : (d.kind == 13) = false := by simp; omega
  clear hk
  go_enter Tryd.func25, Tryd.ntmps25
  go_wp2_with fail
  go_fit kS
  rintro e w2 h2
  have H2 : Hid _ := HB.out _ _ _ h2
  have he := h2.1
  clear h2 HB
  subst he
  go_wp2
  go_end0
  exact ⟨rfl, H2.out.2⟩

set_option maxHeartbeats 1000000 in
set_option maxRecDepth 100000 in
theorem nodeC_m11 (Z : Nat → Prop) (S B : Nat) (v : Value) (f : Nat → In) (c : List Ia) (t : Tr) (w : World) (hv : Cd Z S w B v f c) (hS : S ≤ w.heap.size) (hn : c.length + 1 ≤ 100000) (hk : (t []).kind = 11) :
    Calls Tryd.prog 25 #[.pointer (some ⟨B, 0, none⟩), ndV (t [])] w (Cp Z S B v c [⟨8, (c.length : Int) + 1, 0, 0, []⟩] w) := by
  have hb : Below w.heap.size w (w.alloc (ndX (t []))) := (Below.refl _ w).alloc (Nat.le_refl _) _
  have hv1 := hv.below hb
  have hS1 := Nat.le_trans hS hb.size
  have kS := step_any Z S B v f c 8 0 0 0 none 0 0 [] _ hv1 hS1 (by omega) ⟨rfl, .inl rfl⟩
  have HB : Hid (∀ l e w2, Cp Z S B v c l (w.alloc (ndX (t []))) e w2 → Cp Z S B v c l w e w2) := fun l e w2 h => Cp.from hb h
  have hcl : ((c.length : Nat) : Int) ≤ 1000000 := by omega
  clear hv hS hn hb hv1 hS1
  generalize t [] = d at *
  have t2 : (d.kind == 2) = false := by simp; omega
  have t3 : (d.kind == 3) = false := by simp; omega
  have t4 : (d.kind == 4) = false := by simp; omega
  have t5 : (d.kind == 5) = false := by simp; omega
  have t6 : (d.kind == 6) = false := by simp; omega
  have t7 : (d.kind == 7) = false := by simp; omega
  have t8 : (d.kind == 8) = false := by simp; omega
  have t9 : (d.kind == 9) = false := by simp; omega
  have t10 : (d.kind == 10) = false := by simp; omega
  have t11 : (d.kind == 11) = true := by simp; omega
  have t12 : (d.kind == 12) = false := by simp; omega
  have t13 : (d.kind == 13) = false := by simp; omega
  clear hk
  go_enter Tryd.func25, Tryd.ntmps25
  go_wp2_with fail
  go_fit kS
  rintro e w2 h2
  have H2 : Hid _ := HB.out _ _ _ h2
  have he := h2.1
  clear h2 HB
  subst he
  go_wp2
  go_end0
  exact ⟨rfl, H2.out.2⟩

set_option maxHeartbeats 1000000 in
set_option maxRecDepth 100000 in
theorem nodeC_m12 (Z : Nat → Prop) (S B : Nat) (v : Value) (f : Nat → In) (c : List Ia) (t : Tr) (w : World) (hv : Cd Z S w B v f c) (hS : S ≤ w.heap.size) (hn : c.length + 1 ≤ 100000) (hk : (t []).kind = 12) :
    Calls Tryd.prog 25 #[.pointer (some ⟨B, 0, none⟩), ndV (t [])] w (Cp Z S B v c [⟨9, (c.length : Int) + 1, 0, 0, []⟩] w) := by
  have hb : Below w.heap.size w (w.alloc (ndX (t []))) := (Below.refl _ w).alloc (Nat.le_refl _) _
  have hv1 := hv.below hb
  have hS1 := Nat.le_trans hS hb.size
  have kS := step_any Z S B v f c 9 0 0 0 none 0 0 [] _ hv1 hS1 (by omega) ⟨rfl, .inl rfl⟩
  have HB : Hid (∀ l e w2, Cp Z S B v c l (w.alloc (ndX (t []))) e w2 → Cp Z S B v c l w e w2) := fun l e w2 h => Cp.from hb h
  have hcl : ((c.length : Nat) : Int) ≤ 1000000 := by omega
  clear hv hS hn hb hv1 hS1
  generalize t [] = d at *
  have t2 : (d.kind == 2) = false := by simp; omega
  have t3 : (d.kind == 3) = false := by simp; omega
  have t4 : (d.kind == 4) = false := by simp; omega
  have t5 : (d.kind == 5) = false := by simp; omega
  have t6 : (d.kind == 6) = false := by simp; omega
  have t7 : (d.kind == 7) = false := by simp; omega
  have t8 : (d.kind == 8) = false := by simp; omega
  have t9 : (d.kind == 9) = false := by simp; omega
  have t10 : (d.kind == 10) = false := by simp; omega
  have t11 : (d.kind == 11) = false := by simp; omega
  have t12 : (d.kind == 12) = true := by simp; omega
  have t13 : (d.kind == 13) = false := by simp; omega
  clear hk
  go_enter Tryd.func25, Tryd.ntmps25
  go_wp2_with fail
  go_fit kS
  rintro e w2 h2
  have H2 : Hid _ := HB.out _ _ _ h2
  have he := h2.1
  clear h2 HB
  subst he
  go_wp2
  go_end0
  exact ⟨rfl, H2.out.2⟩

set_option maxHeartbeats 1000000 in
set_option maxRecDepth 100000 in
theorem nodeC_m13 (Z : Nat → Prop) (S B : Nat) (v : Value) (f : Nat → In) (c : List Ia) (t : Tr) (w : World) (hv : Cd Z S w B v f c) (hS : S ≤ w.heap.size) (hn : c.length + 1 ≤ 100000) (hk : (t []).kind = 13) :
    Calls Tryd.prog 25 #[.pointer (some ⟨B, 0, none⟩), ndV (t [])] w (Cp Z S B v c [⟨9, (c.length : Int) + 1, 0, 1, []⟩] w) := by
  have hb : Below w.heap.size w (w.alloc (ndX (t []))) := (Below.refl _ w).alloc (Nat.le_refl _) _
  have hv1 := hv.below hb
  have hS1 := Nat.le_trans hS hb.size
  have kS := step_any Z S B v f c 9 0 0 1 none 0 0 [] _ hv1 hS1 (by omega) ⟨rfl, .inl rfl⟩
  have HB : Hid (∀ l e w2, Cp Z S B v c l (w.alloc (ndX (t []))) e w2 → Cp Z S B v c l w e w2) := fun l e w2 h => Cp.from hb h
  have hcl : ((c.length : Nat) : Int) ≤ 1000000 := by omega
  clear hv hS hn hb hv1 hS1
  generalize t [] = d at *
  have t2 : (d.kind == 2) = false := by simp; omega
  have t3 : (d.kind == 3) = false := by simp; omega
  have t4 : (d.kind == 4) = false := by simp; omega
  have t5 : (d.kind == 5) = false := by simp; omega
  have t6 : (d.kind == 6) = false := by simp; omega
  have t7 : (d.kind == 7) = false := by simp; omega
  have t8 : (d.kind == 8) = false := by simp; omega
  have t9 : (d.kind == 9) = false := by simp; omega
  have t10 : (d.kind == 10) = false := by simp; omega
  have t11 : (d.kind == 11) = false := by simp; omega
  have t12 : (d.kind == 12) = false := by simp; omega
  have t13 : (d.kind == 13) = true := by simp; omega
  clear hk
  go_enter Tryd.func25, Tryd.ntmps25
  go_wp2_with fail
  go_fit kS
  rintro e w2 h2
  have H2 : Hid _ := HB.out _ _ _ h2
  have he := h2.1
  clear h2 HB
  subst he
  go_wp2
  go_end0
  exact ⟨rfl, H2.out.2⟩

set_option maxHeartbeats 1000000 in
set_option maxRecDepth 100000 in
theorem nodeC_empty (Z : Nat → Prop) (S B : Nat) (v : Value) (f : Nat → In) (c : List Ia) (t : Tr) (w : World) (hv : Cd Z S w B v f c) (hk : (t []).kind = 1) :
    Calls Tryd.prog 25 #[.pointer (some ⟨B, 0, none⟩), ndV (t [])] w (Cp Z S B v c [] w) := by
  have hb : Below w.heap.size w (w.alloc (ndX (t []))) := (Below.refl _ w).alloc (Nat.le_refl _) _
  have hv1 := hv.below hb
  have HB : Hid (Cp Z S B v c [] w (.returned (.tuple #[])) (w.alloc (ndX (t [])))) := ⟨rfl, ⟨v, f, by rw [List.append_nil]; exact hv1, Sub.refl _ _⟩, Kp.of hb⟩
  clear hv hb hv1
  generalize t [] = d at *
  have t2 : (d.kind == 2) = false := by simp; omega
  have t3 : (d.kind == 3) = false := by simp; omega
  have t4 : (d.kind == 4) = false := by simp; omega
  have t5 : (d.kind == 5) = false := by simp; omega
  have t6 : (d.kind == 6) = false := by simp; omega
  have t7 : (d.kind == 7) = false := by simp; omega
  have t8 : (d.kind == 8) = false := by simp; omega
  have t9 : (d.kind == 9) = false := by simp; omega
  have t10 : (d.kind == 10) = false := by simp; omega
  have t11 : (d.kind == 11) = false := by simp; omega
  have t12 : (d.kind == 12) = false := by simp; omega
  have t13 : (d.kind == 13) = false := by simp; omega
  clear hk
  go_enter Tryd.func25, Tryd.ntmps25
  go_wp2
  go_end0
  exact HB.out

end Go.Proofs.YtbciclnffokjjaaDoor
/- Code: node at rows and groups. -/
namespace Go.Proofs.YtbciclnffokjjaaDoor
open Go.RowKit

theorem catF_mono (F : Nat → Int → List Ia) (b : Int) {i : Nat} : ∀ {n : Nat}, i ≤ n → (catF F i b).length ≤ (catF F n b).length
  | 0, h => by obtain rfl : i = 0 := by omega
               exact Nat.le_refl _
  | n + 1, h => by
    by_cases e : i = n + 1
    · rw [e]; exact Nat.le_refl _
    · have := catF_mono F b (i := i) (n := n) (by omega)
      conv => rhs; unfold catF
      rw [List.length_append]
      omega
theorem catF_room (F : Nat → Int → List Ia) (b : Int) {i n : Nat} (h : i < n) : (catF F i b).length + (F i (b + (catF F i b).length)).length ≤ (catF F n b).length := by
  have := catF_mono F b (i := i + 1) (n := n) h
  have e : (catF F (i + 1) b).length = (catF F i b).length + (F i (b + (catF F i b).length)).length := by
    conv => lhs; unfold catF
    rw [List.length_append]
  omega
/-- What a box of a node tells as long as it is left alone. -/
theorem Cs.zero {w : World} {g : Nat} {d : Nd} (h : Cs w g 0 d) : w.cell? ⟨g, 0, none⟩ = some (.int .i64 d.kind) ∧ w.cell? ⟨g, 1, none⟩ = some (.int .i32 d.r) ∧ w.cell? ⟨g, 2, none⟩ = some (.slice d.ra d.rn d.rc) ∧ w.cell? ⟨g, 3, none⟩ = some (.int .i64 d.mn) ∧ w.cell? ⟨g, 4, none⟩ = some (.int .i64 d.mx) ∧ w.cell? ⟨g, 5, none⟩ = some (.bool d.lz) ∧ w.cell? ⟨g, 6, none⟩ = some (.int .i64 d.cp) ∧ w.cell? ⟨g, 7, none⟩ = some (.string d.nm) ∧ w.cell? ⟨g, 8, none⟩ = some (.slice d.ka d.kn d.kc) := by
  obtain ⟨e0, e1, e2, e3, e4, e5, e6, e7, e8⟩ := h
  simp only [Nat.zero_add] at e0 e1 e2 e3 e4 e5 e6 e7 e8
  exact ⟨e0, e1, e2, e3, e4, e5, e6, e7, e8⟩

set_option maxHeartbeats 4000000 in
set_option maxRecDepth 100000 in
theorem nodeC_cat (m : Nat) (hIH : NodeC m) (Z : Nat → Prop) (T S B : Nat) (v : Value) (f : Nat → In) (c : List Ia) (t : Tr) (w : World) (hv : Cd Z S w B v f c) (ht : Tat T w t) (hT : T ≤ S) (hZ : ∀ k, Z k → T ≤ k ∧ k < w.heap.size) (hw : WF (m + 1) t) (hS : S ≤ w.heap.size) (hn : c.length + (catF (fun j b => cod m (kid t j) b) (t []).kn c.length).length ≤ 100000) (hk : (t []).kind = 4) :
    Calls Tryd.prog 25 #[.pointer (some ⟨B, 0, none⟩), ndV (t [])] w (Cp Z S B v c (catF (fun j b => cod m (kid t j) b) (t []).kn c.length) w) := by
  have hb : Below w.heap.size w (w.alloc (ndX (t []))) := (Below.refl _ w).alloc (Nat.le_refl _) _
  have hc := ndX_cells (w := w) (t []) (Below.refl _ _)
  obtain ⟨F, hF⟩ : ∃ F : Nat → Int → List Ia, F = fun j b => cod m (kid t j) b := ⟨_, rfl⟩
  have HFJ : Hid (∀ j b, cod m (kid t j) b = F j b) := fun j b => by rw [hF]
  rw [← hF] at hn ⊢
  obtain ⟨W, hW⟩ : ∃ W, W = w.alloc (ndX (t [])) := ⟨_, rfl⟩
  have HW : Hid (W = w.alloc (ndX (t []))) := hW
  rw [← hW] at hb hc
  have HV1 : Hid (Cd Z S W B v f c) := hv.below hb
  have HS1 : Hid (S ≤ W.heap.size) := Nat.le_trans hS hb.size
  have HT1 : Hid (Tat T W t) := ht.below (hb.mono (Nat.le_trans hT hS))
  have HTS : Hid (T ≤ S) := hT
  have HZ1 : Hid (∀ k, Z k → T ≤ k ∧ k < W.heap.size) := fun k h => ⟨(hZ k h).1, Nat.lt_of_lt_of_le (hZ k h).2 hb.size⟩
  have HB : Hid (Below w.heap.size w W) := hb
  have IH : Hid (NodeC m) := hIH
  have HKD : Hid (∀ j, j < (t []).kn → WF m (kid t j)) := hw.2.2
  have hkn := hw.2.1
  have e8 := hc.zero.2.2.2.2.2.2.2.2
  have e0 := hc.zero.1
  obtain ⟨G, hG⟩ : ∃ G, G = w.heap.size := ⟨_, rfl⟩
  have HG : Hid (G = w.heap.size) := hG
  rw [← hG] at e0 e8
  obtain ⟨d, hd⟩ : ∃ d, t [] = d := ⟨_, rfl⟩
  have HD : Hid (t [] = d) := hd
  rw [hd] at HW hn e0 e8 HKD hkn hk ⊢
  have HN : Hid (c.length + (catF F d.kn c.length).length ≤ 100000) := hn
  have t2 : (d.kind == 2) = false := by simp; omega
  have t3 : (d.kind == 3) = false := by simp; omega
  have t4 : (d.kind == 4) = true := by simp; omega
  have hknI : (d.kn : Int) ≤ 8194 := by omega
  clear hv ht hT hZ hw hS hn hb hc hW hG hd hIH hk hkn hF
  go_enter Tryd.func25, Tryd.ntmps25
  go_upto_region 1 with fail
  rw [← HW.out, ← HG.out]
  go_wp2_with fail
  go_loopw [30] (fun ivv w' => ∃ i : Nat, ivv = .int .i64 (i : Int) ∧ i ≤ d.kn ∧ Hid (∃ v' f', Cd Z S w' B v' f' (c ++ catF F i c.length) ∧ Sub W v v' ∧ Kp (Mv B v) W w')) (fun ivv _ => d.kn - (RowKit.intOf ivv).toNat)
  case atStart => exact ⟨0, rfl, by omega, v, f, by simpa [catF] using HV1.out, Sub.refl _ _, Kp.refl _ _⟩
  case round =>
    obtain ⟨i, rfl, hi, hI⟩ := hrel
    by_cases hlt : i < d.kn
    · have hii : (i : Int) < d.kn := by omega
      obtain ⟨v', f', cd, sb, kp⟩ := hI.out
      have hlt' : i < (t []).kn := by rw [HD.out]; exact hlt
      have hSz : S ≤ wr.heap.size := Nat.le_trans HS1.out kp.size
      have htr := HT1.out.below ((HV1.out.low HS1.out kp).mono HTS.out)
      obtain ⟨g1, o1, hka, hg1, hcs⟩ := htr.kids.at i hlt'
      rw [HD.out] at hka
      have hal : Below wr.heap.size wr (wr.alloc (ndX (t [i]))) := (Below.refl _ wr).alloc (Nat.le_refl _) _
      have hroom := catF_room F c.length hlt
      have hcl : (((c ++ catF F i c.length).length : Nat) : Int) = (c.length : Int) + ((catF F i c.length).length : Int) := by simp
      have hcod : cod m (kid t i) ((c ++ catF F i c.length).length : Int) = F i (c.length + (catF F i c.length).length) := by rw [hcl, HFJ.out]
      have kN := IH.out Z T S B v' f' (c ++ catF F i c.length) (kid t i) (wr.alloc (ndX (t [i]))) (cd.below hal) ((htr.kid i hlt').below (hal.mono (Nat.le_trans HTS.out hSz))) HTS.out (fun k h => ⟨(HZ1.out k h).1, Nat.lt_of_lt_of_le (HZ1.out k h).2 (Nat.le_trans kp.size hal.size)⟩) (HKD.out i hlt) (Nat.le_trans hSz hal.size) (by rw [hcod]; have := HN.out; simp; omega)
      change Calls Tryd.prog 25 #[.pointer (some ⟨B, 0, none⟩), ndV (t [i])] (wr.alloc (ndX (t [i]))) _ at kN
      have HC : Hid (∀ e w2, Cp Z S B v' (c ++ catF F i c.length) (cod m (kid t i) ((c ++ catF F i c.length).length : Int)) (wr.alloc (ndX (t [i]))) e w2 → e = .returned (.tuple #[]) ∧ (∃ v2 f2, Cd Z S w2 B v2 f2 (c ++ catF F (i + 1) c.length) ∧ Sub W v v2) ∧ Kp (Mv B v) W w2) := fun e w2 h => by
        have := Cp.next sb kp (Cp.from hal h)
        rw [hcod, List.append_assoc] at this
        exact this
      obtain ⟨p0, p1, p2, p3, p4, p5, p6, p7, p8⟩ := hcs
      rw [hka] at *
      generalize t [i] = dk at *
      clear cd sb kp htr hal hroom hcl hcod hlt' hka
      go_wp2_with fail
      go_fit kN
      rintro e w2 h2
      have H2 : Hid _ := HC.out _ _ h2
      have he := h2.1
      clear h2 kN HC
      subst he
      go_wp2
      obtain ⟨_, ⟨v2, f2, cd2, sb2⟩, kp2⟩ := H2.out
      exact ⟨⟨i + 1, by go_num, by omega, v2, f2, cd2, sb2, kp2⟩, by simp [RowKit.intOf]; omega⟩
    · have hii : ¬ (i : Int) < d.kn := by omega
      obtain rfl : i = d.kn := by omega
      go_wp2
      go_end0
      obtain ⟨v', f', cd, sb, kp⟩ := hI.out
      exact Cp.from HB.out ⟨rfl, ⟨v', f', cd, sb⟩, kp⟩

set_option maxHeartbeats 4000000 in
set_option maxRecDepth 100000 in
theorem nodeC_group (m : Nat) (hIH : NodeC m) (Z : Nat → Prop) (T S B : Nat) (v : Value) (f : Nat → In) (c : List Ia) (t : Tr) (w : World) (hv : Cd Z S w B v f c) (ht : Tat T w t) (hT : T ≤ S) (hZ : ∀ k, Z k → T ≤ k ∧ k < w.heap.size) (hw : WF (m + 1) t) (hS : S ≤ w.heap.size) (hn : c.length + ((cod m (kid t 0) ((c.length : Int) + 1)).length + 2) ≤ 100000) (hk : (t []).kind = 7) :
    Calls Tryd.prog 25 #[.pointer (some ⟨B, 0, none⟩), ndV (t [])] w (Cp Z S B v c ((⟨4, (c.length : Int) + 1, 0, 2 * (t []).cp, []⟩ : Ia) :: (cod m (kid t 0) ((c.length : Int) + 1) ++ [⟨4, (c.length : Int) + 1 + (cod m (kid t 0) ((c.length : Int) + 1)).length + 1, 0, 2 * (t []).cp + 1, []⟩])) w) := by
  have hb : Below w.heap.size w (w.alloc (ndX (t []))) := (Below.refl _ w).alloc (Nat.le_refl _) _
  have hc := ndX_cells (w := w) (t []) (Below.refl _ _)
  have hcap := hw.1.2 hk
  have hkn := ndB_grp hw.1.1 hk
  have hv1 := hv.below hb
  have hS1 := Nat.le_trans hS hb.size
  have kS := step_any Z S B v f c 4 0 0 (2 * (t []).cp) none 0 0 [] _ hv1 hS1 (by omega) ⟨rfl, .inl rfl⟩
  have hk0 : 0 < (t []).kn := by omega
  have ht1 := ht.below (hb.mono (Nat.le_trans hT hS))
  have hgM : ¬ Mv B v w.heap.size := fun e => by have := (hv.base _ e).2; omega
  have HN1 : Hid (∀ v1 f1 w1, Cd Z S w1 B v1 f1 (c ++ [(⟨4, (c.length : Int) + 1, 0, 2 * (t []).cp, []⟩ : Ia)]) → Kp (Mv B v) (w.alloc (ndX (t []))) w1 → Calls Tryd.prog 25 #[.pointer (some ⟨B, 0, none⟩), ndV (t [0])] w1 (Cp Z S B v1 (c ++ [(⟨4, (c.length : Int) + 1, 0, 2 * (t []).cp, []⟩ : Ia)]) (cod m (kid t 0) ((c.length : Int) + 1)) w1)) := fun v1 f1 w1 cd kp => by
    have e : (((c ++ [(⟨4, (c.length : Int) + 1, 0, 2 * (t []).cp, []⟩ : Ia)]).length : Nat) : Int) = (c.length : Int) + 1 := by simp
    have := hIH Z T S B v1 f1 (c ++ [(⟨4, (c.length : Int) + 1, 0, 2 * (t []).cp, []⟩ : Ia)]) (kid t 0) w1 cd ((ht1.below ((hv1.low hS1 kp).mono hT)).kid 0 hk0) hT (fun k h => ⟨(hZ k h).1, Nat.lt_of_lt_of_le (hZ k h).2 (Nat.le_trans hb.size kp.size)⟩) (hw.2.2 0 hk0) (Nat.le_trans hS1 kp.size) (by rw [e]; simp; omega)
    rw [e] at this
    exact this
  have HK1 : Hid (∀ w1, Kp (Mv B v) (w.alloc (ndX (t []))) w1 → Cs w1 w.heap.size 0 (t []) ∧ ∃ g o, (t []).ka = some ⟨g, o, none⟩ ∧ Cs w1 g (o + 0 * 9) (t [0])) := fun w1 kp => by
    obtain ⟨g, o, e, _, hcs⟩ := (ht1.below ((hv1.low hS1 kp).mono hT)).kids.at 0 hk0
    exact ⟨hc.kp kp hgM, g, o, e, hcs⟩
  have HL : Hid (∀ v2 f2 w2 l, l.length + 2 + c.length ≤ 100000 → Cd Z S w2 B v2 f2 (c ++ [(⟨4, (c.length : Int) + 1, 0, 2 * (t []).cp, []⟩ : Ia)] ++ l) → S ≤ w2.heap.size → Calls Tryd.prog 38 #[.pointer (some ⟨B, 0, none⟩), inV 4 0 0 (2 * (t []).cp + 1) none 0 0] w2 (Cp Z S B v2 (c ++ [(⟨4, (c.length : Int) + 1, 0, 2 * (t []).cp, []⟩ : Ia)] ++ l) [⟨4, (c.length : Int) + 1 + l.length + 1, 0, 2 * (t []).cp + 1, []⟩] w2)) := fun v2 f2 w2 l hl cd hs => by
    have e : (((c ++ [(⟨4, (c.length : Int) + 1, 0, 2 * (t []).cp, []⟩ : Ia)] ++ l).length : Nat) : Int) = (c.length : Int) + 1 + l.length := by simp; omega
    have := step_any Z S B v2 f2 (c ++ [(⟨4, (c.length : Int) + 1, 0, 2 * (t []).cp, []⟩ : Ia)] ++ l) 4 0 0 (2 * (t []).cp + 1) none 0 0 [] w2 cd hs (by simp; omega) ⟨rfl, .inl rfl⟩
    rw [e] at this
    exact this
  have HSZ : Hid (S ≤ (w.alloc (ndX (t []))).heap.size) := hS1
  have HB : Hid (Below w.heap.size w (w.alloc (ndX (t [])))) := hb
  have HN : Hid (c.length + ((cod m (kid t 0) ((c.length : Int) + 1)).length + 2) ≤ 100000) := hn
  have hknI : 0 < ((t []).kn : Int) := by omega
  obtain ⟨hc0, hc1⟩ := hcap
  clear hv ht hT hZ hw hS hn hb hc hv1 hS1 ht1 hgM hIH hk0 hkn
  generalize cod m (kid t 0) ((c.length : Int) + 1) = l at *
  generalize t [] = d at *
  generalize t [0] = dk at *
  have t2 : (d.kind == 2) = false := by simp; omega
  have t3 : (d.kind == 3) = false := by simp; omega
  have t4 : (d.kind == 4) = false := by simp; omega
  have t5 : (d.kind == 5) = false := by simp; omega
  have t6 : (d.kind == 6) = false := by simp; omega
  have t7 : (d.kind == 7) = true := by simp; omega
  clear hk
  go_enter Tryd.func25, Tryd.ntmps25
  go_wp2_with fail
  go_fit kS
  rintro e w1 h1
  obtain ⟨rfl, ⟨v1, f1, cd1, sb1⟩, kp1⟩ := h1
  have k1 := HN1.out v1 f1 w1 cd1 kp1
  obtain ⟨cs1, g, o, hka, cd0⟩ := HK1.out w1 kp1
  obtain ⟨e0, e1, e2, e3, e4, e5, e6, e7, e8⟩ := cs1.zero
  rw [hka] at e8
  simp only [Nat.zero_mul, Nat.add_zero] at cd0
  obtain ⟨p0, p1, p2, p3, p4, p5, p6, p7, p8⟩ := cd0
  have SB1 : Hid (Sub (w.alloc (ndX d)) v v1) := sb1
  have KP1 : Hid _ := kp1
  have CD1 : Hid _ := cd1
  clear kS cd1 sb1 kp1 cs1 hka
  go_wp2_with fail
  go_fit k1
  rintro e w2 h2
  have C2 : Hid _ := Cp.next SB1.out KP1.out h2
  obtain ⟨rfl, ⟨v2, f2, cd2, sb2⟩, kp2⟩ := h2
  have k2 := HL.out v2 f2 w2 l (by have := HN.out; omega) cd2 (Nat.le_trans HSZ.out (Nat.le_trans KP1.out.size kp2.size))
  have SB2 : Hid (Sub (w.alloc (ndX d)) v v2) := Sub.trans SB1.out sb2 KP1.out.size
  have KP2 : Hid _ := KP1.out.next SB1.out kp2
  obtain ⟨cs2, _⟩ := HK1.out w2 KP2.out
  have e6' := cs2.zero.2.2.2.2.2.2.1
  clear k1 cd2 sb2 kp2 cs2 C2 e0 e1 e2 e3 e4 e5 e6 e7 e8 p0 p1 p2 p3 p4 p5 p6 p7 p8 HL HN1
  go_wp2_with fail
  go_fit k2
  rintro e w3 h3
  have H3 : Hid _ := Cp.next SB2.out KP2.out h3
  have he := h3.1
  clear h3 k2
  subst he
  go_wp2
  go_end0
  obtain ⟨_, ⟨v3, f3, cd3, sb3⟩, kp3⟩ := H3.out
  exact Cp.from HB.out ⟨rfl, ⟨v3, f3, by rw [show c ++ ((⟨4, (c.length : Int) + 1, 0, 2 * d.cp, []⟩ : Ia) :: (l ++ [⟨4, (c.length : Int) + 1 + l.length + 1, 0, 2 * d.cp + 1, []⟩])) = c ++ [(⟨4, (c.length : Int) + 1, 0, 2 * d.cp, []⟩ : Ia)] ++ l ++ [⟨4, (c.length : Int) + 1 + l.length + 1, 0, 2 * d.cp + 1, []⟩] by simp]; exact cd3, sb3⟩, kp3⟩
end Go.Proofs.YtbciclnffokjjaaDoor
