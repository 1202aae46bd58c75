/- A bundle of texts. -/
import Derived.Test.YtbciclnffokjjaaDoorBb08
/- Code: a coder in memory; put. -/
namespace Go.Proofs.YtbciclnffokjjaaDoor
open Go.RowKit

/-- An instruction, its ranges told. -/
structure Ia where
  op : Int
  out : Int
  alt : Int
  arg : Int
  rs : List Rg
/-- Ranges that a slice shows in a block that M leaves alone. -/
def Ro (w : World) (M : Nat → Prop) (a : Option Addr) (n : Nat) (rs : List Rg) : Prop := n = rs.length ∧ (n = 0 ∨ ∃ g o, a = some ⟨g, o, none⟩ ∧ g < w.heap.size ∧ ¬ M g ∧ ∀ j x, rs[j]? = some x → w.cell? ⟨g, o + j * 2, none⟩ = some (.int .i32 x.1) ∧ w.cell? ⟨g, o + j * 2 + 1, none⟩ = some (.int .i32 x.2))
theorem Ro.kp {w w' : World} {M N : Nat → Prop} {a : Option Addr} {n : Nat} {rs : List Rg} (h : Ro w M a n rs) (k : Kp M w w') (hN : ∀ i, i < w.heap.size → N i → M i) : Ro w' N a n rs := by
  refine ⟨h.1, ?_⟩
  rcases h.2 with h0 | ⟨g, o, e, hg, hm, hc⟩
  · exact .inl h0
  · exact .inr ⟨g, o, e, Nat.lt_of_lt_of_le hg k.size, fun x => hm (hN g hg x), fun j x hx => ⟨k.cell (hc j x hx).1 hm, k.cell (hc j x hx).2 hm⟩⟩
/-- An instruction in memory is that one. -/
def Ism (w : World) (M : Nat → Prop) (x : In) (i : Ia) : Prop := x.op = i.op ∧ x.out = i.out ∧ x.alt = i.alt ∧ x.arg = i.arg ∧ Ro w M x.ra x.rn i.rs
theorem Ism.kp {w w' : World} {M N : Nat → Prop} {x : In} {i : Ia} (h : Ism w M x i) (k : Kp M w w') (hN : ∀ i, i < w.heap.size → N i → M i) : Ism w' N x i := ⟨h.1, h.2.1, h.2.2.1, h.2.2.2.1, h.2.2.2.2.kp k hN⟩

/-- The blocks of a coder, and those that are another's. -/
def MZ (Z : Nat → Prop) (B : Nat) (v : Value) (k : Nat) : Prop := Mv B v k ∨ Z k
/-- A coder in the block B, its code in a row of its own. -/
structure Cd (Z : Nat → Prop) (S : Nat) (w : World) (B : Nat) (v : Value) (f : Nat → In) (c : List Ia) : Prop where
  c0 : w.cell? ⟨B, 0, none⟩ = some v
  fz : w.frozen? ⟨B, 0, none⟩ = false
  row : w.ownsRow S 49 5 v c.length (n5 f c.length)
  gb : v.ownBlock ≠ some B
  SB : S ≤ B
  rg : ∀ j i, c[j]? = some i → Ism w (MZ Z B v) (f j) i
namespace Cd
variable {Z : Nat → Prop} {S B : Nat} {w w' : World} {v : Value} {f : Nat → In} {c : List Ia}
theorem lt (h : Cd Z S w B v f c) : B < w.heap.size := World.block_lt_of_cell? w _ h.c0
theorem base (h : Cd Z S w B v f c) : ∀ k, Mv B v k → S ≤ k ∧ k < w.heap.size := by
  intro k hk
  rcases hk with rfl | hk
  · exact ⟨h.SB, h.lt⟩
  · rcases h.row.2 with ⟨e', _⟩ | ⟨G, _, _, e', hG, hh, _⟩
    · rw [e'] at hk; cases hk
    · rw [e'] at hk
      have : G = k := Option.some.inj hk
      subst this
      exact ⟨hG, (Array.getElem?_eq_some_iff.1 hh).1⟩
theorem low (h : Cd Z S w B v f c) (hS : S ≤ w.heap.size) (k : Kp (Mv B v) w w') : Below S w w' := k.below hS (fun i hi e => by have := (h.base i e).1; omega)
theorem below (h : Cd Z S w B v f c) (k : Below w.heap.size w w') : Cd Z S w' B v f c := by
  have kk : Kp (fun _ => False) w w' := Kp.of k
  refine ⟨kk.cell h.c0 id, kk.frozen h.c0 h.fz id, kk.row h.row (fun _ _ => id), h.gb, h.SB, fun j i hj => ?_⟩
  exact (h.rg j i hj).kp (Kp.of k) (fun _ _ e => e)
theorem form (h : Cd Z S w B v f c) : ∃ a cc, v = .slice a c.length cc := by
  rcases h.row.2 with ⟨e, e2⟩ | ⟨g, cc, cur, e, _⟩
  · exact ⟨none, 0, by rw [e, e2]⟩
  · exact ⟨_, cc, e⟩
end Cd
abbrev iX (op out alt arg : Int) (a : Option Addr) (n cc : Nat) : Obj := .cells #[.int .i64 op, .int .i64 out, .int .i64 alt, .int .i64 arg, .slice a n cc] 49
theorem n5_push (f : Nat → In) (n : Nat) (x : In) : n5 (up f n x) (n + 1) = n5 f n ++ i5 x := by
  rw [n5_succ, up_same]
  congr 1
  exact n5_congr _ _ n (fun j hj => up_other _ _ _ _ (by omega))
/-- One instruction more. -/
theorem append_n (w : World) (S : Nat) (v : Value) (n : Nat) (f : Nat → In) (x : In) (hS : S ≤ w.heap.size) (hn : (n + 1) * 56 ≤ 140737488355328) (o : w.ownsRow S 49 5 v n (n5 f n)) :
    ∃ g c w', (Builtin.append_ #[28, 28] 28 #[v, .slice (some ⟨w.heap.size, 0, none⟩) 1 1]).run Tryd.prog (w.alloc (iX x.op x.out x.alt x.arg x.ra x.rn x.rc)) = .ok (.slice (some ⟨g, 0, none⟩) (n + 1) c) w' ∧ w'.ownsRow S 49 5 (.slice (some ⟨g, 0, none⟩) (n + 1) c) (n + 1) (n5 (up f n x) (n + 1)) ∧ Kp (fun k => v.ownBlock = some k) w w' ∧ (v.ownBlock = some g ∨ w.heap.size ≤ g) := by
  obtain ⟨i0, hi, hz0, hz1, hz2⟩ := info_parts infN
  have o0 := World.ownsRow.alloc o (iX x.op x.out x.alt x.arg x.ra x.rn x.rc)
  have e : (w.alloc (iX x.op x.out x.alt x.arg x.ra x.rn x.rc)).heap[w.heap.size]? = some (iX x.op x.out x.alt x.arg x.ra x.rn x.rc) := heap_alloc_new w _
  obtain ⟨v', w', r, o', g, _, h5⟩ := run_append_own_at (P := Tryd.prog) (w.alloc (iX x.op x.out x.alt x.arg x.ra x.rn x.rc)) S 28 28 49 i0 _ 5 56 Tryd.underlying28 hi hz0 hz1 hz2 rfl (by decide) _ n (n5 f n) o0 ⟨w.heap.size, 0, none⟩ 1 1 (i5 x) (by rfl)
    (fun j u hj => by
      rw [Go.WideShapes.add_plain, Nat.zero_add]
      unfold World.cell?
      rw [e]
      simpa [i5] using hj) (by intro u hu; simp [i5] at hu; rcases hu with rfl | rfl | rfl | rfl | rfl <;> rfl) (by unfold maxLen; omega) hn (by simp; omega)
  rw [← n5_push] at o'
  rcases o'.2 with ⟨_, h0⟩ | ⟨G, C, cur, rfl, _⟩
  · omega
  · refine ⟨G, C, w', r, o', ((Kp.refl _ w).alloc _).grown g (fun k hk _ => hk), ?_⟩
    rcases h5 with h5 | h5
    · exact .inl (h5.symm.trans rfl)
    · have h6 : G = (w.alloc (iX x.op x.out x.alt x.arg x.ra x.rn x.rc)).heap.size := Option.some.inj h5
      rw [World.size_alloc] at h6
      exact .inr (by omega)
theorem Cd.push {Z : Nat → Prop} {S B g cc : Nat} {w w1 : World} {v : Value} {f : Nat → In} {c : List Ia} {x : In} {i : Ia} (h : Cd Z S w B v f c) (hx : Ism w (MZ Z B v) x i) (o : w1.ownsRow S 49 5 (.slice (some ⟨g, 0, none⟩) (c.length + 1) cc) (c.length + 1) (n5 (up f c.length x) (c.length + 1))) (k : Kp (fun k => v.ownBlock = some k) w w1) (hg : v.ownBlock = some g ∨ w.heap.size ≤ g) :
    Cd Z S (w1.setCell ⟨B, 0, none⟩ (.slice (some ⟨g, 0, none⟩) (c.length + 1) cc)) B (.slice (some ⟨g, 0, none⟩) (c.length + 1) cc) (up f c.length x) (c ++ [i]) ∧ Sub w v (.slice (some ⟨g, 0, none⟩) (c.length + 1) cc) ∧ Kp (Mv B v) w (w1.setCell ⟨B, 0, none⟩ (.slice (some ⟨g, 0, none⟩) (c.length + 1) cc)) := by
  have hgb : g ≠ B := fun e => by
    rcases hg with hg | hg
    · exact h.gb (by rw [hg, e])
    · have := h.lt; omega
  have hsub : Sub w v (.slice (some ⟨g, 0, none⟩) (c.length + 1) cc) := by
    intro i e hi
    have e' : g = i := Option.some.inj e
    subst e'
    rcases hg with hg | hg
    · exact hg
    · omega
  have hK : Kp (Mv B v) w (w1.setCell ⟨B, 0, none⟩ (.slice (some ⟨g, 0, none⟩) (c.length + 1) cc)) := (k.mono (fun i _ e => .inr e)).setCell (p := ⟨B, 0, none⟩) (.inl rfl) _
  have hN : ∀ j, j < w.heap.size → MZ Z B (.slice (some ⟨g, 0, none⟩) (c.length + 1) cc) j → MZ Z B v j := fun j hj e => e.imp (fun e => e.imp id (fun e => hsub j e hj)) id
  have hK' : Kp (MZ Z B v) w (w1.setCell ⟨B, 0, none⟩ (.slice (some ⟨g, 0, none⟩) (c.length + 1) cc)) := hK.mono (fun _ _ e => .inl e)
  have q0 := k.cell h.c0 (fun e => h.gb e)
  have kk : Kp (· = B) w1 (w1.setCell ⟨B, 0, none⟩ (.slice (some ⟨g, 0, none⟩) (c.length + 1) cc)) := (Kp.refl (· = B) w1).setCell (p := ⟨B, 0, none⟩) rfl _
  have hl : (c ++ [i]).length = c.length + 1 := by simp
  refine ⟨⟨?_, ?_, ?_, fun e => hgb (Option.some.inj e), h.SB, fun j y hj => ?_⟩, hsub, hK⟩
  · exact World.cell?_setCell_same' _ _ _ (by rw [q0]; rfl)
  · rw [World.frozen?_setCell]
    exact k.frozen h.c0 h.fz (fun e => h.gb e)
  · rw [hl]
    exact kk.row o (fun k e => by cases e; exact fun e => hgb e)
  · by_cases hjl : j < c.length
    · rw [List.getElem?_append_left hjl] at hj
      rw [up_other _ _ _ _ (by omega)]
      exact (h.rg j y hj).kp hK' hN
    · have hj2 : j = c.length := by
        have := (List.getElem?_eq_some_iff.1 hj).1
        simp at this
        omega
      subst hj2
      simp at hj
      subst hj
      rw [up_same]
      exact hx.kp hK' hN

/-- How a coder's call ends: the code is longer by l. -/
def Cp (Z : Nat → Prop) (S B : Nat) (v : Value) (c l : List Ia) (w : World) (e : Ending) (w' : World) : Prop := e = .returned (.tuple #[]) ∧ (∃ v' f', Cd Z S w' B v' f' (c ++ l) ∧ Sub w v v') ∧ Kp (Mv B v) w w'

set_option maxHeartbeats 2000000 in
set_option maxRecDepth 100000 in
theorem put_any (Z : Nat → Prop) (S B : Nat) (v : Value) (f : Nat → In) (c : List Ia) (op out alt arg : Int) (a : Option Addr) (n cc : Nat) (rs : List Rg) (w : World) (hv : Cd Z S w B v f c) (hS : S ≤ w.heap.size) (hn : (c.length + 1) * 56 ≤ 140737488355328) (hr : Ro w (MZ Z B v) a n rs) :
    Calls Tryd.prog 26 #[.pointer (some ⟨B, 0, none⟩), inV op out alt arg a n cc] w (Cp Z S B v c [⟨op, out, alt, arg, rs⟩] w) := by
  have hb0 : Below w.heap.size w (w.alloc (iX op out alt arg a n cc)).drew := ((Below.refl _ w).alloc (Nat.le_refl _) _).drew
  have hv1 := hv.below hb0
  have hS1 : S ≤ (w.alloc (iX op out alt arg a n cc)).drew.heap.size := Nat.le_trans hS hb0.size
  obtain ⟨g, c2, w2, r2, o2, k2, hg⟩ := append_n (w.alloc (iX op out alt arg a n cc)).drew S v c.length f ⟨op, out, alt, arg, a, n, cc, fun _ => (0, 0)⟩ hS1 hn hv1.row
  have hx : Ism (w.alloc (iX op out alt arg a n cc)).drew (MZ Z B v) ⟨op, out, alt, arg, a, n, cc, fun _ => (0, 0)⟩ ⟨op, out, alt, arg, rs⟩ := ⟨rfl, rfl, rfl, rfl, hr.kp (Kp.of hb0) (fun _ _ e => e)⟩
  have HP : Hid _ := hv1.push hx o2 k2 hg
  have HK0 : Hid (∀ M, Kp M w (w.alloc (iX op out alt arg a n cc)).drew) := fun M => Kp.of hb0
  have HZ : Hid (w.heap.size ≤ (w.alloc (iX op out alt arg a n cc)).drew.heap.size) := hb0.size
  obtain ⟨va, vc, rfl⟩ := hv.form
  have c0 : (w.alloc (iX op out alt arg a n cc)).cell? ⟨B, 0, none⟩ = some (.slice va c.length vc) := hv1.c0
  have c0' : ((w.alloc (iX op out alt arg a n cc)).alloc (iX op out alt arg a n cc)).cell? ⟨B, 0, none⟩ = some (.slice va c.length vc) := (hv.below (two_below _ _)).c0
  have q1 := k2.cell (p := ⟨B, 0, none⟩) hv1.c0 (fun e => hv1.gb e)
  have q2 := k2.frozen (p := ⟨B, 0, none⟩) hv1.c0 hv1.fz (fun e => hv1.gb e)
  have r' : (Builtin.append_ #[28, 28] 28 #[.slice va c.length vc, .slice (some ⟨w.heap.size + 1, 0, none⟩) 1 1]).run Tryd.prog ((w.alloc (.cells #[.int .i64 op, .int .i64 out, .int .i64 alt, .int .i64 arg, .slice a n cc] 49)).alloc (.cells #[.int .i64 op, .int .i64 out, .int .i64 alt, .int .i64 arg, .slice a n cc] 49)).drew = .ok (.slice (some ⟨g, 0, none⟩) (c.length + 1) c2) w2 := by
    have := r2
    rw [show (w.alloc (iX op out alt arg a n cc)).drew.heap.size = w.heap.size + 1 by simp] at this
    exact this
  have hl : ((c.length : Nat) : Int) < 140737488355328 := by omega
  clear hv hv1 r2 o2 k2 hg hx hb0 hS1 hS hr hn
  go_enter Tryd.func26, Tryd.ntmps26
  go_wp2_with fail
  go_region_law (refine step_append_run rfl (.tmp 8) (.tmp 10) 28 28 rfl _ _ rfl rfl r' ?_)
  all_goals go_wp2
  all_goals go_end0
  all_goals exact ⟨rfl, ⟨_, _, HP.out.1, fun i e hi => HP.out.2.1 i e (Nat.lt_of_lt_of_le hi HZ.out)⟩, (HK0.out _).trans HP.out.2.2⟩
end Go.Proofs.YtbciclnffokjjaaDoor
/- Code: end, step, split, class. -/
namespace Go.Proofs.YtbciclnffokjjaaDoor
open Go.RowKit

theorem Cp.from {Z : Nat → Prop} {S B : Nat} {v : Value} {c l : List Ia} {w w1 : World} {e : Ending} {w' : World} (hb : Below w.heap.size w w1) (h : Cp Z S B v c l w1 e w') : Cp Z S B v c l w e w' := by
  obtain ⟨h1, ⟨v', f', h2, h3⟩, h4⟩ := h
  exact ⟨h1, ⟨v', f', h2, fun i e hi => h3 i e (Nat.lt_of_lt_of_le hi hb.size)⟩, (Kp.of hb).trans h4⟩

set_option maxHeartbeats 1000000 in
theorem end_any (Z : Nat → Prop) (S B : Nat) (v : Value) (f : Nat → In) (c : List Ia) (w : World) (hv : Cd Z S w B v f c) :
    Calls Tryd.prog 53 #[.pointer (some ⟨B, 0, none⟩)] w fun e w' => e = .returned (.int .i64 (c.length : Int)) ∧ w' = w := by
  obtain ⟨a, cc, rfl⟩ := hv.form
  have c0 := hv.c0
  clear hv
  go_enter Tryd.func53, Tryd.ntmps53
  go_wp2
  go_ret
  exact ⟨rfl, rfl⟩

set_option maxHeartbeats 1000000 in
set_option maxRecDepth 100000 in
theorem step_any (Z : Nat → Prop) (S B : Nat) (v : Value) (f : Nat → In) (c : List Ia) (op out alt arg : Int) (a : Option Addr) (n cc : Nat) (rs : List Rg) (w : World) (hv : Cd Z S w B v f c) (hS : S ≤ w.heap.size) (hn : (c.length + 1) * 56 ≤ 140737488355328) (hr : Ro w (MZ Z B v) a n rs) :
    Calls Tryd.prog 38 #[.pointer (some ⟨B, 0, none⟩), inV op out alt arg a n cc] w (Cp Z S B v c [⟨op, (c.length : Int) + 1, alt, arg, rs⟩] w) := by
  have HA : Hid (∀ o, Below w.heap.size w (w.alloc o)) := fun o => (Below.refl _ w).alloc (Nat.le_refl _) o
  have kE := fun o => end_any Z S B v f c (w.alloc o) (hv.below (HA.out o))
  have kP := fun o => put_any Z S B v f c op ((c.length : Int) + 1) alt arg a n cc rs (w.alloc o) (hv.below (HA.out o)) (Nat.le_trans hS (HA.out o).size) hn (hr.kp (Kp.of (HA.out o)) (fun _ _ e => e))
  have hl : ((c.length : Nat) : Int) < 140737488355328 := by omega
  clear hv hS hr hn
  go_enter Tryd.func38, Tryd.ntmps38
  go_wp2_with fail
  go_fit (kE _)
  rintro e w1 ⟨rfl, rfl⟩
  go_wp2_with fail
  go_fit (kP _)
  rintro e w2 h2
  have H2 : Hid _ := Cp.from (HA.out _) h2
  obtain ⟨rfl, _⟩ := h2
  go_wp2
  go_end0
  exact ⟨rfl, H2.out.2⟩

set_option maxHeartbeats 1000000 in
set_option maxRecDepth 100000 in
theorem split_any (Z : Nat → Prop) (S B : Nat) (v : Value) (f : Nat → In) (c : List Ia) (leave : Int) (lz : Bool) (w : World) (hv : Cd Z S w B v f c) (hS : S ≤ w.heap.size) (hn : (c.length + 1) * 56 ≤ 140737488355328) :
    Calls Tryd.prog 55 #[.pointer (some ⟨B, 0, none⟩), .int .i64 leave, .bool lz] w (Cp Z S B v c [⟨3, if lz = true then leave else (c.length : Int) + 1, if lz = true then (c.length : Int) + 1 else leave, 0, []⟩] w) := by
  have HA : Hid (∀ o, Below w.heap.size w (w.alloc o)) := fun o => (Below.refl _ w).alloc (Nat.le_refl _) o
  have kE := end_any Z S B v f c w hv
  have kP := fun o out alt => put_any Z S B v f c 3 out alt 0 none 0 0 [] (w.alloc o) (hv.below (HA.out o)) (Nat.le_trans hS (HA.out o).size) hn ⟨rfl, .inl rfl⟩
  have hl : ((c.length : Nat) : Int) < 140737488355328 := by omega
  clear hv hS hn
  have HX : Hid (∀ out alt e w2 o, Cp Z S B v c [⟨3, out, alt, 0, []⟩] (w.alloc o) e w2 → Cp Z S B v c [⟨3, out, alt, 0, []⟩] w e w2) := fun out alt e w2 o h => Cp.from (HA.out _) h
  cases lz
  · show Calls Tryd.prog 55 #[.pointer (some ⟨B, 0, none⟩), .int .i64 leave, .bool false] w (Cp Z S B v c [⟨3, (c.length : Int) + 1, leave, 0, []⟩] w)
    go_enter Tryd.func55, Tryd.ntmps55
    go_wp2_with fail
    go_fit kE
    rintro e w1 ⟨rfl, rfl⟩
    go_wp2_with fail
    go_fit (kP _ _ _)
    rintro e w2 h2
    have H2 : Hid _ := HX.out _ _ _ _ _ h2
    have he := h2.1
    clear HX kP kE h2 HA
    subst he
    go_wp2
    go_end0
    exact ⟨rfl, H2.out.2⟩
  · show Calls Tryd.prog 55 #[.pointer (some ⟨B, 0, none⟩), .int .i64 leave, .bool true] w (Cp Z S B v c [⟨3, leave, (c.length : Int) + 1, 0, []⟩] w)
    go_enter Tryd.func55, Tryd.ntmps55
    go_wp2_with fail
    go_fit kE
    rintro e w1 ⟨rfl, rfl⟩
    go_wp2_with fail
    go_fit (kP _ _ _)
    rintro e w2 h2
    have H2 : Hid _ := HX.out _ _ _ _ _ h2
    have he := h2.1
    clear HX kP kE h2 HA
    subst he
    go_wp2
    go_end0
    exact ⟨rfl, H2.out.2⟩

/-- The code of a class. -/
def clsC (rs : List Rg) (k : Int) : Ia := if rs.length = 0 then ⟨11, 0, 0, 0, []⟩ else ⟨2, k + 1, 0, 0, rs⟩
set_option maxHeartbeats 1000000 in
set_option maxRecDepth 100000 in
theorem class_any (Z : Nat → Prop) (S B : Nat) (v : Value) (f : Nat → In) (c : List Ia) (a : Option Addr) (n cc : Nat) (rs : List Rg) (w : World) (hv : Cd Z S w B v f c) (hS : S ≤ w.heap.size) (hn : (c.length + 1) * 56 ≤ 140737488355328) (hr : Ro w (MZ Z B v) a n rs) :
    Calls Tryd.prog 39 #[.pointer (some ⟨B, 0, none⟩), .slice a n cc] w (Cp Z S B v c [clsC rs c.length] w) := by
  have kP := put_any Z S B v f c 11 0 0 0 none 0 0 [] w hv hS hn ⟨rfl, .inl rfl⟩
  have kS := step_any Z S B v f c 2 0 0 0 a n cc rs w hv hS hn hr
  have hl := hr.1
  clear hv hS hn hr
  by_cases h0 : n = 0
  · have HE : Hid (clsC rs c.length = ⟨11, 0, 0, 0, []⟩) := by unfold Hid clsC; rw [if_pos (by omega)]
    have t0 : ((n : Int) == 0) = true := by simpa using h0
    clear h0 hl kS
    go_enter Tryd.func39, Tryd.ntmps39
    go_wp2_with fail
    go_fit kP
    rintro e w2 h2
    have H2 : Hid _ := h2
    obtain ⟨rfl, _⟩ := h2
    go_wp2
    go_end0
    rw [HE.out]
    exact ⟨rfl, H2.out.2⟩
  · have HE : Hid (clsC rs c.length = ⟨2, (c.length : Int) + 1, 0, 0, rs⟩) := by unfold Hid clsC; rw [if_neg (by omega)]
    have t0 : ((n : Int) == 0) = false := by simpa using h0
    clear h0 hl kP
    go_enter Tryd.func39, Tryd.ntmps39
    go_wp2_with fail
    go_fit kS
    rintro e w2 h2
    have H2 : Hid _ := h2
    obtain ⟨rfl, _⟩ := h2
    go_wp2
    go_end0
    rw [HE.out]
    exact ⟨rfl, H2.out.2⟩
end Go.Proofs.YtbciclnffokjjaaDoor
/- Code: the code of a tree, as mathematics. -/
namespace Go.Proofs.YtbciclnffokjjaaDoor
open Go.RowKit

/-- An instruction moved. -/
def mv (b : Int) (i : Ia) : Ia := ⟨i.op, if i.op = 11 then i.out else i.out + b, if i.op = 3 then i.alt + b else i.alt, i.arg, i.rs⟩
def mvs (b : Int) (c : List Ia) : List Ia := c.map (mv b)
theorem mvs_len (b : Int) (c : List Ia) : (mvs b c).length = c.length := by simp [mvs]
/-- The ranges that a node shows. -/
def rsL (d : Nd) : List Rg := (List.range d.rn).map d.rf
theorem rsL_len (d : Nd) : (rsL d).length = d.rn := by simp [rsL]
theorem rsL_get {d : Nd} {j : Nat} {x : Rg} (h : (rsL d)[j]? = some x) : j < d.rn ∧ d.rf j = x := by
  have hj : j < d.rn := by have := (List.getElem?_eq_some_iff.1 h).1; rwa [rsL_len] at this
  refine ⟨hj, ?_⟩
  simp [rsL, List.getElem?_range hj] at h
  exact h
/-- The choice between going on and leaving. -/
def spl (k leave : Int) (lz : Bool) : Ia := ⟨3, if lz = true then leave else k + 1, if lz = true then k + 1 else leave, 0, []⟩
def catF (F : Nat → Int → List Ia) : Nat → Int → List Ia
  | 0, _ => []
  | j + 1, b => catF F j b ++ F j (b + (catF F j b).length)
/-- The alternatives ahead of the last one, with their jumps to e. -/
def altF (F : Nat → Int → List Ia) (e : Int) : Nat → Int → List Ia
  | 0, _ => []
  | j + 1, b => altF F e j b ++ (⟨3, b + (altF F e j b).length + 1, b + (altF F e j b).length + 1 + (F j (b + (altF F e j b).length + 1)).length + 1, 0, []⟩ :: (F j (b + (altF F e j b).length + 1) ++ [⟨10, e, 0, 0, []⟩]))
theorem altF_len (F : Nat → Int → List Ia) (e e' : Int) (b : Int) : ∀ j, (altF F e j b).length = (altF F e' j b).length
  | 0 => rfl
  | j + 1 => by
    unfold altF
    rw [altF_len F e e' b j]
    simp [altF_len F e e' b j]
def altC (F : Nat → Int → List Ia) (n : Nat) (b : Int) : List Ia := altF F (b + (altF F 0 n b).length + (F n (b + (altF F 0 n b).length)).length) n b ++ F n (b + (altF F 0 n b).length)
def layF (k : List Ia) : Nat → Int → List Ia
  | 0, _ => []
  | j + 1, b => layF k j b ++ mvs (b + (layF k j b).length) k
def optF (k : List Ia) (lz : Bool) (e : Int) : Nat → Int → List Ia
  | 0, _ => []
  | j + 1, b => optF k lz e j b ++ (spl (b + (optF k lz e j b).length) e lz :: mvs (b + (optF k lz e j b).length + 1) k)
def repC (k : List Ia) (mn mx : Int) (lz : Bool) (b : Int) : List Ia :=
  if mx = 0 then [] else if mx = -1 then layF k mn.toNat b ++ (spl (b + (layF k mn.toNat b).length) (b + (layF k mn.toNat b).length + 1 + k.length + 1) lz :: (mvs (b + (layF k mn.toNat b).length + 1) k ++ [⟨10, b + (layF k mn.toNat b).length, 0, 0, []⟩]))
  else layF k mn.toNat b ++ optF k lz (b + (layF k mn.toNat b).length + (mx - mn) * (1 + k.length)) (mx - mn).toNat (b + (layF k mn.toNat b).length)
/-- The code of a tree that is laid from the place b on. -/
def cod : Nat → Tr → Int → List Ia
  | 0, _, _ => []
  | m + 1, t, b =>
    if (t []).kind = 2 then [⟨2, b + 1, 0, 0, [((t []).r, (t []).r)]⟩]
    else if (t []).kind = 3 then [clsC (rsL (t [])) b]
    else if (t []).kind = 4 then catF (fun j b => cod m (kid t j) b) (t []).kn b
    else if (t []).kind = 5 then altC (fun j b => cod m (kid t j) b) ((t []).kn - 1) b
    else if (t []).kind = 6 then repC (cod m (kid t 0) 0) (t []).mn (t []).mx (t []).lz b
    else if (t []).kind = 7 then ⟨4, b + 1, 0, 2 * (t []).cp, []⟩ :: (cod m (kid t 0) (b + 1) ++ [⟨4, b + 1 + (cod m (kid t 0) (b + 1)).length + 1, 0, 2 * (t []).cp + 1, []⟩])
    else if (t []).kind = 13 then [⟨9, b + 1, 0, 1, []⟩]
    else if 8 ≤ (t []).kind then [⟨(t []).kind - 3, b + 1, 0, 0, []⟩]
    else []
/-- All places lie between 0 and L. -/
def Pl (L : Int) (i : Ia) : Prop := 0 ≤ i.out ∧ i.out ≤ L ∧ 0 ≤ i.alt ∧ i.alt ≤ L
theorem Pl.mono {L L' : Int} {i : Ia} (h : Pl L i) (hl : L ≤ L') : Pl L' i := ⟨h.1, by have := h.2.1; omega, h.2.2.1, by have := h.2.2.2; omega⟩
theorem Pl.mv {L b : Int} {i : Ia} (h : Pl L i) (hb : 0 ≤ b) : Pl (b + L) (mv b i) := by
  obtain ⟨h1, h2, h3, h4⟩ := h
  unfold Go.Proofs.YtbciclnffokjjaaDoor.mv
  refine ⟨?_, ?_, ?_, ?_⟩ <;> dsimp only <;> split <;> omega
theorem Pl.mvs {L b : Int} {k : List Ia} (h : ∀ i ∈ k, Pl L i) (hb : 0 ≤ b) : ∀ i ∈ mvs b k, Pl (b + L) i := by
  intro i hi
  unfold Go.Proofs.YtbciclnffokjjaaDoor.mvs at hi
  obtain ⟨j, hj, rfl⟩ := List.mem_map.1 hi
  exact (h j hj).mv hb
theorem spl_pl {k l L : Int} {lz : Bool} (h0 : 0 ≤ k) (h1 : k + 1 ≤ L) (h2 : 0 ≤ l) (h3 : l ≤ L) : Pl L (spl k l lz) := by
  unfold spl Pl
  cases lz <;> simp <;> omega
theorem catF_pl {F : Nat → Int → List Ia} (b : Int) (hb : 0 ≤ b) : ∀ (j : Nat), (∀ i, i < j → ∀ b, 0 ≤ b → ∀ x ∈ F i b, Pl (b + (F i b).length) x) → ∀ x ∈ catF F j b, Pl (b + (catF F j b).length) x
  | 0, _, x, hx => by cases hx
  | j + 1, h, x, hx => by
    have ih := catF_pl b hb j (fun i hi => h i (by omega))
    unfold catF at hx ⊢
    rcases List.mem_append.1 hx with hx | hx
    · exact (ih x hx).mono (by simp; omega)
    · exact (h j (by omega) _ (by omega) x hx).mono (by simp; omega)
theorem altF_pl {F : Nat → Int → List Ia} (e L : Int) (b : Int) (hb : 0 ≤ b) (he : 0 ≤ e) (heL : e ≤ L) : ∀ (j : Nat), b + (altF F e j b).length ≤ L → (∀ i, i < j → ∀ b, 0 ≤ b → ∀ x ∈ F i b, Pl (b + (F i b).length) x) → ∀ x ∈ altF F e j b, Pl L x
  | 0, _, _, x, hx => by cases hx
  | j + 1, hL, h, x, hx => by
    have hlen : (altF F e (j + 1) b).length = (altF F e j b).length + 1 + (F j (b + (altF F e j b).length + 1)).length + 1 := by
      conv => lhs; unfold altF
      simp
      omega
    rw [hlen] at hL
    push_cast at hL
    have ih := altF_pl e L b hb he heL j (by omega) (fun i hi => h i (by omega))
    unfold altF at hx
    rcases List.mem_append.1 hx with hx | hx
    · exact ih x hx
    · rcases List.mem_cons.1 hx with rfl | hx
      · refine ⟨?_, ?_, ?_, ?_⟩ <;> dsimp only <;> omega
      · rcases List.mem_append.1 hx with hx | hx
        · exact (h j (by omega) _ (by omega) x hx).mono (by omega)
        · rcases List.mem_singleton.1 hx with rfl
          exact ⟨he, heL, by simp, by dsimp only; omega⟩
theorem layF_len (k : List Ia) (b : Int) : ∀ j, (layF k j b).length = j * k.length
  | 0 => by simp [layF]
  | j + 1 => by
    unfold layF
    rw [List.length_append, mvs_len, layF_len k b j, Nat.add_mul, Nat.one_mul]
theorem layF_pl {k : List Ia} (hk : ∀ x ∈ k, Pl k.length x) (b : Int) (hb : 0 ≤ b) : ∀ j, ∀ x ∈ layF k j b, Pl (b + (layF k j b).length) x
  | 0, x, hx => by cases hx
  | j + 1, x, hx => by
    have ih := layF_pl hk b hb j
    unfold layF at hx ⊢
    rcases List.mem_append.1 hx with hx | hx
    · exact (ih x hx).mono (by simp; omega)
    · exact (Pl.mvs hk (by omega) x hx).mono (by simp [mvs_len]; omega)
theorem optF_len (k : List Ia) (lz : Bool) (e b : Int) : ∀ j, (optF k lz e j b).length = j * (1 + k.length)
  | 0 => by simp [optF]
  | j + 1 => by
    unfold optF
    rw [List.length_append, List.length_cons, mvs_len, optF_len k lz e b j, Nat.add_mul, Nat.one_mul]
    omega
theorem optF_pl {k : List Ia} (hk : ∀ x ∈ k, Pl k.length x) (lz : Bool) (e L b : Int) (hb : 0 ≤ b) (he : 0 ≤ e) (heL : e ≤ L) : ∀ j, b + (optF k lz e j b).length ≤ L → ∀ x ∈ optF k lz e j b, Pl L x
  | 0, _, x, hx => by cases hx
  | j + 1, hL, x, hx => by
    have hlen : (optF k lz e (j + 1) b).length = (optF k lz e j b).length + 1 + k.length := by
      conv => lhs; unfold optF
      simp [mvs_len]
      omega
    rw [hlen] at hL
    push_cast at hL
    have ih := optF_pl hk lz e L b hb he heL j (by omega)
    unfold optF at hx
    rcases List.mem_append.1 hx with hx | hx
    · exact ih x hx
    · rcases List.mem_cons.1 hx with rfl | hx
      · exact spl_pl (by omega) (by omega) he heL
      · exact (Pl.mvs hk (by omega) x hx).mono (by omega)
end Go.Proofs.YtbciclnffokjjaaDoor
/- Code: places; lay. -/
namespace Go.Proofs.YtbciclnffokjjaaDoor
open Go.RowKit

theorem repC_pl {k : List Ia} (hk : ∀ x ∈ k, Pl k.length x) (mn mx : Int) (lz : Bool) (b : Int) (hb : 0 ≤ b) (hx : mx = -1 ∨ mn ≤ mx) : ∀ x ∈ repC k mn mx lz b, Pl (b + (repC k mn mx lz b).length) x := by
  intro x h
  unfold repC at h ⊢
  by_cases h0 : mx = 0
  · rw [if_pos h0] at h; cases h
  · rw [if_neg h0] at h ⊢
    by_cases h1 : mx = -1
    · rw [if_pos h1] at h ⊢
      simp only [List.length_append, List.length_cons, List.length_nil, mvs_len]
      rcases List.mem_append.1 h with h | h
      · exact (layF_pl hk b hb _ x h).mono (by omega)
      · rcases List.mem_cons.1 h with rfl | h
        · exact spl_pl (by omega) (by omega) (by omega) (by omega)
        · rcases List.mem_append.1 h with h | h
          · exact (Pl.mvs hk (by omega) x h).mono (by omega)
          · rcases List.mem_singleton.1 h with rfl
            exact ⟨by dsimp only; omega, by dsimp only; omega, by simp, by dsimp only; omega⟩
    · rw [if_neg h1] at h ⊢
      have hq : 0 ≤ mx - mn := by omega
      have e1 : (optF k lz (b + (layF k mn.toNat b).length + (mx - mn) * (1 + k.length)) (mx - mn).toNat (b + (layF k mn.toNat b).length)).length = (mx - mn).toNat * (1 + k.length) := optF_len _ _ _ _ _
      have e2 : (((mx - mn).toNat * (1 + k.length) : Nat) : Int) = (mx - mn) * (1 + k.length) := by push_cast; rw [Int.toNat_of_nonneg hq]
      have hp : 0 ≤ (mx - mn) * (1 + (k.length : Int)) := Int.mul_nonneg hq (by omega)
      have hL : (((layF k mn.toNat b) ++ optF k lz (b + (layF k mn.toNat b).length + (mx - mn) * (1 + k.length)) (mx - mn).toNat (b + (layF k mn.toNat b).length)).length : Int) = (layF k mn.toNat b).length + (mx - mn) * (1 + k.length) := by
        rw [List.length_append, e1, Int.natCast_add, e2]
      rw [hL]
      rcases List.mem_append.1 h with h | h
      · exact (layF_pl hk b hb _ x h).mono (by omega)
      · exact optF_pl hk lz _ _ _ (by omega) (by omega) (by omega) _ (by rw [e1, e2]; omega) x h
theorem cod_pl : ∀ (m : Nat) (t : Tr) (b : Int), WF m t → 0 ≤ b → ∀ x ∈ cod m t b, Pl (b + (cod m t b).length) x
  | 0, _, _, h, _, _, _ => by cases h
  | m + 1, t, b, hw, hb, x, hx => by
    obtain ⟨⟨hnd, _⟩, _, hk⟩ := hw
    unfold cod at hx ⊢
    by_cases k2 : (t []).kind = 2
    · rw [if_pos k2] at hx ⊢
      rcases List.mem_singleton.1 hx with rfl
      exact ⟨by dsimp only; omega, by simp, by simp, by dsimp only; simp; omega⟩
    rw [if_neg k2] at hx ⊢
    by_cases k3 : (t []).kind = 3
    · rw [if_pos k3] at hx ⊢
      rcases List.mem_singleton.1 hx with rfl
      unfold clsC
      split
      · exact ⟨by simp, by simp; omega, by simp, by simp; omega⟩
      · exact ⟨by dsimp only; omega, by simp, by simp, by simp; omega⟩
    rw [if_neg k3] at hx ⊢
    by_cases k4 : (t []).kind = 4
    · rw [if_pos k4] at hx ⊢
      exact catF_pl b hb _ (fun i hi b hb x hx => cod_pl m _ b (hk i hi) hb x hx) x hx
    rw [if_neg k4] at hx ⊢
    by_cases k5 : (t []).kind = 5
    · rw [if_pos k5] at hx ⊢
      have h2 := ndB_row hnd (.inr k5)
      unfold altC at hx ⊢
      have hl := altF_len (fun j b => cod m (kid t j) b) (b + (altF (fun j b => cod m (kid t j) b) 0 ((t []).kn - 1) b).length + ((fun j b => cod m (kid t j) b) ((t []).kn - 1) (b + (altF (fun j b => cod m (kid t j) b) 0 ((t []).kn - 1) b).length)).length) 0 b ((t []).kn - 1)
      rw [List.length_append, hl, Int.natCast_add]
      rcases List.mem_append.1 hx with hx | hx
      · exact altF_pl _ _ b hb (by omega) (by omega) _ (by rw [hl]; omega) (fun i hi b hb x hx => cod_pl m _ b (hk i (by omega)) hb x hx) x hx
      · exact (cod_pl m _ _ (hk _ (by omega)) (by omega) x hx).mono (by dsimp only; omega)
    rw [if_neg k5] at hx ⊢
    by_cases k6 : (t []).kind = 6
    · rw [if_pos k6] at hx ⊢
      have h6 := ndB_rep hnd k6
      refine repC_pl (fun y hy => ?_) _ _ _ b hb (by omega) x hx
      have := cod_pl m _ 0 (hk 0 (by omega)) (by omega) y hy
      rw [Int.zero_add] at this
      exact this
    rw [if_neg k6] at hx ⊢
    by_cases k7 : (t []).kind = 7
    · rw [if_pos k7] at hx ⊢
      have h7 := ndB_grp hnd k7
      simp only [List.length_append, List.length_cons, List.length_nil]
      rcases List.mem_cons.1 hx with rfl | hx
      · exact ⟨by dsimp only; omega, by dsimp only; omega, by simp, by dsimp only; omega⟩
      · rcases List.mem_append.1 hx with hx | hx
        · exact (cod_pl m _ _ (hk 0 (by omega)) (by omega) x hx).mono (by omega)
        · rcases List.mem_singleton.1 hx with rfl
          exact ⟨by dsimp only; omega, by dsimp only; omega, by simp, by dsimp only; omega⟩
    rw [if_neg k7] at hx ⊢
    by_cases k13 : (t []).kind = 13
    · rw [if_pos k13] at hx ⊢
      rcases List.mem_singleton.1 hx with rfl
      exact ⟨by dsimp only; omega, by simp, by simp, by dsimp only; simp; omega⟩
    rw [if_neg k13] at hx ⊢
    by_cases k8 : 8 ≤ (t []).kind
    · rw [if_pos k8] at hx ⊢
      rcases List.mem_singleton.1 hx with rfl
      exact ⟨by dsimp only; omega, by simp, by simp, by dsimp only; simp; omega⟩
    · rw [if_neg k8] at hx; cases hx

/-- A piece of code that a slice shows, in a block that M leaves alone. -/
def Pc (w : World) (M : Nat → Prop) (a : Option Addr) (k : List Ia) : Prop := k.length = 0 ∨ ∃ (g o : Nat) (f : Nat → In), a = some ⟨g, o, none⟩ ∧ g < w.heap.size ∧ ¬ M g ∧ ∀ j i, k[j]? = some i → (w.cell? ⟨g, o + j * 5, none⟩ = some (.int .i64 i.op) ∧ w.cell? ⟨g, o + j * 5 + 1, none⟩ = some (.int .i64 i.out) ∧ w.cell? ⟨g, o + j * 5 + 2, none⟩ = some (.int .i64 i.alt) ∧ w.cell? ⟨g, o + j * 5 + 3, none⟩ = some (.int .i64 i.arg) ∧ w.cell? ⟨g, o + j * 5 + 4, none⟩ = some (.slice (f j).ra (f j).rn (f j).rc)) ∧ Ro w M (f j).ra (f j).rn i.rs
theorem Pc.kp {w w' : World} {M N : Nat → Prop} {a : Option Addr} {k : List Ia} (h : Pc w M a k) (kp : Kp M w w') (hN : ∀ i, i < w.heap.size → N i → M i) : Pc w' N a k := by
  rcases h with h | ⟨g, o, f, e, hg, hm, hc⟩
  · exact .inl h
  · refine .inr ⟨g, o, f, e, Nat.lt_of_lt_of_le hg kp.size, fun x => hm (hN g hg x), fun j i hj => ?_⟩
    obtain ⟨⟨c0, c1, c2, c3, c4⟩, hr⟩ := hc j i hj
    exact ⟨⟨kp.cell c0 hm, kp.cell c1 hm, kp.cell c2 hm, kp.cell c3 hm, kp.cell c4 hm⟩, hr.kp kp hN⟩
/-- A coder's code is a piece that other coders leave alone. -/
theorem Cd.piece {Z : Nat → Prop} {S B2 : Nat} {w : World} {v2 : Value} {f : Nat → In} {k : List Ia} (h : Cd Z S w B2 v2 f k) (M : Nat → Prop) (hM : ∀ g, v2.ownBlock = some g → ¬ M g) (hR : ∀ j i, k[j]? = some i → Ro w M (f j).ra (f j).rn i.rs) : ∃ a cc, v2 = .slice a k.length cc ∧ Pc w M a k := by
  rcases h.row.2 with ⟨e, e2⟩ | ⟨g, cc, cur, e, _, hg, _⟩
  · exact ⟨none, 0, by rw [e, e2], .inl e2⟩
  · refine ⟨_, cc, e, .inr ⟨g, 0, f, rfl, (Array.getElem?_eq_some_iff.1 hg).1, hM g (by rw [e]; rfl), fun j i hj => ?_⟩⟩
    have hjl : j < k.length := (List.getElem?_eq_some_iff.1 hj).1
    have hrow := h.row
    rw [e] at hrow
    obtain ⟨i1, i2, i3, i4, _⟩ := h.rg j i hj
    have hc : ∀ q u, q < 5 → (i5 (f j))[q]? = some u → w.cell? ⟨g, 0 + j * 5 + q, none⟩ = some u := fun q u hq hu => by
      rw [Nat.zero_add, World.ownsRow.cellAt hrow (j * 5 + q) (by omega), n5_get f k.length j q hjl hq]
      exact hu
    exact ⟨⟨by rw [← i1]; exact hc 0 _ (by omega) rfl, by rw [← i2]; exact hc 1 _ (by omega) rfl, by rw [← i3]; exact hc 2 _ (by omega) rfl, by rw [← i4]; exact hc 3 _ (by omega) rfl, hc 4 _ (by omega) rfl⟩, hR j i hj⟩
end Go.Proofs.YtbciclnffokjjaaDoor
