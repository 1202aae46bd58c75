/- A bundle of texts. -/
import Derived.Test.YtebjklppbkkinaaGreatDoorBp01
import Derived.Deep.Cut
import Derived.BigQuiet
import Derived.Carry
import Derived.WideMake
/- Labels: rows of one's own that are written again. -/
namespace Go.Proofs.YtebjklppbkkinaaGreatDoor
open Go.RowKit

/-- But for the blocks of M all is as it was. -/
structure Kp (M : Nat → Prop) (w w' : World) : Prop where
  os : w'.os = w.os
  tape : w'.tape = w.tape
  output : w'.output = w.output
  size : w.heap.size ≤ w'.heap.size
  block : ∀ k, k < w.heap.size → ¬ M k → w'.heap[k]? = w.heap[k]?
namespace Kp
variable {M N : Nat → Prop} {a b c w w' : World}
theorem refl (M : Nat → Prop) (w : World) : Kp M w w := ⟨rfl, rfl, rfl, Nat.le_refl _, fun _ _ _ => rfl⟩
theorem trans (h : Kp M a b) (k : Kp M b c) : Kp M a c := ⟨k.os.trans h.os, k.tape.trans h.tape, k.output.trans h.output, Nat.le_trans h.size k.size, fun i hi hm => (k.block i (Nat.lt_of_lt_of_le hi h.size) hm).trans (h.block i hi hm)⟩
theorem of (h : Below w.heap.size w w') : Kp M w w' := ⟨h.os, h.tape, h.output, h.size, fun k hk _ => h.block k hk⟩
theorem below {B : Nat} (h : Kp M w w') (hB : B ≤ w.heap.size) (hm : ∀ k, k < B → ¬ M k) : Below B w w' := ⟨h.os, h.tape, h.output, h.size, fun k hk => h.block k (by omega) (hm k hk)⟩
theorem grown {row : Option Nat} (h : Kp M a w) (hg : w.grownBy w' row) (hr : ∀ k, row = some k → k < w.heap.size → M k) : Kp M a w' :=
  h.trans ⟨hg.os, hg.tape, hg.output, hg.size, fun k hk hm => hg.block k hk (fun e => hm (hr k e.symm hk))⟩
theorem row {S e s n : Nat} {v : Value} {xs : List Value} (h : Kp M w w') (o : w.ownsRow S e s v n xs) (hm : ∀ k, v.ownBlock = some k → ¬ M k) : w'.ownsRow S e s v n xs := by
  refine ⟨o.1, ?_⟩
  rcases o.2 with h0 | ⟨g, cap, cur, hv, hB, hg, r⟩
  · exact .inl h0
  · exact .inr ⟨g, cap, cur, hv, hB, (h.block g (Array.getElem?_eq_some_iff.1 hg).1 (hm g (by rw [hv]; rfl))).trans hg, r⟩
end Kp
theorem step_append_run {P : Program} {ops : Array Oper} {o : Oper} {a : Act} {w w' : World} {v' : Value} {K : Act → World → Prop} {Q : Exit → Act → World → Prop} {E : Prop} (hgd : o.guard = none) (s x : Operand) (t tx : TypeId)
    (ho : o.op = .call { callee := .builtin .append, args := #[s, x], argTypes := #[t, tx] }) (vs vx : Value) (hs : a.eval s = vs) (hx : a.eval x = vx)
    (hr : (Builtin.append_ #[t, tx] o.type #[vs, vx]).run P w = .ok v' w') (h : K (a.put o.dst v') w') : if Region.wanted o (yielded ops a.tmps) = true then Oper.wp P o a w K Q else E := by
  have hw : Region.wanted o (yielded ops a.tmps) = true := by simp [Region.wanted, hgd]
  rw [if_pos hw]
  unfold Oper.wp execOp
  simp only [ho, resolve, invoke, builtin, Sem.run_bind, Sem.run_pure, Result.andThen_ok, List.map_toArray, List.map_cons, List.map_nil, hs, hx, hr]
  exact h
theorem info_parts {P : Program} {e : TypeId} {z : Value} {size bytes : Nat} (h : (P.info? e).map (fun i => (i.zero, i.size, i.bytes)) = some (some z, size, bytes)) : ∃ i, P.info? e = some i ∧ i.zero = some z ∧ i.size = size ∧ i.bytes = bytes := by
  cases hi : P.info? e with
  | none => rw [hi] at h; cases h
  | some i =>
    rw [hi] at h
    simp at h
    exact ⟨i, rfl, h.1, h.2.1, h.2.2⟩
theorem infL : (Tryz.prog.info? 61).map (fun i => (i.zero, i.size, i.bytes)) = some (some (.agg #[.string ⟨#[]⟩, .string ⟨#[]⟩]), 2, 32) := by kernel_rfl
theorem own_bd {S e s n : Nat} {w : World} {v : Value} {xs : List Value} (h : w.ownsRow S e s v n xs) : ∀ G, v.ownBlock = some G → S ≤ G ∧ G < w.heap.size := by
  intro G hG
  rcases h.2 with ⟨rfl, _⟩ | ⟨g, cap, cur, rfl, hg, hh, _⟩
  · cases hG
  · have : g = G := Option.some.inj hG
    subst this
    exact ⟨hg, (Array.getElem?_eq_some_iff.1 hh).1⟩
end Go.Proofs.YtebjklppbkkinaaGreatDoor
/- Labels: two labels sorted. -/
namespace Go.Proofs.YtebjklppbkkinaaGreatDoor
open Go.RowKit Go.Lib

theorem Kp.setCell {M : Nat → Prop} {a w : World} (h : Kp M a w) {p : Addr} (hp : M p.block) (u : Value) : Kp M a (w.setCell p u) :=
  h.trans ⟨rfl, rfl, rfl, by simp [World.setCell], fun k hk hm => Below.heap_setCell _ _ _ _ (fun e => hm (e ▸ hp))⟩
/-- Four cells of a row of two labels. -/
def C4 (w : World) (g : Nat) (x y : Lb) : Prop := w.cell? ⟨g, 0, none⟩ = some (.string x.1) ∧ w.cell? ⟨g, 1, none⟩ = some (.string x.2) ∧ w.cell? ⟨g, 2, none⟩ = some (.string y.1) ∧ w.cell? ⟨g, 3, none⟩ = some (.string y.2) ∧ ∀ o, w.frozen? ⟨g, o, none⟩ = false
theorem C4.below {w w' : World} {g : Nat} {x y : Lb} (h : C4 w g x y) (b : Below w.heap.size w w') : C4 w' g x y := by
  obtain ⟨a, b1, c, d, e⟩ := h
  have hg := World.block_lt_of_cell? w _ a
  exact ⟨bcell2 b a, bcell2 b b1, bcell2 b c, bcell2 b d, fun o => (b.frozen (p := ⟨g, o, none⟩) hg).trans (e o)⟩
theorem undrew {w w' : World} (h : Below w.drew.heap.size w.drew w') : Below w.heap.size w w' := ⟨h.os, h.tape, h.output, h.size, h.block⟩
theorem C4.drewN {w : World} {g : Nat} {x y : Lb} (h : C4 w g x y) (n : Nat) : C4 (w.drewN n) g x y := h
end Go.Proofs.YtebjklppbkkinaaGreatDoor
/- Labels: copied, Get, Make of two labels. -/
namespace Go.Proofs.YtebjklppbkkinaaGreatDoor
open Go.RowKit Go.Lib

set_option maxHeartbeats 4000000 in
theorem copied_any (x : Lb) (w : World) (h1 : x.1.size ≤ 140737488355328) (h2 : x.2.size ≤ 140737488355328) : Calls Tryz.prog 46 #[lbV x] w fun e w' => e = .returned (lbV x) ∧ Below w.heap.size w w' := by
  obtain ⟨x1, x2⟩ := x
  have K1 : Hid (∀ W, Calls Tryz.prog 76 #[.string x1] W fun e w' => e = .returned (.string x1) ∧ Below W.heap.size W w') := fun W => clone_any x1 W h1
  have K2 : Hid (∀ W, Calls Tryz.prog 76 #[.string x2] W fun e w' => e = .returned (.string x2) ∧ Below W.heap.size W w') := fun W => clone_any x2 W h2
  clear h1 h2
  have e1 : (w.alloc (lbX (x1, x2))).heap[w.heap.size]? = some (lbX (x1, x2)) := heap_alloc_new w _
  have e2 : ((w.alloc (lbX (x1, x2))).alloc (lbX (⟨#[]⟩, ⟨#[]⟩))).heap[w.heap.size + 1]? = some (lbX (⟨#[]⟩, ⟨#[]⟩)) := by have := heap_alloc_new (w.alloc (lbX (x1, x2))) (lbX (⟨#[]⟩, ⟨#[]⟩)); simpa using this
  have b1 : Below (w.alloc (lbX (x1, x2))).heap.size (w.alloc (lbX (x1, x2))) ((w.alloc (lbX (x1, x2))).alloc (lbX (⟨#[]⟩, ⟨#[]⟩))) := (Below.refl _ _).alloc (Nat.le_refl _) _
  have a0 : ((w.alloc (lbX (x1, x2))).alloc (lbX (⟨#[]⟩, ⟨#[]⟩))).cell? ⟨w.heap.size, 0, none⟩ = some (.string x1) := bcell2 b1 (by unfold World.cell?; rw [e1]; rfl)
  have a1 : ((w.alloc (lbX (x1, x2))).alloc (lbX (⟨#[]⟩, ⟨#[]⟩))).cell? ⟨w.heap.size, 1, none⟩ = some (.string x2) := bcell2 b1 (by unfold World.cell?; rw [e1]; rfl)
  have z0 : ((w.alloc (lbX (x1, x2))).alloc (lbX (⟨#[]⟩, ⟨#[]⟩))).cell? ⟨w.heap.size + 1, 0, none⟩ = some (.string ⟨#[]⟩) := by unfold World.cell?; rw [e2]; rfl
  have z1 : ((w.alloc (lbX (x1, x2))).alloc (lbX (⟨#[]⟩, ⟨#[]⟩))).cell? ⟨w.heap.size + 1, 1, none⟩ = some (.string ⟨#[]⟩) := by unfold World.cell?; rw [e2]; rfl
  have zf : ∀ o, ((w.alloc (lbX (x1, x2))).alloc (lbX (⟨#[]⟩, ⟨#[]⟩))).frozen? ⟨w.heap.size + 1, o, none⟩ = false := fun o => by unfold World.frozen?; rw [e2]; simp
  have HB : Hid (Below w.heap.size w ((w.alloc (lbX (x1, x2))).alloc (lbX (⟨#[]⟩, ⟨#[]⟩)))) := ((Below.refl _ w).alloc (Nat.le_refl _) _).alloc (by simp) _
  clear e1 e2 b1
  go_enter Tryz.func46, Tryz.ntmps46
  go_wp2_with fail
  generalize (w.alloc (lbX (x1, x2))).alloc (lbX (⟨#[]⟩, ⟨#[]⟩)) = W at *
  have HS : Hid (∀ w', Below W.heap.size W w' → w'.cell? ⟨w.heap.size, 0, none⟩ = some (.string x1) ∧ w'.cell? ⟨w.heap.size, 1, none⟩ = some (.string x2)) := fun w' b => ⟨bcell2 b a0, bcell2 b a1⟩
  have HZ : Hid (∀ w', Below W.heap.size W w' → w'.cell? ⟨w.heap.size + 1, 0, none⟩ = some (.string ⟨#[]⟩) ∧ w'.cell? ⟨w.heap.size + 1, 1, none⟩ = some (.string ⟨#[]⟩) ∧ ∀ o, w'.frozen? ⟨w.heap.size + 1, o, none⟩ = false) := fun w' b => ⟨bcell2 b z0, bcell2 b z1, fun o => (b.frozen (p := ⟨w.heap.size + 1, o, none⟩) (show w.heap.size + 1 < W.heap.size from World.block_lt_of_cell? W _ z0)).trans (zf o)⟩
  have HST : Hid (∀ w', Below W.heap.size W w' → ((w'.setCell ⟨w.heap.size + 1, 0, none⟩ (.string x1)).setCell ⟨w.heap.size + 1, 1, none⟩ (.string x2)).cell? ⟨w.heap.size, 0, none⟩ = some (.string x1) ∧ ((w'.setCell ⟨w.heap.size + 1, 0, none⟩ (.string x1)).setCell ⟨w.heap.size + 1, 1, none⟩ (.string x2)).cell? ⟨w.heap.size, 1, none⟩ = some (.string x2)) := fun w' b => by
    obtain ⟨s0, s1⟩ := HS.out w' b
    constructor
    · rw [World.cell?_setCell_other _ _ _ _ (by simp), World.cell?_setCell_other _ _ _ _ (by simp)]; exact s0
    · rw [World.cell?_setCell_other _ _ _ _ (by simp), World.cell?_setCell_other _ _ _ _ (by simp)]; exact s1
  clear z0 z1 zf
  go_region_held3 (fun w' => w'.cell? ⟨w.heap.size, 0, none⟩ = some (.string x1) ∧ w'.cell? ⟨w.heap.size, 1, none⟩ = some (.string x2)) (first | exact ⟨a0, a1⟩ | exact HS.out _ (by assumption) | exact HST.out _ (by assumption)) ((first | (go_at_call 76; go_fit (K1.out W.drew); rintro e w2 ⟨rfl, b2⟩; have b2' := undrew b2) | (go_at_call 76; go_fit (K2.out _); rintro e w3 ⟨rfl, b3⟩; have b3' : Below W.heap.size W _ := b2'.trans (b3.mono b2'.size); have zz := HZ.out _ b3'; obtain ⟨z0, z1, zf⟩ := zz)))
  have r0 : ((w3.setCell ⟨w.heap.size + 1, 0, none⟩ (.string x1)).setCell ⟨w.heap.size + 1, 1, none⟩ (.string x2)).cell? ⟨w.heap.size + 1, 0, none⟩ = some (.string x1) := by
    rw [World.cell?_setCell_other _ _ _ _ (by simp)]
    exact World.cell?_setCell_same' _ _ _ (by rw [z0]; rfl)
  have r1 : ((w3.setCell ⟨w.heap.size + 1, 0, none⟩ (.string x1)).setCell ⟨w.heap.size + 1, 1, none⟩ (.string x2)).cell? ⟨w.heap.size + 1, 1, none⟩ = some (.string x2) := World.cell?_setCell_same' _ _ _ (by rw [World.cell?_setCell_other _ _ _ _ (by simp), z1]; rfl)
  have HF : Hid (Below w.heap.size w ((w3.setCell ⟨w.heap.size + 1, 0, none⟩ (.string x1)).setCell ⟨w.heap.size + 1, 1, none⟩ (.string x2))) := by
    have bw := HB.out.trans (b3'.mono HB.out.size)
    have k : Kp (· = w.heap.size + 1) w3 ((w3.setCell ⟨w.heap.size + 1, 0, none⟩ (.string x1)).setCell ⟨w.heap.size + 1, 1, none⟩ (.string x2)) := ((Kp.refl (· = w.heap.size + 1) w3).setCell (p := ⟨w.heap.size + 1, 0, none⟩) rfl _).setCell (p := ⟨w.heap.size + 1, 1, none⟩) rfl _
    exact bw.trans (k.below bw.size (fun i hi e => by omega))
  rename_i hHeld
  clear hHeld z0 z1 zf b2 b2' b3 b3' HS HZ HST a0 a1
  generalize (w3.setCell ⟨w.heap.size + 1, 0, none⟩ (.string x1)).setCell ⟨w.heap.size + 1, 1, none⟩ (.string x2) = W4 at *
  go_wp2
  refine bodyPost_ret (v := lbV (x1, x2)) (by simp [results, Tryz.results46, go_sem, r0, r1]) rfl ⟨rfl, HF.out⟩
end Go.Proofs.YtebjklppbkkinaaGreatDoor
/- Labels: names of any kind; the value of a name in any list. -/
namespace Go.Proofs.YtebjklppbkkinaaGreatDoor
open Go.RowKit Go.Lib

/-- A sign that a name may begin with; a digit; a further sign. -/
def fiB (c : Int) : Bool := decide (97 ≤ c) && decide (c ≤ 122) || decide (65 ≤ c) && decide (c ≤ 90) || decide (c = 95)
def dgB (c : Int) : Bool := decide (48 ≤ c) && decide (c ≤ 57)
def laB (c : Int) : Bool := fiB c || dgB c
set_option maxHeartbeats 1000000 in
theorem isFirst_any (c : Int) (w : World) : Calls Tryz.prog 102 #[.int .u8 c] w fun e w' => e = .returned (.bool (fiB c)) ∧ w' = w := by
  obtain ⟨b, hb⟩ : ∃ b, fiB c = b := ⟨_, rfl⟩
  have HB : Hid (fiB c = b) := hb
  rw [hb]
  clear hb
  have h6 : (c == 95) = decide (c = 95) := rfl
  by_cases h1 : 97 ≤ c <;> by_cases h2 : c ≤ 122 <;> by_cases h3 : 65 ≤ c <;> by_cases h4 : c ≤ 90 <;> by_cases h5 : c = 95 <;> first
    | omega
    | (simp only [fiB, h1, h2, h3, h4, h5, decide_true, decide_false, Bool.and_true, Bool.and_false, Bool.or_true, Bool.or_false] at HB h6
       go_enter Tryz.func102, Tryz.ntmps102
       go_wp2
       go_ret
       refine ⟨?_, rfl⟩
       rw [← HB.out]
       first | rfl | simp [h6] | simp [h5])
set_option maxHeartbeats 1000000 in
theorem isDigit_any (c : Int) (w : World) : Calls Tryz.prog 152 #[.int .u8 c] w fun e w' => e = .returned (.bool (dgB c)) ∧ w' = w := by
  obtain ⟨b, hb⟩ : ∃ b, dgB c = b := ⟨_, rfl⟩
  have HB : Hid (dgB c = b) := hb
  rw [hb]
  clear hb
  by_cases h1 : 48 ≤ c <;> by_cases h2 : c ≤ 57 <;> first
    | omega
    | (simp only [dgB, h1, h2, decide_true, decide_false, Bool.and_true, Bool.and_false] at HB
       go_enter Tryz.func152, Tryz.ntmps152
       go_wp2
       go_ret
       refine ⟨?_, rfl⟩
       rw [← HB.out]
       first | rfl | simp)
set_option maxHeartbeats 1000000 in
theorem isLater_any (c : Int) (w : World) : Calls Tryz.prog 101 #[.int .u8 c] w fun e w' => e = .returned (.bool (laB c)) ∧ w' = w := by
  have k1 := isFirst_any c w
  have k2 := isDigit_any c w
  obtain ⟨b, hb⟩ : ∃ b, laB c = b := ⟨_, rfl⟩
  have HB : Hid (laB c = b) := hb
  rw [hb]
  clear hb
  unfold laB at HB
  generalize fiB c = f at *
  generalize dgB c = d at *
  cases f
  · go_enter Tryz.func101, Tryz.ntmps101
    go_wp2_with fail
    go_fit k1
    rintro e w1 ⟨rfl, rfl⟩
    go_wp2_with fail
    go_fit k2
    rintro e w1 ⟨rfl, rfl⟩
    go_wp2
    go_ret
    exact ⟨by rw [← HB.out]; rfl, rfl⟩
  · go_enter Tryz.func101, Tryz.ntmps101
    go_wp2_with fail
    go_fit k1
    rintro e w1 ⟨rfl, rfl⟩
    go_wp2
    go_ret
    exact ⟨by rw [← HB.out]; rfl, rfl⟩
/-- The sign at a place. -/
def bt (s : ByteArray) (i : Nat) : Int := ((s.get! i).toNat : Int)
theorem get!_in (s : ByteArray) (k : Nat) (h : k < s.size) : s.get! k = s[k]'h := by
  cases s with
  | mk d => exact getElem!_pos d k h
/-- All signs from a place on are further ones. -/
def lbF (s : ByteArray) : Nat → Nat → Bool
  | 0, _ => true
  | n + 1, i => laB (bt s i) && lbF s n (i + 1)
/-- A label's name. -/
def lbN (s : ByteArray) : Bool := lbF s s.size 0 && (decide (0 < s.size) && fiB (bt s 0))
theorem nil_iff (s : ByteArray) : s.toList = [] ↔ s.size = 0 := by
  rw [Lib.toList_data]
  obtain ⟨d⟩ := s
  show d.toList = [] ↔ d.size = 0
  simp
set_option maxHeartbeats 4000000 in
set_option maxRecDepth 100000 in
theorem isLabel_any (s : ByteArray) (w : World) (hs : s.size ≤ 140737488355328) : Calls Tryz.prog 72 #[.string s] w fun e w' => e = .returned (.bool (lbN s)) ∧ w' = w := by
  obtain ⟨b, hb⟩ : ∃ b, lbN s = b := ⟨_, rfl⟩
  have HB : Hid (lbN s = b) := hb
  rw [hb]
  clear hb
  have k1 : Hid (∀ c W, Calls Tryz.prog 101 #[.int .u8 c] W fun e w' => e = .returned (.bool (laB c)) ∧ w' = W) := fun c W => isLater_any c W
  have k2 := isFirst_any (bt s 0) w
  have HNE : Hid (s.toList = [] ↔ s.size = 0) := nil_iff s
  have hsi : (s.size : Int) ≤ 140737488355328 := by omega
  go_enter Tryz.func72, Tryz.ntmps72
  go_wp2_with fail
  go_loopw [6] (fun t w' => ∃ i f : Nat, t = .int .i64 (i : Nat) ∧ i + f = s.size ∧ Hid (lbF s s.size 0 = lbF s f i) ∧ w' = w) (fun t _ => s.size - (RowKit.intOf t).toNat)
  case atStart => exact ⟨0, s.size, rfl, by omega, rfl, rfl⟩
  case round =>
    obtain ⟨i, f, rfl, hif, hv, rfl⟩ := hrel
    by_cases hlt : i < s.size
    · have hii : (i : Int) < (s.size : Int) := by omega
      obtain ⟨g, rfl⟩ : ∃ g, f = g + 1 := ⟨f - 1, by omega⟩
      have K := k1.out (bt s i) wr
      have HV : Hid (lbF s s.size 0 = (laB (bt s i) && lbF s g (i + 1))) := hv
      clear hv
      generalize hla : laB (bt s i) = q at *
      clear hla
      have e0 : bt s i = ((s[i]'hlt).toNat : Int) := by unfold bt; rw [get!_in s i hlt]
      rw [e0] at K
      clear e0
      go_wp2_with fail
      go_fit K
      rintro e w1 ⟨rfl, rfl⟩
      cases q
      · have HE : Hid (b = false) := by
          have := HB.out
          unfold lbN at this
          rw [HV.out] at this
          exact (this.symm).trans (by simp)
        go_wp2
        go_ret
        exact ⟨by rw [HE.out]; rfl, rfl⟩
      · have HE : Hid (lbF s s.size 0 = lbF s g (i + 1)) := HV.out.trans (by simp)
        go_wp2
        exact ⟨⟨i + 1, g, by go_num, by omega, HE, trivial⟩, by simp [RowKit.intOf]; omega⟩
    · have hii : ¬ (i : Int) < (s.size : Int) := by omega
      obtain rfl : f = 0 := by omega
      have HE : Hid (b = (decide (0 < s.size) && fiB (bt s 0))) := by
        have := HB.out
        unfold lbN at this
        rw [hv.out] at this
        exact this.symm
      clear hv
      by_cases h0 : s.size = 0
      · have hne : s.toList = [] := HNE.out.2 h0
        have HE2 : Hid (b = false) := HE.out.trans (by simp [h0])
        clear h0
        go_wp2
        go_ret
        exact ⟨by rw [HE2.out]; rfl, rfl⟩
      · have hne : ¬ s.toList = [] := fun h => h0 (HNE.out.1 h)
        have hem : s.toList.isEmpty = false := by cases h : s.toList <;> simp_all
        have h0p : 0 < s.size := by omega
        have h0i : (0 : Int) < (s.size : Int) := by omega
        have HE2 : Hid (b = fiB (bt s 0)) := HE.out.trans (by simp [h0p])
        clear h0
        have e0 : bt s 0 = ((s[0]'h0p).toNat : Int) := by unfold bt; rw [get!_in s 0 h0p]
        rw [e0] at k2 HE2
        clear e0
        go_wp2_with fail
        go_fit k2
        rintro e w1 ⟨rfl, rfl⟩
        go_wp2
        go_ret
        exact ⟨by rw [HE2.out]; rfl, rfl⟩
end Go.Proofs.YtebjklppbkkinaaGreatDoor
/- Labels: Valid of any list. -/
namespace Go.Proofs.YtebjklppbkkinaaGreatDoor
open Go.RowKit Go.Lib

/-- A label that may stand at its place. -/
def okL (f : Nat → Lb) (i : Nat) : Bool := lbN (f i).1 && (!(f i).2.toList.isEmpty && (vld (f i).2 (f i).2.size 0 && (decide (i = 0) || Op.bytesLess (f (i - 1)).1.toList (f i).1.toList)))
/-- Labels from a place on that are a set. -/
def vaF (f : Nat → Lb) : Nat → Nat → Bool
  | 0, _ => true
  | n + 1, i => okL f i && vaF f n (i + 1)
set_option maxHeartbeats 4000000 in
set_option maxRecDepth 100000 in
theorem validL_any (a : Option Addr) (f : Nat → Lb) (n c : Nat) (w : World) (hL : Lm w a f n) (hn : n ≤ 140737488355328) (hs : ∀ j, j < n → (f j).1.size ≤ 140737488355328 ∧ (f j).2.size ≤ 140737488355328) (hT : Lib.Utf8Tabs 2 3 w) :
    Calls Tryz.prog 41 #[.slice a n c] w fun e w' => e = .returned (.bool (vaF f n 0)) ∧ Below w.heap.size w w' := by
  have HL : Hid (Lm w a f n) := hL
  have HS : Hid (∀ j, j < n → (f j).1.size ≤ 140737488355328 ∧ (f j).2.size ≤ 140737488355328) := hs
  have HT : Hid (Lib.Utf8Tabs 2 3 w) := hT
  have HZ : Hid (3 < w.heap.size) := tabs_size hT
  have hni : (n : Int) ≤ 140737488355328 := by omega
  obtain ⟨v, hv⟩ : ∃ v, vaF f n 0 = v := ⟨_, rfl⟩
  rw [hv]
  have HV : Hid (vaF f n 0 = v) := hv
  clear hL hv hs hT
  go_enter Tryz.func41, Tryz.ntmps41
  go_wp2_with fail
  go_loopw [7] (fun t w' => ∃ i k : Nat, t = .int .i64 (i : Nat) ∧ i + k = n ∧ Hid (vaF f k i = v) ∧ Hid (Below w.heap.size w w')) (fun t _ => n - (RowKit.intOf t).toNat)
  case atStart => exact ⟨0, n, rfl, by omega, HV, Below.refl _ _⟩
  case round =>
    obtain ⟨i, k, rfl, hik, hv, hb⟩ := hrel
    by_cases hlt : i < n
    · have hii : (i : Int) < (n : Int) := by omega
      obtain ⟨m, rfl⟩ : ∃ m, k = m + 1 := ⟨k - 1, by omega⟩
      obtain ⟨g, o, rfl, hg, c0, c1⟩ := (HL.out.below hb.out).at i hlt
      obtain ⟨s1, s2⟩ := HS.out i hlt
      have HG : Hid ((okL f i && vaF f m (i + 1)) = v) := hv
      clear hv
      have bA : Below w.heap.size w (wr.alloc (lbX (f i))) := hb.out.alloc hb.out.size _
      have kA := isLabel_any (f i).1 (wr.alloc (lbX (f i))) s1
      have kV := valid_any (f i).2 (wr.alloc (lbX (f i))) (by unfold maxLen; omega) (tabs_below HT.out HZ.out bA)
      have HN : Hid (Below w.heap.size w (wr.alloc (lbX (f i)))) := bA
      have HP : Hid (0 < i → ∃ j, i = j + 1 ∧ wr.cell? ⟨g, o + j * 2, none⟩ = some (.string (f j).1)) := (show _ → _ from fun h => by
        obtain ⟨g', o', e', _, d0, _⟩ := (HL.out.below hb.out).at (i - 1) (by omega)
        cases e'
        exact ⟨i - 1, by omega, d0⟩)
      have HO : Hid (okL f i = (lbN (f i).1 && (!(f i).2.toList.isEmpty && (vld (f i).2 (f i).2.size 0 && (decide (i = 0) || Op.bytesLess (f (i - 1)).1.toList (f i).1.toList))))) := (show _ = _ from rfl)
      obtain ⟨x, hx⟩ : ∃ x, f i = x := ⟨_, rfl⟩
      rw [hx] at c0 c1 HN HO kA kV s1 s2
      clear bA hx hb
      obtain ⟨x1, x2⟩ := x
      dsimp only at c0 c1 kA kV
      obtain ⟨A, hA⟩ : ∃ A, lbN x1 = A := ⟨_, rfl⟩
      obtain ⟨V, hVV⟩ : ∃ V, vld x2 x2.size 0 = V := ⟨_, rfl⟩
      dsimp only at HO
      rw [hA] at kA HO
      rw [hVV] at kV HO
      clear hA hVV s1 s2
      cases A
      · have HE : Hid (v = false) := (show _ = _ from HG.out.symm.trans (by rw [HO.out]; rfl))
        go_wp2_with fail
        go_fit kA
        rintro e w1 ⟨rfl, rfl⟩
        go_wp2
        go_ret
        exact ⟨by rw [HE.out]; rfl, HN.out⟩
      · by_cases hem : x2.toList = []
        · have HE : Hid (v = false) := (show _ = _ from HG.out.symm.trans (by rw [HO.out, hem]; rfl))
          go_wp2_with fail
          go_fit kA
          rintro e w1 ⟨rfl, rfl⟩
          go_wp2
          go_ret
          exact ⟨by rw [HE.out]; rfl, HN.out⟩
        · have hie : x2.toList.isEmpty = false := by cases h : x2.toList <;> simp_all
          cases V
          · have HE : Hid (v = false) := (show _ = _ from HG.out.symm.trans (by rw [HO.out]; simp))
            go_wp2_with fail
            go_fit kA
            rintro e w1 ⟨rfl, rfl⟩
            go_wp2_with fail
            go_fit kV
            rintro e w2 ⟨rfl, b2⟩
            have HN2 : Hid (Below w.heap.size w w2) := HN.out.trans (b2.mono HN.out.size)
            clear b2
            go_wp2
            go_ret
            exact ⟨by rw [HE.out]; rfl, HN2.out⟩
          · go_wp2_with fail
            go_fit kA
            rintro e w1 ⟨rfl, rfl⟩
            go_wp2_with fail
            go_fit kV
            rintro e w2 ⟨rfl, b2⟩
            have bw : Below wr.heap.size wr (wr.alloc (lbX (x1, x2))) := (Below.refl _ _).alloc (Nat.le_refl _) _
            have bw2 := bw.trans (b2.mono bw.size)
            have e0 : w2.cell? ⟨wr.heap.size, 0, none⟩ = some (.string x1) := bcell2 b2 (by unfold World.cell?; rw [show (wr.alloc (lbX (x1, x2))).heap[wr.heap.size]? = some (lbX (x1, x2)) from heap_alloc_new wr _]; rfl)
            have HN2 : Hid (∀ q, Hid (Below w.heap.size w (w2.drewN q))) := (show ∀ q, _ from fun q => (show Below _ _ _ from (HN.out.trans (b2.mono HN.out.size)).trans ⟨rfl, rfl, rfl, Nat.le_refl _, fun _ _ => rfl⟩))
            have HBW : Hid (Below wr.heap.size wr w2) := bw2
            clear b2 bw bw2 kA kV
            rcases Nat.eq_zero_or_pos i with h0 | h0
            · have hi1 : ¬ (0 : Int) < (i : Int) := by omega
              have hi2 : ¬ 0 < i := by omega
              have qd : decide (0 < i) = false := decide_eq_false hi2
              have HE : Hid (vaF f m (i + 1) = v) := (show _ = _ from by
                have := HG.out
                rw [HO.out, decide_eq_true h0] at this
                simpa [hie] using this)
              clear h0
              go_upto_region 6 with fail
              go_big_quiet (fail)
              have HN3 : Hid (Below w.heap.size w (w2.drewN nq)) := HN2.out nq
              go_wp2
              exact ⟨⟨i + 1, m, by go_num, by omega, HE, HN3⟩, by simp [RowKit.intOf]; omega⟩
            · obtain ⟨j, hj, d0⟩ := HP.out h0
              have hi1 : (0 : Int) < (i : Int) := by omega
              have qd : decide (0 < i) = true := decide_eq_true h0
              have d2 := bcell2 HBW.out d0
              have q1 : IntKind.i64.wrap ((i : Int) - 1) = (j : Nat) := by rw [IntKind.wrap_i64]; omega
              have q2 : (i : Int) - 1 = (j : Nat) := by omega
              have q3 : (j : Int) < (n : Int) := by omega
              have q4 : IntKind.i64.wrap (j : Int) = (j : Nat) := by rw [IntKind.wrap_i64]; omega
              have hjj : i - 1 = j := by omega
              obtain ⟨y1, hy1⟩ : ∃ y1, (f j).1 = y1 := ⟨_, rfl⟩
              rw [hjj, hy1] at HO
              rw [hy1] at d2
              obtain ⟨bl, hbl⟩ : ∃ bl, Op.bytesLess y1.toList x1.toList = bl := ⟨_, rfl⟩
              have HBL : Hid (Op.bytesLess y1.toList x1.toList = bl) := hbl
              have HJ : Hid (i = j + 1) := hj
              have HI0 : Hid (decide (i = 0) = false) := (show _ = _ from decide_eq_false (by omega))
              clear hj hjj hy1 d0 HBW
              cases bl
              · have HE : Hid (v = false) := (show _ = _ from HG.out.symm.trans (by rw [HO.out, HI0.out, HBL.out]; simp))
                go_upto_region 6 with fail
                go_big_quiet (fail)
                have HN3 : Hid (Below w.heap.size w (w2.drewN nq)) := HN2.out nq
                go_wp2
                go_ret
                exact ⟨by rw [HE.out]; rfl, HN3.out⟩
              · have HE : Hid (vaF f m (i + 1) = v) := (show _ = _ from by
                  have := HG.out
                  rw [HO.out, HI0.out, HBL.out] at this
                  simpa [hie] using this)
                go_upto_region 6 with fail
                go_big_quiet (fail)
                have HN3 : Hid (Below w.heap.size w (w2.drewN nq)) := HN2.out nq
                go_wp2
                exact ⟨⟨i + 1, m, by go_num, by omega, HE, HN3⟩, by simp [RowKit.intOf]; omega⟩
    · have hii : ¬ (i : Int) < (n : Int) := by omega
      obtain rfl : k = 0 := by omega
      have HE : Hid (v = true) := hv.out.symm
      clear hv
      go_wp2
      go_ret
      exact ⟨by rw [HE.out]; rfl, hb.out⟩
end Go.Proofs.YtebjklppbkkinaaGreatDoor
/- Labels: Make of two labels. -/
namespace Go.Proofs.YtebjklppbkkinaaGreatDoor
open Go.RowKit Go.Lib

/-- An append whose run is known. -/
theorem wpList_append_run {P : Program} {ops : Array Oper} {rest : List Oper} {o : Oper} {a : Act} {w w' : World} {v' : Value} {Q : Exit → Act → World → Prop} (hw : Region.wanted o (yielded ops a.tmps) = true) (s x : Operand) (t tx : TypeId)
    (ho : o.op = .call { callee := .builtin .append, args := #[s, x], argTypes := #[t, tx] }) (vs vx : Value) (hs : a.eval s = vs) (hx : a.eval x = vx)
    (hr : (Builtin.append_ #[t, tx] o.type #[vs, vx]).run P w = .ok v' w') (h : wpList P ops Q rest (a.put o.dst v') w') : wpList P ops Q (o :: rest) a w := by
  unfold wpList
  rw [if_pos hw]
  left
  unfold Oper.wp execOp
  simp only [ho, resolve, invoke, builtin, Sem.run_bind, Sem.run_pure, Result.andThen_ok, List.map_toArray, List.map_cons, List.map_nil, hs, hx, hr]
  exact h
/-- One label behind a row of one's own. -/
theorem ap_lb (w : World) (S : Nat) (v : Value) (n : Nat) (xs : List Value) (x : Lb) (hS : S ≤ w.heap.size) (hn : (n + 1) * 32 ≤ 140737488355328) (o : w.ownsRow S 61 2 v n xs) :
    ∃ g c w', (Builtin.append_ #[29, 29] 29 #[v, .slice (some ⟨w.heap.size, 0, none⟩) 1 1]).run Tryz.prog (w.alloc (lbX x)) = .ok (.slice (some ⟨g, 0, none⟩) (n + 1) c) w' ∧ w'.ownsRow S 61 2 (.slice (some ⟨g, 0, none⟩) (n + 1) c) (n + 1) (xs ++ l2 x) ∧ Kp (fun k => v.ownBlock = some k) w w' := by
  obtain ⟨i0, hi, hz0, hz1, hz2⟩ := info_parts infL
  have o0 := World.ownsRow.alloc o (lbX x)
  have e : (w.alloc (lbX x)).heap[w.heap.size]? = some (lbX x) := heap_alloc_new w _
  obtain ⟨v', w', r, o', g, _, _⟩ := run_append_own_at (P := Tryz.prog) (w.alloc (lbX x)) S 29 29 61 i0 _ 2 32 Tryz.underlying29 hi hz0 hz1 hz2 rfl (by decide) _ n xs o0 ⟨w.heap.size, 0, none⟩ 1 1 (l2 x) (by rfl)
    (fun j u hj => by
      rw [Go.WideShapes.add_plain, Nat.zero_add]
      unfold World.cell?
      rw [e]
      simpa [l2] using hj) (by intro u hu; simp [l2] at hu; rcases hu with rfl | rfl <;> rfl) (by unfold maxLen; omega) hn (by simp; omega)
  rcases o'.2 with ⟨_, h0⟩ | ⟨G, C, cur, rfl, _⟩
  · omega
  · exact ⟨G, C, w', r, o', ((Kp.refl _ w).trans (Kp.of ((Below.refl _ w).alloc (Nat.le_refl _) _))).grown g (fun k hk _ => hk)⟩
/-- Under way. -/
def Sx (w w' : World) (es : Array MapEntry) (clk : Nat) (v : Value) (n : Nat) (xs : List Value) : Prop :=
  w'.heap[w.heap.size]? = some (.map es clk) ∧ w'.ownsRow (w.heap.size + 1) 61 2 v n xs ∧ Below w.heap.size w w'
theorem Sx.lt {w w' : World} {es : Array MapEntry} {clk : Nat} {v : Value} {n : Nat} {xs : List Value} (h : Sx w w' es clk v n xs) : w.heap.size < w'.heap.size := (Array.getElem?_eq_some_iff.1 h.1).1
theorem Sx.below {w w' w2 : World} {es : Array MapEntry} {clk : Nat} {v : Value} {n : Nat} {xs : List Value} (h : Sx w w' es clk v n xs) (b : Below w'.heap.size w' w2) : Sx w w2 es clk v n xs :=
  ⟨(b.block _ h.lt).trans h.1, (Kp.of (M := fun _ => False) b).row h.2.1 (fun _ _ => id), h.2.2.trans (b.mono h.2.2.size)⟩
end Go.Proofs.YtebjklppbkkinaaGreatDoor
/- Labels: Make of any pairs, over any contract of the sort. -/
namespace Go.Proofs.YtebjklppbkkinaaGreatDoor
open Go.RowKit Go.Lib

def lcL (ls : List Lb) : List Value := ls.flatMap l2
end Go.Proofs.YtebjklppbkkinaaGreatDoor
