/- ChunkKeeps: rows side by side, copies, what is alike. -/
import Derived.Test.YtedlmjieclaojaaDoorXh
import Derived.Test.YtedlmjieclaojaaDoorXe
import Derived.Test.YtedlmjieclaojaaDoorXd
import Derived.Test.YtedlmjieclaojaaDoorXb
import Derived.Test.YtedlmjieclaojaaDoorGb
import Derived.Test.YtedlmjieclaojaaDoorFd
import Derived.Test.YtedlmjieclaojaaDoorEb
import Derived.StillTailTactics
import Derived.BigQuiet
import Derived.Test.YtedlmjieclaojaaDoorEc
namespace Go.Proofs.YtedlmjieclaojaaDoor
open Go.RowKit

/-- A region that ends normally, in one of these ways. -/
def Gat (R : Act → World → Prop) : Exit → Act → World → Prop
  | .normal, a, w => R a w
  | _, _, _ => False
theorem gather {P : Program} {code : Code} {Q : Exit → Act → World → Prop} {A : Act} {w : World} (R : Act → Act → World → Prop) (h2 : ∀ a w', R A a w' → Q .normal a w') (h1 : Code.wp P code (Gat (R A)) A w) : Code.wp P code Q A w := by
  refine Code.wp_mono ?_ h1
  intro e a w' h
  cases e with
  | normal => exact h2 a w' h
  | _ => exact (show False from h).elim
def mkV : Value := .agg #[.int .i64 (-1), .float .f64 0, .bool true]
/-- A row whose block lies between. -/
structure Rg (w : World) (lo hi e z : Nat) (v : Value) (N : Nat) (cs : List Value) : Prop where
  row : w.ownsRow lo e z v N cs
  top : ∀ g, v.ownBlock = some g → lo ≤ g ∧ g < hi
theorem Rg.of {w : World} {lo e z N : Nat} {v : Value} {cs : List Value} (h : w.ownsRow lo e z v N cs) : Rg w lo w.heap.size e z v N cs := ⟨h, fun g hg => World.ownsRow.lt h g hg⟩
theorem Rg.kp {M : Nat → Prop} {w w' : World} {lo hi e z N : Nat} {v : Value} {cs : List Value} (h : Rg w lo hi e z v N cs) (k : Kp M w w') (hne : ∀ g, lo ≤ g → g < hi → ¬ M g) : Rg w' lo hi e z v N cs :=
  ⟨k.row h.row (fun g hg => hne g (h.top g hg).1 (h.top g hg).2), h.top⟩
theorem Rg.below {w w' : World} {lo hi e z N : Nat} {v : Value} {cs : List Value} (h : Rg w lo hi e z v N cs) (b : Below w.heap.size w w') : Rg w' lo hi e z v N cs := h.kp (M := fun _ => False) (Kp.of b) (fun _ _ _ => id)
theorem Rg.low {w : World} {lo lo' hi e z N : Nat} {v : Value} {cs : List Value} (h : Rg w lo hi e z v N cs) (hl : lo' ≤ lo) : w.ownsRow lo' e z v N cs := by
  refine ⟨h.row.1, ?_⟩
  rcases h.row.2 with h0 | ⟨g, cap, cur, hv, hB, r⟩
  · exact .inl h0
  · exact .inr ⟨g, cap, cur, hv, Nat.le_trans hl hB, r⟩
theorem alk_same (x : Smp) : Alk false x x := ⟨rfl, rfl, .inl rfl⟩
theorem sl_cases {w : World} {S e z N : Nat} {v : Value} {cs : List Value} (o : w.ownsRow S e z v N cs) : ∃ a c, v = .slice a N c ∧ N ≤ c ∧ (a = none → N = 0 ∧ c = 0) ∧ (∀ x, a = some x → ∃ g, x = ⟨g, 0, none⟩) := by
  rcases o.2 with ⟨rfl, h0⟩ | ⟨g, cap, cur, rfl, _, _, h1, _⟩
  · exact ⟨none, 0, by rw [h0], by omega, fun _ => ⟨h0, rfl⟩, fun x h => (by cases h)⟩
  · exact ⟨_, cap, rfl, h1, fun h => (by cases h), fun x h => ⟨g, (Option.some.inj h).symm⟩⟩
/-- append([]byte{}, a...) of a row. -/
theorem copy_b (w : World) (S : Nat) (a : Option Addr) (c : Nat) (P : List Int) (K : Nat) (hK : K = P.length) (o : w.ownsRow S 5 1 (.slice a K c) K (bc P)) (hl : K ≤ 140737488355328) :
    ∃ g cap w', (Builtin.append_ #[25, 25] 25 #[.slice (some ⟨w.heap.size, 0, none⟩) 0 0, .slice a K c]).run Tryd.prog (w.alloc (.cells #[] 5)) = .ok (.slice (some ⟨g, 0, none⟩) K cap) w' ∧ w'.ownsRow w.heap.size 5 1 (.slice (some ⟨g, 0, none⟩) K cap) K (bc P) ∧ Below w.heap.size w w' ∧ w.heap.size ≤ g ∧ g < w'.heap.size := by
  obtain ⟨a2, c2, e, _, h2, h3⟩ := sl_cases o
  cases e
  refine fresh_copy w 25 5 (.int .u8 0) 1 1 Tryd.underlying25 (by kernel_rfl) rfl (by decide) a K c (bc P) h2 (by rw [bc_len, Nat.mul_one, hK]) (fun p hp j u hj => ?_) (bc_one P) (by unfold maxLen; omega) (by omega)
  obtain ⟨g, rfl⟩ := h3 p hp
  subst hp
  exact World.ownsRow.cells o (g := g) rfl j u hj
/-- .. with three bytes behind it. -/
theorem wide_b (w : World) (S : Nat) (a : Option Addr) (c : Nat) (P : List Int) (K : Nat) (hK : K = P.length) (o : w.ownsRow S 5 1 (.slice a K c) K (bc P)) (hl : K ≤ 100000000000) :
    ∃ g1 c1 w1 g cw w', (Builtin.append_ #[25, 25] 25 #[.slice (some ⟨w.heap.size, 0, none⟩) 0 0, .slice a K c]).run Tryd.prog (w.alloc (.cells #[] 5)) = .ok (.slice (some ⟨g1, 0, none⟩) K c1) w1 ∧
      (Builtin.append_ #[25, 25] 25 #[.slice (some ⟨g1, 0, none⟩) K c1, .slice (some ⟨w1.heap.size, 0, none⟩) 3 3]).run Tryd.prog (w1.alloc (.cells #[.int .u8 7, .int .u8 8, .int .u8 9] 5)) = .ok (.slice (some ⟨g, 0, none⟩) (K + 3) cw) w' ∧
      w'.ownsRow w.heap.size 5 1 (.slice (some ⟨g, 0, none⟩) (K + 3) cw) (K + 3) (bc (P ++ [7, 8, 9])) ∧ K + 3 ≤ cw ∧ Below w.heap.size w w' := by
  obtain ⟨g1, c1, w1, r1, o1, b1, _, _⟩ := copy_b w S a c P K hK o (by omega)
  obtain ⟨i0, hi, hz0, hz1, hz2⟩ := info_parts (show (Tryd.prog.info? 5).map (fun i => (i.zero, i.size, i.bytes)) = some (some (.int .u8 0), 1, 1) by kernel_rfl)
  have o2 := World.ownsRow.alloc o1 (.cells #[.int .u8 7, .int .u8 8, .int .u8 9] 5)
  obtain ⟨v', w', r, o', g, _⟩ := run_append_own (P := Tryd.prog) (w1.alloc (.cells #[.int .u8 7, .int .u8 8, .int .u8 9] 5)) w.heap.size 25 25 5 i0 (.int .u8 0) 1 1 Tryd.underlying25 hi hz0 hz1 hz2 rfl (by decide) _ K (bc P) o2 ⟨w1.heap.size, 0, none⟩ 3 3 (bc [7, 8, 9]) rfl
    (fun j u hj => by
      rw [Go.WideShapes.add_plain, Nat.zero_add]
      unfold World.cell?
      rw [show (w1.alloc (.cells #[.int .u8 7, .int .u8 8, .int .u8 9] 5)).heap[w1.heap.size]? = some (.cells #[.int .u8 7, .int .u8 8, .int .u8 9] 5) from heap_alloc_new w1 _]
      simpa [bc] using hj) (bc_one _) (by unfold maxLen; omega) (by omega) (by have := b1.size; simp; omega)
  rw [← bc_app] at o'
  have bb : Below w.heap.size w w' := (b1.alloc b1.size _).grown g (by have := b1.size; simp; omega) (fun k hk => (World.ownsRow.lt o2 k hk).1)
  rcases o'.2 with ⟨_, h0⟩ | ⟨G2, C2, cur, rfl, _, _, h3, _⟩
  · omega
  · exact ⟨g1, c1, w1, G2, C2, w', r1, r, o', h3, bb⟩
/-- A row's beginning. -/
theorem head_b {w : World} {S g K c : Nat} {P T : List Int} (o : w.ownsRow S 5 1 (.slice (some ⟨g, 0, none⟩) (K + T.length) c) (K + T.length) (bc (P ++ T))) (hK : K = P.length) : Im w (some ⟨g, 0, none⟩) P := by
  have hlen : (P ++ T).length = K + T.length := by rw [List.length_append, hK]
  rw [← hlen] at o
  rcases Im.of_row o with h | ⟨g', o', e, hg, hc⟩
  · left
    exact (List.append_eq_nil_iff.1 h).1
  · refine .inr ⟨g', o', e, hg, fun j hj => ?_⟩
    have := hc j (by rw [List.length_append]; omega)
    rw [this]
    simp [List.getD, List.getElem?_append_left hj]
theorem head_s {w : World} {S g N c : Nat} {P T : List Smp} (o : w.ownsRow S 38 3 (.slice (some ⟨g, 0, none⟩) (N + T.length) c) (N + T.length) (smc (P ++ T))) (hN : N = P.length) : Sm w (some ⟨g, 0, none⟩) P ∧ Sm w (some ⟨g, N * 3, none⟩) T := by
  have hlen : (P ++ T).length = N + T.length := by rw [List.length_append, hN]
  rw [← hlen] at o
  rcases Sm.of_row o with h | ⟨g', o', e, hg, hc⟩
  · exact ⟨.inl (List.append_eq_nil_iff.1 h).1, .inl (List.append_eq_nil_iff.1 h).2⟩
  · cases e
    refine ⟨.inr ⟨g, 0, rfl, hg, fun j x hj => hc j x (by rw [List.getElem?_append_left (List.getElem?_eq_some_iff.1 hj).1]; exact hj)⟩, .inr ⟨g, N * 3, rfl, hg, fun j x hj => ?_⟩⟩
    have := hc (N + j) x (by rw [List.getElem?_append_right (by omega), hN, Nat.add_sub_cancel_left]; exact hj)
    rw [show 0 + (N + j) * 3 = N * 3 + j * 3 by omega] at this
    exact this
end Go.Proofs.YtedlmjieclaojaaDoor
/- ChunkKeeps: four lists, two lists; samples and bytes written over. -/
namespace Go.Proofs.YtedlmjieclaojaaDoor
open Go.RowKit

def p4 (v0 v1 v2 v3 : Value) (i : Nat) : Value := if i = 0 then v0 else if i = 1 then v1 else if i = 2 then v2 else v3
theorem sep4 (w : World) (S l0 l1 l2 l3 l4 : Nat) (v0 v1 v2 v3 : Value) (n M : Nat) (L T : List Smp) (h0 : Rg w l0 l1 38 3 v0 n (smc L)) (h1 : Rg w l1 l2 38 3 v1 n (smc L)) (h2 : Rg w l2 l3 38 3 v2 M (smc T)) (h3 : Rg w l3 l4 38 3 v3 M (smc T))
    (hn : n ≤ 1000000000) (hM : M ≤ 1000000000) (hS : S ≤ l0) (a1 : l0 ≤ l1) (a2 : l1 ≤ l2) (a3 : l2 ≤ l3) (a4 : l3 ≤ l4) (a5 : l4 ≤ w.heap.size) :
    Calls Tryd.prog 24 #[.slice (some ⟨w.heap.size, 0, none⟩) 4 4] (w.alloc (.cells #[v0, v1, v2, v3] 22)) fun e w' => e = .returned (.bool true) ∧ Kp (fun g => l0 ≤ g ∧ g < l4) w w' := by
  have bA : Below w.heap.size w (w.alloc (.cells #[v0, v1, v2, v3] 22)) := (Below.refl _ _).alloc (Nat.le_refl _) _
  have hnew := heap_alloc_new w (.cells #[v0, v1, v2, v3] 22)
  have hV : ∀ i, i < 4 → i = 0 ∨ i = 1 ∨ i = 2 ∨ i = 3 := fun i hi => by omega
  have hT : ∀ i, i < 4 → ∀ g, (p4 v0 v1 v2 v3 i).ownBlock = some g → (if i = 0 then l0 else if i = 1 then l1 else if i = 2 then l2 else l3) ≤ g ∧ g < (if i = 0 then l1 else if i = 1 then l2 else if i = 2 then l3 else l4) := by
    intro i hi g hg
    rcases hV i hi with rfl | rfl | rfl | rfl
    · exact h0.top g hg
    · exact h1.top g hg
    · exact h2.top g hg
    · exact h3.top g hg
  have k := separate_any S 4 w.heap.size 4 (p4 v0 v1 v2 v3) (fun i => if i < 2 then n else M) (fun i => if i < 2 then L else T) (w.alloc (.cells #[v0, v1, v2, v3] 22))
    ⟨fun i j hi hj hne g hg hg2 => by
        have q1 := hT i hi g hg
        have q2 := hT j hj g hg2
        rcases hV i hi with rfl | rfl | rfl | rfl <;> rcases hV j hj with rfl | rfl | rfl | rfl <;> simp at q1 q2 hne <;> omega,
      fun i hi e => by
        have q1 := hT i hi _ e
        rcases hV i hi with rfl | rfl | rfl | rfl <;> simp at q1 <;> omega,
      fun i hi g hg => by
        have q1 := hT i hi g hg
        have : g < w.heap.size := by rcases hV i hi with rfl | rfl | rfl | rfl <;> simp at q1 <;> omega
        exact Nat.lt_of_lt_of_le this bA.size, by simp⟩
    (fun i hi => by
      rcases hV i hi with rfl | rfl | rfl | rfl
      · exact (h0.below bA).low hS
      · exact (h1.below bA).low (by omega)
      · exact (h2.below bA).low (by omega)
      · exact (h3.below bA).low (by omega))
    (fun i hi => by
      unfold World.cell?
      rw [hnew]
      rcases hV i hi with rfl | rfl | rfl | rfl <;> rfl)
    (fun i hi => by rcases hV i hi with rfl | rfl | rfl | rfl <;> simp <;> omega) (by omega) (by have := bA.size; omega)
  refine k.mono fun e w' q => ⟨q.1, ?_⟩
  have kk : Kp (fun g => l0 ≤ g ∧ g < l4) w (w.alloc (.cells #[v0, v1, v2, v3] 22)) := Kp.of bA
  refine kk.trans' q.2 (fun g hg hm => ?_)
  obtain ⟨i, hi, hb⟩ := hm
  have q1 := hT i hi g hb
  rcases hV i hi with rfl | rfl | rfl | rfl <;> simp at q1 <;> omega
theorem ap2 (w : World) (S l0 l1 l2 : Nat) (v0 v1 : Value) (K : Nat) (P : List Int) (h0 : Rg w l0 l1 5 1 v0 K (bc P)) (h1 : Rg w l1 l2 5 1 v1 K (bc P)) (hK : K ≤ 100000000000) (hS : S ≤ l0) (a1 : l0 ≤ l1) (a2 : l1 ≤ l2) (a3 : l2 ≤ w.heap.size) :
    Calls Tryd.prog 25 #[.slice (some ⟨w.heap.size, 0, none⟩) 2 2] (w.alloc (.cells #[v0, v1] 25)) fun e w' => e = .returned (.bool true) ∧ Kp (fun g => l0 ≤ g ∧ g < l2) w w' := by
  have bA : Below w.heap.size w (w.alloc (.cells #[v0, v1] 25)) := (Below.refl _ _).alloc (Nat.le_refl _) _
  have hnew := heap_alloc_new w (.cells #[v0, v1] 25)
  have hV : ∀ i, i < 2 → i = 0 ∨ i = 1 := fun i hi => by omega
  have hT : ∀ i, i < 2 → ∀ g, (if i = 0 then v0 else v1).ownBlock = some g → (if i = 0 then l0 else l1) ≤ g ∧ g < (if i = 0 then l1 else l2) := by
    intro i hi g hg
    rcases hV i hi with rfl | rfl
    · exact h0.top g hg
    · exact h1.top g hg
  have k := apart_any S 2 w.heap.size 2 (fun i => if i = 0 then v0 else v1) (fun _ => K) (fun _ => P) (w.alloc (.cells #[v0, v1] 25))
    ⟨fun i j hi hj hne g hg hg2 => by
        have q1 := hT i hi g hg
        have q2 := hT j hj g hg2
        rcases hV i hi with rfl | rfl <;> rcases hV j hj with rfl | rfl <;> simp at q1 q2 hne <;> omega,
      fun i hi e => by
        have q1 := hT i hi _ e
        rcases hV i hi with rfl | rfl <;> simp at q1 <;> omega,
      fun i hi g hg => by
        have q1 := hT i hi g hg
        have : g < w.heap.size := by rcases hV i hi with rfl | rfl <;> simp at q1 <;> omega
        exact Nat.lt_of_lt_of_le this bA.size, by simp⟩
    (fun i hi => by
      rcases hV i hi with rfl | rfl
      · exact (h0.below bA).low hS
      · exact (h1.below bA).low (by omega))
    (fun i hi => by
      unfold World.cell?
      rw [hnew]
      rcases hV i hi with rfl | rfl <;> rfl)
    (fun i _ => hK) (by omega) (by have := bA.size; omega)
  refine k.mono fun e w' q => ⟨q.1, ?_⟩
  have kk : Kp (fun g => l0 ≤ g ∧ g < l2) w (w.alloc (.cells #[v0, v1] 25)) := Kp.of bA
  refine kk.trans' q.2 (fun g hg hm => ?_)
  obtain ⟨i, hi, hb⟩ := hm
  have q1 := hT i hi g hb
  rcases hV i hi with rfl | rfl <;> simp at q1 <;> omega

/-- The first k samples written over. -/
def ovl (k : Nat) (s : List Smp) : List Smp := (s.take k).map ovs ++ s.drop k
theorem ovl_len (k : Nat) (s : List Smp) : (ovl k s).length = s.length := by
  unfold ovl
  rw [List.length_append, List.length_map, List.length_take, List.length_drop]
  omega
theorem ovl_zero (s : List Smp) : ovl 0 s = s := by simp [ovl]
theorem ovl_all (s : List Smp) : ovl s.length s = s.map ovs := by simp [ovl]
theorem ovl_get (k : Nat) (s T : List Smp) (h : k < s.length) : (ovl k s ++ T)[k]? = s[k]? := by
  rw [List.getElem?_append_left (by rw [ovl_len]; exact h)]
  unfold ovl
  rw [List.getElem?_append_right (by simp; omega)]
  simp
  congr 1
  omega
theorem ovl_set (k : Nat) (s T : List Smp) (x : Smp) (h : s[k]? = some x) : (ovl k s ++ T).set k (ovs x) = ovl (k + 1) s ++ T := by
  have hk := (List.getElem?_eq_some_iff.1 h).1
  have e1 : s.drop k = x :: s.drop (k + 1) := by
    rw [List.drop_eq_getElem_cons hk]
    congr 1
    exact (List.getElem?_eq_some_iff.1 h).2
  have e2 : s.take (k + 1) = s.take k ++ [x] := by rw [List.take_add_one, h]; rfl
  unfold ovl
  rw [e1, e2, List.map_append, List.append_assoc, List.set_append_right _ _ (by simp; omega)]
  simp
  rw [show k - min k s.length = 0 by omega]
  rfl
/-- A sample stored over another. -/
theorem row_put {W : World} {S g N c k : Nat} {L : List Smp} {x : Smp} (o : W.ownsRow S 38 3 (.slice (some ⟨g, 0, none⟩) N c) N (smc L)) (y : Smp) (hx : L[k]? = some x) :
    (put3 W g k y).ownsRow S 38 3 (.slice (some ⟨g, 0, none⟩) N c) N (smc (L.set k y)) ∧ Kp (fun b => b = g) W (put3 W g k y) ∧ (∀ j, W.frozen? ⟨g, j, none⟩ = false) ∧
      (W.setCell ⟨g, k * 3, none⟩ (.int .i64 y.t)).cell? ⟨g, k * 3 + 1, none⟩ = some (.float .f64 x.v) ∧ (W.setCell ⟨g, k * 3, none⟩ (.int .i64 y.t)).frozen? ⟨g, k * 3 + 1, none⟩ = false ∧
      ((W.setCell ⟨g, k * 3, none⟩ (.int .i64 y.t)).setCell ⟨g, k * 3 + 1, none⟩ (.float .f64 y.v)).cell? ⟨g, k * 3 + 2, none⟩ = some (.bool x.s) ∧ ((W.setCell ⟨g, k * 3, none⟩ (.int .i64 y.t)).setCell ⟨g, k * 3 + 1, none⟩ (.float .f64 y.v)).frozen? ⟨g, k * 3 + 2, none⟩ = false := by
  have o1 := (World.ownsRow.stored o (k * 3) (.int .i64 y.t)).1
  have o2 := (World.ownsRow.stored o1 (k * 3 + 1) (.float .f64 y.v)).1
  have o3 := (World.ownsRow.stored o2 (k * 3 + 2) (.bool y.s)).1
  rw [← smc_set] at o3
  obtain ⟨_, x1, x2⟩ := row_cells o hx
  refine ⟨o3, ?_, fun j => World.ownsRow.frozenAt o j, (cell_off _ _ _ _ _ (by omega)).trans x1, World.ownsRow.frozenAt o1 _, (cell_off _ _ _ _ _ (by omega)).trans ((cell_off _ _ _ _ _ (by omega)).trans x2), World.ownsRow.frozenAt o2 _⟩
  exact (((Kp.refl (fun b => b = g) W).setCell (p := ⟨g, k * 3, none⟩) rfl _).setCell (p := ⟨g, k * 3 + 1, none⟩) rfl _).setCell (p := ⟨g, k * 3 + 2, none⟩) rfl _
/-- The first k bytes written over. -/
def zrl (k : Nat) (P : List Int) : List Int := List.replicate k 0 ++ P.drop k
theorem zrl_zero (P : List Int) : zrl 0 P = P := by simp [zrl]
theorem zrl_all (P : List Int) : zrl P.length P = List.replicate P.length 0 := by simp [zrl]
theorem zrl_set (k : Nat) (P T : List Int) (h : k < P.length) : (zrl k P ++ T).set k 0 = zrl (k + 1) P ++ T := by
  obtain ⟨y, e1⟩ : ∃ y, P.drop k = y :: P.drop (k + 1) := ⟨_, List.drop_eq_getElem_cons h⟩
  unfold zrl
  rw [e1, List.append_assoc, List.set_append_right _ _ (by simp), List.replicate_succ']
  simp
theorem quiet_still {P : Program} {ops : Array Oper} {W : World} {Q : Act → Prop} : ∀ (l : List Oper) (a : Act), wpQuiet P ops (fun w' => w' = W) Q l a → wpStill P ops W Q l a
  | [], _, h => h
  | o :: rest, a, h => by
    unfold wpQuiet at h
    unfold wpStill
    split
    · rename_i hw
      rw [if_pos hw] at h
      obtain ⟨v, h1, h2⟩ := h
      have h3 := h1 W rfl
      have h4 := quiet_still rest _ h2
      unfold Oper.quietAt at h3
      unfold Oper.still
      generalize (execOp a.eval o).run P W = r at *
      cases r with
      | ok n w' =>
        cases n with
        | value u => obtain ⟨rfl, rfl⟩ := h3; exact ⟨rfl, h4⟩
        | skip => obtain ⟨rfl, rfl⟩ := h3; exact ⟨rfl, h4⟩
        | enter f args => obtain ⟨rfl, h5⟩ := h3; exact ⟨rfl, v, h5, h4⟩
        | _ => exact (show False from h3).elim
      | halt x w' => exact (show False from h3).elim
    · rename_i hw
      rw [if_neg hw] at h
      exact quiet_still rest _ h
theorem region_tail {P : Program} {id : Nat} {Q : Exit → Act → World → Prop} {a : Act} {w : World} {l : List Oper} (n : Nat) (hm : P.follows .mixedOrders = true) (hB : Region.lexTailB .any l.toArray n = true)
    (h : wpQuiet P l.toArray (fun w' => w' = w.drew) (fun a' => wpList P l.toArray Q (l.drop n) a' w.drew) (l.take n) a) : (Code.region id l.toArray true).wp P Q a w := wp_region_still_tail n hm hB (quiet_still _ _ h)
end Go.Proofs.YtedlmjieclaojaaDoor
/- ChunkKeeps: the walk. -/
namespace Go.Proofs.YtedlmjieclaojaaDoor
open Go.RowKit

set_option maxHeartbeats 4000000 in
set_option maxRecDepth 100000 in
theorem keeps_walk (a : Option Addr) (c : Nat) (l : List Smp) (after upto : Int) (w : World) (hm : Sm w a l) (hok : ∀ x ∈ l, Sok x) (hs : Scl w) (ht : Tab w) (hl : l.length * 24 ≤ 140737488355328) :
    Calls Tryd.prog 7 #[.slice a l.length c, .int .i64 after, .int .i64 upto] w fun e w' => e = .returned (.bool true) ∧ Below w.heap.size w w' := by
  have k1 := alive_any w hs ht
  have HM : Hid (Sm w a l) := hm
  have HS : Hid (Scl w) := hs
  have HT : Hid (Tab w) := ht
  have HSR : Hid (rsB (srt l) = true ∧ ∀ y ∈ srt l, Sok y) := srt_ok l hok
  have KS : Hid (∀ W, Below w.heap.size w W → Calls Tryd.prog 10 #[.slice a l.length c] W fun e w' => ∃ G C, e = .returned (.slice (some ⟨G, 0, none⟩) (srt l).length C) ∧ w'.ownsRow W.heap.size 38 3 (.slice (some ⟨G, 0, none⟩) (srt l).length C) (srt l).length (smc (srt l)) ∧ Below W.heap.size W w') := fun W h => sorted_any a c l W (HM.out.below h) hl
  obtain ⟨n0, hn0⟩ : ∃ n0, n0 = l.length := ⟨_, rfl⟩
  rw [← hn0] at KS hl ⊢
  obtain ⟨s, hs0⟩ : ∃ s, s = srt l := ⟨_, rfl⟩
  rw [← hs0] at KS HSR
  obtain ⟨n, hn⟩ : ∃ n, n = s.length := ⟨_, rfl⟩
  have HN : Hid (n = s.length) := hn
  rw [← hn] at KS
  clear hm hok hs ht hn0 hs0 hn
  go_enter Tryd.func7, Tryd.ntmps7
  go_wp2_with fail
  go_fit k1
  rintro e w1 ⟨rfl, b1⟩
  have k2 := KS.out w1 b1
  have HB1 : Hid (Below w.heap.size w w1) := b1
  clear k1 b1 KS
  go_wp2_with fail
  go_fit k2
  rintro e w2 ⟨G, C, rfl, o2, b2⟩
  have HZ12 : Hid (w1.heap.size ≤ w2.heap.size) := b2.size
  have HB2 : Hid (Below w.heap.size w w2) := HB1.out.trans (b2.mono HB1.out.size)
  have HO2 : Hid (w2.ownsRow w1.heap.size 38 3 (.slice (some ⟨G, 0, none⟩) n C) n (smc s)) := o2
  clear k2 o2 b2
  by_cases hbig : 100000 < n
  · have hb : (100000 : Int) < (n : Int) := by omega
    go_wp2
    go_ret
    exact ⟨rfl, HB2.out⟩
  · have hb : ¬ (100000 : Int) < (n : Int) := by omega
    have hsf := @run_store_float Tryd.prog
    go_upto_region 7 with fail
    obtain ⟨MB, hMB⟩ : ∃ MB, MB = w2.heap.size := ⟨_, rfl⟩
    obtain ⟨W3, hW3⟩ : ∃ W3, W3 = w2.alloc (.cells #[.int .i64 (-1), .float .f64 0, .bool true] 38) := ⟨_, rfl⟩
    have m0 : W3.cell? ⟨MB, 0, none⟩ = some (.int .i64 (-1)) := by rw [hW3, hMB]; simp
    have m1 : W3.cell? ⟨MB, 1, none⟩ = some (.float .f64 0) := by rw [hW3, hMB]; simp
    have m2 : W3.cell? ⟨MB, 2, none⟩ = some (.bool true) := by rw [hW3, hMB]; simp
    have HW3 : Hid (W3 = _) := hW3
    have HMB : Hid (MB = _) := hMB
    rw [← hMB, ← hW3]
    clear hW3 hMB
    have HC3 : Hid (∀ W, Below W3.heap.size W3 W → ∀ j u, (smc s)[j]? = some u → W.cell? ((⟨G, 0, none⟩ : Addr).add j) = some u) := fun W h j u hj => by
      have q := World.ownsRow.cells HO2.out (g := G) rfl j u hj
      have hlt := World.block_lt_of_cell? w2 _ q
      have bw : Below w2.heap.size w2 W3 := by rw [HW3.out]; exact (Below.refl _ _).alloc (Nat.le_refl _) _
      rw [h.cell (Nat.lt_of_lt_of_le hlt bw.size), bw.cell hlt]
      exact q
    have HW3G : Hid (MB < W3.heap.size) := by rw [HW3.out, HMB.out]; show _ < _; simp
    have HMK : Hid (∀ W, Below W3.heap.size W3 W → W.cell? ⟨MB, 0, none⟩ = some (.int .i64 (-1)) ∧ W.cell? ⟨MB, 1, none⟩ = some (.float .f64 0) ∧ W.cell? ⟨MB, 2, none⟩ = some (.bool true)) := fun W h => ⟨(h.cell (p := ⟨MB, 0, none⟩) HW3G.out).trans m0, (h.cell (p := ⟨MB, 1, none⟩) HW3G.out).trans m1, (h.cell (p := ⟨MB, 2, none⟩) HW3G.out).trans m2⟩
    have HC : Hid (∀ W b, Below W3.heap.size W3 W → W3.heap.size ≤ b → W.heap[b]? = some (.cells #[] 38) → ∃ v' w', (Builtin.append_ #[22, 22] 22 #[.slice (some ⟨b, 0, none⟩) 0 0, .slice (some ⟨G, 0, none⟩) n C]).run Tryd.prog W = .ok v' w' ∧ ∃ g c, v' = .slice (some ⟨g, 0, none⟩) n c ∧ Hid (w'.ownsRow W3.heap.size 38 3 (.slice (some ⟨g, 0, none⟩) n c) n (smc s)) ∧ Hid (Kp (fun k => k = b) W w') ∧ Hid (Below W3.heap.size W3 w') ∧ (w'.cell? ⟨MB, 0, none⟩ = some (.int .i64 (-1)) ∧ w'.cell? ⟨MB, 1, none⟩ = some (.float .f64 0) ∧ w'.cell? ⟨MB, 2, none⟩ = some (.bool true))) := fun W b h1 h2 h3 => by
      obtain ⟨v', w', r, g, c, e, o, k⟩ := copy_s W W3.heap.size b G n C s h2 h1.size h3 HN.out (by omega) (HC3.out W h1)
      have b' : Below W3.heap.size W3 w' := h1.trans (k.below h1.size (fun x hx e => by omega))
      exact ⟨v', w', r, g, c, e, o, k, b', HMK.out _ b'⟩
    have HD : Hid (∀ W w5 g5 c5 b2, Hid (Below W3.heap.size W3 w5) → Below w5.heap.size w5 W → Hid (w5.ownsRow W3.heap.size 38 3 (.slice (some ⟨g5, 0, none⟩) n c5) n (smc s)) → W.heap[b2]? = some (.cells #[.int .i64 (-1), .float .f64 0, .bool true, .int .i64 (-1), .float .f64 0, .bool true, .int .i64 (-1), .float .f64 0, .bool true] 38) → ∃ v' w', (Builtin.append_ #[22, 22] 22 #[.slice (some ⟨g5, 0, none⟩) n c5, .slice (some ⟨b2, 0, none⟩) 3 3]).run Tryd.prog W = .ok v' w' ∧ ∃ g c, v' = .slice (some ⟨g, 0, none⟩) (n + 3) c ∧ Hid (w'.ownsRow W3.heap.size 38 3 (.slice (some ⟨g, 0, none⟩) (n + 3) c) (n + 3) (smc (s ++ [mkx, mkx, mkx]))) ∧ Hid (Below W3.heap.size W3 w') ∧ (w'.cell? ⟨MB, 0, none⟩ = some (.int .i64 (-1)) ∧ w'.cell? ⟨MB, 1, none⟩ = some (.float .f64 0) ∧ w'.cell? ⟨MB, 2, none⟩ = some (.bool true))) := fun W w5 g5 c5 b2 h1 h2 h3 h4 => by
      have bW : Below W3.heap.size W3 W := h1.out.trans (h2.mono h1.out.size)
      obtain ⟨v', w', r, g, c, e, o, k⟩ := marks_s W W3.heap.size b2 n _ s bW.size h4 HN.out (by omega) (Kp.row (M := fun _ => False) (Kp.of h2) h3.out (fun _ _ => id))
      have b' : Below W3.heap.size W3 w' := bW.trans k
      exact ⟨v', w', r, g, c, e, o, b', HMK.out _ b'⟩
    have HKP : Hid (∀ (W w' : World) (b k : Nat) (o : Obj), Hid (Kp (fun k => k = b) W w') → W.heap[k]? = some o → k ≠ b → w'.heap[k]? = some o) := fun W w' b k o h1 h2 h3 => (h1.out.block k (Array.getElem?_eq_some_iff.1 h2).1 h3).trans h2
    refine gather (fun A a w' => ∃ g c u43 u45 u49, a = ((((((((A.put (some 43) u43).put (some 44) (.slice (some ⟨G, 0, none⟩) n C)).put (some 45) u45).put (some 46) mkV).put (some 47) mkV).put (some 48) mkV).put (some 49) u49).put (some 50) (.slice (some ⟨g, 0, none⟩) (n + 3) c)).put (some 9) (.slice (some ⟨g, 0, none⟩) (n + 3) c) ∧ Hid (w'.ownsRow W3.heap.size 38 3 (.slice (some ⟨g, 0, none⟩) (n + 3) c) (n + 3) (smc (s ++ [mkx, mkx, mkx]))) ∧ Hid (Below W3.heap.size W3 w') ∧ (w'.cell? ⟨MB, 0, none⟩ = some (.int .i64 (-1)) ∧ w'.cell? ⟨MB, 1, none⟩ = some (.float .f64 0) ∧ w'.cell? ⟨MB, 2, none⟩ = some (.bool true))) ?hq ?h
    case h =>
      go_region_held3 (fun w' => w'.cell? ⟨MB, 0, none⟩ = some (.int .i64 (-1)) ∧ w'.cell? ⟨MB, 1, none⟩ = some (.float .f64 0) ∧ w'.cell? ⟨MB, 2, none⟩ = some (.bool true)) (first | exact ⟨m0, m1, m2⟩ | assumption | go_keep) (first
        | (refine step_append_ex rfl (.tmp 43) (.tmp 44) 22 22 rfl _ _ rfl rfl (HC.out _ _ (by repeat (first | exact Below.refl _ _ | refine Below.drew ?_ | refine Below.alloc ?_ (by simp) _)) (by simp) (by (try simp only [heap_drew]); first | (refine heap_new_at _ _ _ ?_; (first | rfl | (simp; done))) | (refine (Below.heap_alloc _ _ _ ?_).trans ?_; simp; (try simp only [heap_drew]); (refine heap_new_at _ _ _ ?_; (first | rfl | (simp; done)))))) ?_
           rintro _ w5 ⟨g5, c5, rfl, o5, k5, b5, n5⟩)
        | (refine step_append_ex rfl (.tmp 45) (.tmp 49) 22 22 rfl _ _ rfl rfl (HD.out _ w5 g5 c5 _ b5 (by repeat (first | exact Below.refl _ _ | refine Below.drew ?_ | refine Below.alloc ?_ (by simp) _)) o5 (by (try simp only [heap_drew]); first | (refine heap_new_at _ _ _ ?_; (first | rfl | (simp; done))) | (refine HKP.out _ _ _ _ _ k5 ?_ ?_; (first | exact two_hi _ _ _ | exact two_lo _ _ _); (simp)))) ?_
           rintro _ w6 ⟨g6, c6, rfl, o6, b6, n6⟩))
      all_goals exact ⟨g6, c6, _, _, _, rfl, o6, b6, n6⟩
    rintro a6 w6 ⟨g6, c6, u43, u45, u49, rfl, o6, b6, n6⟩
    have HM6 : Hid (w6.cell? ⟨MB, 0, none⟩ = some (.int .i64 (-1)) ∧ w6.cell? ⟨MB, 1, none⟩ = some (.float .f64 0) ∧ w6.cell? ⟨MB, 2, none⟩ = some (.bool true)) := n6
    have hc6 : n + 3 ≤ c6 := by
      obtain ⟨_, _, e, h, _⟩ := sl_cases o6.out
      cases e
      exact h
    have hc6i : (n : Int) + 3 ≤ c6 := by omega
    have hc6j : (n : Int) ≤ c6 := by omega
    have bW : Below w2.heap.size w2 W3 := by rw [HW3.out]; exact (Below.refl _ _).alloc (Nat.le_refl _) _
    have b26 : Below w2.heap.size w2 w6 := bW.trans (b6.out.mono bW.size)
    have B6 : Hid (Below w.heap.size w w6) := HB2.out.trans (b26.mono HB2.out.size)
    have F6 : Hid (Rg w6 W3.heap.size w6.heap.size 38 3 (.slice (some ⟨g6, 0, none⟩) (n + 3) c6) (n + 3) (smc (s ++ [mkx, mkx, mkx]))) := Rg.of o6.out
    have S6 : Hid (Rg w6 w1.heap.size w2.heap.size 38 3 (.slice (some ⟨G, 0, none⟩) n C) n (smc s)) := (Rg.of HO2.out).below b26
    have Z26 : Hid (w.heap.size ≤ w1.heap.size ∧ w1.heap.size ≤ w2.heap.size ∧ w2.heap.size ≤ MB ∧ MB < W3.heap.size ∧ W3.heap.size ≤ w6.heap.size) := by
      have h1 := HMB.out
      refine ⟨HB1.out.size, ?_, by omega, HW3G.out, b6.out.size⟩
      exact Nat.le_trans (Nat.le_refl _) HZ12.out
    obtain ⟨K, hK⟩ : ∃ K, K = (pk (frm s)).length := ⟨_, rfl⟩
    have HK : Hid (K = (pk (frm s)).length) := hK
    have hpe := pkE_good s (by have := HN.out; omega) HSR.out.1
    have HP : Hid (pkE s = 0 ∧ pkB s = pk (frm s)) := hpe
    have hKs := pk_small s HSR.out.2 (by have := HN.out; omega)
    rw [← hK] at hKs
    have hKi : (K : Int) ≤ 100000000 := by omega
    have HSM : Hid (Sm w6 (some ⟨g6, 0, none⟩) s ∧ Sm w6 (some ⟨g6, n * 3, none⟩) [mkx, mkx, mkx]) := head_s (T := [mkx, mkx, mkx]) o6.out HN.out
    have KP : Hid (∀ W, Below w6.heap.size w6 W → Calls Tryd.prog 11 #[.slice (some ⟨g6, 0, none⟩) n c6] W fun e w' => ∃ v, e = .returned (.tuple #[v, .int .i64 0]) ∧ w'.ownsRow W.heap.size 5 1 v K (bc (pk (frm s))) ∧ Below W.heap.size W w') := fun W h => by
      have := pack_any (some ⟨g6, 0, none⟩) c6 s W (HSM.out.1.below h) HSR.out.2 (HS.out.below (B6.out.trans (h.mono B6.out.size))) (HT.out.below (B6.out.trans (h.mono B6.out.size))) (by have := HN.out; omega)
      unfold PkR at this
      rw [HP.out.1, HP.out.2, ← HN.out, ← HK.out] at this
      exact this
    have b0 : Hid (Below w6.heap.size w6 w6) := Below.refl _ _
    clear bW b26 n6 o6 b6 hpe hK HC HD HKP HMK HC3 HO2 HB1
    go_wp2_with fail
    go_fit (KP.out _ b0.out)
    rintro e w7 ⟨va, rfl, oa, b7⟩
    have C7 : Hid (Below w6.heap.size w6 w7) := b7
    have A7 : Hid (Rg w7 w6.heap.size w7.heap.size 5 1 va K (bc (pk (frm s)))) := Rg.of oa
    clear oa b7
    go_wp2_with fail
    go_fit (KP.out _ C7.out)
    rintro e w8 ⟨vc, rfl, oc, b8⟩
    have C8 : Hid (Below w6.heap.size w6 w8) := C7.out.trans (b8.mono C7.out.size)
    have A8 : Hid (Rg w8 w6.heap.size w7.heap.size 5 1 va K (bc (pk (frm s)))) := A7.out.below b8
    have D8 : Hid (Rg w8 w7.heap.size w8.heap.size 5 1 vc K (bc (pk (frm s)))) := Rg.of oc
    have Z78 : Hid (w6.heap.size ≤ w7.heap.size ∧ w7.heap.size ≤ w8.heap.size) := ⟨C7.out.size, b8.size⟩
    obtain ⟨aa, ca, rfl, hca, hna, _⟩ := sl_cases A8.out.row
    obtain ⟨ac, cc, rfl, hcc, hnc, _⟩ := sl_cases D8.out.row
    have HBY : Hid (By (pk (frm s))) := (show By _ by rw [← HP.out.2]; exact pkB_by s)
    have KS1 : Hid (∀ W, Below w8.heap.size w8 W → Calls Tryd.prog 20 #[.slice aa K ca, .slice ac K cc] W fun e w' => e = .returned (.bool true) ∧ w' = W) := fun W h => by
      have h1 := A8.out.row
      have h2 := D8.out.row
      rw [HK.out] at h1 h2
      have := same_any aa ac ca cc (pk (frm s)) (pk (frm s)) W ((Im.of_row h1).below h) ((Im.of_row h2).below h) HBY.out HBY.out
      rw [← HK.out, decide_eq_true rfl] at this
      exact this
    have F8 : Hid (Rg w8 W3.heap.size w6.heap.size 38 3 (.slice (some ⟨g6, 0, none⟩) (n + 3) c6) (n + 3) (smc (s ++ [mkx, mkx, mkx]))) := F6.out.below C8.out
    have S8 : Hid (Rg w8 w1.heap.size w2.heap.size 38 3 (.slice (some ⟨G, 0, none⟩) n C) n (smc s)) := S6.out.below C8.out
    have HSM8 : Hid (Sm w8 (some ⟨g6, 0, none⟩) s ∧ Sm w8 (some ⟨g6, n * 3, none⟩) [mkx, mkx, mkx] ∧ Sm w8 (some ⟨G, 0, none⟩) s) := ⟨HSM.out.1.below C8.out, HSM.out.2.below C8.out, by have h := S8.out.row; rw [HN.out] at h; exact Sm.of_row h⟩
    have KL1 : Hid (∀ W, Below w8.heap.size w8 W → Calls Tryd.prog 15 #[.slice (some ⟨g6, 0, none⟩) n c6, .slice (some ⟨G, 0, none⟩) n C, .bool false] W fun e w' => e = .returned (.bool true) ∧ Below w8.heap.size w8 w') := fun W h => by
      have := alike_true (some ⟨g6, 0, none⟩) (some ⟨G, 0, none⟩) c6 C s s false W (HSM8.out.1.below h) (HSM8.out.2.2.below h) rfl (fun i x y hx hy => by rw [hx] at hy; cases hy; exact alk_same x) (by have := HN.out; omega)
      rw [← HN.out] at this
      exact this.mono fun e w' q => ⟨q.1, h.trans (q.2.mono h.size)⟩
    have KL2 : Hid (∀ W b2, Below w8.heap.size w8 W → W.heap[b2]? = some mk9 → Calls Tryd.prog 15 #[.slice (some ⟨g6, n * 3, none⟩) 3 (c6 - n), .slice (some ⟨b2, 0, none⟩) 3 3, .bool false] W fun e w' => e = .returned (.bool true) ∧ Hid (Below w8.heap.size w8 w')) := fun W b2 h hm => by
      have hsm : Sm W (some ⟨b2, 0, none⟩) [mkx, mkx, mkx] := by
        refine .inr ⟨b2, 0, rfl, (Array.getElem?_eq_some_iff.1 hm).1, fun j x hj => ?_⟩
        have hj3 : j < 3 := (List.getElem?_eq_some_iff.1 hj).1
        have hx : x = mkx := by
          rcases (show j = 0 ∨ j = 1 ∨ j = 2 by omega) with rfl | rfl | rfl <;> simpa using hj.symm
        subst hx
        unfold World.cell?
        rcases (show j = 0 ∨ j = 1 ∨ j = 2 by omega) with rfl | rfl | rfl <;> (rw [hm]; exact ⟨rfl, rfl, rfl⟩)
      have := alike_true (some ⟨g6, n * 3, none⟩) (some ⟨b2, 0, none⟩) (c6 - n) 3 [mkx, mkx, mkx] [mkx, mkx, mkx] false W (HSM8.out.2.1.below h) hsm rfl (fun i x y hx hy => by rw [hx] at hy; cases hy; exact alk_same x) (by simp)
      exact this.mono fun e w' q => ⟨q.1, h.trans (q.2.mono h.size)⟩
    have HM8 : Hid (∀ W, Below w8.heap.size w8 W → W.cell? ⟨MB, 0, none⟩ = some (.int .i64 (-1)) ∧ W.cell? ⟨MB, 1, none⟩ = some (.float .f64 0) ∧ W.cell? ⟨MB, 2, none⟩ = some (.bool true)) := fun W h => by
      have bb := C8.out.trans (h.mono C8.out.size)
      have hlt : MB < w6.heap.size := by have := Z26.out; omega
      exact ⟨(bb.cell (p := ⟨MB, 0, none⟩) hlt).trans HM6.out.1, (bb.cell (p := ⟨MB, 1, none⟩) hlt).trans HM6.out.2.1, (bb.cell (p := ⟨MB, 2, none⟩) hlt).trans HM6.out.2.2⟩
    obtain ⟨m0, m1, m2⟩ := HM8.out w8 (Below.refl _ _)
    clear oc b8 A7 HSM hca hcc hna hnc C7
    have hx1 : ¬ c6 = n := by omega
    have hx2 : (0 : Int) ≤ (n : Int) := by omega
    have hx3 : (n : Int) ≤ (n : Int) + 3 := by omega
    have hx4 : ¬ c6 - n = 0 := by omega
    have hx5 : (n : Int) + 3 - (n : Int) = 3 := by omega
    have hx6 : n + 3 - n = 3 := by omega
    go_upto_region 11 with fail
    refine gather (fun _ aA w' => ∃ u35 u36 u37 u38 u39 u40 u41 u42 u43 u44 u45 u46 u47 u48 u49 u50 u51 u52 u53 u54 u55 u56 u57 u58 u59 u60 u61 u62 u63 u64 u65 u66 u67 u68 u69 u70 u71 u72 u73 u74 u75 u76 u77 u78 u79 u80 u81 u82 u83 u84 u85 u86 u87 u88 u89 u90 u91 u92 u93 u94 u95 u96 : Value, aA = ⟨#[.slice a n0 c, .int .i64 after, .int .i64 upto, undef, undef, undef, .bool false, .slice (some ⟨G, 0, none⟩) n C, .pointer (some ⟨MB, 0, none⟩), .slice (some ⟨g6, 0, none⟩) (n + 3) c6, .slice (some ⟨g6, 0, none⟩) n c6, .slice aa K ca, .int .i64 0, .slice ac K cc, .int .i64 0, undef, undef, undef, undef, undef, undef, undef, undef, undef, undef, undef, undef, undef, undef, undef, undef, undef, undef, undef, undef, u35, u36, u37, u38, u39, u40, u41, u42, u43, u44, u45, u46, u47, u48, u49, u50, u51, u52, u53, u54, u55, u56, u57, u58, u59, u60, u61, u62, u63, u64, u65, u66, u67, u68, u69, u70, u71, u72, u73, u74, u75, u76, u77, u78, u79, u80, u81, u82, u83, u84, u85, u86, u87, u88, u89, u90, u91, u92, u93, u94, u95, u96, .bool false, undef, undef, undef, undef, undef, undef, undef, undef, undef, undef, undef, undef, undef, undef, undef, undef, undef, undef, undef, undef, undef, undef, undef, undef, undef, undef, undef, undef, undef, undef, undef, undef, undef, undef, undef, undef, undef, undef, undef, undef, undef, undef, undef, undef, undef, undef, undef, undef, undef, undef, undef, undef, undef, undef, undef, undef, undef, undef, undef, undef, undef, undef, undef, undef, undef, undef, undef, undef, undef, undef, undef, undef, undef, undef, undef, undef, undef, undef, undef, undef, undef, undef, undef, undef, undef, undef, undef, undef, undef, undef, undef, undef, undef, undef, undef, undef, undef, undef, undef, undef, undef, undef, undef, undef, undef, undef, undef, undef, undef, undef, undef, undef, undef, undef, undef, undef, undef, undef, undef, undef, undef, undef, undef, undef, undef, undef, undef, undef, undef, undef, undef, undef, undef, undef, undef, undef, undef, undef, undef, undef, undef, undef, undef, undef, undef, undef, undef, undef, undef, undef, undef, undef, undef, undef, undef, undef, undef, undef, undef, undef, undef, undef, undef, undef, undef, undef, undef, undef, undef, undef, undef, undef, undef, undef, undef, undef, undef, undef, undef, undef, undef, undef, undef, undef, undef, undef, undef], []⟩ ∧ Hid (Below w8.heap.size w8 w')) ?hq2 ?h2
    case h2 =>
      go_region_held3 (fun w' => w'.cell? ⟨MB, 0, none⟩ = some (.int .i64 (-1)) ∧ w'.cell? ⟨MB, 1, none⟩ = some (.float .f64 0) ∧ w'.cell? ⟨MB, 2, none⟩ = some (.bool true)) (first | exact ⟨m0, m1, m2⟩ | exact HM8.out _ (by repeat (first | exact Below.refl _ _ | assumption | exact Hid.out (by assumption) | refine Below.drew ?_ | refine Below.alloc ?_ (by first | assumption | (simp; done) | (simp; omega)) _))) (first | (go_at_call 20; go_fit (KS1.out _ (by repeat (first | exact Below.refl _ _ | refine Below.drew ?_))); rintro e wa ⟨rfl, rfl⟩) | (go_at_call 15; go_fit (KL1.out _ (by repeat (first | exact Below.refl _ _ | refine Below.drew ?_))); rintro e wb ⟨rfl, bb⟩; have hbsz := bb.size) | (go_at_call 15; go_fit (KL2.out _ _ (by repeat (first | exact bb | refine Below.drew ?_ | refine Below.alloc ?_ (by have := bb.size; simp; omega) _)) (by (try simp only [heap_drew]); refine heap_new_at _ _ _ ?_; first | rfl | (simp; done))); rintro e wc ⟨rfl, C9⟩))
      all_goals exact ⟨_, _, _, _, _, _, _, _, _, _, _, _, _, _, _, _, _, _, _, _, _, _, _, _, _, _, _, _, _, _, _, _, _, _, _, _, _, _, _, _, _, _, _, _, _, _, _, _, _, _, _, _, _, _, _, _, _, _, _, _, _, _, rfl, C9⟩
    rintro a9 w9 ⟨u35, u36, u37, u38, u39, u40, u41, u42, u43, u44, u45, u46, u47, u48, u49, u50, u51, u52, u53, u54, u55, u56, u57, u58, u59, u60, u61, u62, u63, u64, u65, u66, u67, u68, u69, u70, u71, u72, u73, u74, u75, u76, u77, u78, u79, u80, u81, u82, u83, u84, u85, u86, u87, u88, u89, u90, u91, u92, u93, u94, u95, u96, rfl, C9⟩
    have B9 : Hid (Below w.heap.size w w9) := (B6.out.trans (C8.out.mono B6.out.size)).trans (C9.out.mono (Nat.le_trans B6.out.size C8.out.size))
    have A9 : Hid (Rg w9 w6.heap.size w7.heap.size 5 1 (.slice aa K ca) K (bc (pk (frm s)))) := A8.out.below C9.out
    have D9 : Hid (Rg w9 w7.heap.size w8.heap.size 5 1 (.slice ac K cc) K (bc (pk (frm s)))) := D8.out.below C9.out
    have F9 : Hid (Rg w9 W3.heap.size w6.heap.size 38 3 (.slice (some ⟨g6, 0, none⟩) (n + 3) c6) (n + 3) (smc (s ++ [mkx, mkx, mkx]))) := F8.out.below C9.out
    have S9 : Hid (Rg w9 w1.heap.size w2.heap.size 38 3 (.slice (some ⟨G, 0, none⟩) n C) n (smc s)) := S8.out.below C9.out
    have Z89 : Hid (w8.heap.size ≤ w9.heap.size) := C9.out.size
    clear m0 m1 m2 HM8 HM6 KS1 KL1 KL2 HSM8 A8 D8 F8 S8 F6 S6 KP b0 hx1 hx2 hx3 hx4 hx5 hx6
    obtain ⟨g10, c10, w10, r1, o10, b10, hg10, hg10'⟩ := copy_b w9 w6.heap.size aa ca (pk (frm s)) K HK.out A9.out.row (by omega)
    have Y10 : Hid (Rg w10 w9.heap.size w10.heap.size 5 1 (.slice (some ⟨g10, 0, none⟩) K c10) K (bc (pk (frm s)))) := Rg.of o10
    have A10 : Hid (Rg w10 w6.heap.size w7.heap.size 5 1 (.slice aa K ca) K (bc (pk (frm s)))) := A9.out.below b10
    obtain ⟨g11, c11, w11, gw, cw, w12, r2, r3, o12, hcw, b12⟩ := wide_b w10 w6.heap.size aa ca (pk (frm s)) K HK.out A10.out.row (by omega)
    have BB : Hid (Below w9.heap.size w9 w12) := b10.trans (b12.mono b10.size)
    have Q12 : Hid (Rg w12 w10.heap.size w12.heap.size 5 1 (.slice (some ⟨gw, 0, none⟩) (K + 3) cw) (K + 3) (bc (pk (frm s) ++ [7, 8, 9]))) := Rg.of o12
    have Y12 : Hid (Rg w12 w9.heap.size w10.heap.size 5 1 (.slice (some ⟨g10, 0, none⟩) K c10) K (bc (pk (frm s)))) := Y10.out.below b12
    have A12 : Hid (Rg w12 w6.heap.size w7.heap.size 5 1 (.slice aa K ca) K (bc (pk (frm s)))) := A9.out.below BB.out
    have D12 : Hid (Rg w12 w7.heap.size w8.heap.size 5 1 (.slice ac K cc) K (bc (pk (frm s)))) := D9.out.below BB.out
    have F12 : Hid (Rg w12 W3.heap.size w6.heap.size 38 3 (.slice (some ⟨g6, 0, none⟩) (n + 3) c6) (n + 3) (smc (s ++ [mkx, mkx, mkx]))) := F9.out.below BB.out
    have S12 : Hid (Rg w12 w1.heap.size w2.heap.size 38 3 (.slice (some ⟨G, 0, none⟩) n C) n (smc s)) := S9.out.below BB.out
    have B12 : Hid (Below w.heap.size w w12) := B9.out.trans (BB.out.mono B9.out.size)
    have Z912 : Hid (w9.heap.size ≤ w10.heap.size ∧ w10.heap.size ≤ w12.heap.size) := ⟨b10.size, b12.size⟩
    have hcwi : (K : Int) + 3 ≤ cw := by omega
    have hcwj : (K : Int) ≤ cw := by omega
    have HIB : Hid (Im w12 (some ⟨gw, 0, none⟩) (pk (frm s))) := head_b (T := [7, 8, 9]) o12 HK.out
    obtain ⟨e7, e8, e9⟩ : w12.cell? ⟨gw, K, none⟩ = some (.int .u8 7) ∧ w12.cell? ⟨gw, K + 1, none⟩ = some (.int .u8 8) ∧ w12.cell? ⟨gw, K + 2, none⟩ = some (.int .u8 9) := by
      refine ⟨?_, ?_, ?_⟩
      · rw [World.ownsRow.cellAt o12 K (by omega), HK.out]; simp [bc]
      · rw [World.ownsRow.cellAt o12 (K + 1) (by omega), HK.out]; simp [bc]
      · rw [World.ownsRow.cellAt o12 (K + 2) (by omega), HK.out]; simp [bc]
    have HE : Hid (w12.cell? ⟨gw, K, none⟩ = some (.int .u8 7) ∧ w12.cell? ⟨gw, K + 1, none⟩ = some (.int .u8 8) ∧ w12.cell? ⟨gw, K + 2, none⟩ = some (.int .u8 9)) := ⟨e7, e8, e9⟩
    have HGW : Hid (gw < w12.heap.size) := World.block_lt_of_cell? w12 _ e7
    have hup := unp_pk s HSR.out.2 HP.out.1
    have HUP : Hid (upE (pk (frm s)) = 0 ∧ upL (pk (frm s)) = s.map nrm) := ⟨by unfold upE; rw [hup]; rfl, by unfold upL; rw [hup]; rfl⟩
    have KU : Hid (∀ W, Below w12.heap.size w12 W → Calls Tryd.prog 13 #[.slice (some ⟨gw, 0, none⟩) K cw] W fun e w' => ∃ v, e = .returned (.tuple #[v, .int .i64 0]) ∧ w'.ownsRow W.heap.size 38 3 v n (smc (s.map nrm)) ∧ Below W.heap.size W w') := fun W h => by
      have := unpack_any (some ⟨gw, 0, none⟩) cw (pk (frm s)) W (HIB.out.below h) HBY.out (HS.out.below (B12.out.trans (h.mono B12.out.size))) (HT.out.below (B12.out.trans (h.mono B12.out.size))) (by have := HK.out; omega)
      unfold UpR at this
      rw [HUP.out.1, HUP.out.2, List.length_map, ← HN.out, ← HK.out] at this
      exact this
    obtain ⟨M, hM⟩ : ∃ M, M = (btw after upto (s.map nrm)).length := ⟨_, rfl⟩
    have HMM : Hid (M = (btw after upto (s.map nrm)).length) := hM
    have hMn : M ≤ n := by
      have h1 := btw_len after upto (s.map nrm)
      rw [List.length_map] at h1
      have := HN.out
      omega
    have KB : Hid (∀ W, Below w12.heap.size w12 W → Calls Tryd.prog 23 #[.slice (some ⟨gw, 0, none⟩) K cw, .int .i64 after, .int .i64 upto] W fun e w' => ∃ v, e = .returned (.tuple #[v, .int .i64 0]) ∧ w'.ownsRow W.heap.size 38 3 v M (smc (btw after upto (s.map nrm))) ∧ Below W.heap.size W w') := fun W h => by
      have := between_any (some ⟨gw, 0, none⟩) cw (pk (frm s)) after upto W (HIB.out.below h) HBY.out (HS.out.below (B12.out.trans (h.mono B12.out.size))) (HT.out.below (B12.out.trans (h.mono B12.out.size))) (by have := HK.out; omega)
      unfold BwR at this
      rw [HUP.out.1, HUP.out.2, ← HK.out, ← HMM.out] at this
      exact this
    have b0 : Hid (Below w12.heap.size w12 w12) := Below.refl _ _
    clear b10 b12 o10 o12 hg10 hg10' Y10 A10 A9 D9 F9 S9 BB hup hM e7 e8 e9 hcw
    go_wp2_with (first | (at_builtin; refine wpList_append_run rfl (.tmp 98) (.tmp 99) 25 25 rfl _ _ rfl rfl r1 ?_) | (at_builtin; refine wpList_append_run rfl (.tmp 101) (.tmp 102) 25 25 rfl _ _ rfl rfl r2 ?_) | (at_builtin; refine wpList_append_run rfl (.tmp 103) (.tmp 104) 25 25 rfl _ _ rfl rfl r3 ?_))
    go_fit (KU.out _ b0.out)
    rintro e w13 ⟨vx, rfl, ox, b13⟩
    have C13 : Hid (Below w12.heap.size w12 w13) := b13
    have X13 : Hid (Rg w13 w12.heap.size w13.heap.size 38 3 vx n (smc (s.map nrm))) := Rg.of ox
    clear ox b13 r1 r2 r3
    go_wp2_with fail
    go_fit (KU.out _ C13.out)
    rintro e w14 ⟨vy, rfl, oy, b14⟩
    have C14 : Hid (Below w12.heap.size w12 w14) := C13.out.trans (b14.mono C13.out.size)
    have X14 : Hid (Rg w14 w12.heap.size w13.heap.size 38 3 vx n (smc (s.map nrm))) := X13.out.below b14
    have Y14 : Hid (Rg w14 w13.heap.size w14.heap.size 38 3 vy n (smc (s.map nrm))) := Rg.of oy
    have Z14 : Hid (w13.heap.size ≤ w14.heap.size) := b14.size
    clear oy b14 X13
    go_wp2_with fail
    go_fit (KB.out _ C14.out)
    rintro e w15 ⟨vw, rfl, ow, b15⟩
    have C15 : Hid (Below w12.heap.size w12 w15) := C14.out.trans (b15.mono C14.out.size)
    have X15 : Hid (Rg w15 w12.heap.size w13.heap.size 38 3 vx n (smc (s.map nrm))) := X14.out.below b15
    have Y15 : Hid (Rg w15 w13.heap.size w14.heap.size 38 3 vy n (smc (s.map nrm))) := Y14.out.below b15
    have U15 : Hid (Rg w15 w14.heap.size w15.heap.size 38 3 vw M (smc (btw after upto (s.map nrm)))) := Rg.of ow
    have Z15 : Hid (w14.heap.size ≤ w15.heap.size) := b15.size
    clear ow b15 X14 Y14
    go_wp2_with fail
    go_fit (KB.out _ C15.out)
    rintro e w16 ⟨vz, rfl, oz, b16⟩
    have C16 : Hid (Below w12.heap.size w12 w16) := C15.out.trans (b16.mono C15.out.size)
    have X16 : Hid (Rg w16 w12.heap.size w13.heap.size 38 3 vx n (smc (s.map nrm))) := X15.out.below b16
    have Y16 : Hid (Rg w16 w13.heap.size w14.heap.size 38 3 vy n (smc (s.map nrm))) := Y15.out.below b16
    have U16 : Hid (Rg w16 w14.heap.size w15.heap.size 38 3 vw M (smc (btw after upto (s.map nrm)))) := U15.out.below b16
    have V16 : Hid (Rg w16 w15.heap.size w16.heap.size 38 3 vz M (smc (btw after upto (s.map nrm)))) := Rg.of oz
    have Z16 : Hid (w12.heap.size ≤ w13.heap.size ∧ w13.heap.size ≤ w14.heap.size ∧ w14.heap.size ≤ w15.heap.size ∧ w15.heap.size ≤ w16.heap.size) := ⟨C13.out.size, Z14.out, Z15.out, b16.size⟩
    have Q16 : Hid (Rg w16 w10.heap.size w12.heap.size 5 1 (.slice (some ⟨gw, 0, none⟩) (K + 3) cw) (K + 3) (bc (pk (frm s) ++ [7, 8, 9]))) := Q12.out.below C16.out
    have Y6 : Hid (Rg w16 w9.heap.size w10.heap.size 5 1 (.slice (some ⟨g10, 0, none⟩) K c10) K (bc (pk (frm s)))) := Y12.out.below C16.out
    have A16 : Hid (Rg w16 w6.heap.size w7.heap.size 5 1 (.slice aa K ca) K (bc (pk (frm s)))) := A12.out.below C16.out
    have D16 : Hid (Rg w16 w7.heap.size w8.heap.size 5 1 (.slice ac K cc) K (bc (pk (frm s)))) := D12.out.below C16.out
    have F16 : Hid (Rg w16 W3.heap.size w6.heap.size 38 3 (.slice (some ⟨g6, 0, none⟩) (n + 3) c6) (n + 3) (smc (s ++ [mkx, mkx, mkx]))) := F12.out.below C16.out
    have S16 : Hid (Rg w16 w1.heap.size w2.heap.size 38 3 (.slice (some ⟨G, 0, none⟩) n C) n (smc s)) := S12.out.below C16.out
    have B16 : Hid (Below w.heap.size w w16) := B12.out.trans (C16.out.mono B12.out.size)
    have KQ : Hid (Calls Tryd.prog 20 #[.slice (some ⟨gw, 0, none⟩) K cw, .slice (some ⟨g10, 0, none⟩) K c10] w16 fun e w' => e = .returned (.bool true) ∧ w' = w16) := by
      have h2 := Y6.out.row
      rw [HK.out] at h2
      have := same_any (some ⟨gw, 0, none⟩) (some ⟨g10, 0, none⟩) cw c10 (pk (frm s)) (pk (frm s)) w16 (HIB.out.below C16.out) (Im.of_row h2) HBY.out HBY.out
      rw [← HK.out, decide_eq_true rfl] at this
      exact this
    have f7 := (C16.out.cell (p := ⟨gw, K, none⟩) HGW.out).trans HE.out.1
    have f8 := (C16.out.cell (p := ⟨gw, K + 1, none⟩) HGW.out).trans HE.out.2.1
    have f9 := (C16.out.cell (p := ⟨gw, K + 2, none⟩) HGW.out).trans HE.out.2.2
    clear oz b16 X15 Y15 U15 A12 D12 F12 S12 Y12 Q12 KU KB b0 C13 C14 C15 HE
    go_wp2_with fail
    go_fit KQ.out
    rintro e w17 ⟨rfl, hw⟩
    obtain rfl : w16 = w17 := hw.symm
    clear hw
    go_wp2_with fail
    obtain ⟨ax, cx, rfl, _, _, _⟩ := sl_cases X16.out.row
    obtain ⟨ay, cy, rfl, _, _, _⟩ := sl_cases Y16.out.row
    obtain ⟨aw, cw2, rfl, _, _, _⟩ := sl_cases U16.out.row
    obtain ⟨az, cz, rfl, _, _, _⟩ := sl_cases V16.out.row
    have ALK : Hid (∀ (i : Nat) x y, (s.map nrm)[i]? = some x → s[i]? = some y → Alk true x y) := fun i x y hx hy => by rw [get_map hx hy]; exact alk_nrm y
    have HSS : Hid (Sm w16 (some ⟨G, 0, none⟩) s) := (show Sm _ _ _ by have h := S16.out.row; rw [HN.out] at h; exact Sm.of_row h)
    have KLX : Hid (∀ (A : Option Addr) (c1 : Nat) W lo hi, Below w16.heap.size w16 W → Rg w16 lo hi 38 3 (.slice A n c1) n (smc (s.map nrm)) → Calls Tryd.prog 15 #[.slice A n c1, .slice (some ⟨G, 0, none⟩) n C, .bool true] W fun e w' => e = .returned (.bool true) ∧ Below w16.heap.size w16 w') := fun A c1 W lo hi h hr => by
      have o := hr.row
      have hl2 : (s.map nrm).length = n := by rw [List.length_map]; exact HN.out.symm
      rw [← hl2] at o
      have := alike_true A (some ⟨G, 0, none⟩) c1 C (s.map nrm) s true W ((Sm.of_row o).below h) (HSS.out.below h) (by rw [List.length_map]) ALK.out (by have := HN.out; omega)
      rw [hl2, ← HN.out] at this
      exact this.mono fun e w' q => ⟨q.1, h.trans (q.2.mono h.size)⟩
    have KLW : Hid (∀ W, Below w16.heap.size w16 W → Calls Tryd.prog 15 #[.slice aw M cw2, .slice az M cz, .bool false] W fun e w' => e = .returned (.bool true) ∧ Below w16.heap.size w16 w') := fun W h => by
      have o1 := U16.out.row
      have o2 := V16.out.row
      rw [HMM.out] at o1 o2
      have := alike_true aw az cw2 cz _ _ false W ((Sm.of_row o1).below h) ((Sm.of_row o2).below h) rfl (fun i x y hx hy => by rw [hx] at hy; cases hy; exact alk_same x) (by have := HMM.out; omega)
      rw [← HMM.out] at this
      exact this.mono fun e w' q => ⟨q.1, h.trans (q.2.mono h.size)⟩
    have b0 : Hid (Below w16.heap.size w16 w16) := Below.refl _ _
    go_fit (KLX.out _ _ _ _ _ b0.out X16.out)
    rintro e w17 ⟨rfl, b17⟩
    have C17 : Hid (Below w16.heap.size w16 w17) := b17
    clear b17
    go_wp2_with fail
    go_fit (KLX.out _ _ _ _ _ C17.out Y16.out)
    rintro e w18 ⟨rfl, b18⟩
    have C18 : Hid (Below w16.heap.size w16 w18) := b18
    clear b18
    go_wp2_with fail
    go_fit (KLW.out _ C18.out)
    rintro e w19 ⟨rfl, b19⟩
    have C19 : Hid (Below w16.heap.size w16 w19) := b19
    have k24 := sep4 w19 w12.heap.size w12.heap.size w13.heap.size w14.heap.size w15.heap.size w16.heap.size _ _ _ _ n M _ _ (X16.out.below b19) (Y16.out.below b19) (U16.out.below b19) (V16.out.below b19) (by omega) (by omega) (Nat.le_refl _) Z16.out.1 Z16.out.2.1 Z16.out.2.2.1 Z16.out.2.2.2 b19.size
    clear b19 KLX KLW HSS ALK b0
    go_wp2_with fail
    go_fit k24
    rintro e w20 ⟨rfl, q20⟩
    have E20 : Hid (Kp (fun g => w12.heap.size ≤ g ∧ g < w16.heap.size) w19 w20) := q20
    have A20 : Hid (Rg w20 w6.heap.size w7.heap.size 5 1 (.slice aa K ca) K (bc (pk (frm s)))) := (A16.out.below C19.out).kp q20 (fun g h1 h2 => by have z1 := Z78.out; have z2 := Z89.out; have z3 := Z912.out; omega)
    have D20 : Hid (Rg w20 w7.heap.size w8.heap.size 5 1 (.slice ac K cc) K (bc (pk (frm s)))) := (D16.out.below C19.out).kp q20 (fun g h1 h2 => by have z1 := Z78.out; have z2 := Z89.out; have z3 := Z912.out; omega)
    have k25 := ap2 w20 w6.heap.size w6.heap.size w7.heap.size w8.heap.size _ _ K _ A20.out D20.out (by omega) (Nat.le_refl _) Z78.out.1 Z78.out.2 (by have z2 := Z89.out; have z3 := Z912.out; have z4 := Z16.out; have z5 := C19.out.size; have z6 := q20.size; omega)
    clear q20 k24
    go_wp2_with fail
    go_fit k25
    rintro e w21 ⟨rfl, q21⟩
    have NOT : Hid (∀ lo hi, (hi ≤ w6.heap.size ∨ w8.heap.size ≤ lo) → (hi ≤ w12.heap.size) → ∀ e z v N cs, Rg w16 lo hi e z v N cs → Rg w21 lo hi e z v N cs) := fun lo hi h1 h2 e z v N cs h =>
      ((h.below C19.out).kp E20.out (fun g g1 g2 => by omega)).kp q21 (fun g g1 g2 => by omega)
    have F21 : Hid (Rg w21 W3.heap.size w6.heap.size 38 3 (.slice (some ⟨g6, 0, none⟩) (n + 3) c6) (n + 3) (smc (s ++ [mkx, mkx, mkx]))) := NOT.out _ _ (.inl (Nat.le_refl _)) (by have z1 := Z78.out; have z2 := Z89.out; have z3 := Z912.out; omega) _ _ _ _ _ F16.out
    have Y21 : Hid (Rg w21 w9.heap.size w10.heap.size 5 1 (.slice (some ⟨g10, 0, none⟩) K c10) K (bc (pk (frm s)))) := NOT.out _ _ (.inr Z89.out) Z912.out.2 _ _ _ _ _ Y6.out
    have Q21 : Hid (Rg w21 w10.heap.size w12.heap.size 5 1 (.slice (some ⟨gw, 0, none⟩) (K + 3) cw) (K + 3) (bc (pk (frm s) ++ [7, 8, 9]))) := NOT.out _ _ (.inr (Nat.le_trans Z89.out Z912.out.1)) (Nat.le_refl _) _ _ _ _ _ Q16.out
    have B19 : Below w.heap.size w w19 := B16.out.trans (C19.out.mono B16.out.size)
    have B20 : Below w.heap.size w w20 := B19.trans (E20.out.below B19.size (fun g hg hm => by have z1 := Z26.out; have z2 := Z78.out; have z3 := Z89.out; have z4 := Z912.out; omega))
    have B21 : Hid (Below w.heap.size w w21) := B20.trans (q21.below B20.size (fun g hg hm => by have z1 := Z26.out; omega))
    have S21 : Hid (w16.heap.size ≤ w21.heap.size) := Nat.le_trans C19.out.size (Nat.le_trans E20.out.size q21.size)
    have G6 : Hid (W3.heap.size ≤ g6 ∧ g6 < w6.heap.size) := F21.out.top g6 rfl
    have GW : Hid (w10.heap.size ≤ gw ∧ gw < w12.heap.size) := Q21.out.top gw rfl
    have HOV : Hid (w21.ownsRow W3.heap.size 38 3 (.slice (some ⟨g6, 0, none⟩) (n + 3) c6) (n + 3) (smc (ovl 0 s ++ [mkx, mkx, mkx]))) := (show _ from by rw [ovl_zero]; exact F21.out.row)
    have K0 : Hid (Kp (fun b => b = g6) w21 w21) := Kp.refl _ _
    clear q21 k25 B19 B20 NOT E20 C17 C18 C19 C16 X16 Y16 U16 V16 A16 D16 F16 S16 Y6 Q16 B16 A20 D20 f7 f8 f9 KQ HIB
    go_wp2_with fail
    go_loopw [26] (fun iv w' => ∃ k : Nat, iv = .int .i64 (k : Nat) ∧ k ≤ n ∧ Hid (w'.ownsRow W3.heap.size 38 3 (.slice (some ⟨g6, 0, none⟩) (n + 3) c6) (n + 3) (smc (ovl k s ++ [mkx, mkx, mkx]))) ∧ Hid (Kp (fun b => b = g6) w21 w')) (fun iv _ => n - (RowKit.intOf iv).toNat)
    case atStart => exact ⟨0, rfl, Nat.zero_le _, HOV, K0⟩
    case round =>
      obtain ⟨k, rfl, hk, ho, hkp⟩ := hrel
      by_cases hlt : k < n
      · have hii : (k : Int) < (n : Int) := by omega
        have hks : k < s.length := by have := HN.out; omega
        obtain ⟨x, hx⟩ : ∃ x, s[k]? = some x := ⟨s[k], List.getElem?_eq_getElem _⟩
        have hg := (ovl_get k s [mkx, mkx, mkx] hks).trans hx
        have ho2 : wr.drew.ownsRow W3.heap.size 38 3 (.slice (some ⟨g6, 0, none⟩) (n + 3) c6) (n + 3) (smc (ovl k s ++ [mkx, mkx, mkx])) := ho.out
        obtain ⟨p1, p2, fz, y1, f1, y2, f2⟩ := row_put ho2 (ovs x) hg
        rw [ovl_set k s _ x hx] at p1
        obtain ⟨x0, x1, x2⟩ := row_cells ho2 hg
        have P1 : Hid ((put3 wr.drew g6 k (ovs x)).ownsRow W3.heap.size 38 3 (.slice (some ⟨g6, 0, none⟩) (n + 3) c6) (n + 3) (smc (ovl (k + 1) s ++ [mkx, mkx, mkx]))) := p1
        have P2 : Hid (Kp (fun b => b = g6) w21 (put3 wr.drew g6 k (ovs x))) := (Kp.drew hkp.out).trans p2
        have fz0 := fz (k * 3)
        simp only [put3, ovs] at P1 P2 y1 f1 y2 f2
        generalize x.t = xt at *
        generalize x.v = xv at *
        generalize x.s = xs at *
        clear ho ho2 hkp hg hx p1 p2 fz
        go_wp2_with fail
        refine region_tail 15 (by kernel_rfl) (by kernel_rfl) ?_
        simp only [List.take_succ_cons, List.take_zero, List.drop_succ_cons, List.drop_zero]
        generalize wr.drew = wd at *
        repeat (go_big_quiet_step (fail))
        refine wpQuiet_nil ?_
        go_wp2
        exact ⟨⟨k + 1, by go_num, by omega, P1, P2⟩, by simp [RowKit.intOf]; omega⟩
      · have hii : ¬ (k : Int) < (n : Int) := by omega
        obtain rfl : n = k := by omega
        obtain ⟨w22, rfl⟩ : ∃ z, z = wr := ⟨_, rfl⟩
        have KG : Hid (Kp (fun b => b = g6) w21 w22) := hkp
        have O22 : Hid (w22.ownsRow W3.heap.size 38 3 (.slice (some ⟨g6, 0, none⟩) (n + 3) c6) (n + 3) (smc (s.map ovs ++ [mkx, mkx, mkx]))) := (show _ from by
          have h := ho.out
          have e1 : ovl n s = s.map ovs := by rw [HN.out]; exact ovl_all s
          rw [e1] at h
          exact h)
        have HNO : Hid (n = (s.map ovs).length) := (show _ = _ by rw [List.length_map]; exact HN.out)
        have SM22 : Hid (Sm w22 (some ⟨g6, 0, none⟩) (s.map ovs)) := (head_s (T := [mkx, mkx, mkx]) O22.out HNO.out).1
        have Y22 : Hid (Rg w22 w9.heap.size w10.heap.size 5 1 (.slice (some ⟨g10, 0, none⟩) K c10) K (bc (pk (frm s)))) := Y21.out.kp KG.out (fun g h1 h2 e => by have z0 := G6.out; have z1 := Z78.out; have z2 := Z89.out; omega)
        have Q22 : Hid (Rg w22 w10.heap.size w12.heap.size 5 1 (.slice (some ⟨gw, 0, none⟩) (K + 3) cw) (K + 3) (bc (pk (frm s) ++ [7, 8, 9]))) := Q21.out.kp KG.out (fun g h1 h2 e => by have z0 := G6.out; have z1 := Z78.out; have z2 := Z89.out; have z3 := Z912.out; omega)
        have B22 : Hid (Below w.heap.size w w22) := B21.out.trans (KG.out.below B21.out.size (fun g hg e => by have z0 := G6.out; have z1 := Z26.out; omega))
        have S22 : Hid (w21.heap.size ≤ w22.heap.size) := KG.out.size
        have HP2 : Hid (pkE (s.map ovs) = 0 ∧ pkB (s.map ovs) = pk (frm (s.map ovs))) := pkE_good (s.map ovs) (by have := HNO.out; omega) (by rw [rs_ovs]; exact HSR.out.1)
        have HOK2 : Hid (∀ x ∈ s.map ovs, Sok x) := ovs_sok s HSR.out.2
        have HBY2 : Hid (By (pk (frm (s.map ovs)))) := (show By _ by rw [← HP2.out.2]; exact pkB_by (s.map ovs))
        obtain ⟨K2, hK2⟩ : ∃ K2, K2 = (pk (frm (s.map ovs))).length := ⟨_, rfl⟩
        have HK2 : Hid (K2 = (pk (frm (s.map ovs))).length) := hK2
        have KP2 : Hid (∀ (A : Option Addr) (c1 : Nat) W, Below w.heap.size w W → Sm W A (s.map ovs) → Calls Tryd.prog 11 #[.slice A n c1] W fun e w' => ∃ v, e = .returned (.tuple #[v, .int .i64 0]) ∧ w'.ownsRow W.heap.size 5 1 v K2 (bc (pk (frm (s.map ovs)))) ∧ Below W.heap.size W w') := fun A c1 W h hsm => by
          have := pack_any A c1 (s.map ovs) W hsm HOK2.out (HS.out.below h) (HT.out.below h) (by have := HNO.out; omega)
          unfold PkR at this
          rw [HP2.out.1, HP2.out.2, ← HNO.out, ← HK2.out] at this
          exact this
        have bA : Below w22.heap.size w22 (w22.alloc (.cells #[] 38)) := (Below.refl _ _).alloc (Nat.le_refl _) _
        obtain ⟨vf, w23, r23, g23, c23, ef, of, kf⟩ := copy_s (w22.alloc (.cells #[] 38)) w22.heap.size w22.heap.size g6 n c6 (s.map ovs) (Nat.le_refl _) bA.size (heap_alloc_new w22 _) HNO.out (by omega) (fun j u hj => by
          have hs2 : (smc (s.map ovs ++ [mkx, mkx, mkx]))[j]? = some u := by
            rw [show smc (s.map ovs ++ [mkx, mkx, mkx]) = smc (s.map ovs) ++ smc [mkx, mkx, mkx] by simp [smc], List.getElem?_append_left (List.getElem?_eq_some_iff.1 hj).1]
            exact hj
          have q := World.ownsRow.cells O22.out (g := g6) rfl j u hs2
          rw [bA.cell (World.block_lt_of_cell? w22 _ q)]
          exact q)
        subst ef
        have C23 : Hid (Below w22.heap.size w22 w23) := bA.trans (kf.below bA.size (fun g hg e => by omega))
        have SMF : Hid (Sm w23 (some ⟨g23, 0, none⟩) (s.map ovs)) := (show Sm _ _ _ by rw [HNO.out] at of; exact Sm.of_row of)
        have B23 : Hid (Below w.heap.size w w23) := B22.out.trans (C23.out.mono B22.out.size)
        clear ho hkp hK2 bA of kf K0 HOV
        go_wp2_with (at_builtin; refine wpList_append_run rfl (.tmp 236) (.tmp 237) 22 22 rfl _ _ rfl rfl r23 ?_)
        go_fit (KP2.out _ _ _ B23.out (SM22.out.below C23.out))
        rintro e w24 ⟨vp, rfl, op, b24⟩
        have C24 : Hid (Below w23.heap.size w23 w24) := b24
        have B24 : Hid (Below w.heap.size w w24) := B23.out.trans (b24.mono B23.out.size)
        have P24 : Hid (Rg w24 w23.heap.size w24.heap.size 5 1 vp K2 (bc (pk (frm (s.map ovs))))) := Rg.of op
        clear op b24 r23
        go_wp2_with fail
        go_fit (KP2.out _ _ _ B24.out (SMF.out.below C24.out))
        rintro e w25 ⟨vq, rfl, oq, b25⟩
        have C25 : Hid (Below w22.heap.size w22 w25) := (C23.out.trans (C24.out.mono C23.out.size)).trans (b25.mono (Nat.le_trans C23.out.size C24.out.size))
        have B25 : Hid (Below w.heap.size w w25) := B24.out.trans (b25.mono B24.out.size)
        have P25 : Hid (Rg w25 w23.heap.size w24.heap.size 5 1 vp K2 (bc (pk (frm (s.map ovs))))) := P24.out.below b25
        have T25 : Hid (Rg w25 w24.heap.size w25.heap.size 5 1 vq K2 (bc (pk (frm (s.map ovs))))) := Rg.of oq
        have Y25 : Hid (Rg w25 w9.heap.size w10.heap.size 5 1 (.slice (some ⟨g10, 0, none⟩) K c10) K (bc (pk (frm s)))) := Y22.out.below C25.out
        have Q25 : Hid (Rg w25 w10.heap.size w12.heap.size 5 1 (.slice (some ⟨gw, 0, none⟩) (K + 3) cw) (K + 3) (bc (pk (frm s) ++ [7, 8, 9]))) := Q22.out.below C25.out
        have Z25 : Hid (w12.heap.size ≤ w23.heap.size ∧ w23.heap.size ≤ w24.heap.size ∧ w24.heap.size ≤ w25.heap.size) := ⟨by have z1 := Z16.out; have z2 := S21.out; have z3 := S22.out; have z4 := C23.out.size; omega, C24.out.size, b25.size⟩
        obtain ⟨ap, cp, rfl, _, _, _⟩ := sl_cases P25.out.row
        obtain ⟨aq, cq, rfl, _, _, _⟩ := sl_cases T25.out.row
        have HZ0 : Hid (w25.ownsRow w10.heap.size 5 1 (.slice (some ⟨gw, 0, none⟩) (K + 3) cw) (K + 3) (bc (zrl 0 (pk (frm s)) ++ [7, 8, 9]))) := (show _ from by rw [zrl_zero]; exact Q25.out.row)
        have K0 : Hid (Kp (fun b => b = gw) w25 w25) := Kp.refl _ _
        clear oq b25 P24 Y22 Q22 O22 SM22 SMF KP2 B22 B23 B24 C24 C23 C25 Q25 Y21 Q21 F21 KG
        go_wp2_with fail
        go_loopw [32] (fun iv w' => ∃ k : Nat, iv = .int .i64 (k : Nat) ∧ k ≤ K ∧ Hid (w'.ownsRow w10.heap.size 5 1 (.slice (some ⟨gw, 0, none⟩) (K + 3) cw) (K + 3) (bc (zrl k (pk (frm s)) ++ [7, 8, 9]))) ∧ Hid (Kp (fun b => b = gw) w25 w')) (fun iv _ => K - (RowKit.intOf iv).toNat)
        case atStart => exact ⟨0, rfl, Nat.zero_le _, HZ0, K0⟩
        case round =>
          obtain ⟨k, rfl, hk2, ho, hkp⟩ := hrel
          by_cases hlt2 : k < K
          · have hii2 : (k : Int) < (K : Int) := by omega
            obtain ⟨u, hu⟩ : ∃ u, (bc (zrl k (pk (frm s)) ++ [7, 8, 9]))[k]? = some (.int .u8 u) := by
              have hlen : k < (zrl k (pk (frm s)) ++ [7, 8, 9]).length := by
                unfold zrl
                rw [List.length_append, List.length_append, List.length_replicate, List.length_drop]
                have := HK.out
                simp only [List.length_cons, List.length_nil]
                omega
              refine ⟨(zrl k (pk (frm s)) ++ [7, 8, 9])[k], ?_⟩
              unfold bc
              rw [List.getElem?_map, List.getElem?_eq_getElem hlen]
              rfl
            have x0 := (World.ownsRow.cellAt ho.out k (by omega)).trans hu
            have f0 := World.ownsRow.frozenAt ho.out k
            have O2 : Hid ((wr.setCell ⟨gw, k, none⟩ (.int .u8 0)).ownsRow w10.heap.size 5 1 (.slice (some ⟨gw, 0, none⟩) (K + 3) cw) (K + 3) (bc (zrl (k + 1) (pk (frm s)) ++ [7, 8, 9]))) := (show _ from by
              have h := (World.ownsRow.stored ho.out k (.int .u8 0)).1
              rw [← bc_set, zrl_set k _ _ (by have := HK.out; omega)] at h
              exact h)
            have P2 : Hid (Kp (fun b => b = gw) w25 (wr.setCell ⟨gw, k, none⟩ (.int .u8 0))) := hkp.out.setCell (p := ⟨gw, k, none⟩) rfl _
            clear ho hkp hu
            go_wp2
            exact ⟨⟨k + 1, by go_num, by omega, O2, P2⟩, by simp [RowKit.intOf]; omega⟩
          · have hii2 : ¬ (k : Int) < (K : Int) := by omega
            obtain rfl : K = k := by omega
            obtain ⟨w26, rfl⟩ : ∃ z, z = wr := ⟨_, rfl⟩
            have KW : Hid (Kp (fun b => b = gw) w25 w26) := hkp
            have IM26 : Hid (Im w26 (some ⟨gw, 0, none⟩) (List.replicate K 0)) := (show Im _ _ _ by
              have h := ho.out
              have e1 : zrl K (pk (frm s)) = List.replicate K 0 := by rw [HK.out]; exact zrl_all _
              rw [e1] at h
              exact head_b (T := [7, 8, 9]) h (by simp))
            have B26 : Hid (Below w.heap.size w w26) := B25.out.trans (KW.out.below B25.out.size (fun g hg e => by have z0 := GW.out; have z1 := Z26.out; have z2 := Z78.out; have z3 := Z89.out; have z4 := Z912.out; omega))
            have P26 : Hid (Rg w26 w23.heap.size w24.heap.size 5 1 (.slice ap K2 cp) K2 (bc (pk (frm (s.map ovs))))) := P25.out.kp KW.out (fun g h1 h2 e => by have z0 := GW.out; have z1 := Z25.out; omega)
            have T26 : Hid (Rg w26 w24.heap.size w25.heap.size 5 1 (.slice aq K2 cq) K2 (bc (pk (frm (s.map ovs))))) := T25.out.kp KW.out (fun g h1 h2 e => by have z0 := GW.out; have z1 := Z25.out; omega)
            have Y26 : Hid (Rg w26 w9.heap.size w10.heap.size 5 1 (.slice (some ⟨g10, 0, none⟩) K c10) K (bc (pk (frm s)))) := Y25.out.kp KW.out (fun g h1 h2 e => by have z0 := GW.out; omega)
            have BYZ : By (List.replicate K 0) := fun j hj => by
              have hj2 : j < K := by simpa using hj
              simp [List.getD, hj2]
            have k13 := unpack_any (some ⟨gw, 0, none⟩) cw (List.replicate K 0) w26 IM26.out BYZ (HS.out.below B26.out) (HT.out.below B26.out) (by rw [List.length_replicate]; omega)
            unfold UpR at k13
            rw [up_zero, List.length_replicate] at k13
            generalize (upL (List.replicate K 0)).length = N3 at k13
            clear ho hkp BYZ IM26 P25 T25 Y25 KW B25 HZ0 K0
            go_wp2_with fail
            go_fit k13
            rintro e w27 ⟨v3, rfl, _, b27⟩
            have B27 : Hid (Below w.heap.size w w27) := B26.out.trans (b27.mono B26.out.size)
            have KE : Hid (Calls Tryd.prog 20 #[.slice ap K2 cp, .slice aq K2 cq] w27 fun e w' => e = .returned (.bool true) ∧ w' = w27) := by
              have h1 := (P26.out.below b27).row
              have h2 := (T26.out.below b27).row
              rw [HK2.out] at h1 h2
              have := same_any ap aq cp cq _ _ w27 (Im.of_row h1) (Im.of_row h2) HBY2.out HBY2.out
              rw [← HK2.out, decide_eq_true rfl] at this
              exact this
            have KF : Hid (0 < n → Calls Tryd.prog 20 #[.slice ap K2 cp, .slice (some ⟨g10, 0, none⟩) K c10] w27 fun e w' => e = .returned (.bool false) ∧ w' = w27) := fun hn0 => by
              have h1 := (P26.out.below b27).row
              have h2 := (Y26.out.below b27).row
              rw [HK2.out] at h1
              rw [HK.out] at h2
              have := same_any ap (some ⟨g10, 0, none⟩) cp c10 _ _ w27 (Im.of_row h1) (Im.of_row h2) HBY2.out HBY.out
              rw [← HK2.out, ← HK.out, decide_eq_false (pk_ovs s HSR.out.2 HP.out.1 HP2.out.1 (by have := HN.out; omega))] at this
              exact this
            clear b27 k13 P26 T26 Y26 B26
            rcases Nat.eq_zero_or_pos n with hn0 | hn0
            · have r1 : (n : Int) = 0 := by omega
              have r2 : ((n : Int) == 0) = true := by simp [r1]
              have HN0 : Hid (n = 0) := hn0
              clear hn0
              by_cases h3 : K = 3
              · rw [if_pos h3]
                have q2 : (K : Int) = 3 := by omega
                have q3 : ((K : Int) == 3) = true := by simp [q2]
                have q4 : ((K : Int) != 3) = false := by simp [q2]
                clear h3
                go_wp2_with fail
                go_fit KE.out
                rintro e w28 ⟨rfl, hw⟩
                obtain rfl : w27 = w28 := hw.symm
                clear hw
                go_wp2
                go_ret
                exact ⟨rfl, B27.out⟩
              · rw [if_neg h3]
                have q2 : ¬ (K : Int) = 3 := by omega
                have q3 : ((K : Int) == 3) = false := by simp [q2]
                have q4 : ((K : Int) != 3) = true := by simp [q2]
                clear h3
                go_wp2_with fail
                go_fit KE.out
                rintro e w28 ⟨rfl, hw⟩
                obtain rfl : w27 = w28 := hw.symm
                clear hw
                go_wp2
                go_ret
                exact ⟨rfl, B27.out⟩
            · have r1 : ¬ (n : Int) = 0 := by omega
              have r2 : ((n : Int) == 0) = false := beq_false_of_ne r1
              have HN0 : Hid (0 < n) := hn0
              clear hn0
              by_cases h3 : K = 3
              · rw [if_pos h3]
                have q2 : (K : Int) = 3 := by omega
                have q3 : ((K : Int) == 3) = true := by simp [q2]
                have q4 : ((K : Int) != 3) = false := by simp [q2]
                clear h3
                go_wp2_with fail
                go_fit KE.out
                rintro e w28 ⟨rfl, hw⟩
                obtain rfl : w27 = w28 := hw.symm
                clear hw
                go_wp2_with fail
                go_fit (KF.out HN0.out)
                rintro e w28 ⟨rfl, hw⟩
                obtain rfl : w27 = w28 := hw.symm
                clear hw
                go_wp2
                go_ret
                exact ⟨rfl, B27.out⟩
              · rw [if_neg h3]
                have q2 : ¬ (K : Int) = 3 := by omega
                have q3 : ((K : Int) == 3) = false := by simp [q2]
                have q4 : ((K : Int) != 3) = true := by simp [q2]
                clear h3
                go_wp2_with fail
                go_fit KE.out
                rintro e w28 ⟨rfl, hw⟩
                obtain rfl : w27 = w28 := hw.symm
                clear hw
                go_wp2_with fail
                go_fit (KF.out HN0.out)
                rintro e w28 ⟨rfl, hw⟩
                obtain rfl : w27 = w28 := hw.symm
                clear hw
                go_wp2
                go_ret
                exact ⟨rfl, B27.out⟩
end Go.Proofs.YtedlmjieclaojaaDoor
/- ChunkKeeps: the row and the card. -/
namespace Go.Proofs.YtedlmjieclaojaaDoor
open Go.ChangeShapes Go.WideShapes Go.ChangeAt Go.RowKit Go.Lib
set_option maxRecDepth 100000

def laidK : List (String × DataW Unit) := Rows.chunkKeepsRow.laid
theorem keeps_lifted (os : Os) (started : os.Started) (H : Type) (enc : TypeId × Value → H) :
    ReturnsInHanded {} Tryd.checked os 7 .any (fun w args => (Rows.chunkKeepsSpec.pre enc Tryd.prog Tryd.f7 [] false w args ∧ laidMetH Tryd.prog laidK w) ∧ sizedMet enc Tryd.prog Tryd.f7 (OpenSpec.ofChange Rows.chunkKeepsSpec) false w args)
      (Rows.chunkKeepsSpec.post enc Tryd.prog Tryd.f7 false true false false) := by
  refine returnsInHanded_of_change_and (C := Tryd.checked) (X := fun w _ => laidMetH Tryd.prog laidK w) (fun _ _ _ hh h => h.of_heap hh) own started (by kernel_rfl) Tryd.func7
    (ChangeSpec.witness_shaped (enc := enc) (C := Tryd.checked) (os := os) (X := fun w _ => laidMetH Tryd.prog laidK w) false (World.laidAll Tryd.prog os laidK) #[.slice none 0 0, .int .i64 0, .int .i64 0] 8 (World.laidAll_os _ _ _)
      (World.shaped_of_ZipB (by kernel_rfl) (by kernel_rfl)) (by kernel_rfl) (by kernel_rfl) (by kernel_rfl)
      (by rw [MakeChecks.laidMetH_plain _ _ _ (by kernel_rfl)]; exact laidMet_laidAll _ (by kernel_rfl) (by kernel_rfl))) ?_
  intro W base args ds gs before hval0 hW _ hz0 hL _
  have hval : ∀ (j : Nat) t v, Tryd.f7.params[j]? = some t → args[j]? = some v → Value.okWide Tryd.prog W .any base t v := hval0
  have hW' := hW
  obtain ⟨p, q, hA0, hV, rfl, _, _⟩ := hW
  have hA : DataW.TrodAll enc Tryd.prog W 0 (fun _ => true) true Tryd.f7.params.toList args.toList ds p := hA0
  have hsz : (DataW.weightsEach Tryd.prog (Tryd.f7.params.toList ++ Rows.chunkKeepsSpec.plain.varTypes Tryd.prog) (ds ++ gs)).all (· ≤ reachBytes) = true := hz0
  rw [Tryd.params7] at hA hval hsz
  obtain ⟨v0, v1, v2, d0, d1, d2, p0, p1, p2, rfl, rfl, rfl, h0, h1, h2⟩ := trodAll_three hA
  obtain ⟨rfl, rfl⟩ := trodVars_none hV
  obtain ⟨a0, n0, c0, rfl⟩ := okWide_slice Tryd.underlying22 (hval 0 22 v0 rfl rfl)
  obtain ⟨x1, rfl, rfl, rfl, w1⟩ := open_int Tryd.underlying2 (hval 1 2 v1 rfl rfl) h1
  obtain ⟨x2, rfl, rfl, rfl, w2⟩ := open_int Tryd.underlying2 (hval 2 2 v2 rfl rfl) h2
  have hS : Scl W := scl_of hL (.tail _ (.head _)) (MakeChecks.laidMetH_plain _ _ _ (by kernel_rfl))
  have hT : Tab W := tab_of hL (.head _) (MakeChecks.laidMetH_plain _ _ _ (by kernel_rfl))
  have k0 := h0
  have lt0 : ∀ x ∈ p0, x.block < W.heap.size := by obtain ⟨m, hm⟩ := k0; exact DataW.trod_lt m _ _ _ hm
  have z0 : ∀ n ∈ d0.weights Tryd.prog 22, n ≤ reachBytes := fun n hn => by
    have := List.all_eq_true.1 hsz _ (DataW.weights_mem_each (j := 0) (t := 22) (d := d0) rfl rfl n hn)
    simpa using this
  have walk : Calls Tryd.prog 7 #[.slice a0 n0 c0, .int .i64 x1, .int .i64 x2] W fun e w' => e = .returned (.bool true) ∧ Below W.heap.size W w' := by
    obtain ⟨f0, hf0⟩ := h0
    have hg0 : DataW.trod enc Tryd.prog W 0 (fun _ => true) true f0 22 [.slice a0 n0 c0] = some (d0, p0) := hf0
    obtain ⟨l, rfl, hm, hok, hb⟩ := samples_open hg0 z0
    exact keeps_walk a0 c0 l x1 x2 W hm hok hS hT (by omega)
  refine walk.mono fun e W' ⟨he, bel⟩ => ?_
  subst he
  exact ⟨_, rfl, _, _, _, [], _, [], hW', trodAll_mk1 (shut_bool Tryd.underlying4 _), trodAll_mk3 (Below.trod laidOut (by kernel_rfl) (of_decide_eq_true (by kernel_rfl)) k0 bel lt0) (shut_int Tryd.underlying2 w1) (shut_int Tryd.underlying2 w2), rfl, bel.frame _, fun h => by cases h⟩

theorem keeps_said : Rows.ChunkKeepsSaid :=
  OpenClaim.holds_of_wide 7 Tryd.f7 rfl rfl rfl rfl rfl rfl rfl ⟨rfl, rfl, rfl, rfl, rfl⟩ rfl rfl rfl rfl rfl (by kernel_rfl) Tryd.func7 (by kernel_rfl)
    (of_decide_eq_true (by kernel_rfl)) (by unfold Func.isWrapper; first | (rw [if_pos (by decide +kernel)]; kernel_rfl) | (rw [if_neg (by decide +kernel)]; exact ⟨rfl, rfl⟩))
    (fun os started H enc _ => keeps_lifted os started H enc)

theorem keeps_plain (f : FuncId) (fn : Func) (hf : Tryd.pinned.checked.prog.funcNamed Rows.chunkKeepsRow.func = some f) (hfn : Tryd.pinned.checked.prog.funcs[f]? = some fn) :
    false = Tryd.pinned.checked.prog.looks [] ∧ ∀ (j : Nat) t, fn.params[j]? = some t → Tryd.pinned.checked.prog.wantsStandIn t = false := by
  obtain rfl : f = 7 := Option.some.inj ((show Tryd.prog.funcNamed Rows.chunkKeepsRow.func = some 7 by kernel_rfl).symm.trans hf) |>.symm
  obtain rfl : fn = Tryd.f7 := (Option.some.inj (Tryd.func7.symm.trans hfn)).symm
  refine ⟨by kernel_rfl, fun j t ht => ?_⟩
  rw [Tryd.params7] at ht
  have hm : t ∈ [22, 2, 2] := by simpa using Array.mem_of_getElem? ht
  have hall : ([22, 2, 2].all fun u => !Tryd.prog.wantsStandIn u) = true := by kernel_rfl
  exact (show Tryd.prog.wantsStandIn t = false by simpa using List.all_eq_true.1 hall t hm)

theorem keeps_card : Rows.ChunkKeepsCardSaid :=
  Claim7.holds_tied_plain_at .later [] _ _ _ _ keeps_said (fun _ h => by cases h) (by kernel_rfl) (fun _ h => by cases h) chunkKeeps_row_tie rfl ⟨rfl, rfl⟩ (by kernel_rfl) rfl keeps_plain (by kernel_rfl)
#print axioms keeps_card
end Go.Proofs.YtedlmjieclaojaaDoor
