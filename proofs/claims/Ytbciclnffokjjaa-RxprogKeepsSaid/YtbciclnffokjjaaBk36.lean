/- A bundle of texts. -/
import Derived.Test.YtbciclnffokjjaaBk35
import Derived.Test.YtbciclnffokjjaaBk22
/- RxprogKeeps: a list of lists; ranges written over. -/
namespace Go.Proofs.Ytbciclnffokjjaa
open Go.RowKit

theorem infL : (Try.prog.info? 27).map (fun i => (i.zero, i.size, i.bytes)) = some (some (.slice none 0 0), 1, 24) := by kernel_rfl
/-- One list more. -/
theorem append_l (w : World) (S : Nat) (v : Value) (vs : List Value) (a : Option Addr) (n c : Nat) (hS : S ≤ w.heap.size) (hn : (vs.length + 1) * 24 ≤ 140737488355328) (o : w.ownsRow S 27 1 v vs.length vs) :
    ∃ g c' w', (Builtin.append_ #[48, 48] 48 #[v, .slice (some ⟨w.heap.size, 0, none⟩) 1 1]).run Try.prog (w.alloc (.cells #[.slice a n c] 27)) = .ok (.slice (some ⟨g, 0, none⟩) (vs.length + 1) c') w' ∧ w'.ownsRow S 27 1 (.slice (some ⟨g, 0, none⟩) (vs.length + 1) c') (vs.length + 1) (vs ++ [.slice a n c]) ∧ Kp (fun k => v.ownBlock = some k) w w' ∧ (v.ownBlock = some g ∨ w.heap.size ≤ g) := by
  obtain ⟨i0, hi, hz0, hz1, hz2⟩ := info_parts infL
  have o0 := World.ownsRow.alloc o (.cells #[.slice a n c] 27)
  have e : (w.alloc (.cells #[.slice a n c] 27)).heap[w.heap.size]? = some (.cells #[.slice a n c] 27) := heap_alloc_new w _
  obtain ⟨v', w', r, o', g, _, h5⟩ := run_append_own_at (P := Try.prog) (w.alloc (.cells #[.slice a n c] 27)) S 48 48 27 i0 (.slice none 0 0) 1 24 Try.underlying48 hi hz0 hz1 hz2 rfl (by decide) _ vs.length vs o0 ⟨w.heap.size, 0, none⟩ 1 1 [.slice a n c] (by rfl)
    (fun j u hj => by
      rw [Go.WideShapes.add_plain, Nat.zero_add]
      unfold World.cell?
      rw [e]
      simpa using hj) (by intro u hu; simp at hu; subst hu; rfl) (by unfold maxLen; omega) hn (by simp; omega)
  rcases o'.2 with ⟨_, h0⟩ | ⟨G, C, cur, rfl, _⟩
  · omega
  · refine ⟨G, C, w', r, o', ((Kp.refl _ w).alloc _).grown g (fun k hk _ => hk), ?_⟩
    rcases h5 with h5 | h5
    · exact .inl (h5.symm.trans rfl)
    · have h6 : G = (w.alloc (.cells #[.slice a n c] 27)).heap.size := Option.some.inj h5
      rw [World.size_alloc] at h6
      exact .inr (by omega)
end Go.Proofs.Ytbciclnffokjjaa
/- RxprogKeeps: no instruction is -1; ranges written over, lists lengthened. -/
namespace Go.Proofs.Ytbciclnffokjjaa
open Go.RowKit

theorem catF_opm {F : Nat → Int → List Ia} (b : Int) : ∀ j, (∀ i, i < j → ∀ b, ∀ x ∈ F i b, x.op ≠ -1) → ∀ x ∈ catF F j b, x.op ≠ -1
  | 0, _, x, hx => by cases hx
  | j + 1, h, x, hx => by
    unfold catF at hx
    rcases List.mem_append.1 hx with hx | hx
    · exact catF_opm b j (fun i hi => h i (by omega)) x hx
    · exact h j (by omega) _ x hx
theorem altF_opm {F : Nat → Int → List Ia} (e b : Int) : ∀ j, (∀ i, i < j → ∀ b, ∀ x ∈ F i b, x.op ≠ -1) → ∀ x ∈ altF F e j b, x.op ≠ -1
  | 0, _, x, hx => by cases hx
  | j + 1, h, x, hx => by
    unfold altF at hx
    rcases List.mem_append.1 hx with hx | hx
    · exact altF_opm e b j (fun i hi => h i (by omega)) x hx
    · rcases List.mem_cons.1 hx with rfl | hx
      · exact fun h => absurd h (by decide : ¬ (3 : Int) = -1)
      · rcases List.mem_append.1 hx with hx | hx
        · exact h j (by omega) _ x hx
        · rcases List.mem_singleton.1 hx with rfl
          exact fun h => absurd h (by decide : ¬ (10 : Int) = -1)
theorem mvs_opm {k : List Ia} (b : Int) (h : ∀ x ∈ k, x.op ≠ -1) : ∀ x ∈ mvs b k, x.op ≠ -1 := by
  intro x hx
  obtain ⟨j, hj, rfl⟩ := List.mem_map.1 hx
  exact h j hj
theorem layF_opm {k : List Ia} (h : ∀ x ∈ k, x.op ≠ -1) (b : Int) : ∀ j, ∀ x ∈ layF k j b, x.op ≠ -1
  | 0, x, hx => by cases hx
  | j + 1, x, hx => by
    unfold layF at hx
    rcases List.mem_append.1 hx with hx | hx
    · exact layF_opm h b j x hx
    · exact mvs_opm _ h x hx
theorem optF_opm {k : List Ia} (h : ∀ x ∈ k, x.op ≠ -1) (lz : Bool) (e b : Int) : ∀ j, ∀ x ∈ optF k lz e j b, x.op ≠ -1
  | 0, x, hx => by cases hx
  | j + 1, x, hx => by
    unfold optF at hx
    rcases List.mem_append.1 hx with hx | hx
    · exact optF_opm h lz e b j x hx
    · rcases List.mem_cons.1 hx with rfl | hx
      · exact fun h => absurd h (by decide : ¬ (3 : Int) = -1)
      · exact mvs_opm _ h x hx
theorem cod_opm : ∀ (m : Nat) (t : Tr) (b : Int), ∀ x ∈ cod m t b, x.op ≠ -1
  | 0, _, _, x, hx => by cases hx
  | m + 1, t, b, x, hx => by
    unfold cod at hx
    split at hx
    · rcases List.mem_singleton.1 hx with rfl; exact fun h => absurd h (by decide : ¬ (2 : Int) = -1)
    split at hx
    · rcases List.mem_singleton.1 hx with rfl
      unfold clsC
      split
      · exact fun h => absurd h (by decide : ¬ (11 : Int) = -1)
      · exact fun h => absurd h (by decide : ¬ (2 : Int) = -1)
    split at hx
    · exact catF_opm b _ (fun i _ b => cod_opm m _ b) x hx
    split at hx
    · unfold altC at hx
      rcases List.mem_append.1 hx with hx | hx
      · exact altF_opm _ b _ (fun i _ b => cod_opm m _ b) x hx
      · exact cod_opm m _ _ x hx
    split at hx
    · have h0 := cod_opm m (kid t 0) 0
      unfold repC at hx
      split at hx
      · cases hx
      split at hx
      · rcases List.mem_append.1 hx with hx | hx
        · exact layF_opm h0 _ _ x hx
        · rcases List.mem_cons.1 hx with rfl | hx
          · exact fun h => absurd h (by decide : ¬ (3 : Int) = -1)
          · rcases List.mem_append.1 hx with hx | hx
            · exact mvs_opm _ h0 x hx
            · rcases List.mem_singleton.1 hx with rfl; exact fun h => absurd h (by decide : ¬ (10 : Int) = -1)
      · rcases List.mem_append.1 hx with hx | hx
        · exact layF_opm h0 _ _ x hx
        · exact optF_opm h0 _ _ _ _ x hx
    split at hx
    · rcases List.mem_cons.1 hx with rfl | hx
      · exact fun h => absurd h (by decide : ¬ (4 : Int) = -1)
      · rcases List.mem_append.1 hx with hx | hx
        · exact cod_opm m _ _ x hx
        · rcases List.mem_singleton.1 hx with rfl; exact fun h => absurd h (by decide : ¬ (4 : Int) = -1)
    split at hx
    · rcases List.mem_singleton.1 hx with rfl; exact fun h => absurd h (by decide : ¬ (9 : Int) = -1)
    split at hx
    · rename_i h8
      rcases List.mem_singleton.1 hx with rfl
      exact fun h => (by dsimp only at h; omega)
    · cases hx

theorem prg_opm (t : Tr) : ∀ x ∈ prgC t, x.op ≠ -1 := by
  intro x hx
  unfold prgC at hx
  rcases List.mem_append.1 hx with hx | hx
  · exact cod_opm _ _ _ x hx
  · rcases List.mem_singleton.1 hx with rfl
    exact fun h => absurd h (by decide : ¬ (1 : Int) = -1)
theorem rc2_congr (f g : Nat → Rg) (n : Nat) (h : ∀ j, j < n → f j = g j) : rc2 f n = rc2 g n := by
  induction n with
  | zero => rfl
  | succ n ih => rw [rc2_succ, rc2_succ, ih (fun j hj => h j (by omega)), h n (by omega)]
theorem rc2_set (f : Nat → Rg) (k : Nat) (x y : Int) : ∀ n, k < n → ((rc2 f n).set (k * 2) (.int .i32 x)).set (k * 2 + 1) (.int .i32 y) = rc2 (up f k (x, y)) n
  | 0, h => by omega
  | n + 1, h => by
    rw [rc2_succ, rc2_succ]
    by_cases hj : k < n
    · rw [List.set_append_left _ _ (by rw [rc2_len]; omega), List.set_append_left _ _ (by rw [List.length_set, rc2_len]; omega), rc2_set f k x y n hj, up_other _ _ _ n (by omega)]
    · obtain rfl : k = n := by omega
      rw [List.set_append_right _ _ (by rw [rc2_len]; omega), List.set_append_right _ _ (by rw [rc2_len]; omega), rc2_len, up_same, rc2_congr f _ k (fun j hj => (up_other f k _ j (by omega)).symm), show k * 2 - k * 2 = 0 by omega, show k * 2 + 1 - k * 2 = 1 by omega]
      rfl

/-- A list and what it was lengthened to: one block and one room, or two blocks. -/
def LnR (v0 v : Value) (n0 n : Nat) : Prop := (∃ g c, v0 = .slice (some ⟨g, 0, none⟩) n0 c ∧ v = .slice (some ⟨g, 0, none⟩) n c ∧ n0 ≤ n) ∨ ∀ b, v.ownBlock = some b → v0.ownBlock ≠ some b
/-- A range more at the end of a list that was lengthened: the list that it was stays. -/
theorem append_r (w : World) (S : Nat) (v0 v : Value) (n0 n : Nat) (xs ys : List Value) (x y : Int) (hS : S ≤ w.heap.size) (hn : (n + 1) * 8 ≤ 140737488355328) (o0 : w.ownsRow S 50 2 v0 n0 xs) (o : w.ownsRow S 50 2 v n ys) (hr : LnR v0 v n0 n) :
    ∃ v' w', (Builtin.append_ #[27, 27] 27 #[v, .slice (some ⟨w.heap.size, 0, none⟩) 1 1]).run Try.prog (w.alloc (.cells #[.int .i32 x, .int .i32 y] 50)) = .ok v' w' ∧ w'.ownsRow S 50 2 v' (n + 1) (ys ++ [.int .i32 x, .int .i32 y]) ∧ w'.ownsRow S 50 2 v0 n0 xs ∧ LnR v0 v' n0 (n + 1) ∧ Kp (fun k => v.ownBlock = some k) w w' ∧ (∀ b, v'.ownBlock = some b → v.ownBlock = some b ∨ w.heap.size ≤ b) := by
  obtain ⟨i0, hi, hz0, hz1, hz2⟩ := info_parts infG
  obtain ⟨W, hW⟩ : ∃ W, W = w.alloc (.cells #[.int .i32 x, .int .i32 y] 50) := ⟨_, rfl⟩
  have e : W.heap[w.heap.size]? = some (.cells #[.int .i32 x, .int .i32 y] 50) := by rw [hW]; exact heap_alloc_new w _
  have kW : Kp (fun _ => False) w W := by rw [hW]; exact (Kp.refl _ w).alloc _
  have hWs : W.heap.size = w.heap.size + 1 := by rw [hW]; simp
  have p0 := kW.row o0 (fun _ _ => id)
  have p := kW.row o (fun _ _ => id)
  have hnews : ∀ j u, [Value.int .i32 x, .int .i32 y][j]? = some u → W.cell? ((⟨w.heap.size, 0, none⟩ : Addr).add j) = some u := fun j u hj => by
    rw [Go.WideShapes.add_plain, Nat.zero_add]
    unfold World.cell?
    rw [e]
    simpa using hj
  have hone : ∀ u ∈ [Value.int .i32 x, .int .i32 y], u.oneCell' = true := by
    intro u hu
    simp at hu
    rcases hu with rfl | rfl <;> rfl
  have hlow : ∀ b, v0.ownBlock = some b → b < w.heap.size := fun b e => (o0.lt b e).2
  by_cases hroom : ∃ g c, v = .slice (some ⟨g, 0, none⟩) n c ∧ n + 1 ≤ c
  · obtain ⟨g, c, rfl, hc⟩ := hroom
    rcases p.2 with ⟨h, _⟩ | ⟨g', cap, cur, h, hb, hg, hnc, hcm, hcs, htake⟩
    · cases h
    · cases h
      have hfit : n * i0.size + [Value.int .i32 x, .int .i32 y].length ≤ cur.size := by rw [hz1, hcs]; simp; omega
      have rr := run_append_room (P := Try.prog) W 27 27 50 i0 Try.underlying27 hi g n c cur hg ⟨w.heap.size, 0, none⟩ 1 1 [.int .i32 x, .int .i32 y] (by rw [hz1]; rfl) hnews hone hc hfit
      obtain ⟨v1, w1, r1, o1, g1, _, h5⟩ := run_append_own_at (P := Try.prog) W S 27 27 50 i0 _ 2 8 Try.underlying27 hi hz0 hz1 hz2 rfl (by decide) _ n ys p ⟨w.heap.size, 0, none⟩ 1 1 [.int .i32 x, .int .i32 y] rfl hnews hone (by unfold maxLen; omega) hn (by omega)
      rw [rr] at r1
      cases r1
      rw [hz1] at rr o1 g1
      obtain ⟨cur', hcur'⟩ : ∃ cur', cur' = (cur.toList.take (n * 2) ++ [Value.int .i32 x, .int .i32 y] ++ cur.toList.drop (n * 2 + [Value.int .i32 x, .int .i32 y].length)).toArray := ⟨_, rfl⟩
      rw [← hcur'] at rr o1 g1
      refine ⟨_, _, by rw [← hW]; exact rr, o1, ?_, ?_, (kW.mono (fun _ _ h => h.elim)).grown g1 (fun k hk _ => hk), fun b hb => .inl hb⟩
      · rcases hr with ⟨G, C, h1, h2, h3⟩ | hr
        · cases h2
          subst h1
          rcases p0.2 with ⟨h, _⟩ | ⟨g2, cap2, cur2, h, hb2, hg2, hnc2, hcm2, hcs2, htake2⟩
          · cases h
          · cases h
            rw [hg] at hg2
            cases hg2
            refine ⟨p0.1, .inr ⟨g, c, cur', rfl, hb2, setRow_heap W g cur _ 50 _ hg, hnc2, hcm2, ?_, ?_⟩⟩
            · rw [hcur']
              simp only [List.size_toArray, List.length_append, List.length_take, List.length_drop, Array.length_toList, List.length_cons, List.length_nil]
              simp at hfit
              omega
            · rw [hcur', List.append_assoc, List.take_append_of_le_length (by rw [List.length_take, Array.length_toList]; omega), List.take_take, Nat.min_eq_left (by omega)]
              exact htake2
        · exact p0.kept g1 (.inr (fun h => hr g rfl h))
      · rcases hr with ⟨G, C, h1, h2, h3⟩ | hr
        · cases h2
          exact .inl ⟨g, c, h1, rfl, by omega⟩
        · exact .inr (fun b hb => hr b hb)
  · have hfresh : ∃ c' w', (Builtin.append_ #[27, 27] 27 #[v, .slice (some ⟨w.heap.size, 0, none⟩) 1 1]).run Try.prog W = .ok (.slice (some ⟨W.heap.size, 0, none⟩) (n + 1) c') w' ∧ Kp (fun _ => False) W w' := by
      rcases p.2 with ⟨rfl, rfl⟩ | ⟨g, cap, cur, rfl, hb, hg, hnc, hcm, hcs, htake⟩
      · have hr := run_append_nil (P := Try.prog) W 27 27 50 i0 _ Try.underlying27 hi hz0 ⟨w.heap.size, 0, none⟩ 1 1 [.int .i32 x, .int .i32 y] (by rw [hz1]; rfl) hnews (by omega) (by omega) (by rw [hz2]; omega)
        exact ⟨_, _, hr, (Kp.refl _ W).drew.alloc _⟩
      · have hnr : ¬ n + 1 ≤ cap := fun h => hroom ⟨g, cap, rfl, h⟩
        have hr := run_append_grow (P := Try.prog) W 27 27 50 i0 _ Try.underlying27 hi hz0 ⟨g, 0, none⟩ n cap ys (by rw [hz1]; exact p.1) (p.cells (g := g) rfl) ⟨w.heap.size, 0, none⟩ 1 1 [.int .i32 x, .int .i32 y] (by rw [hz1]; rfl) hnews (by omega) (by omega) (growslice_fits (by omega) (by rw [hz2]; omega))
        exact ⟨_, _, hr, (Kp.refl _ W).drew.alloc _⟩
    obtain ⟨c', w', rr, kw⟩ := hfresh
    obtain ⟨v1, w1, r1, o1, g1, _, h5⟩ := run_append_own_at (P := Try.prog) W S 27 27 50 i0 _ 2 8 Try.underlying27 hi hz0 hz1 hz2 rfl (by decide) _ n ys p ⟨w.heap.size, 0, none⟩ 1 1 [.int .i32 x, .int .i32 y] rfl hnews hone (by unfold maxLen; omega) hn (by omega)
    rw [rr] at r1
    cases r1
    refine ⟨_, _, by rw [← hW]; exact rr, o1, kw.row p0 (fun _ _ => id), .inr (fun b hb h => ?_), (kW.trans kw).mono (fun _ _ h => h.elim), fun b hb => .inr ?_⟩
    · have h1 : W.heap.size = b := Option.some.inj hb
      have := hlow b h
      omega
    · have h1 : W.heap.size = b := Option.some.inj hb
      omega
end Go.Proofs.Ytbciclnffokjjaa
/- RxprogKeeps: a program under the law's hand. -/
namespace Go.Proofs.Ytbciclnffokjjaa
open Go.RowKit

/-- A program's instructions, each with ranges in a row of its own; all in blocks from S to T. -/
structure Pw (S T g cc N : Nat) (w : World) (f : Nat → In) (h : Nat → Nat → Rg) : Prop where
  row : w.ownsRow S 29 5 (.slice (some ⟨g, 0, none⟩) N cc) N (n5 f N)
  rg : ∀ j, j < N → w.ownsRow S 50 2 (rgV (f j)) (f j).rn (rc2 (h j) (f j).rn)
  ne : ∀ j, j < N → (rgV (f j)).ownBlock ≠ some g
  two : ∀ j k b, j < N → k < N → j ≠ k → (rgV (f j)).ownBlock = some b → (rgV (f k)).ownBlock ≠ some b
  gt : g < T
  rt : ∀ j b, j < N → (rgV (f j)).ownBlock = some b → b < T
theorem OwA.pw {S : Nat} {w : World} {v : Value} {c : List Ia} (h : OwA S w v c) : ∃ (g cc : Nat) (f : Nat → In), v = .slice (some ⟨g, 0, none⟩) c.length cc ∧ Pw S w.heap.size g cc c.length w f (fun j q => (c.getD j ⟨0, 0, 0, 0, []⟩).rs.getD q (0, 0)) ∧ (∀ j x, c[j]? = some x → (f j).op = x.op ∧ (f j).rn = x.rs.length) ∧ ∀ j, j < c.length → (f j).rn = (c.getD j ⟨0, 0, 0, 0, []⟩).rs.length := by
  obtain ⟨g, cc, f, rfl, hrow, hi, ha⟩ := h
  have hx : ∀ j, j < c.length → c[j]? = some (c.getD j ⟨0, 0, 0, 0, []⟩) := fun j hj => by
    rw [List.getD_eq_getElem?_getD, List.getElem?_eq_getElem hj]; rfl
  have hrn : ∀ j x, c[j]? = some x → (f j).rn = x.rs.length := fun j x e => (hi j x e).2.2.2.2.1
  refine ⟨g, cc, f, rfl, ⟨hrow, fun j hj => ?_, fun j hj => (ha.row j _ hj (hx j hj)).2, fun j k b hj hk => ha.two j k b hj hk, (hrow.lt g rfl).2, fun j b hj e => ((ha.row j _ hj (hx j hj)).1.lt b e).2⟩, fun j x e => ⟨(hi j x e).1, hrn j x e⟩, fun j hj => hrn j _ (hx j hj)⟩
  have := (ha.row j _ hj (hx j hj)).1
  unfold RoW at this
  rw [← hrn j _ (hx j hj)] at this
  exact this
namespace Pw
variable {S T g cc N : Nat} {w w' : World} {f : Nat → In} {h : Nat → Nat → Rg}
theorem kp {M : Nat → Prop} (p : Pw S T g cc N w f h) (k : Kp M w w') (hM : ∀ b, S ≤ b → b < T → ¬ M b) : Pw S T g cc N w' f h :=
  ⟨k.row p.row (fun b e => hM b (p.row.lt b e).1 (by cases e; exact p.gt)), fun j hj => k.row (p.rg j hj) (fun b e => hM b ((p.rg j hj).lt b e).1 (p.rt j b hj e)), p.ne, p.two, p.gt, p.rt⟩
theorem cell (p : Pw S T g cc N w f h) (j : Nat) (hj : j < N) : w.cell? ⟨g, j * 5, none⟩ = some (.int .i64 (f j).op) ∧ w.cell? ⟨g, j * 5 + 4, none⟩ = some (rgV (f j)) ∧ ∀ q, w.frozen? ⟨g, q, none⟩ = false := by
  have hc : ∀ k u, k < 5 → (i5 (f j))[k]? = some u → w.cell? ⟨g, j * 5 + k, none⟩ = some u := fun k u hk hu => by
    rw [World.ownsRow.cellAt p.row (j * 5 + k) (by omega), n5_get f N j k hj hk, hu]
  exact ⟨hc 0 _ (by omega) rfl, hc 4 _ (by omega) rfl, fun q => World.ownsRow.frozenAt p.row q⟩
theorem form (p : Pw S T g cc N w f h) (j : Nat) (hj : j < N) : ((f j).ra = none ∧ (f j).rn = 0 ∧ (f j).rc = 0) ∨ ∃ b, (f j).ra = some ⟨b, 0, none⟩ ∧ S ≤ b ∧ b < T := by
  rcases (p.rg j hj).2 with ⟨e, _⟩ | ⟨b, cap, cur, e, hb, hg, _⟩
  · cases e1 : (f j).ra with
    | none => refine .inl ⟨rfl, ?_, ?_⟩ <;> (unfold rgV at e; rw [e1] at e; injection e)
    | some a => unfold rgV at e; rw [e1] at e; cases e
  · unfold rgV at e
    injection e with e1 e2 e3
    exact .inr ⟨b, e1, hb, p.rt j b hj (by unfold rgV; rw [e1]; rfl)⟩
theorem nth (p : Pw S T g cc N w f h) (j k : Nat) (hj : j < N) (hk : k < (f j).rn) : ∃ b, (f j).ra = some ⟨b, 0, none⟩ ∧ S ≤ b ∧ b < T ∧ w.cell? ⟨b, k * 2, none⟩ = some (.int .i32 (h j k).1) ∧ w.cell? ⟨b, k * 2 + 1, none⟩ = some (.int .i32 (h j k).2) ∧ ∀ q, w.frozen? ⟨b, q, none⟩ = false := by
  rcases p.form j hj with ⟨_, e, _⟩ | ⟨b, e, h1, h2⟩
  · omega
  · have hr := p.rg j hj
    unfold rgV at hr
    rw [e] at hr
    have hc : ∀ q u, q < 2 → (r2 (h j k))[q]? = some u → w.cell? ⟨b, k * 2 + q, none⟩ = some u := fun q u hq hu => by
      rw [World.ownsRow.cellAt hr (k * 2 + q) (by omega), rc2_get (h j) _ k q hk hq, hu]
    exact ⟨b, e, h1, h2, hc 0 _ (by omega) rfl, hc 1 _ (by omega) rfl, fun q => World.ownsRow.frozenAt hr q⟩
/-- One list's row alone was changed, and it is a row still. -/
theorem lift (p : Pw S T g cc N w f h) (j : Nat) (hj : j < N) (x : Nat → Rg) (k : Kp (fun b => (rgV (f j)).ownBlock = some b) w w') (o : w'.ownsRow S 50 2 (rgV (f j)) (f j).rn (rc2 x (f j).rn)) : Pw S T g cc N w' f (up h j x) ∧ Kp (fun b => S ≤ b ∧ b < T) w w' := by
  refine ⟨⟨k.row p.row (fun b e => by cases e; exact p.ne j hj), fun i hi => ?_, p.ne, p.two, p.gt, p.rt⟩, k.mono (fun b _ e => ⟨((p.rg j hj).lt b e).1, p.rt j b hj e⟩)⟩
  by_cases e : i = j
  · subst e; rw [up_same]; exact o
  · rw [up_other _ _ _ _ e]
    exact k.row (p.rg i hi) (fun b e1 => p.two i j b hi hj e e1)
theorem set (p : Pw S T g cc N w f h) (j k b : Nat) (hj : j < N) (hk : k < (f j).rn) (hb : (f j).ra = some ⟨b, 0, none⟩) (x y : Int) :
    Pw S T g cc N ((w.setCell ⟨b, k * 2, none⟩ (.int .i32 x)).setCell ⟨b, k * 2 + 1, none⟩ (.int .i32 y)) f (up h j (up (h j) k (x, y))) ∧ Kp (fun b => S ≤ b ∧ b < T) w ((w.setCell ⟨b, k * 2, none⟩ (.int .i32 x)).setCell ⟨b, k * 2 + 1, none⟩ (.int .i32 y)) := by
  have e0 : rgV (f j) = .slice (some ⟨b, 0, none⟩) (f j).rn (f j).rc := by unfold rgV; rw [hb]
  have hr := p.rg j hj
  rw [e0] at hr
  have h1 := (World.ownsRow.stored hr (k * 2) (.int .i32 x)).1
  have h2 := (World.ownsRow.stored h1 (k * 2 + 1) (.int .i32 y)).1
  rw [rc2_set (h j) k x y _ hk] at h2
  refine p.lift j hj _ ?_ (by rw [e0]; exact h2)
  rw [e0]
  exact ((Kp.refl (fun i => some b = some i) w).setCell (p := ⟨b, k * 2, none⟩) rfl _).setCell (p := ⟨b, k * 2 + 1, none⟩) rfl _
theorem op (p : Pw S T g cc N w f h) (j : Nat) (hj : j < N) (x : Int) :
    Pw S T g cc N (w.setCell ⟨g, j * 5, none⟩ (.int .i64 x)) (up f j { f j with op := x }) h ∧ Kp (fun b => S ≤ b ∧ b < T) w (w.setCell ⟨g, j * 5, none⟩ (.int .i64 x)) := by
  have hq : ∀ i, rgV (up f j { f j with op := x } i) = rgV (f i) ∧ (up f j { f j with op := x } i).rn = (f i).rn := fun i => by
    by_cases e : i = j
    · subst e; rw [up_same]; exact ⟨rfl, rfl⟩
    · rw [up_other _ _ _ _ e]; exact ⟨rfl, rfl⟩
  have k : Kp (fun b => b = g) w (w.setCell ⟨g, j * 5, none⟩ (.int .i64 x)) := (Kp.refl (fun b => b = g) w).setCell (p := ⟨g, j * 5, none⟩) (show g = g from rfl) _
  refine ⟨⟨?_, fun i hi => ?_, fun i hi => by rw [(hq i).1]; exact p.ne i hi, fun i q b hi hq' hne => by rw [(hq i).1, (hq q).1]; exact p.two i q b hi hq' hne, p.gt, fun i b hi => by rw [(hq i).1]; exact p.rt i b hi⟩, k.mono (fun b _ e => by subst e; exact ⟨(p.row.lt b rfl).1, p.gt⟩)⟩
  · have := (World.ownsRow.stored p.row (j * 5) (.int .i64 x)).1
    have e := n5_setq f j 0 (.int .i64 x) { f j with op := x } (by omega) rfl N hj
    rw [Nat.add_zero] at e
    rw [e] at this
    exact this
  · rw [(hq i).1, (hq i).2]
    exact k.row (p.rg i hi) (fun b e1 e2 => p.ne i hi (by rw [← (show b = g from e2)]; exact e1))
end Pw
end Go.Proofs.Ytbciclnffokjjaa
