/- Rows that share no memory: what apart's walk leans on. -/
import Derived.Test.YtnpgkiidpeaapaaDoorFd
import Derived.Maps.AppendAt
namespace Go.Proofs.YtnpgkiidpeaapaaDoor
open Go.RowKit Go.Lib

theorem icells_one (xs : List Int) : ∀ u ∈ icells xs, u.oneCell' = true := by
  intro u hu
  obtain ⟨x, _, rfl⟩ := List.mem_map.1 hu
  rfl
theorem icells_len (xs : List Int) : (icells xs).length = xs.length := by simp [icells]
theorem icells_app (xs ys : List Int) : icells (xs ++ ys) = icells xs ++ icells ys := by simp [icells]
theorem set_mid2 {α : Type} (L R : List α) (x y : α) : (L ++ x :: R).set L.length y = L ++ y :: R := by
  rw [List.set_append_right _ _ (Nat.le_refl _), Nat.sub_self]; rfl
theorem row_cell {w : World} {B G n c : Nat} {ys : List Int} (o : w.ownsRow B 3 1 (.slice (some ⟨G, 0, none⟩) n c) n (icells ys)) (j : Nat) (h : j < ys.length) : w.cell? ⟨G, j, none⟩ = some (.int .i64 (ys.getD j 0)) := by
  have := o.cells (g := G) rfl j (.int .i64 (ys.getD j 0)) (by simp [icells, List.getD, h])
  rw [Go.WideShapes.add_plain, Nat.zero_add] at this
  exact this
def RunesAt (w : World) (g o : Nat) (xs : List Int) : Prop := ∀ j, j < xs.length → w.cell? ⟨g, o + j, none⟩ = some (.int .i64 (xs.getD j 0))
theorem owned_at {w : World} {B : Nat} {v : Value} {xs : List Int} (o : w.ownsRow B 3 1 v xs.length (icells xs)) (hp : 0 < xs.length) :
    ∃ g c, v = .slice (some ⟨g, 0, none⟩) xs.length c ∧ RunesAt w g 0 xs ∧ B ≤ g ∧ g < w.heap.size := by
  have hl := o.lt
  have hc := fun g => o.cells (g := g)
  rcases o.2 with ⟨_, h⟩ | ⟨g, c, cur, rfl, _⟩
  · omega
  · refine ⟨g, c, rfl, fun j hj => ?_, (hl g rfl).1, (hl g rfl).2⟩
    have := hc g rfl j (.int .i64 (xs.getD j 0)) (by simp [icells, List.getD, hj])
    rw [Go.WideShapes.add_plain] at this
    exact this

/-- Only blocks of a set have turned. -/
structure Chg (S : Nat → Prop) (W W' : World) : Prop where
  os : W'.os = W.os
  tape : W'.tape = W.tape
  output : W'.output = W.output
  size : W.heap.size ≤ W'.heap.size
  block : ∀ b, b < W.heap.size → ¬ S b → W'.heap[b]? = W.heap[b]?
theorem Chg.refl (S : Nat → Prop) (W : World) : Chg S W W := ⟨rfl, rfl, rfl, Nat.le_refl _, fun _ _ _ => rfl⟩
theorem Chg.trans {S : Nat → Prop} {A B C : World} (h : Chg S A B) (k : Chg S B C) : Chg S A C :=
  ⟨k.os.trans h.os, k.tape.trans h.tape, k.output.trans h.output, Nat.le_trans h.size k.size, fun b hb hs => (k.block b (Nat.lt_of_lt_of_le hb h.size) hs).trans (h.block b hb hs)⟩
/-- A later step may turn what was new at the first. -/
theorem Chg.then {S : Nat → Prop} {A B C : World} {row : Option Nat} (h : Chg S A B) (k : B.grownBy C row) (hr : ∀ g, row = some g → g < A.heap.size → S g) : Chg S A C :=
  ⟨k.os.trans h.os, k.tape.trans h.tape, k.output.trans h.output, Nat.le_trans h.size k.size, fun b hb hs => (k.block b (Nat.lt_of_lt_of_le hb h.size) (fun e => hs (hr b e.symm hb))).trans (h.block b hb hs)⟩
theorem Chg.below {S : Nat → Prop} {A B : World} {n : Nat} (h : Chg S A B) (hn : n ≤ A.heap.size) (hs : ∀ b, b < n → ¬ S b) : Below n A B :=
  ⟨h.os, h.tape, h.output, h.size, fun k hk => h.block k (by omega) (hs k hk)⟩

/-- A row of the call's own with its colour. -/
def Cl (col : Nat → Nat) (k : Nat) (v : Value) : Prop := ∀ g, v.ownBlock = some g → col g = k
/-- A slice that reads as a list. -/
def Rd (W : World) (v : Value) (xs : List Int) : Prop :=
  (xs = [] ∧ ∃ a c, v = .slice a 0 c) ∨ ∃ g c, v = .slice (some ⟨g, 0, none⟩) xs.length c ∧ 0 < xs.length ∧ g < W.heap.size ∧ ∀ j, j < xs.length → W.cell? ⟨g, j, none⟩ = some (.int .i64 (xs.getD j 0))
theorem Own.rd {B : Nat} {W : World} {v : Value} {xs : List Int} (h : Own B W v xs) : Rd W v xs := by
  rcases Nat.eq_zero_or_pos xs.length with h0 | hp
  · have hx : xs = [] := List.eq_nil_of_length_eq_zero h0
    subst hx
    rcases h.2 with ⟨rfl, _⟩ | ⟨g, c, cur, rfl, _⟩
    · exact .inl ⟨rfl, _, _, rfl⟩
    · exact .inl ⟨rfl, _, _, rfl⟩
  · obtain ⟨g, c, rfl, ra, _, hg⟩ := owned_at h hp
    exact .inr ⟨g, c, rfl, hp, hg, fun j hj => by have := ra j hj; rw [Nat.zero_add] at this; exact this⟩
theorem Rd.len {W : World} {v : Value} {xs : List Int} (h : Rd W v xs) : ∃ a c, v = .slice a xs.length c := by
  rcases h with ⟨rfl, a, c, rfl⟩ | ⟨g, c, rfl, _⟩
  · exact ⟨a, c, rfl⟩
  · exact ⟨_, c, rfl⟩
theorem Rd.at {W : World} {v : Value} {xs : List Int} (h : Rd W v xs) (hp : 0 < xs.length) : ∃ g c, v = .slice (some ⟨g, 0, none⟩) xs.length c ∧ g < W.heap.size ∧ ∀ j, j < xs.length → W.cell? ⟨g, j, none⟩ = some (.int .i64 (xs.getD j 0)) := by
  rcases h with ⟨rfl, _⟩ | ⟨g, c, rfl, _, h1, h2⟩
  · simp at hp
  · exact ⟨g, c, rfl, h1, h2⟩
theorem Own.blk {B : Nat} {W : World} {v : Value} {xs : List Int} (h : Own B W v xs) : ∀ g, v.ownBlock = some g → B ≤ g ∧ g < W.heap.size := h.lt
/-- What is of another colour stays. -/
theorem Rd.stay {W W' : World} {col : Nat → Nat} {k i : Nat} {v : Value} {xs : List Int} (h : Rd W v xs) (hc : Cl col i v) (hne : i ≠ k) (hg : Chg (fun b => col b = k) W W') : Rd W' v xs := by
  rcases h with h0 | ⟨g, c, rfl, hp, h1, h2⟩
  · exact .inl h0
  · have hb := hg.block g h1 (fun e => hne ((hc g rfl).symm.trans e))
    refine .inr ⟨g, c, rfl, hp, Nat.lt_of_lt_of_le h1 hg.size, fun j hj => ?_⟩
    rw [World.cell?_of_block (w := W) (w' := W') (a := ⟨g, j, none⟩) hb]
    exact h2 j hj
theorem row_stay {W W' : World} {S : Nat → Prop} {B e n : Nat} {v : Value} {xs : List Value} (h : W.ownsRow B e 1 v n xs) (hs : ∀ g, v.ownBlock = some g → ¬ S g) (hg : Chg S W W') : W'.ownsRow B e 1 v n xs := by
  have hl := h.lt
  refine ⟨h.1, ?_⟩
  rcases h.2 with h0 | ⟨g, c, cur, rfl, hb, hgg, r⟩
  · exact .inl h0
  · exact .inr ⟨g, c, cur, rfl, hb, (hg.block g (hl g rfl).2 (hs g rfl)).trans hgg, r⟩
theorem Own.stay {W W' : World} {col : Nat → Nat} {B k i : Nat} {v : Value} {xs : List Int} (h : Own B W v xs) (hc : Cl col i v) (hne : i ≠ k) (hg : Chg (fun b => col b = k) W W') : Own B W' v xs :=
  row_stay h (fun g e x => hne ((hc g e).symm.trans x)) hg

/-- More behind a row: what lay in it still reads; and only its own block, or none, has turned. -/
theorem app_keep (w : World) (B : Nat) (v : Value) (xs ys : List Int) (ad : Addr) (c : Nat) (hB : B ≤ w.heap.size) (hn : (xs.length + ys.length) * 8 ≤ 140737488355328) (o : Own B w v xs) (hy : ∀ j u, (icells ys)[j]? = some u → w.cell? (ad.add j) = some u) (hp : 0 < ys.length) :
    ∃ v' w', (Builtin.append_ #[31, 31] 31 #[v, .slice (some ad) ys.length c]).run Tryd.prog w = .ok v' w' ∧ Own B w' v' (xs ++ ys) ∧ w.grownBy w' v.ownBlock ∧ (∀ g, v'.ownBlock = some g → v.ownBlock = some g ∨ w.heap.size ≤ g) ∧
      ∀ (u : Value) (zs : List Int), Rd w u zs → (∀ g, u.ownBlock = some g → v.ownBlock = some g → ∃ ts, xs = zs ++ ts) → Rd w' u zs := by
  obtain ⟨i0, hi, hz0, hz1, hz2⟩ := info_parts infI
  have hlen : (icells xs ++ icells ys).length = (xs.length + ys.length) * 1 := by simp [icells]
  have h63 : xs.length + ys.length ≤ maxLen := by unfold maxLen; omega
  have fin : ∀ (v' : Value) (w' : World), w'.ownsRow B 3 1 v' (xs.length + ys.length) (icells xs ++ icells ys) → Own B w' v' (xs ++ ys) := fun v' w' h => by
    unfold Own
    rw [List.length_append, icells_app]
    exact h
  obtain ⟨v', w', hr, h2, h3, _, h5⟩ := run_append_own_at (P := Tryd.prog) w B 31 31 3 i0 _ 1 8 Tryd.underlying31 hi hz0 hz1 hz2 rfl (by decide) v xs.length (icells xs) o ad ys.length c (icells ys) (by simp [icells]) hy (icells_one ys) h63 hn hB
  have hown' := fin v' w' h2
  refine ⟨v', w', hr, hown', h3, fun g hg => ?_, fun u zs hu hpre => ?_⟩
  · rcases h5 with h5 | h5
    · exact .inl (by rw [← h5]; exact hg)
    · right
      rw [h5] at hg
      have := Option.some.inj hg
      omega
  · rcases hu with h0 | ⟨g, cu, rfl, hzp, hgl, hcell⟩
    · exact .inl h0
    · have keep : w'.heap[g]? = w.heap[g]? → Rd w' (.slice (some ⟨g, 0, none⟩) zs.length cu) zs := fun hb =>
        .inr ⟨g, cu, rfl, hzp, Nat.lt_of_lt_of_le hgl h3.size, fun j hj => by
          rw [World.cell?_of_block (w := w) (w' := w') (a := ⟨g, j, none⟩) hb]
          exact hcell j hj⟩
      by_cases hsame : v.ownBlock = some g
      · obtain ⟨ts, hts⟩ := hpre g rfl hsame
        rcases o.2 with ⟨rfl, _⟩ | ⟨g2, cap, cur, rfl, hbg, hgg, hnc, hcm, hcs, htake⟩
        · simp [Value.ownBlock] at hsame
        · obtain rfl : g2 = g := by simpa [Value.ownBlock] using hsame
          by_cases hroom : xs.length + ys.length ≤ cap
          · have hr2 := run_append_room (P := Tryd.prog) w 31 31 3 i0 Tryd.underlying31 hi g2 xs.length cap cur hgg ad ys.length c (icells ys) (by rw [hz1]; simp [icells]) hy (icells_one ys) hroom (by rw [hz1, hcs, icells_len]; omega)
            rw [hr] at hr2
            injection hr2 with e1 e2
            rw [e1, ← icells_app] at h2
            refine .inr ⟨g2, cu, rfl, hzp, Nat.lt_of_lt_of_le hgl h3.size, fun j hj => ?_⟩
            have hx := row_cell (ys := xs ++ ys) h2 j (by rw [hts]; simp; omega)
            rw [hx, hts]
            simp [List.getD, List.getElem?_append_left hj]
          · have holds : ∀ j u, (icells xs)[j]? = some u → w.cell? ((⟨g2, 0, none⟩ : Addr).add j) = some u := o.cells (g := g2) rfl
            have hr2 := run_append_grow (P := Tryd.prog) w 31 31 3 i0 _ Tryd.underlying31 hi hz0 ⟨g2, 0, none⟩ xs.length cap (icells xs) (by rw [hz1]; exact o.1) holds ad ys.length c (icells ys) (by rw [hz1]; simp [icells]) hy (by omega) (by omega) (growslice_fits (by omega) (by rw [hz2]; exact hn))
            rw [hr] at hr2
            injection hr2 with e1 e2
            refine keep ?_
            rw [e2]
            exact Below.heap_alloc w.drew _ g2 hgl
      · exact keep (h3.block g hgl (fun e => hsame e.symm))
end Go.Proofs.YtnpgkiidpeaapaaDoor
