
/- Rows of things that share no memory: what apart's walk leans on. -/
import Derived.Test.YtcgpjmpppajfdaaJj
import Derived.Maps.AppendAt
namespace Go.Proofs.Ytcgpjmpppajfdaa
open Go.RowKit

/-- A later step may turn what was new at the first. -/
theorem Kp.then {M : Nat → Prop} {A B C : World} {row : Option Nat} (h : Kp M A B) (k : B.grownBy C row) (hr : ∀ g, row = some g → g < A.heap.size → M g) : Kp M A C :=
  ⟨k.os.trans h.os, k.tape.trans h.tape, k.output.trans h.output, Nat.le_trans h.size k.size, fun b hb hs => (k.block b (Nat.lt_of_lt_of_le hb h.size) (fun e => hs (hr b e.symm hb))).trans (h.block b hb hs)⟩
theorem Kp.of_none {M : Nat → Prop} {W W' : World} (h : W.grownBy W' none) : Kp M W W' := (Kp.refl M W).then h (fun _ e => by cases e)
theorem Kp.weak {M : Nat → Prop} {W W' : World} (h : Kp (fun _ => False) W W') : Kp M W W' := ⟨h.os, h.tape, h.output, h.size, fun b hb _ => h.block b hb id⟩

/-- A row of the call's own. -/
def Own (B : Nat) (W : World) (v : Value) (xs : List It) : Prop := Ir W B v xs.length (lk xs)
def Cl (col : Nat → Nat) (k : Nat) (v : Value) : Prop := ∀ g, v.ownBlock = some g → col g = k
/-- A slice that reads as a list. -/
def Rd (W : World) (v : Value) (xs : List It) : Prop :=
  (xs = [] ∧ ∃ a c, v = .slice a 0 c) ∨ ∃ g c, v = .slice (some ⟨g, 0, none⟩) xs.length c ∧ 0 < xs.length ∧ g < W.heap.size ∧ ∀ j, j < xs.length → W.cell? ⟨g, j * 2, none⟩ = some (.int .i64 (lk xs j).1) ∧ W.cell? ⟨g, j * 2 + 1, none⟩ = some (.int .i64 (lk xs j).2)
theorem Own.rd {B : Nat} {W : World} {v : Value} {xs : List It} (h : Own B W v xs) : Rd W v xs := by
  rcases Nat.eq_zero_or_pos xs.length with h0 | hp
  · have hx : xs = [] := List.eq_nil_of_length_eq_zero h0
    subst hx
    rcases h.2 with ⟨rfl, _⟩ | ⟨g, c, cur, rfl, _⟩
    · exact .inl ⟨rfl, _, _, rfl⟩
    · exact .inl ⟨rfl, _, _, rfl⟩
  · have hl := World.ownsRow.lt h
    have hc := fun (g c : Nat) (e : v = .slice (some ⟨g, 0, none⟩) xs.length c) (j : Nat) (hj : j < xs.length) => Ir.cells (e ▸ h) j hj
    rcases h.2 with ⟨_, h0⟩ | ⟨g, c, cur, rfl, _⟩
    · omega
    · exact .inr ⟨g, c, rfl, hp, (hl g rfl).2, fun j hj => ⟨(hc g c rfl j hj).1, (hc g c rfl j hj).2.1⟩⟩
theorem Rd.len {W : World} {v : Value} {xs : List It} (h : Rd W v xs) : ∃ a c, v = .slice a xs.length c := by
  rcases h with ⟨rfl, a, c, rfl⟩ | ⟨g, c, rfl, _⟩
  · exact ⟨a, c, rfl⟩
  · exact ⟨_, c, rfl⟩
theorem Rd.at {W : World} {v : Value} {xs : List It} (h : Rd W v xs) (hp : 0 < xs.length) : ∃ g c, v = .slice (some ⟨g, 0, none⟩) xs.length c ∧ g < W.heap.size ∧ ∀ j, j < xs.length → W.cell? ⟨g, j * 2, none⟩ = some (.int .i64 (lk xs j).1) ∧ W.cell? ⟨g, j * 2 + 1, none⟩ = some (.int .i64 (lk xs j).2) := by
  rcases h with ⟨rfl, _⟩ | ⟨g, c, rfl, _, h1, h2⟩
  · simp at hp
  · exact ⟨g, c, rfl, h1, h2⟩
theorem Own.blk {B : Nat} {W : World} {v : Value} {xs : List It} (h : Own B W v xs) : ∀ g, v.ownBlock = some g → B ≤ g ∧ g < W.heap.size := World.ownsRow.lt h
/-- A slice that reads keeps reading, where its block stays. -/
theorem Rd.keep {W W' : World} {v : Value} {xs : List It} (h : Rd W v xs) (hs : W.heap.size ≤ W'.heap.size) (hb : ∀ g, v.ownBlock = some g → g < W.heap.size → W'.heap[g]? = W.heap[g]?) : Rd W' v xs := by
  rcases h with h0 | ⟨g, c, rfl, hp, h1, h2⟩
  · exact .inl h0
  · refine .inr ⟨g, c, rfl, hp, Nat.lt_of_lt_of_le h1 hs, fun j hj => ?_⟩
    have e := hb g rfl h1
    rw [World.cell?_of_block (w := W) (w' := W') (a := ⟨g, j * 2, none⟩) e, World.cell?_of_block (w := W) (w' := W') (a := ⟨g, j * 2 + 1, none⟩) e]
    exact h2 j hj
/-- What is of another colour stays. -/
theorem Rd.stay {W W' : World} {col : Nat → Nat} {k i : Nat} {v : Value} {xs : List It} (h : Rd W v xs) (hc : Cl col i v) (hne : i ≠ k) (hg : Kp (fun b => col b = k) W W') : Rd W' v xs :=
  h.keep hg.size (fun g e hl => hg.block g hl (fun x => hne ((hc g e).symm.trans x)))
theorem Rd.stay0 {W W' : World} {v : Value} {xs : List It} (h : Rd W v xs) (hg : Kp (fun _ => False) W W') : Rd W' v xs := h.keep hg.size (fun g _ hl => hg.block g hl id)
theorem Rd.grown {W W' : World} {v : Value} {xs : List It} (h : Rd W v xs) (hg : W.grownBy W' none) : Rd W' v xs := h.stay0 (Kp.of_none hg)
theorem Own.stay {W W' : World} {col : Nat → Nat} {B k i : Nat} {v : Value} {xs : List It} (h : Own B W v xs) (hc : Cl col i v) (hne : i ≠ k) (hg : Kp (fun b => col b = k) W W') : Own B W' v xs :=
  hg.row h (fun g e x => hne ((hc g e).symm.trans x))

theorem ic_app (f : Nat → It) (n : Nat) : ∀ m, ic f (n + m) = ic f n ++ ic (fun j => f (n + j)) m
  | 0 => by simp [ic]
  | m + 1 => by rw [← Nat.add_assoc, ic_succ, ic_app f n m, ic_succ, List.append_assoc]
theorem lk_app_l (xs ys : List It) (j : Nat) (h : j < xs.length) : lk (xs ++ ys) j = lk xs j := by
  unfold lk
  simp [List.getD, List.getElem?_append_left h]
theorem lk_app_r (xs ys : List It) (j : Nat) : lk (xs ++ ys) (xs.length + j) = lk ys j := by
  unfold lk
  simp [List.getD, List.getElem?_append_right]
theorem icl_app (xs ys : List It) : ic (lk (xs ++ ys)) (xs.length + ys.length) = ic (lk xs) xs.length ++ ic (lk ys) ys.length := by
  rw [ic_app, ic_congr (lk (xs ++ ys)) (lk xs) xs.length (fun j hj => lk_app_l xs ys j hj), ic_congr (fun j => lk (xs ++ ys) (xs.length + j)) (lk ys) ys.length (fun j _ => lk_app_r xs ys j)]
theorem ic_one (f : Nat → It) (n : Nat) : ∀ u ∈ ic f n, u.oneCell' = true := by
  intro u hu
  obtain ⟨j, _, hj⟩ := List.mem_flatMap.1 hu
  simp [i2] at hj
  rcases hj with rfl | rfl <;> rfl

/-- More behind a row: what lay in it still reads; and only its own block, or none, has turned. -/
theorem app_keep (w : World) (B : Nat) (v : Value) (xs ys : List It) (ad : Addr) (c : Nat) (hB : B ≤ w.heap.size) (hn : (xs.length + ys.length) * 16 ≤ 140737488355328) (o : Own B w v xs) (hy : ∀ j u, (ic (lk ys) ys.length)[j]? = some u → w.cell? (ad.add j) = some u) :
    ∃ v' w', (Builtin.append_ #[22, 22] 22 #[v, .slice (some ad) ys.length c]).run Try.prog w = .ok v' w' ∧ Own B w' v' (xs ++ ys) ∧ w.grownBy w' v.ownBlock ∧ (∀ g, v'.ownBlock = some g → v.ownBlock = some g ∨ w.heap.size ≤ g) ∧
      ∀ (u : Value) (zs : List It), Rd w u zs → (∀ g, u.ownBlock = some g → v.ownBlock = some g → ∃ ts, xs = zs ++ ts) → Rd w' u zs := by
  obtain ⟨i0, hi, hz0, hz1, hz2⟩ := info_parts infI
  have h63 : xs.length + ys.length ≤ maxLen := by unfold maxLen; omega
  have fin : ∀ (v' : Value) (w' : World), w'.ownsRow B 24 2 v' (xs.length + ys.length) (ic (lk xs) xs.length ++ ic (lk ys) ys.length) → Own B w' v' (xs ++ ys) := fun v' w' h => by
    unfold Own Ir
    rw [List.length_append, icl_app]
    exact h
  obtain ⟨v', w', hr, h2, h3, _, h5⟩ := run_append_own_at (P := Try.prog) w B 22 22 24 i0 _ 2 16 Try.underlying22 hi hz0 hz1 hz2 rfl (by decide) v xs.length (ic (lk xs) xs.length) o ad ys.length c (ic (lk ys) ys.length) (ic_len _ _) hy (ic_one _ _) h63 hn hB
  have hown' := fin v' w' h2
  refine ⟨v', w', hr, hown', h3, fun g hg => ?_, fun u zs hu hpre => ?_⟩
  · rcases h5 with h5 | h5
    · exact .inl (by rw [← h5]; exact hg)
    · right
      rw [h5] at hg
      have := Option.some.inj hg
      omega
  · rcases hu with h0 | ⟨g, cu, rfl, hzp, hgl, hcell⟩
    · exact .inl h0
    · have keep : w'.heap[g]? = w.heap[g]? → Rd w' (.slice (some ⟨g, 0, none⟩) zs.length cu) zs := fun hb =>
        Rd.keep (.inr ⟨g, cu, rfl, hzp, hgl, hcell⟩) h3.size (fun g' e _ => by cases e; exact hb)
      by_cases hsame : v.ownBlock = some g
      · obtain ⟨ts, hts⟩ := hpre g rfl hsame
        rcases o.2 with ⟨rfl, _⟩ | ⟨g2, cap, cur, rfl, hbg, hgg, hnc, hcm, hcs, htake⟩
        · simp [Value.ownBlock] at hsame
        · obtain rfl : g2 = g := by simpa [Value.ownBlock] using hsame
          by_cases hroom : xs.length + ys.length ≤ cap
          · have hr2 := run_append_room (P := Try.prog) w 22 22 24 i0 Try.underlying22 hi g2 xs.length cap cur hgg ad ys.length c (ic (lk ys) ys.length) (by rw [hz1]; exact ic_len _ _) hy (ic_one _ _) hroom (by rw [hz1, hcs, ic_len]; omega)
            rw [hr] at hr2
            injection hr2 with e1 e2
            rw [e1] at hown'
            have hll : (xs ++ ys).length = xs.length + ys.length := List.length_append
            refine .inr ⟨g2, cu, rfl, hzp, Nat.lt_of_lt_of_le hgl h3.size, fun j hj => ?_⟩
            have hx := Ir.cells (show Ir w' B (.slice (some ⟨g2, 0, none⟩) (xs ++ ys).length cap) (xs ++ ys).length (lk (xs ++ ys)) by
              have : Ir w' B (.slice (some ⟨g2, 0, none⟩) (xs.length + ys.length) cap) (xs ++ ys).length (lk (xs ++ ys)) := hown'
              rw [← hll] at this
              exact this) j (by rw [hll, hts]; simp; omega)
            rw [lk_app_l xs ys j (by rw [hts]; simp; omega), hts, lk_app_l zs ts j hj] at hx
            exact ⟨hx.1, hx.2.1⟩
          · have holds : ∀ j u, (ic (lk xs) xs.length)[j]? = some u → w.cell? ((⟨g2, 0, none⟩ : Addr).add j) = some u := World.ownsRow.cells o (g := g2) rfl
            have hr2 := run_append_grow (P := Try.prog) w 22 22 24 i0 _ Try.underlying22 hi hz0 ⟨g2, 0, none⟩ xs.length cap (ic (lk xs) xs.length) (by rw [hz1]; exact ic_len _ _) holds ad ys.length c (ic (lk ys) ys.length) (by rw [hz1]; exact ic_len _ _) hy (by omega) (by omega) (growslice_fits (by omega) (by rw [hz2]; exact hn))
            rw [hr] at hr2
            injection hr2 with e1 e2
            refine keep ?_
            rw [e2]
            exact Below.heap_alloc w.drew _ g2 hgl
      · exact keep (h3.block g hgl (fun e => hsame e.symm))
end Go.Proofs.Ytcgpjmpppajfdaa
