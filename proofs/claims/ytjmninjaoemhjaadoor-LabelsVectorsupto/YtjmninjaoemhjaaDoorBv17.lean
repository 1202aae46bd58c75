/- A bundle of texts. -/
import Derived.Test.YtjmninjaoemhjaaDoorBv10
import Derived.Test.YtjmninjaoemhjaaDoorBv09
import Derived.Maps.AppendAt
import Derived.Laws.BytesArg
/- Rows of labels that share no memory: what apart's walk leans on. -/
namespace Go.Proofs.YtjmninjaoemhjaaDoor.K
open Go.RowKit Go.Lib

theorem _root_.Go.Proofs.YtjmninjaoemhjaaDoor.Kp.cell {M : Nat → Prop} {w w' : World} (h : Kp M w w') {p : Addr} {v : Value} (hc : w.cell? p = some v) (hm : ¬ M p.block) : w'.cell? p = some v := by
  rw [World.cell?_of_block (w := w) (h.block p.block (World.block_lt_of_cell? w p hc) hm)]
  exact hc
theorem lbX_cell (w : World) (x : Lb) (j : Nat) (u : Value) (h : (l2 x)[j]? = some u) : (w.alloc (lbX x)).cell? ⟨w.heap.size, j, none⟩ = some u := by
  unfold World.cell?
  rw [show (w.alloc (lbX x)).heap[w.heap.size]? = some (lbX x) from heap_alloc_new w _]
  simpa [l2] using h
/-- A mark. -/
def mkB (i k : Nat) : Lb := (strOfNums [35, (i : Int) % 256, (i : Int) / 256 % 256], strOfNums [35, (k : Int)])


/-- A later step may turn what was new at the first. -/
theorem _root_.Go.Proofs.YtjmninjaoemhjaaDoor.Kp.then {M : Nat → Prop} {A B C : World} {row : Option Nat} (h : Kp M A B) (k : B.grownBy C row) (hr : ∀ g, row = some g → g < A.heap.size → M g) : Kp M A C :=
  ⟨k.os.trans h.os, k.tape.trans h.tape, k.output.trans h.output, Nat.le_trans h.size k.size, fun b hb hs => (k.block b (Nat.lt_of_lt_of_le hb h.size) (fun e => hs (hr b e.symm hb))).trans (h.block b hb hs)⟩
theorem _root_.Go.Proofs.YtjmninjaoemhjaaDoor.Kp.of_none {M : Nat → Prop} {W W' : World} (h : W.grownBy W' none) : Kp M W W' := (Kp.refl M W).then h (fun _ e => by cases e)
theorem _root_.Go.Proofs.YtjmninjaoemhjaaDoor.Kp.weak {M : Nat → Prop} {W W' : World} (h : Kp (fun _ => False) W W') : Kp M W W' := ⟨h.os, h.tape, h.output, h.size, fun b hb _ => h.block b hb id⟩

/-- A row of the call's own. -/
def Own (B : Nat) (W : World) (v : Value) (xs : List Lb) : Prop := Ir W B v xs.length (gL xs)
def Cl (col : Nat → Nat) (k : Nat) (v : Value) : Prop := ∀ g, v.ownBlock = some g → col g = k
/-- A slice that reads as a list. -/
def Rd (W : World) (v : Value) (xs : List Lb) : Prop :=
  (xs = [] ∧ ∃ a c, v = .slice a 0 c) ∨ ∃ g c, v = .slice (some ⟨g, 0, none⟩) xs.length c ∧ 0 < xs.length ∧ g < W.heap.size ∧ ∀ j, j < xs.length → W.cell? ⟨g, j * 2, none⟩ = some (.string (gL xs j).1) ∧ W.cell? ⟨g, j * 2 + 1, none⟩ = some (.string (gL xs j).2)
theorem Own.rd {B : Nat} {W : World} {v : Value} {xs : List Lb} (h : Own B W v xs) : Rd W v xs := by
  rcases Nat.eq_zero_or_pos xs.length with h0 | hp
  · have hx : xs = [] := List.eq_nil_of_length_eq_zero h0
    subst hx
    rcases h.2 with ⟨rfl, _⟩ | ⟨g, c, cur, rfl, _⟩
    · exact .inl ⟨rfl, _, _, rfl⟩
    · exact .inl ⟨rfl, _, _, rfl⟩
  · have hl := World.ownsRow.lt h
    have hc := fun (g c : Nat) (e : v = .slice (some ⟨g, 0, none⟩) xs.length c) (j : Nat) (hj : j < xs.length) => Ir.cells (e ▸ h) j hj
    rcases h.2 with ⟨_, h0⟩ | ⟨g, c, cur, rfl, _⟩
    · omega
    · exact .inr ⟨g, c, rfl, hp, (hl g rfl).2, fun j hj => ⟨(hc g c rfl j hj).1, (hc g c rfl j hj).2.1⟩⟩
theorem Rd.len {W : World} {v : Value} {xs : List Lb} (h : Rd W v xs) : ∃ a c, v = .slice a xs.length c := by
  rcases h with ⟨rfl, a, c, rfl⟩ | ⟨g, c, rfl, _⟩
  · exact ⟨a, c, rfl⟩
  · exact ⟨_, c, rfl⟩
theorem Rd.at {W : World} {v : Value} {xs : List Lb} (h : Rd W v xs) (hp : 0 < xs.length) : ∃ g c, v = .slice (some ⟨g, 0, none⟩) xs.length c ∧ g < W.heap.size ∧ ∀ j, j < xs.length → W.cell? ⟨g, j * 2, none⟩ = some (.string (gL xs j).1) ∧ W.cell? ⟨g, j * 2 + 1, none⟩ = some (.string (gL xs j).2) := by
  rcases h with ⟨rfl, _⟩ | ⟨g, c, rfl, _, h1, h2⟩
  · simp at hp
  · exact ⟨g, c, rfl, h1, h2⟩
theorem Own.blk {B : Nat} {W : World} {v : Value} {xs : List Lb} (h : Own B W v xs) : ∀ g, v.ownBlock = some g → B ≤ g ∧ g < W.heap.size := World.ownsRow.lt h
/-- A slice that reads keeps reading, where its block stays. -/
theorem Rd.keep {W W' : World} {v : Value} {xs : List Lb} (h : Rd W v xs) (hs : W.heap.size ≤ W'.heap.size) (hb : ∀ g, v.ownBlock = some g → g < W.heap.size → W'.heap[g]? = W.heap[g]?) : Rd W' v xs := by
  rcases h with h0 | ⟨g, c, rfl, hp, h1, h2⟩
  · exact .inl h0
  · refine .inr ⟨g, c, rfl, hp, Nat.lt_of_lt_of_le h1 hs, fun j hj => ?_⟩
    have e := hb g rfl h1
    rw [World.cell?_of_block (w := W) (w' := W') (a := ⟨g, j * 2, none⟩) e, World.cell?_of_block (w := W) (w' := W') (a := ⟨g, j * 2 + 1, none⟩) e]
    exact h2 j hj
/-- What is of another colour stays. -/
theorem Rd.stay {W W' : World} {col : Nat → Nat} {k i : Nat} {v : Value} {xs : List Lb} (h : Rd W v xs) (hc : Cl col i v) (hne : i ≠ k) (hg : Kp (fun b => col b = k) W W') : Rd W' v xs :=
  h.keep hg.size (fun g e hl => hg.block g hl (fun x => hne ((hc g e).symm.trans x)))
theorem Rd.stay0 {W W' : World} {v : Value} {xs : List Lb} (h : Rd W v xs) (hg : Kp (fun _ => False) W W') : Rd W' v xs := h.keep hg.size (fun g _ hl => hg.block g hl id)
theorem Rd.grown {W W' : World} {v : Value} {xs : List Lb} (h : Rd W v xs) (hg : W.grownBy W' none) : Rd W' v xs := h.stay0 (Kp.of_none hg)
theorem Own.stay {W W' : World} {col : Nat → Nat} {B k i : Nat} {v : Value} {xs : List Lb} (h : Own B W v xs) (hc : Cl col i v) (hne : i ≠ k) (hg : Kp (fun b => col b = k) W W') : Own B W' v xs :=
  hg.row h (fun g e x => hne ((hc g e).symm.trans x))


theorem gL_app_l (xs ys : List Lb) (j : Nat) (h : j < xs.length) : gL (xs ++ ys) j = gL xs j := by
  unfold gL
  simp [List.getD, List.getElem?_append_left h]
theorem gL_app_r (xs ys : List Lb) (j : Nat) : gL (xs ++ ys) (xs.length + j) = gL ys j := by
  unfold gL
  simp [List.getD, List.getElem?_append_right]
theorem lcl_app (xs ys : List Lb) : lc (gL (xs ++ ys)) (xs.length + ys.length) = lc (gL xs) xs.length ++ lc (gL ys) ys.length := by
  rw [lc_app, lc_congr (gL (xs ++ ys)) (gL xs) xs.length (fun j hj => gL_app_l xs ys j hj), lc_congr (fun j => gL (xs ++ ys) (xs.length + j)) (gL ys) ys.length (fun j _ => gL_app_r xs ys j)]

/-- More behind a row: what lay in it still reads; and only its own block, or none, has turned. -/
theorem app_keep (w : World) (B : Nat) (v : Value) (xs ys : List Lb) (ad : Addr) (c : Nat) (hB : B ≤ w.heap.size) (hn : (xs.length + ys.length) * 32 ≤ 140737488355328) (o : Own B w v xs) (hy : ∀ j u, (lc (gL ys) ys.length)[j]? = some u → w.cell? (ad.add j) = some u) :
    ∃ v' w', (Builtin.append_ #[22, 22] 22 #[v, .slice (some ad) ys.length c]).run Tryd.prog w = .ok v' w' ∧ Own B w' v' (xs ++ ys) ∧ w.grownBy w' v.ownBlock ∧ (∀ g, v'.ownBlock = some g → v.ownBlock = some g ∨ w.heap.size ≤ g) ∧
      ∀ (u : Value) (zs : List Lb), Rd w u zs → (∀ g, u.ownBlock = some g → v.ownBlock = some g → ∃ ts, xs = zs ++ ts) → Rd w' u zs := by
  obtain ⟨i0, hi, hz0, hz1, hz2⟩ := info_parts infL
  have h63 : xs.length + ys.length ≤ maxLen := by unfold maxLen; omega
  have fin : ∀ (v' : Value) (w' : World), w'.ownsRow B 26 2 v' (xs.length + ys.length) (lc (gL xs) xs.length ++ lc (gL ys) ys.length) → Own B w' v' (xs ++ ys) := fun v' w' h => by
    unfold Own Ir
    rw [List.length_append, lcl_app]
    exact h
  obtain ⟨v', w', hr, h2, h3, _, h5⟩ := run_append_own_at (P := Tryd.prog) w B 22 22 26 i0 _ 2 32 Tryd.underlying22 hi hz0 hz1 hz2 rfl (by decide) v xs.length (lc (gL xs) xs.length) o ad ys.length c (lc (gL ys) ys.length) (lc_len _ _) hy (lc_one _ _) h63 hn hB
  have hown' := fin v' w' h2
  refine ⟨v', w', hr, hown', h3, fun g hg => ?_, fun u zs hu hpre => ?_⟩
  · rcases h5 with h5 | h5
    · exact .inl (by rw [← h5]; exact hg)
    · right
      rw [h5] at hg
      have := Option.some.inj hg
      omega
  · rcases hu with h0 | ⟨g, cu, rfl, hzp, hgl, hcell⟩
    · exact .inl h0
    · have keep : w'.heap[g]? = w.heap[g]? → Rd w' (.slice (some ⟨g, 0, none⟩) zs.length cu) zs := fun hb =>
        Rd.keep (.inr ⟨g, cu, rfl, hzp, hgl, hcell⟩) h3.size (fun g' e _ => by cases e; exact hb)
      by_cases hsame : v.ownBlock = some g
      · obtain ⟨ts, hts⟩ := hpre g rfl hsame
        rcases o.2 with ⟨rfl, _⟩ | ⟨g2, cap, cur, rfl, hbg, hgg, hnc, hcm, hcs, htake⟩
        · simp [Value.ownBlock] at hsame
        · obtain rfl : g2 = g := by simpa [Value.ownBlock] using hsame
          by_cases hroom : xs.length + ys.length ≤ cap
          · have hr2 := run_append_room (P := Tryd.prog) w 22 22 26 i0 Tryd.underlying22 hi g2 xs.length cap cur hgg ad ys.length c (lc (gL ys) ys.length) (by rw [hz1]; exact lc_len _ _) hy (lc_one _ _) hroom (by rw [hz1, hcs, lc_len]; omega)
            rw [hr] at hr2
            injection hr2 with e1 e2
            rw [e1] at hown'
            have hll : (xs ++ ys).length = xs.length + ys.length := List.length_append
            refine .inr ⟨g2, cu, rfl, hzp, Nat.lt_of_lt_of_le hgl h3.size, fun j hj => ?_⟩
            have hx := Ir.cells (show Ir w' B (.slice (some ⟨g2, 0, none⟩) (xs ++ ys).length cap) (xs ++ ys).length (gL (xs ++ ys)) by
              have : Ir w' B (.slice (some ⟨g2, 0, none⟩) (xs.length + ys.length) cap) (xs ++ ys).length (gL (xs ++ ys)) := hown'
              rw [← hll] at this
              exact this) j (by rw [hll, hts]; simp; omega)
            rw [gL_app_l xs ys j (by rw [hts]; simp; omega), hts, gL_app_l zs ts j hj] at hx
            exact ⟨hx.1, hx.2.1⟩
          · have holds : ∀ j u, (lc (gL xs) xs.length)[j]? = some u → w.cell? ((⟨g2, 0, none⟩ : Addr).add j) = some u := World.ownsRow.cells o (g := g2) rfl
            have hr2 := run_append_grow (P := Tryd.prog) w 22 22 26 i0 _ Tryd.underlying22 hi hz0 ⟨g2, 0, none⟩ xs.length cap (lc (gL xs) xs.length) (by rw [hz1]; exact lc_len _ _) holds ad ys.length c (lc (gL ys) ys.length) (by rw [hz1]; exact lc_len _ _) hy (by omega) (by omega) (growslice_fits (by omega) (by rw [hz2]; exact hn))
            rw [hr] at hr2
            injection hr2 with e1 e2
            refine keep ?_
            rw [e2]
            exact Below.heap_alloc w.drew _ g2 hgl
      · exact keep (h3.block g hgl (fun e => hsame e.symm))


def RdC (col : Nat → Nat) (i : Nat) (W : World) (v : Value) (xs : List Lb) : Prop := Rd W v xs ∧ (0 < xs.length → Cl col i v)
def OwnC (B : Nat) (col : Nat → Nat) (i : Nat) (W : World) (v : Value) (xs : List Lb) : Prop := Own B W v xs ∧ Cl col i v
def ext (col : Nat → Nat) (h k : Nat) (b : Nat) : Nat := if b < h then col b else k
theorem OwnC.rd {B : Nat} {col : Nat → Nat} {i : Nat} {W : World} {v : Value} {xs : List Lb} (h : OwnC B col i W v xs) : RdC col i W v xs := ⟨h.1.rd, fun _ => h.2⟩
theorem RdC.stay {col : Nat → Nat} {i k : Nat} {W W' : World} {v : Value} {xs : List Lb} (h : RdC col i W v xs) (hne : i ≠ k) (hg : Kp (fun b => col b = k) W W') : RdC col i W' v xs := by
  rcases Nat.eq_zero_or_pos xs.length with h0 | hp
  · have hx : xs = [] := List.eq_nil_of_length_eq_zero h0
    subst hx
    rcases h.1 with h1 | ⟨_, _, _, h1, _⟩
    · exact ⟨.inl h1, h.2⟩
    · simp at h1
  · exact ⟨h.1.stay (h.2 hp) hne hg, h.2⟩
theorem OwnC.stay {B : Nat} {col : Nat → Nat} {i k : Nat} {W W' : World} {v : Value} {xs : List Lb} (h : OwnC B col i W v xs) (hne : i ≠ k) (hg : Kp (fun b => col b = k) W W') : OwnC B col i W' v xs := ⟨h.1.stay h.2 hne hg, h.2⟩
theorem RdC.ext {col : Nat → Nat} {i k h : Nat} {W W0 : World} {v : Value} {xs : List Lb} (r : RdC col i W v xs) (r0 : Rd W0 v xs) (hh : W0.heap.size ≤ h) : RdC (ext col h k) i W v xs :=
  ⟨r.1, fun hp g hg => by
    obtain ⟨g2, c, rfl, hlt, _⟩ := r0.at hp
    obtain rfl : g2 = g := by simpa [Value.ownBlock] using hg
    unfold Go.Proofs.YtjmninjaoemhjaaDoor.K.ext
    rw [if_pos (by omega)]
    exact r.2 hp g2 hg⟩
theorem OwnC.ext {B : Nat} {col : Nat → Nat} {i k h : Nat} {W W0 : World} {v : Value} {xs ys : List Lb} (r : OwnC B col i W v xs) (r0 : Own B W0 v ys) (hh : W0.heap.size ≤ h) : OwnC B (ext col h k) i W v xs :=
  ⟨r.1, fun g hg => by
    have := (r0.blk g hg).2
    unfold Go.Proofs.YtjmninjaoemhjaaDoor.K.ext
    rw [if_pos (by omega)]
    exact r.2 g hg⟩

def mk1 (N : Nat → Nat) (i : Nat) : List Lb := List.replicate (N i) (mkB i 1)
def mk2 (N : Nat → Nat) (i : Nat) : List Lb := mk1 N i ++ List.replicate 16 (mkB i 2)
def mk3 (N : Nat → Nat) (i : Nat) : List Lb := mk2 N i ++ List.replicate 200 (mkB i 3)
theorem mk1_len (N : Nat → Nat) (i : Nat) : (mk1 N i).length = N i := by simp [mk1]
theorem mk2_len (N : Nat → Nat) (i : Nat) : (mk2 N i).length = N i + 16 := by simp [mk2, mk1_len]
theorem mk3_len (N : Nat → Nat) (i : Nat) : (mk3 N i).length = N i + 216 := by unfold mk3; rw [List.length_append, mk2_len, List.length_replicate]

/-- What never turns in apart: the list of lists; and where colours lie. -/
structure St0 (M : Nat → Prop) (q B BL : Nat) (V : Nat → Value) (col : Nat → Nat) (W : World) : Prop where
  cells : ∀ i, i < q → W.cell? ⟨BL, i, none⟩ = some (V i)
  cbl : col BL = q
  base : ∀ b, col b < q + 3 → M b
  top : ∀ b, W.heap.size ≤ b → M b
  size : B ≤ W.heap.size
  hq : 0 < q
section
variable {M : Nat → Prop} {q B BL : Nat} {V : Nat → Value} {col : Nat → Nat} {W W' W0 : World} {k : Nat}
theorem St0.lt (h : St0 M q B BL V col W) : BL < W.heap.size := World.block_lt_of_cell? W _ (h.cells 0 h.hq)
theorem St0.stay (h : St0 M q B BL V col W) (hk : k ≠ q) (hg : Kp (fun b => col b = k) W W') : St0 M q B BL V col W' :=
  ⟨fun i hi => hg.cell (h.cells i hi) (fun (e : col BL = k) => hk (by rw [← e]; exact h.cbl)), h.cbl, h.base, fun b hb => h.top b (Nat.le_trans hg.size hb), Nat.le_trans h.size hg.size, h.hq⟩
theorem St0.ext (h : St0 M q B BL V col W) (h0 : St0 M q B BL V col W0) : St0 M q B BL V (ext col W0.heap.size k) W :=
  ⟨h.cells, by unfold Go.Proofs.YtjmninjaoemhjaaDoor.K.ext; rw [if_pos h0.lt]; exact h.cbl, fun b hb => by
    unfold Go.Proofs.YtjmninjaoemhjaaDoor.K.ext at hb
    split at hb
    · exact h.base b hb
    · exact h0.top b (by omega), h.top, h.size, h.hq⟩
theorem St0.below (h : St0 M q B BL V col W) (hk : k < q + 3) (hg : Kp (fun b => col b = k) W W') : Kp M W W' :=
  ⟨hg.os, hg.tape, hg.output, hg.size, fun b hb hm => hg.block b hb fun (e : col b = k) => hm (h.base b (by rw [e]; exact hk))⟩
end

/-- A list written over with marks up to a place. -/
def ov1 (m : Lb) (X : List Lb) (j : Nat) : List Lb := List.replicate j m ++ X.drop j
theorem ov1_len (m : Lb) (X : List Lb) (j : Nat) (h : j ≤ X.length) : (ov1 m X j).length = X.length := by simp [ov1]; omega
theorem gL_rep (n : Nat) (m : Lb) (j : Nat) (h : j < n) : gL (List.replicate n m) j = m := by
  simp [gL, List.getD, h]
theorem ov1_at (m : Lb) (X : List Lb) (j i : Nat) : gL (ov1 m X j) i = if i < j then m else gL X i := by
  unfold ov1
  by_cases h : i < j
  · rw [if_pos h, gL_app_l _ _ _ (by simpa using h)]
    simp [gL, List.getD, h]
  · rw [if_neg h]
    have e := gL_app_r (List.replicate j m) (X.drop j) (i - j)
    rw [List.length_replicate, show j + (i - j) = i by omega] at e
    rw [e]
    simp [gL, List.getD, show j + (i - j) = i by omega]
theorem ov1_up (m : Lb) (X : List Lb) (j : Nat) (i : Nat) : up (gL (ov1 m X j)) j m i = gL (ov1 m X (j + 1)) i := by
  rw [ov1_at m X (j + 1) i]
  by_cases hi : i = j
  · subst hi; rw [up_same, if_pos (by omega)]
  · rw [up_other _ _ _ _ hi, ov1_at m X j i]
    by_cases h : i < j
    · rw [if_pos h, if_pos (by omega)]
    · rw [if_neg h, if_neg (by omega)]
theorem ov1_end (m : Lb) (X : List Lb) : ov1 m X X.length = List.replicate X.length m := by simp [ov1]
theorem ov1_zero (m : Lb) (X : List Lb) : ov1 m X 0 = X := by simp [ov1]
/-- A mark stored. -/
theorem Own.mark {B g c n : Nat} {W : World} {m : Lb} {X : List Lb} {j : Nat} (h : Own B W (.slice (some ⟨g, 0, none⟩) n c) (ov1 m X j)) (hn : X.length = n) (hj : j < n) : W.cell? ⟨g, j * 2, none⟩ = some (.string (gL (ov1 m X j) j).1) ∧ W.cell? ⟨g, j * 2 + 1, none⟩ = some (.string (gL (ov1 m X j) j).2) ∧ W.frozen? ⟨g, j * 2, none⟩ = false ∧ W.frozen? ⟨g, j * 2 + 1, none⟩ = false ∧
    Own B ((W.setCell ⟨g, j * 2, none⟩ (.string m.1)).setCell ⟨g, j * 2 + 1, none⟩ (.string m.2)) (.slice (some ⟨g, 0, none⟩) n c) (ov1 m X (j + 1)) := by
  have hl : (ov1 m X j).length = n := by rw [ov1_len _ _ _ (by omega), hn]
  have hl2 : (ov1 m X (j + 1)).length = n := by rw [ov1_len _ _ _ (by omega), hn]
  have h' : Ir W B (.slice (some ⟨g, 0, none⟩) n c) n (gL (ov1 m X j)) := by
    have := h
    unfold Own at this
    rw [hl] at this
    exact this
  obtain ⟨a1, a2, a3, a4⟩ := Ir.cells h' j hj
  refine ⟨a1, a2, a3, a4, ?_⟩
  unfold Own
  rw [hl2]
  exact Ir.congr (Ir.set h' j hj m) (fun i _ => ov1_up m X j i)

section
variable {q B : Nat} {V : Nat → Value} {col : Nat → Nat} {p : Nat} {W W' : World}
/-- The rows between two rounds of the first loop. -/
def P1 (q B : Nat) (V : Nat → Value) (col : Nat → Nat) (X : Nat → List Lb) (p : Nat) (W : World) : Prop := ∀ i, i < q → OwnC B col i W (V i) (if i < p then mk1 (fun i => (X i).length) i else X i)
theorem P1.step {X : Nat → List Lb} (h : P1 q B V col X p W) (hg : Kp (fun b => col b = p) W W') (ho : OwnC B col p W' (V p) (mk1 (fun i => (X i).length) p)) : P1 q B V col X (p + 1) W' := fun i hi => by
  by_cases e : i = p
  · subst e
    rw [if_pos (by omega)]
    exact ho
  · have := (h i hi).stay e hg
    by_cases hl : i < p
    · rw [if_pos hl] at this
      rw [if_pos (by omega)]
      exact this
    · rw [if_neg hl] at this
      rw [if_neg (by omega)]
      exact this
end

/-- A row of slices, of a colour. -/
def Hrow (q B : Nat) (col : Nat → Nat) (H c : Nat) (W : World) (f : Nat → Value) : Prop := W.ownsRow B 22 1 (.slice (some ⟨H, 0, none⟩) q q) q ((List.range q).map f) ∧ col H = c
section
variable {q B : Nat} {col : Nat → Nat} {H c k h : Nat} {W W' W0 : World} {f f0 : Nat → Value}
theorem Hrow.lt (h : Hrow q B col H c W f) : B ≤ H ∧ H < W.heap.size := World.ownsRow.lt h.1 H rfl
theorem Hrow.stay (h : Hrow q B col H c W f) (hk : k ≠ c) (hg : Kp (fun b => col b = k) W W') : Hrow q B col H c W' f :=
  ⟨hg.row h.1 (fun g e (x : col g = k) => hk (by
    obtain rfl : H = g := by simpa [Value.ownBlock] using e
    rw [← x]; exact h.2)), h.2⟩
theorem Hrow.ext (r : Hrow q B col H c W f) (r0 : Hrow q B col H c W0 f0) (hh : W0.heap.size ≤ h) : Hrow q B (ext col h k) H c W f :=
  ⟨r.1, by unfold Go.Proofs.YtjmninjaoemhjaaDoor.K.ext; rw [if_pos (by have := r0.lt; omega)]; exact r.2⟩
theorem Hrow.cell (h : Hrow q B col H c W f) (i : Nat) (hi : i < q) : W.cell? ⟨H, i, none⟩ = some (f i) := by
  have := World.ownsRow.cells h.1 (g := H) rfl i (f i) (by simp [hi])
  rw [Go.WideShapes.add_plain, Nat.zero_add] at this
  exact this
theorem range_set (q : Nat) (f : Nat → Value) (p : Nat) (v : Value) : ((List.range q).map f).set p v = (List.range q).map (fun i => if i = p then v else f i) := by
  apply List.ext_getElem?
  intro j
  rw [List.getElem?_set]
  by_cases hj : j < q
  · by_cases e : p = j
    · subst e
      simp [hj]
    · simp [hj, e, Ne.symm e]
  · by_cases e : p = j
    · subst e
      simp [hj]
    · simp [hj, e]
theorem Hrow.put (h : Hrow q B col H c W f) (p : Nat) (v : Value) :
    Hrow q B col H c (W.setCell ⟨H, p, none⟩ v) (fun i => if i = p then v else f i) ∧ Kp (fun b => col b = c) W (W.setCell ⟨H, p, none⟩ v) := by
  have := World.ownsRow.stored h.1 p v
  rw [range_set q f p v] at this
  exact ⟨⟨this.1, h.2⟩, (Kp.refl _ W).then this.2 (fun g e _ => by cases e; exact h.2)⟩
end
section
variable {q B : Nat} {V : Nat → Value} {col : Nat → Nat} {N : Nat → Nat} {G M : Nat → Value} {p k : Nat} {W W' : World}
/-- The rows between two rounds of the second loop. -/
def P2 (q B : Nat) (V : Nat → Value) (col : Nat → Nat) (N : Nat → Nat) (G : Nat → Value) (p : Nat) (W : World) : Prop := ∀ i, i < q → (i < p → RdC col i W (V i) (mk1 N i) ∧ OwnC B col i W (G i) (mk2 N i)) ∧ (¬ i < p → OwnC B col i W (V i) (mk1 N i))
theorem P1.next {X : Nat → List Lb} (h : P1 q B V col X q W) (hg : W.grownBy W' none) (G : Nat → Value) : P2 q B V (ext col W.heap.size (q + 1)) (fun i => (X i).length) G 0 W' := fun i hi => by
  have r := h i hi
  rw [if_pos hi] at r
  exact ⟨fun x => absurd x (by omega), fun _ => ((r.stay (k := q + 5) (by omega) (Kp.of_none hg)).ext r.1 (Nat.le_refl _))⟩
theorem P2.stay (h : P2 q B V col N G p W) (hk : q ≤ k) (hg : Kp (fun b => col b = k) W W') : P2 q B V col N G p W' := fun i hi =>
  ⟨fun x => ⟨((h i hi).1 x).1.stay (by omega) hg, ((h i hi).1 x).2.stay (by omega) hg⟩, fun x => ((h i hi).2 x).stay (by omega) hg⟩
theorem P2.step {gv : Value} (h : P2 q B V col N G p W) (hp : p < q) (hg : Kp (fun b => col b = p) W W')
    (ho : Own B W' gv (mk2 N p)) (hr : Rd W' (V p) (mk1 N p)) (hc : ∀ g, gv.ownBlock = some g → g < W.heap.size → col g = p) : P2 q B V (ext col W.heap.size p) N (fun i => if i = p then gv else G i) (p + 1) W' := fun i hi => by
  by_cases e : i = p
  · subst e
    refine ⟨fun _ => ⟨⟨hr, fun hpos g hgb => ?_⟩, ?_⟩, fun x => absurd (by omega) x⟩
    · have hw := (h i hi).2 (by omega)
      unfold Go.Proofs.YtjmninjaoemhjaaDoor.K.ext
      rw [if_pos (hw.1.blk g hgb).2]
      exact hw.2 g hgb
    · simp only [if_true]
      refine ⟨ho, fun g hgb => ?_⟩
      unfold Go.Proofs.YtjmninjaoemhjaaDoor.K.ext
      split
      · exact hc g hgb (by assumption)
      · rfl
  · refine ⟨fun x => ?_, fun x => ?_⟩
    · obtain ⟨r1, r2⟩ := (h i hi).1 (by omega)
      simp only [if_neg e]
      exact ⟨(r1.stay e hg).ext r1.1 (Nat.le_refl _), (r2.stay e hg).ext r2.1 (Nat.le_refl _)⟩
    · have r := (h i hi).2 (by omega)
      exact (r.stay e hg).ext r.1 (Nat.le_refl _)
/-- One mark put behind a row, with what is kept. -/
theorem grow_one {W0 : World} {v u : Value} {xs zs ts : List Lb} {m : Lb} (hB : B ≤ W0.heap.size) (hn : xs.length ≤ 4294967296) (ho : Own B W v xs) (hr : Rd W u zs) (hpre : xs = zs ++ ts) (hc : Kp (fun b => col b = p) W0 W) (hcl : ∀ g, v.ownBlock = some g → g < W0.heap.size → col g = p) :
    ∃ v' w', (Builtin.append_ #[22, 22] 22 #[v, .slice (some ⟨W.heap.size, 0, none⟩) 1 1]).run Tryd.prog (W.alloc (lbX m)) = .ok v' w' ∧ Own B w' v' (xs ++ [m]) ∧ Rd w' u zs ∧ Kp (fun b => col b = p) W0 w' ∧ (∀ g, v'.ownBlock = some g → g < W0.heap.size → col g = p) := by
  have ga := World.grownBy_alloc W (lbX m) none
  obtain ⟨v', w', r, o', g', hb, hk⟩ := app_keep (W.alloc (lbX m)) B v xs [m] ⟨W.heap.size, 0, none⟩ 1 (Nat.le_trans hB (Nat.le_trans hc.size ga.size)) (by simp; omega) (World.ownsRow.alloc ho _) (fun j x hj => by
    rw [Go.WideShapes.add_plain, Nat.zero_add]
    exact lbX_cell W m j x hj)
  refine ⟨v', w', r, o', hk u zs (hr.grown ga) (fun _ _ _ => ⟨ts, hpre⟩), (hc.then ga (fun g e => by cases e)).then g' hcl, fun g hg hl => ?_⟩
  rcases hb g hg with h1 | h1
  · exact hcl g h1 hl
  · have := hc.size
    simp at h1
    omega
theorem upto_put (G : Nat → Value) (p : Nat) (v : Value) : (fun i => if i = p then v else (if i < p then G i else .slice none 0 0)) = (fun i => if i < p + 1 then (if i = p then v else G i) else .slice none 0 0) := by
  funext i
  by_cases e : i = p
  · rw [if_pos e, if_pos (by omega), if_pos e]
  · rw [if_neg e]
    by_cases hl : i < p
    · rw [if_pos hl, if_pos (by omega), if_neg e]
    · rw [if_neg hl, if_neg (by omega)]

/-- The rows between two rounds of the third loop. -/
def P3 (q B : Nat) (V : Nat → Value) (col : Nat → Nat) (N : Nat → Nat) (G M : Nat → Value) (p : Nat) (W : World) : Prop := ∀ i, i < q → RdC col i W (V i) (mk1 N i) ∧ (i < p → RdC col i W (G i) (mk2 N i) ∧ OwnC B col i W (M i) (mk3 N i)) ∧ (¬ i < p → OwnC B col i W (G i) (mk2 N i))
theorem P3.stay (h : P3 q B V col N G M p W) (hk : q ≤ k) (hg : Kp (fun b => col b = k) W W') : P3 q B V col N G M p W' := fun i hi =>
  ⟨(h i hi).1.stay (by omega) hg, fun x => ⟨((h i hi).2.1 x).1.stay (by omega) hg, ((h i hi).2.1 x).2.stay (by omega) hg⟩, fun x => ((h i hi).2.2 x).stay (by omega) hg⟩
theorem P2.next (h : P2 q B V col N G q W) (hg : W.grownBy W' none) (M : Nat → Value) : P3 q B V (ext col W.heap.size (q + 2)) N G M 0 W' := fun i hi => by
  obtain ⟨r1, r2⟩ := (h i hi).1 hi
  have cg : Kp (fun b => col b = q + 5) W W' := Kp.of_none hg
  exact ⟨(r1.stay (by omega) cg).ext r1.1 (Nat.le_refl _), fun x => absurd x (by omega), fun _ => (r2.stay (by omega) cg).ext r2.1 (Nat.le_refl _)⟩
theorem P3.step {mv : Value} (h : P3 q B V col N G M p W) (hp : p < q) (hg : Kp (fun b => col b = p) W W')
    (ho : Own B W' mv (mk3 N p)) (hr : Rd W' (V p) (mk1 N p)) (hr2 : Rd W' (G p) (mk2 N p)) (hc : ∀ g, mv.ownBlock = some g → g < W.heap.size → col g = p) : P3 q B V (ext col W.heap.size p) N G (fun i => if i = p then mv else M i) (p + 1) W' := fun i hi => by
  by_cases e : i = p
  · subst e
    obtain ⟨r1, _, r3⟩ := h i hi
    have r3' := r3 (by omega)
    have x1 : RdC col i W' (V i) (mk1 N i) := ⟨hr, r1.2⟩
    have x2 : RdC col i W' (G i) (mk2 N i) := ⟨hr2, fun _ => r3'.2⟩
    refine ⟨x1.ext r1.1 (Nat.le_refl _), fun _ => ⟨x2.ext r3'.1.rd (Nat.le_refl _), ?_⟩, fun x => absurd (by omega) x⟩
    simp only [if_true]
    refine ⟨ho, fun g hgb => ?_⟩
    unfold Go.Proofs.YtjmninjaoemhjaaDoor.K.ext
    split
    · exact hc g hgb (by assumption)
    · rfl
  · obtain ⟨r1, r2, r3⟩ := h i hi
    refine ⟨(r1.stay e hg).ext r1.1 (Nat.le_refl _), fun x => ?_, fun x => ?_⟩
    · obtain ⟨y1, y2⟩ := r2 (by omega)
      simp only [if_neg e]
      exact ⟨(y1.stay e hg).ext y1.1 (Nat.le_refl _), (y2.stay e hg).ext y2.1 (Nat.le_refl _)⟩
    · have y := r3 (by omega)
      exact (y.stay e hg).ext y.1 (Nat.le_refl _)
/-- Many put behind a row, with what is kept. -/
theorem grow_many {T : Nat} {W0 : World} {v u1 u2 : Value} {xs ys z1 z2 t1 t2 : List Lb} {c : Nat} (hB : B ≤ W0.heap.size) (hn : xs.length + ys.length ≤ 4294967296) (ho : Own B W v xs) (hy : ∀ j u, (lc (gL ys) ys.length)[j]? = some u → W.cell? ⟨T, j, none⟩ = some u)
    (hr1 : Rd W u1 z1) (hp1 : xs = z1 ++ t1) (hr2 : Rd W u2 z2) (hp2 : xs = z2 ++ t2) (hc : Kp (fun b => col b = p) W0 W) (hcl : ∀ g, v.ownBlock = some g → g < W0.heap.size → col g = p) :
    ∃ v' w', (Builtin.append_ #[22, 22] 22 #[v, .slice (some ⟨T, 0, none⟩) ys.length c]).run Tryd.prog W = .ok v' w' ∧ Own B w' v' (xs ++ ys) ∧ Rd w' u1 z1 ∧ Rd w' u2 z2 ∧ Kp (fun b => col b = p) W0 w' ∧ (∀ g, v'.ownBlock = some g → g < W0.heap.size → col g = p) := by
  obtain ⟨v', w', r, o', g', hb, hk⟩ := app_keep W B v xs ys ⟨T, 0, none⟩ c (Nat.le_trans hB hc.size) (by omega) ho (fun j x hj => by
    rw [Go.WideShapes.add_plain, Nat.zero_add]
    exact hy j x hj)
  refine ⟨v', w', r, o', hk u1 z1 hr1 (fun _ _ _ => ⟨t1, hp1⟩), hk u2 z2 hr2 (fun _ _ _ => ⟨t2, hp2⟩), hc.then g' hcl, fun g hg hl => ?_⟩
  rcases hb g hg with h1 | h1
  · exact hcl g h1 hl
  · have := hc.size
    omega
end
theorem infBk : (Tryd.prog.info? 22).map (fun i => (i.zero, i.size, i.bytes)) = some (some (.slice none 0 0), 1, 24) := by kernel_rfl
theorem make_q (q B : Nat) (W : World) (hB : B ≤ W.heap.size) (hq : q ≤ 4294967296) : ∃ W', (Instr.makeSlice 50 (.int .i64 (q : Int)) (.int .i64 (q : Int))).run Tryd.prog W = .ok (.slice (some ⟨W.heap.size, 0, none⟩) q q) W' ∧ W'.ownsRow B 22 1 (.slice (some ⟨W.heap.size, 0, none⟩) q q) q ((List.range q).map fun _ => .slice none 0 0) ∧ W.grownBy W' none := by
  obtain ⟨i0, hi, hz0, hz1, hz2⟩ := info_parts infBk
  have := run_make_full (P := Tryd.prog) W B 50 22 i0 _ 1 Tryd.underlying50 hi hz0 hz1 .i64 .i64 q (by rw [hz2]; omega) (by unfold maxLen; omega) hB
  have e : (madeCells (Value.slice none 0 0).cells (q * 1)).toList = (List.range q).map fun _ => Value.slice none 0 0 := by
    rw [show (Value.slice none 0 0).cells = #[.slice none 0 0] from rfl, toList_madeCells_one, Nat.mul_one]
    apply List.ext_getElem?
    intro j
    by_cases hj : j < q <;> simp [hj]
  rw [e] at this
  exact this
theorem mk1_at (N : Nat → Nat) (i j : Nat) (h : j < N i) : gL (mk1 N i) j = (mkB i 1) := by
  simp [mk1, gL, List.getD, h]
theorem mk2_lo (N : Nat → Nat) (i j : Nat) (h : j < N i) : gL (mk2 N i) j = (mkB i 1) := by
  unfold mk2
  rw [gL_app_l _ _ _ (by rw [mk1_len]; exact h)]
  exact mk1_at N i j h
theorem mk2_hi (N : Nat → Nat) (i j : Nat) (h : N i ≤ j) (h2 : j < N i + 16) : gL (mk2 N i) j = (mkB i 2) := by
  unfold mk2
  have e := gL_app_r (mk1 N i) (List.replicate 16 (mkB i 2)) (j - N i)
  rw [mk1_len, show N i + (j - N i) = j by omega] at e
  rw [e]
  exact gL_rep 16 _ _ (by omega)
theorem mk3_lo (N : Nat → Nat) (i j : Nat) (h : j < N i + 16) : gL (mk3 N i) j = gL (mk2 N i) j := by
  unfold mk3
  rw [gL_app_l _ _ _ (by rw [mk2_len]; exact h)]
theorem mk3_hi (N : Nat → Nat) (i j : Nat) (h : N i + 16 ≤ j) (h2 : j < N i + 216) : gL (mk3 N i) j = (mkB i 3) := by
  unfold mk3
  have e := gL_app_r (mk2 N i) (List.replicate 200 (mkB i 3)) (j - (N i + 16))
  rw [mk2_len, show N i + 16 + (j - (N i + 16)) = j by omega] at e
  rw [e]
  exact gL_rep 200 _ _ (by omega)
end Go.Proofs.YtjmninjaoemhjaaDoor.K
