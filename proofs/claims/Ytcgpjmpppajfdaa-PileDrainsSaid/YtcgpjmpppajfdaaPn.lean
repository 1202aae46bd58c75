/- PileDrains: what a range took, told back; the ending. -/
import Derived.Test.YtcgpjmpppajfdaaPk
namespace Go.Proofs.Ytcgpjmpppajfdaa
open Go.RowKit

theorem Fst.uniq {K : It → Int} {l : List It} {a b : Nat} (ha : Fst K l a) (hb : Fst K l b) : a = b := by
  rcases Nat.lt_trichotomy a b with h | h | h
  · have h1 := hb.2.2 a h
    have : l[b]? = some (lk l b) := by simp [lk, List.getD, hb.1]
    exact absurd h1 (ha.2.1 b _ this)
  · exact h
  · have h1 := ha.2.2 b h
    have : l[a]? = some (lk l a) := by simp [lk, List.getD, ha.1]
    exact absurd h1 (hb.2.1 a _ this)
/-- A script's state while what a range of the pile k took is told back: r things of l are told. -/
def RP (G Bb Hb : Nat) (w0 : World) (i k Sb : Nat) (st : Stp) (vl : Value) (l : List It) (more : Bool) (late : It) (Bf : List Rk) (N r : Nat) (W : World) : Prop :=
  ∃ col bb xx v vb n m f B C hp Br mr, PS 3 G G Bb w0 col W bb xx v vb n m f B C ∧ HD 3 Hb col W bb hp ∧ col Sb = 6 ∧ W.heap[Sb]? = some (.cells #[.int .i64 st.1, .int .i64 st.2.1, .int .i64 st.2.2] 55) ∧ Ir W 0 vl l.length (lk l) ∧ (∀ g, vl.ownBlock = some g → col g = k) ∧ (∀ j, j < 3 → n j ≤ i + 1 ∧ m j ≤ i + 1 ∧ (j ≠ k → C j = (B j).map (·.1))) ∧ B k = Bf ∧ C k = Br.map (·.1) ∧ Br.length + r ≤ N + (if r = 0 then 0 else 1) ∧ Tr (Kf (fl k)) more late r (l.drop r) Br mr Bf (m k)
section
variable {G Bb Hb i k Sb N r : Nat} {w0 W : World} {st : Stp} {vl : Value} {l : List It} {more : Bool} {late : It} {Bf : List Rk}
theorem RP.below (h : RP G Bb Hb w0 i k Sb st vl l more late Bf N r W) {W' : World} (b : Below W.heap.size W W') : RP G Bb Hb w0 i k Sb st vl l more late Bf N r W' := by
  obtain ⟨col, bb, xx, v, vb, n, m, f, B, C, hp, Br, mr, ps, hd, hs, h2, h3, h4, h5, h6, h7, h8, h9⟩ := h
  exact ⟨col, bb, xx, v, vb, n, m, f, B, C, hp, Br, mr, ps.below' b, hd.kp (Kp.of (M := fun _ => False) b) (fun _ e => e.elim) (fun _ _ => rfl) (by omega), hs, (b.block _ (Array.getElem?_eq_some_iff.1 h2).1).trans h2, h3.below b, h4, h5, h6, h7, h8, h9⟩
/-- The end: the books are right again. -/
theorem RP.done (h : RP G Bb Hb w0 i k Sb st vl l more late Bf N l.length W) (hk : k < 3) : LD G Bb Hb w0 (i + 1) W ∧ ∃ ak ck, W.cell? ⟨Bb, k, none⟩ = some (.slice ak Bf.length ck) := by
  obtain ⟨col, bb, xx, v, vb, n, m, f, B, C, hp, Br, mr, ps, hd, hs, h2, h3, h4, h5, h6, h7, h8, h9⟩ := h
  rw [List.drop_length] at h9
  obtain ⟨e1, e2⟩ := h9
  have hck : C k = (B k).map (·.1) := by rw [h7, e1, h6]
  refine ⟨⟨col, bb, xx, v, vb, n, m, f, B, C, hp, ps, hd, fun j hj => ?_⟩, ?_⟩
  · obtain ⟨q1, q2, q3⟩ := h5 j hj
    by_cases hjk : j = k
    · subst hjk; exact ⟨hck, q1, q2⟩
    · exact ⟨q3 hjk, q1, q2⟩
  · obtain ⟨ak, ck, ev, _, _⟩ := (ps.row k hk).iml
    refine ⟨ak, ck, ?_⟩
    have := (ps.bc k hk).1
    rw [ev] at this
    rw [this, hck, h6, List.length_map]
/-- One thing more: the book's cells, the thing's, and what taking it out of the book leaves. -/
theorem RP.step (h : RP G Bb Hb w0 i k Sb st vl l more late Bf N r W) (hk : k < 3) (hr : r < l.length) (hN : N * 24 ≤ 140737488351232) : ∃ ga oa ck L b, b < L ∧ W.cell? ⟨Bb, k, none⟩ = some (.slice (some ⟨ga, oa, none⟩) L ck) ∧ L ≤ N + 1 ∧ ∃ xs : Nat → It, Iml W (some ⟨ga, oa, none⟩) xs L ∧ frs (Kf (fl k)) xs L = (b : Int) ∧ xs b = lk l r ∧
    (∀ v9 W8 w9, Below W.heap.size W W8 → Ir w9 W8.heap.size v9 (L - 1) (wo xs b) → Below W8.heap.size W8 w9 → w9.cell? ⟨Bb, k, none⟩ = some (.slice (some ⟨ga, oa, none⟩) L ck) ∧ w9.frozen? ⟨Bb, k, none⟩ = false ∧
      (¬ (more = true ∧ r = 0) → RP G Bb Hb w0 i k Sb st vl l more late Bf N (r + 1) (w9.setCell ⟨Bb, k, none⟩ v9)) ∧
      ((more = true ∧ r = 0) → (w9.setCell ⟨Bb, k, none⟩ v9).heap[Sb]? = some (.cells #[.int .i64 st.1, .int .i64 st.2.1, .int .i64 st.2.2] 55) ∧ ∃ ak c9, v9 = .slice ak (L - 1) c9 ∧ (w9.setCell ⟨Bb, k, none⟩ v9).cell? ⟨Bb, k, none⟩ = some (.slice ak (L - 1) c9) ∧ ∀ Wb, Below (w9.setCell ⟨Bb, k, none⟩ v9).heap.size (w9.setCell ⟨Bb, k, none⟩ v9) Wb → ∃ g6 c6 w6, (Builtin.append_ #[22, 22] 22 #[.slice ak (L - 1) c9, .slice (some ⟨Wb.heap.size, 0, none⟩) 1 1]).run Try.prog (Wb.alloc (iX late)) = .ok (.slice (some ⟨g6, 0, none⟩) (L - 1 + 1) c6) w6 ∧ w6.cell? ⟨Bb, k, none⟩ = some (.slice ak (L - 1) c9) ∧ w6.frozen? ⟨Bb, k, none⟩ = false ∧ RP G Bb Hb w0 i k Sb st vl l more late Bf N (r + 1) (w6.setCell ⟨Bb, k, none⟩ (.slice (some ⟨g6, 0, none⟩) (L - 1 + 1) c6)))) := by
  obtain ⟨col, bb, xx, v, vb, n, m, f, B, C, hp, Br, mr, ps, hd, hs, h2, h3, h4, h5, h6, h7, h8, h9⟩ := h
  rw [List.drop_eq_getElem_cons hr] at h9
  obtain ⟨b, hb, hx, ht⟩ := h9
  have hbl : b < (Br.map (·.1)).length := hb.1
  have hCl : (C k).length = Br.length := by rw [h7, List.length_map]
  have hbC : b < (C k).length := by rw [h7]; exact hbl
  obtain ⟨ak, ck, ev, imk, hck⟩ := (ps.row k hk).iml
  have imk' := imk
  rcases imk' with h0 | ⟨ga, oa, rfl, _, _⟩
  · omega
  have hlx : l[r] = lk l r := by simp [lk, List.getD, hr]
  have hfr : frs (Kf (fl k)) (lk (C k)) (C k).length = (b : Int) := by
    rcases frs_spec (Kf (fl k)) (lk (C k)) (C k).length with ⟨h0, _⟩ | ⟨b', hb', e, q1, q2⟩
    · omega
    · have := Fst.uniq (fst_of (fl k) (C k) b' hb' q1 q2) (h7 ▸ hb)
      rw [e, this]
  refine ⟨ga, oa, ck, (C k).length, b, hbC, by rw [← ev]; exact (ps.bc k hk).1, ?_, lk (C k), imk, hfr, by rw [h7, hx, hlx], fun v9 W8 w9 b8 o9 b9 => ?_⟩
  · rw [hCl]; split at h8 <;> omega
  have ps8 := ps.below' b8
  have hle : ((C k).eraseIdx b).length = (C k).length - 1 := by rw [List.length_eraseIdx, if_pos hbC]
  have k9 : Kp (fun _ => False) W8 w9 := Kp.of b9
  have k8 : Kp (fun _ => False) W W8 := Kp.of b8
  obtain ⟨d1, d2, ps9⟩ := ps8.book k hk k9 (fun j e => e.elim) (l' := (C k).eraseIdx b) (by rw [hle]; exact row_base (Ir.congr o9 (fun j _ => wo_erase (C k) b j)) (Nat.zero_le _)) (fun g e => .inr (World.ownsRow.lt o9 g e).1)
  have hd8 := hd.kp (col' := col) k8 (fun _ e => e.elim) (fun j _ => rfl) (by omega)
  have hd9 := hd8.kp (col' := fun j => if j < W8.heap.size then col j else 10 + k) k9 (fun _ e => e.elim) (fun j hj => if_pos hj) (by omega)
  have hcB := ps.cB
  have ltB : Bb < W8.heap.size := World.block_lt_of_cell? W8 _ (ps8.bc k hk).1
  have kS : Kp (· = Bb) w9 (w9.setCell ⟨Bb, k, none⟩ v9) := (Kp.refl (· = Bb) w9).setCell (p := ⟨Bb, k, none⟩) rfl v9
  have hd10 := hd9.kp (col' := fun j => if j < W8.heap.size then col j else 10 + k) kS (fun j (e : j = Bb) h => by
    rw [e, if_pos ltB] at h
    omega) (fun j _ => rfl) (by omega)
  have hSl : Sb < W.heap.size := (Array.getElem?_eq_some_iff.1 h2).1
  have hSl8 : Sb < W8.heap.size := Nat.lt_of_lt_of_le hSl k8.size
  have hSl9 : Sb < w9.heap.size := Nat.lt_of_lt_of_le hSl8 k9.size
  have hSB : ¬ Sb = Bb := fun e => by rw [e] at hs; omega
  have h2' : (w9.setCell ⟨Bb, k, none⟩ v9).heap[Sb]? = some (.cells #[.int .i64 st.1, .int .i64 st.2.1, .int .i64 st.2.2] 55) := (kS.block _ hSl9 hSB).trans ((k9.block _ hSl8 id).trans ((k8.block _ hSl id).trans h2))
  have hgl : ∀ g, vl.ownBlock = some g → g < W8.heap.size := fun g e => Nat.lt_of_lt_of_le (World.ownsRow.lt h3 g e).2 k8.size
  have h3' : Ir (w9.setCell ⟨Bb, k, none⟩ v9) 0 vl l.length (lk l) := kS.row (k9.row (k8.row h3 (fun _ _ => id)) (fun _ _ => id)) (fun g e (x : g = Bb) => by have := h4 g e; rw [x] at this; omega)
  have hcS : (if Sb < W8.heap.size then col Sb else 10 + k) = 6 := by rw [if_pos hSl8]; exact hs
  have h4' : ∀ g, vl.ownBlock = some g → (if g < W8.heap.size then col g else 10 + k) = k := fun g e => by rw [if_pos (hgl g e)]; exact h4 g e
  have hmap : (C k).eraseIdx b = (Br.eraseIdx b).map (·.1) := by rw [map_erase, h7]
  have hbl' : b < Br.length := by rw [← hCl]; exact hbC
  have hel : (Br.eraseIdx b).length = Br.length - 1 := by rw [List.length_eraseIdx, if_pos hbl']
  refine ⟨by rw [← ev]; exact d1, d2, fun hc => ?_, fun hc => ?_⟩
  · rw [if_neg hc] at ht
    refine ⟨_, bb, xx, v, _, n, m, f, B, _, hp, Br.eraseIdx b, mr, ps9, hd10, hcS, h2', h3', h4', fun j hj => ?_, h6, ?_, ?_, ht⟩
    · obtain ⟨q1, q2, q3⟩ := h5 j hj
      exact ⟨q1, q2, fun hjk => by rw [up_other _ _ _ _ hjk]; exact q3 hjk⟩
    · rw [up_same]; exact hmap
    · rw [hel, if_neg (by omega)]
      split at h8 <;> omega
  · rw [if_pos hc] at ht
    obtain ⟨ak9, c9, ev9, _, _⟩ := o9.iml
    have bc9 := (ps9.bc k hk).1
    rw [up_same, ev9] at bc9
    refine ⟨h2', ak9, c9, ev9, by rw [ev9] at ⊢; exact bc9, fun Wb bW => ?_⟩
    have psb := ps9.below' bW
    have kb : Kp (fun _ => False) (w9.setCell ⟨Bb, k, none⟩ v9) Wb := Kp.of bW
    have row9 : Ir Wb 0 v9 ((C k).eraseIdx b).length (lk ((C k).eraseIdx b)) := by
      have := psb.row k hk
      rw [up_same, up_same] at this
      exact this
    obtain ⟨g6, c6, w6, r6, o6, k6, hg6⟩ := append_i Wb 0 v9 ((C k).eraseIdx b).length (lk ((C k).eraseIdx b)) late (Nat.zero_le _) (by rw [hle, hCl]; split at h8 <;> omega) row9
    have hl6 : ((C k).eraseIdx b ++ [late]).length = ((C k).eraseIdx b).length + 1 := by simp
    obtain ⟨d3, d4, ps10⟩ := psb.book k hk k6 (fun j e => by rw [up_same]; exact e) (l' := (C k).eraseIdx b ++ [late]) (by rw [hl6]; exact Ir.congr o6 (lk_push _ late)) (fun g e => by
      have e' : g6 = g := Option.some.inj e
      rw [← e', up_same]
      exact hg6)
    have hdb := hd10.kp (col' := fun j => if j < W8.heap.size then col j else 10 + k) kb (fun _ e => e.elim) (fun j _ => rfl) (by omega)
    have hcv : ∀ j, v9.ownBlock = some j → (if j < W8.heap.size then col j else 10 + k) = 10 + k := fun j e => by
      have := (World.ownsRow.lt o9 j e).1
      rw [if_neg (by omega)]
    have hd11 := hdb.kp (col' := fun j => if j < Wb.heap.size then (if j < W8.heap.size then col j else 10 + k) else 10 + k) k6 (fun j e => by rw [hcv j e]; omega) (fun j hj => if_pos hj) (by omega)
    have ltBb : Bb < Wb.heap.size := World.block_lt_of_cell? Wb _ (psb.bc k hk).1
    have kT : Kp (· = Bb) w6 (w6.setCell ⟨Bb, k, none⟩ (.slice (some ⟨g6, 0, none⟩) (((C k).eraseIdx b).length + 1) c6)) := (Kp.refl (· = Bb) w6).setCell (p := ⟨Bb, k, none⟩) rfl _
    have hd12 := hd11.kp (col' := fun j => if j < Wb.heap.size then (if j < W8.heap.size then col j else 10 + k) else 10 + k) kT (fun j (e : j = Bb) h => by
      rw [e, if_pos ltBb, if_pos ltB] at h
      omega) (fun j _ => rfl) (by omega)
    have hSlb : Sb < Wb.heap.size := (Array.getElem?_eq_some_iff.1 ((kb.block _ (Array.getElem?_eq_some_iff.1 h2').1 id).trans h2')).1
    have hSl6 : Sb < w6.heap.size := Nat.lt_of_lt_of_le hSlb k6.size
    have hSv : ¬ v9.ownBlock = some Sb := fun e => by have := (World.ownsRow.lt o9 Sb e).1; omega
    have h2'' := (kT.block _ hSl6 hSB).trans ((k6.block _ hSlb hSv).trans ((kb.block _ (Array.getElem?_eq_some_iff.1 h2').1 id).trans h2'))
    have hglb : ∀ g, vl.ownBlock = some g → g < Wb.heap.size := fun g e => Nat.lt_of_lt_of_le (World.ownsRow.lt h3' g e).2 kb.size
    have h3'' : Ir (w6.setCell ⟨Bb, k, none⟩ (.slice (some ⟨g6, 0, none⟩) (((C k).eraseIdx b).length + 1) c6)) 0 vl l.length (lk l) := kT.row (k6.row (kb.row h3' (fun _ _ => id)) (fun g e x => by have := hgl g e; have := (World.ownsRow.lt o9 g x).1; omega)) (fun g e (x : g = Bb) => by have := h4 g e; rw [x] at this; omega)
    rw [up_same, ev9] at d3
    rw [ev9, hle] at r6
    rw [hle] at ps10 hd12 h2'' h3''
    refine ⟨g6, c6, w6, r6, d3, d4, _, bb, xx, v, _, n, m, f, B, _, hp, Br.eraseIdx b ++ [(late, (mr : Int))], mr + 1, ps10, hd12, ?_, h2'', h3'', fun g e => ?_, fun j hj => ?_, h6, ?_, ?_, ht⟩
    · show (if Sb < Wb.heap.size then (if Sb < W8.heap.size then col Sb else 10 + k) else 10 + k) = 6
      rw [if_pos hSlb]; exact hcS
    · show (if g < Wb.heap.size then (if g < W8.heap.size then col g else 10 + k) else 10 + k) = k
      rw [if_pos (hglb g e)]; exact h4' g e
    · obtain ⟨q1, q2, q3⟩ := h5 j hj
      exact ⟨q1, q2, fun hjk => by rw [up_other _ _ _ _ hjk, up_other _ _ _ _ hjk]; exact q3 hjk⟩
    · rw [up_same, List.map_append, hmap]; rfl
    · rw [List.length_append, hel, if_neg (by omega)]
      have := hc.2
      simp only [List.length_cons, List.length_nil]
      split at h8 <;> omega
theorem RP.got {al : Option Addr} {cl : Nat} (h : RP G Bb Hb w0 i k Sb st (.slice al l.length cl) l more late Bf N r W) (hr : r < l.length) : ∃ gl ol, al = some ⟨gl, ol, none⟩ ∧ W.cell? ⟨gl, ol + r * 2, none⟩ = some (.int .i64 (lk l r).1) ∧ W.cell? ⟨gl, ol + r * 2 + 1, none⟩ = some (.int .i64 (lk l r).2) := by
  obtain ⟨col, bb, xx, v, vb, n, m, f, B, C, hp, Br, mr, ps, hd, hs, h2, h3, _⟩ := h
  obtain ⟨a, c, e, im, _⟩ := h3.iml
  cases e
  rcases im with h0 | ⟨g, o, e, _, hat⟩
  · omega
  · exact ⟨g, o, e, (hat r hr).1, (hat r hr).2⟩
theorem RP.kind (h : RP G Bb Hb w0 i k Sb st vl l more late Bf N r W) : W.cell? ⟨Sb, 0, none⟩ = some (.int .i64 st.1) ∧ W.cell? ⟨Sb, 2, none⟩ = some (.int .i64 st.2.2) := by
  obtain ⟨col, bb, xx, v, vb, n, m, f, B, C, hp, Br, mr, ps, hd, hs, h2, _⟩ := h
  constructor
  · unfold World.cell?; rw [h2]; rfl
  · unfold World.cell?; rw [h2]; rfl
/-- Right behind drained. -/
theorem RP.start {col : Nat → Nat} {bb xx : Nat → Nat} {v vb : Nat → Value} {n m : Nat → Nat} {f : Nat → Nat → Rk} {B : Nat → List Rk} {C : Nat → List It} {hp : Nat → Nat} (ps : PS 3 G G Bb w0 col W bb xx v vb n m f B C) (hd : HD 3 Hb col W bb hp) (hs : col Sb = 6) (h2 : W.heap[Sb]? = some (.cells #[.int .i64 st.1, .int .i64 st.2.1, .int .i64 st.2.2] 55)) (hC : ∀ j, j < 3 → C j = (B j).map (·.1) ∧ n j ≤ i ∧ m j ≤ i) (hk : k < 3) {W' : World} (kp : Kp (fun j => j = bb k ∨ (v k).ownBlock = some j) W W') (row : Ir W' W.heap.size vl l.length (lk l)) {v' : Value} {n' m' : Nat} {f' : Nat → Rk} (pl : Pl W' (bb k) (xx k) (lvF (fl k)) v' n' f' m') (bk : Bk (Kf (fl k)) Bf n' f' m') (tr : Tr (Kf (fl k)) more late 0 l (B k) (m k) Bf m') (hm : m' ≤ m k + 1) (hn : n' + l.length ≤ (B k).length + 1) (hv : ∀ g, v'.ownBlock = some g → (v k).ownBlock = some g ∨ W.heap.size ≤ g) :
    RP G Bb Hb w0 i k Sb st vl l more late Bf (n k) 0 W' := by
  have hlen := (ps.bk k hk).len
  have c1 := ps.c1 k hk
  have hcM : ∀ j, (j = bb k ∨ (v k).ownBlock = some j) → col j = k := fun j e => by
    rcases e with e | e
    · rw [e]; exact c1.1
    · exact c1.2.2 j e
  have ps' := ps.pile k hk kp (fun j e => e) pl bk hv
  have hd' := hd.kp (col' := fun j => if j < W.heap.size then col j else k) kp (fun j e => by rw [hcM j e]; omega) (fun j hj => if_pos hj) (by omega)
  have hSl := (Array.getElem?_eq_some_iff.1 h2).1
  have hnS : ¬ (Sb = bb k ∨ (v k).ownBlock = some Sb) := fun e => by have := hcM Sb e; omega
  refine ⟨_, bb, xx, _, vb, _, _, _, _, C, hp, B k, m k, ps', hd', ?_, (kp.block _ hSl hnS).trans h2, row_base row (Nat.zero_le _), fun g e => ?_, fun j hj => ?_, up_same _ _ _, (hC k hk).1, ?_, ?_⟩
  · show (if Sb < W.heap.size then col Sb else k) = 6
    rw [if_pos hSl]; exact hs
  · show (if g < W.heap.size then col g else k) = k
    rw [if_neg (by have := (World.ownsRow.lt row g e).1; omega)]
  · obtain ⟨q1, q2, q3⟩ := hC j hj
    by_cases hjk : j = k
    · subst hjk
      rw [up_same, up_same]
      exact ⟨by omega, by omega, fun h => absurd rfl h⟩
    · rw [up_other _ _ _ _ hjk, up_other _ _ _ _ hjk, up_other _ _ _ _ hjk]
      exact ⟨by omega, by omega, fun _ => q1⟩
  · rw [hlen, if_pos rfl]
    omega
  · rw [up_same]; exact tr
end
/-- The three piles from the k-th on, when the others are emptied. -/
structure ED (k G Bb : Nat) (w : World) (col : Nat → Nat) (W : World) (bb xx : Nat → Nat) (v vb : Nat → Value) (n m : Nat → Nat) (f : Nat → Nat → Rk) (B : Nat → List Rk) (C : Nat → List It) : Prop where
  pl : ∀ j, k ≤ j → j < 3 → Pl W (bb j) (xx j) (lvF (fl j)) (v j) (n j) (f j) (m j)
  bk : ∀ j, k ≤ j → j < 3 → Bk (Kf (fl j)) (B j) (n j) (f j) (m j)
  row : ∀ j, k ≤ j → j < 3 → Ir W 0 (vb j) (C j).length (lk (C j))
  c1 : ∀ j, j < 3 → col (bb j) = j ∧ col (xx j) = j ∧ ∀ g, (v j).ownBlock = some g → col g = j
  c2 : ∀ j, j < 3 → ∀ g, (vb j).ownBlock = some g → col g = 10 + j
  pc : ∀ j, j < 3 → W.cell? ⟨G, j, none⟩ = some (.pointer (some ⟨bb j, 0, none⟩))
  bc : ∀ j, j < 3 → W.cell? ⟨Bb, j, none⟩ = some (vb j)
  cP : col G = 8
  cB : col Bb = 9
  old : ∀ j, j < G → col j = 99
  below : Below G w W
  gw : G ≤ W.heap.size
def EJ (G Bb : Nat) (w : World) (i k : Nat) (W : World) : Prop := ∃ col bb xx v vb n m f B C, ED k G Bb w col W bb xx v vb n m f B C ∧ ∀ j, k ≤ j → j < 3 → C j = (B j).map (·.1) ∧ n j ≤ i ∧ m j ≤ i
theorem EJ.start {G Bb Hb i : Nat} {w W : World} (h : LD G Bb Hb w i W) : EJ G Bb w i 0 W := by
  obtain ⟨col, bb, xx, v, vb, nn, mm, f, B, C, hp, ps, hd, hC⟩ := h
  exact ⟨col, bb, xx, v, vb, nn, mm, f, B, C, ⟨fun j _ hj => ps.pl j hj, fun j _ hj => ps.bk j hj, fun j _ hj => ps.row j hj, ps.c1, ps.c2, ps.pc, fun j hj => (ps.bc j hj).1, ps.cP, ps.cB, ps.old, ps.below, ps.gw⟩, fun j _ hj => hC j hj⟩
theorem EJ.next {k G Bb i : Nat} {w W W' : World} {col : Nat → Nat} {bb xx : Nat → Nat} {v vb : Nat → Value} {n m : Nat → Nat} {f : Nat → Nat → Rk} {B : Nat → List Rk} {C : Nat → List It} (h : ED k G Bb w col W bb xx v vb n m f B C) (hC : ∀ j, k ≤ j → j < 3 → C j = (B j).map (·.1) ∧ n j ≤ i ∧ m j ≤ i) (hk : k < 3) (kp : Kp (fun j => j = bb k ∨ (v k).ownBlock = some j) W W') : EJ G Bb w i (k + 1) W' := by
  have hM : ∀ j, (j = bb k ∨ (v k).ownBlock = some j) → col j = k := fun j e => by
    rcases e with e | e
    · rw [e]; exact (h.c1 k hk).1
    · exact (h.c1 k hk).2.2 j e
  have hP := h.cP
  have hB := h.cB
  refine ⟨col, bb, xx, v, vb, n, m, f, B, C, ⟨fun j hj hj4 => ?_, fun j hj hj4 => h.bk j (by omega) hj4, fun j hj hj4 => ?_, h.c1, h.c2, fun j hj => kp.cell (h.pc j hj) (fun (e : G = bb k ∨ (v k).ownBlock = some G) => by have := hM _ e; omega), fun j hj => kp.cell (h.bc j hj) (fun (e : Bb = bb k ∨ (v k).ownBlock = some Bb) => by have := hM _ e; omega), hP, hB, h.old, h.below.trans (kp.below h.gw (fun j hj e => by have := hM _ e; have := h.old j hj; omega)), Nat.le_trans h.gw kp.size⟩, fun j hj hj4 => hC j (by omega) hj4⟩
  · obtain ⟨q1, q2, q3⟩ := h.c1 j hj4
    exact (h.pl j (by omega) hj4).kp kp (fun e => by have := hM _ e; omega) (fun e => by have := hM _ e; omega) (fun g e x => by have := hM _ x; have := q3 g e; omega)
  · exact kp.row (h.row j (by omega) hj4) (fun g e x => by have := hM _ x; have := h.c2 j hj4 g e; omega)
end Go.Proofs.Ytcgpjmpppajfdaa
