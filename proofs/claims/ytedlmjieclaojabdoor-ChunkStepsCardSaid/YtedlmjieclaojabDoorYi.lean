/- ChunkSteps: what the law holds while it goes: four packers, the lists held, the bytes kept and told, by colours of blocks. -/
import Derived.Test.YtedlmjieclaojabDoorXg
import Derived.Test.YtedlmjieclaojabDoorCk
import Derived.Test.YtedlmjieclaojabDoorEc
import Derived.Test.YtedlmjieclaojabDoorFb
import Derived.Test.YtedlmjieclaojabDoorDi
namespace Go.Proofs.YtedlmjieclaojabDoor
open Go.RowKit

structure Da where
  PB : Nat
  HB : Nat
  P : Nat → Nat
  pv : Nat → Value
  pl : Nat → List Smp
  hv : Nat → Value
  hl : Nat → List Smp
  kv : Value
  tv : Value
  n : Nat
  nt : Nat
  V : Nat → Value
  T : Nat → Value
  X : Nat → List Int
/-- The value's block has this colour. -/
def Clr (col : Nat → Nat) (c : Nat) (v : Value) : Prop := ∀ g, v.ownBlock = some g → col g = c
/-- All that is held, but for the part of the colour c. -/
structure Fs (c : Nat) (S : Nat) (col : Nat → Nat) (W : World) (d : Da) : Prop where
  sw : S ≤ W.heap.size
  s3 : 3 ≤ S
  pl : S ≤ d.PB ∧ d.PB < W.heap.size
  hh : S ≤ d.HB ∧ d.HB < W.heap.size
  p0 : c ≠ 0 → W.cell? ⟨d.PB, 0, none⟩ = some (.pointer none)
  pk : c ≠ 0 → ∀ k, 1 ≤ k → k < 4 → W.cell? ⟨d.PB, k, none⟩ = some (.pointer (some ⟨d.P k, 0, none⟩))
  pf : c ≠ 0 → ∀ j, W.frozen? ⟨d.PB, j, none⟩ = false
  hb : c ≠ 1 → ∀ k, k < 4 → W.cell? ⟨d.HB, k, none⟩ = some (d.hv k)
  hf : c ≠ 1 → ∀ j, W.frozen? ⟨d.HB, j, none⟩ = false
  hd : ∀ k, 1 ≤ k → k < 4 → c ≠ 2 + k → Hd S W (d.P k) (d.pv k) (d.pl k)
  ho : ∀ k, k < 4 → c ≠ 6 + k → W.ownsRow S 31 3 (d.hv k) (d.hl k).length (smc (d.hl k))
  kp : c ≠ 10 → Kpt S W d.kv d.n d.V d.X
  tl : c ≠ 11 → Kpt S W d.tv d.nt d.T d.X
  cP : col d.PB = 0
  cH : col d.HB = 1
  cp : ∀ k, 1 ≤ k → k < 4 → c ≠ 2 + k → col (d.P k) = 2 + k ∧ Clr col (2 + k) (d.pv k)
  ch : ∀ k, k < 4 → c ≠ 6 + k → Clr col (6 + k) (d.hv k)
  ck : c ≠ 10 → Clr col 10 d.kv ∧ ∀ i, i < d.n → Clr col 10 (d.V i)
  ct : c ≠ 11 → Clr col 11 d.tv ∧ ∀ i, i < d.nt → Clr col 11 (d.T i)
namespace Fs
variable {c S : Nat} {col : Nat → Nat} {W W' : World} {d : Da} {M : Nat → Prop}
/-- A part less. -/
theorem less (h : Fs 99 S col W d) (c : Nat) : Fs c S col W d :=
  ⟨h.sw, h.s3, h.pl, h.hh, fun _ => h.p0 (by decide), fun _ => h.pk (by decide), fun _ => h.pf (by decide), fun _ => h.hb (by decide), fun _ => h.hf (by decide), fun k h1 h2 _ => h.hd k h1 h2 (by omega), fun k h1 _ => h.ho k h1 (by omega), fun _ => h.kp (by decide), fun _ => h.tl (by decide),
    h.cP, h.cH, fun k h1 h2 _ => h.cp k h1 h2 (by omega), fun k h1 _ => h.ch k h1 (by omega), fun _ => h.ck (by decide), fun _ => h.ct (by decide)⟩
theorem hd_lt {B : Nat} {v : Value} {l : List Smp} (h : Hd S W B v l) : B < W.heap.size := h.pk.stm.lt
/-- What is written in the part of the colour c leaves the others as they are. -/
theorem step (h : Fs c S col W d) (k : Kp M W W') (hM : ∀ g, g < W.heap.size → M g → col g = c) : Fs c S col W' d := by
  have nP : c ≠ 0 → ¬ M d.PB := fun hc hm => hc ((hM _ h.pl.2 hm).symm.trans h.cP)
  have nH : c ≠ 1 → ¬ M d.HB := fun hc hm => hc ((hM _ h.hh.2 hm).symm.trans h.cH)
  have nv : ∀ {e : Nat} {v : Value} {z N ty : Nat} {cs : List Value}, c ≠ e → Clr col e v → W.ownsRow S ty z v N cs → ∀ g, v.ownBlock = some g → ¬ M g := fun hc hv o g hg hm => hc ((hM g (World.ownsRow.lt o g hg).2 hm).symm.trans (hv g hg))
  refine ⟨Nat.le_trans h.sw k.size, h.s3, ⟨h.pl.1, Nat.lt_of_lt_of_le h.pl.2 k.size⟩, ⟨h.hh.1, Nat.lt_of_lt_of_le h.hh.2 k.size⟩, fun hc => k.cell (h.p0 hc) (nP hc), fun hc i h1 h2 => k.cell (h.pk hc i h1 h2) (nP hc), fun hc j => ?_, fun hc i h1 => k.cell (h.hb hc i h1) (nH hc), fun hc j => ?_, fun i h1 h2 hc => ?_, fun i h1 hc => ?_, fun hc => ?_, fun hc => ?_, h.cP, h.cH, h.cp, h.ch, h.ck, h.ct⟩
  · rw [World.frozen?_of_block (w := W) (k.block d.PB h.pl.2 (nP hc))]
    exact h.pf hc j
  · rw [World.frozen?_of_block (w := W) (k.block d.HB h.hh.2 (nH hc))]
    exact h.hf hc j
  · have hh := h.hd i h1 h2 hc
    have hcc := h.cp i h1 h2 hc
    exact hh.kp k (fun hm => hc ((hM _ (hd_lt hh) hm).symm.trans hcc.1)) (fun g hg hm => hc ((hM g (World.ownsRow.lt hh.pk.stm.row g hg).2 hm).symm.trans (hcc.2 g hg)))
  · exact k.row (h.ho i h1 hc) (nv hc (h.ch i h1 hc) (h.ho i h1 hc))
  · exact (h.kp hc).kp k (nv hc (h.ck hc).1 (h.kp hc).row) (fun i hi => nv hc ((h.ck hc).2 i hi) ((h.kp hc).own i hi))
  · exact (h.tl hc).kp k (nv hc (h.ct hc).1 (h.tl hc).row) (fun i hi => nv hc ((h.ct hc).2 i hi) ((h.tl hc).own i hi))
theorem below (h : Fs c S col W d) (b : Below W.heap.size W W') : Fs c S col W' d := h.step (M := fun _ => False) (Kp.of b) (fun _ _ hm => hm.elim)
theorem clr {col' : Nat → Nat} {e : Nat} {v : Value} {z N ty : Nat} {cs : List Value} (hv : Clr col e v) (o : W.ownsRow S ty z v N cs) (hcol : ∀ g, g < W.heap.size → col' g = col g) : Clr col' e v := fun g hg => (hcol g (World.ownsRow.lt o g hg).2).trans (hv g hg)
/-- Other colours for blocks that are not there yet. -/
theorem recol {col' : Nat → Nat} (h : Fs c S col W d) (hcol : ∀ g, g < W.heap.size → col' g = col g) : Fs c S col' W d :=
  ⟨h.sw, h.s3, h.pl, h.hh, h.p0, h.pk, h.pf, h.hb, h.hf, h.hd, h.ho, h.kp, h.tl, (hcol _ h.pl.2).trans h.cP, (hcol _ h.hh.2).trans h.cH,
    fun k h1 h2 hc => ⟨(hcol _ (hd_lt (h.hd k h1 h2 hc))).trans (h.cp k h1 h2 hc).1, clr (h.cp k h1 h2 hc).2 (h.hd k h1 h2 hc).pk.stm.row hcol⟩,
    fun k h1 hc => clr (h.ch k h1 hc) (h.ho k h1 hc) hcol,
    fun hc => ⟨clr (h.ck hc).1 (h.kp hc).row hcol, fun i hi => clr ((h.ck hc).2 i hi) ((h.kp hc).own i hi) hcol⟩,
    fun hc => ⟨clr (h.ct hc).1 (h.tl hc).row hcol, fun i hi => clr ((h.ct hc).2 i hi) ((h.tl hc).own i hi) hcol⟩⟩
/-- A packer that goes on. -/
theorem setP (k : Nat) (h1 : 1 ≤ k) (h2 : k < 4) {v : Value} {l : List Smp} (h : Fs (2 + k) S col W d) (hd : Hd S W (d.P k) v l) (hc : col (d.P k) = 2 + k ∧ Clr col (2 + k) v) : Fs 99 S col W { d with pv := up d.pv k v, pl := up d.pl k l } := by
  refine ⟨h.sw, h.s3, h.pl, h.hh, fun _ => h.p0 (by omega), fun _ => h.pk (by omega), fun _ => h.pf (by omega), fun _ => h.hb (by omega), fun _ => h.hf (by omega), fun i i1 i2 _ => ?_, fun i i1 _ => h.ho i i1 (by omega), fun _ => h.kp (by omega), fun _ => h.tl (by omega), h.cP, h.cH, fun i i1 i2 _ => ?_, fun i i1 _ => h.ch i i1 (by omega), fun _ => h.ck (by omega), fun _ => h.ct (by omega)⟩
  · by_cases e : i = k
    · subst e
      show Hd S W (d.P i) (up d.pv i v i) (up d.pl i l i)
      rw [up_same, up_same]
      exact hd
    · show Hd S W (d.P i) (up d.pv k v i) (up d.pl k l i)
      rw [up_other _ _ _ _ e, up_other _ _ _ _ e]
      exact h.hd i i1 i2 (by omega)
  · by_cases e : i = k
    · subst e
      show col (d.P i) = 2 + i ∧ Clr col (2 + i) (up d.pv i v i)
      rw [up_same]
      exact hc
    · show col (d.P i) = 2 + i ∧ Clr col (2 + i) (up d.pv k v i)
      rw [up_other _ _ _ _ e]
      exact h.cp i i1 i2 (by omega)
/-- Another list held; the table of lists is to be written yet. -/
theorem setH (k : Nat) (h2 : k < 4) {v : Value} {l : List Smp} (h : Fs (6 + k) S col W d) (o : W.ownsRow S 31 3 v l.length (smc l)) (hc : Clr col (6 + k) v) : Fs 1 S col W { d with hv := up d.hv k v, hl := up d.hl k l } := by
  refine ⟨h.sw, h.s3, h.pl, h.hh, fun _ => h.p0 (by omega), fun _ => h.pk (by omega), fun _ => h.pf (by omega), fun e => absurd rfl e, fun e => absurd rfl e, fun i i1 i2 _ => h.hd i i1 i2 (by omega), fun i i1 _ => ?_, fun _ => h.kp (by omega), fun _ => h.tl (by omega), h.cP, h.cH, fun i i1 i2 _ => h.cp i i1 i2 (by omega), fun i i1 _ => ?_, fun _ => h.ck (by omega), fun _ => h.ct (by omega)⟩
  · by_cases e : i = k
    · subst e
      show W.ownsRow S 31 3 (up d.hv i v i) (up d.hl i l i).length (smc (up d.hl i l i))
      rw [up_same, up_same]
      exact o
    · show W.ownsRow S 31 3 (up d.hv k v i) (up d.hl k l i).length (smc (up d.hl k l i))
      rw [up_other _ _ _ _ e, up_other _ _ _ _ e]
      exact h.ho i i1 (by omega)
  · by_cases e : i = k
    · subst e
      show Clr col (6 + i) (up d.hv i v i)
      rw [up_same]
      exact hc
    · show Clr col (6 + i) (up d.hv k v i)
      rw [up_other _ _ _ _ e]
      exact h.ch i i1 (by omega)
/-- The table of lists written. -/
theorem setHB (h : Fs 1 S col W d) (hb : ∀ k, k < 4 → W.cell? ⟨d.HB, k, none⟩ = some (d.hv k)) (hf : ∀ j, W.frozen? ⟨d.HB, j, none⟩ = false) : Fs 99 S col W d :=
  ⟨h.sw, h.s3, h.pl, h.hh, fun _ => h.p0 (by omega), fun _ => h.pk (by omega), fun _ => h.pf (by omega), fun _ => hb, fun _ => hf, fun i i1 i2 _ => h.hd i i1 i2 (by omega), fun i i1 _ => h.ho i i1 (by omega), fun _ => h.kp (by omega), fun _ => h.tl (by omega), h.cP, h.cH, fun i i1 i2 _ => h.cp i i1 i2 (by omega), fun i i1 _ => h.ch i i1 (by omega), fun _ => h.ck (by omega), fun _ => h.ct (by omega)⟩
/-- Another packer; the table of packers is to be written yet. -/
theorem setN (k : Nat) (h1 : 1 ≤ k) (h2 : k < 4) {B : Nat} {v : Value} {l : List Smp} (h : Fs (2 + k) S col W d) (hd : Hd S W B v l) (hc : col B = 2 + k ∧ Clr col (2 + k) v) : Fs 0 S col W { d with P := up d.P k B, pv := up d.pv k v, pl := up d.pl k l } := by
  refine ⟨h.sw, h.s3, h.pl, h.hh, fun e => absurd rfl e, fun e => absurd rfl e, fun e => absurd rfl e, fun _ => h.hb (by omega), fun _ => h.hf (by omega), fun i i1 i2 _ => ?_, fun i i1 _ => h.ho i i1 (by omega), fun _ => h.kp (by omega), fun _ => h.tl (by omega), h.cP, h.cH, fun i i1 i2 _ => ?_, fun i i1 _ => h.ch i i1 (by omega), fun _ => h.ck (by omega), fun _ => h.ct (by omega)⟩
  · by_cases e : i = k
    · subst e
      show Hd S W (up d.P i B i) (up d.pv i v i) (up d.pl i l i)
      rw [up_same, up_same, up_same]
      exact hd
    · show Hd S W (up d.P k B i) (up d.pv k v i) (up d.pl k l i)
      rw [up_other _ _ _ _ e, up_other _ _ _ _ e, up_other _ _ _ _ e]
      exact h.hd i i1 i2 (by omega)
  · by_cases e : i = k
    · subst e
      show col (up d.P i B i) = 2 + i ∧ Clr col (2 + i) (up d.pv i v i)
      rw [up_same, up_same]
      exact hc
    · show col (up d.P k B i) = 2 + i ∧ Clr col (2 + i) (up d.pv k v i)
      rw [up_other _ _ _ _ e, up_other _ _ _ _ e]
      exact h.cp i i1 i2 (by omega)
/-- The table of packers written. -/
theorem setPB (h : Fs 0 S col W d) (p0 : W.cell? ⟨d.PB, 0, none⟩ = some (.pointer none)) (pk : ∀ k, 1 ≤ k → k < 4 → W.cell? ⟨d.PB, k, none⟩ = some (.pointer (some ⟨d.P k, 0, none⟩))) (pf : ∀ j, W.frozen? ⟨d.PB, j, none⟩ = false) : Fs 99 S col W d :=
  ⟨h.sw, h.s3, h.pl, h.hh, fun _ => p0, fun _ => pk, fun _ => pf, fun _ => h.hb (by omega), fun _ => h.hf (by omega), fun i i1 i2 _ => h.hd i i1 i2 (by omega), fun i i1 _ => h.ho i i1 (by omega), fun _ => h.kp (by omega), fun _ => h.tl (by omega), h.cP, h.cH, fun i i1 i2 _ => h.cp i i1 i2 (by omega), fun i i1 _ => h.ch i i1 (by omega), fun _ => h.ck (by omega), fun _ => h.ct (by omega)⟩
/-- Bytes kept. -/
theorem setK {v : Value} {V : Nat → Value} {x : List Int} (h : Fs 10 S col W d) (hnt : d.nt ≤ d.n) (hk : Kpt S W v (d.n + 1) V (up d.X d.n x)) (hc : Clr col 10 v ∧ ∀ i, i < d.n + 1 → Clr col 10 (V i)) : Fs 99 S col W { d with kv := v, n := d.n + 1, V := V, X := up d.X d.n x } := by
  refine ⟨h.sw, h.s3, h.pl, h.hh, fun _ => h.p0 (by omega), fun _ => h.pk (by omega), fun _ => h.pf (by omega), fun _ => h.hb (by omega), fun _ => h.hf (by omega), fun i i1 i2 _ => h.hd i i1 i2 (by omega), fun i i1 _ => h.ho i i1 (by omega), fun _ => hk, fun _ => ?_, h.cP, h.cH, fun i i1 i2 _ => h.cp i i1 i2 (by omega), fun i i1 _ => h.ch i i1 (by omega), fun _ => hc, fun _ => h.ct (by omega)⟩
  have ht := h.tl (by omega)
  refine ⟨ht.row, fun i hi => ?_, ht.vv, ht.nv⟩
  show W.ownsRow S 5 1 (d.T i) (up d.X d.n x i).length (bc (up d.X d.n x i))
  have hi2 : i < d.nt := hi
  rw [up_other _ _ _ _ (by omega)]
  exact ht.own i hi
/-- Bytes told. -/
theorem setT {v : Value} {n : Nat} {T : Nat → Value} (h : Fs 11 S col W d) (hk : Kpt S W v n T d.X) (hc : Clr col 11 v ∧ ∀ i, i < n → Clr col 11 (T i)) : Fs 99 S col W { d with tv := v, nt := n, T := T } :=
  ⟨h.sw, h.s3, h.pl, h.hh, fun _ => h.p0 (by omega), fun _ => h.pk (by omega), fun _ => h.pf (by omega), fun _ => h.hb (by omega), fun _ => h.hf (by omega), fun i i1 i2 _ => h.hd i i1 i2 (by omega), fun i i1 _ => h.ho i i1 (by omega), fun _ => h.kp (by omega), fun _ => hk, h.cP, h.cH, fun i i1 i2 _ => h.cp i i1 i2 (by omega), fun i i1 _ => h.ch i i1 (by omega), fun _ => h.ck (by omega), fun _ => hc⟩
end Fs
/-- New blocks take the colour c. -/
def tint (col : Nat → Nat) (N c : Nat) (g : Nat) : Nat := if g < N then col g else c
theorem tint_old (col : Nat → Nat) (N c g : Nat) (h : g < N) : tint col N c g = col g := if_pos h
theorem tint_new (col : Nat → Nat) (N c g : Nat) (h : N ≤ g) : tint col N c g = c := if_neg (by omega)
theorem Clr.tint {col : Nat → Nat} {c N : Nat} {v v' : Value} (h : Clr col c v) (hv : ∀ g, v'.ownBlock = some g → v.ownBlock = some g ∨ N ≤ g) : Clr (tint col N c) c v' := by
  intro g hg
  by_cases hl : g < N
  · rw [tint_old _ _ _ _ hl]
    rcases hv g hg with h1 | h1
    · exact h g h1
    · omega
  · exact tint_new _ _ _ _ (by omega)
namespace Fs
variable {S : Nat} {col : Nat → Nat} {W w' : World} {d : Da}
/-- A list held that grows, or another one in its place: written into the table. -/
theorem held (h : Fs 99 S col W d) (k : Nat) (hk : k < 4) {v : Value} {l : List Smp} (kp : Kp (fun g => (d.hv k).ownBlock = some g) W w') (o : w'.ownsRow S 31 3 v l.length (smc l)) (hv : ∀ g, v.ownBlock = some g → (d.hv k).ownBlock = some g ∨ W.heap.size ≤ g) :
    Fs 99 S (tint col W.heap.size (6 + k)) (w'.setCell ⟨d.HB, k, none⟩ v) { d with hv := up d.hv k v, hl := up d.hl k l } := by
  have h1 : Fs 99 S (YtedlmjieclaojabDoor.tint col W.heap.size (6 + k)) W d := h.recol (fun g hg => tint_old _ _ _ _ hg)
  have hcv := h.ch k hk (by omega)
  have h2 := (h1.less (6 + k)).step kp (fun g hg hm => by rw [tint_old _ _ _ _ hg]; exact hcv g hm)
  have h3 := h2.setH k hk o (hcv.tint hv)
  have kk : Kp (fun b => b = d.HB) w' (w'.setCell ⟨d.HB, k, none⟩ v) := (Kp.refl (fun b => b = d.HB) w').setCell (p := ⟨d.HB, k, none⟩) rfl v
  have h4 := h3.step kk (fun g _ e => by rw [e]; exact h3.cH)
  have c0 := h2.hb (by omega)
  refine h4.setHB (fun i hi => ?_) (fun j => ?_)
  · show (w'.setCell ⟨d.HB, k, none⟩ v).cell? ⟨d.HB, i, none⟩ = some (up d.hv k v i)
    by_cases e : i = k
    · subst e
      rw [up_same]
      exact World.cell?_setCell_same' _ _ _ (by rw [c0 i hi]; rfl)
    · rw [up_other _ _ _ _ e, cell_off _ _ _ _ _ (Ne.symm e)]
      exact c0 i hi
  · show (w'.setCell ⟨d.HB, k, none⟩ v).frozen? ⟨d.HB, j, none⟩ = false
    rw [World.frozen?_setCell]
    exact h2.hf (by omega) j
end Fs
end Go.Proofs.YtedlmjieclaojabDoor
/- ChunkSteps: what each step does to what is held. -/
namespace Go.Proofs.YtedlmjieclaojabDoor
open Go.RowKit

theorem row_down {w : World} {S S' e s n : Nat} {v : Value} {xs : List Value} (o : w.ownsRow S e s v n xs) (h : S' ≤ S) : w.ownsRow S' e s v n xs := by
  refine ⟨o.1, ?_⟩
  rcases o.2 with h0 | ⟨g, cap, cur, hv, hB, r⟩
  · exact .inl h0
  · exact .inr ⟨g, cap, cur, hv, Nat.le_trans h hB, r⟩
theorem Hd.low {S S' : Nat} {w : World} {B : Nat} {v : Value} {l : List Smp} (h : Hd S w B v l) (hs : S' ≤ S) (h3 : 3 ≤ S') : Hd S' w B v l :=
  ⟨⟨⟨h.pk.stm.c0, h.pk.stm.c1, h.pk.stm.fz, row_down h.pk.stm.row hs, h.pk.stm.gb, h.pk.stm.bin, Nat.le_trans hs h.pk.stm.SS⟩, h.pk.tc, h3, Nat.le_trans hs h.pk.SB⟩, h.ok, h.le⟩
namespace Fs
variable {S : Nat} {col : Nat → Nat} {W w' : World} {d : Da}
/-- A new packer in the place of another. -/
theorem newp (h : Fs 99 S col W d) (k : Nat) (h1 : 1 ≤ k) (hk : k < 4) {v : Value} (b : Below W.heap.size W w') (hd : Hd W.heap.size w' W.heap.size v []) :
    Fs 99 S (tint col W.heap.size (2 + k)) (w'.setCell ⟨d.PB, k, none⟩ (.pointer (some ⟨W.heap.size, 0, none⟩))) { d with P := up d.P k W.heap.size, pv := up d.pv k v, pl := up d.pl k [] } := by
  have r1 : Fs 99 S (YtedlmjieclaojabDoor.tint col W.heap.size (2 + k)) W d := h.recol (fun g hg => tint_old _ _ _ _ hg)
  have r2 := (r1.less (2 + k)).below b
  have hS := r2.sw
  have r3 := r2.setN k h1 hk (hd.low h.sw h.s3) ⟨tint_new _ _ _ _ (Nat.le_refl _), fun g hg => tint_new _ _ _ _ (World.ownsRow.lt hd.pk.stm.row g hg).1⟩
  have kk : Kp (fun b => b = d.PB) w' (w'.setCell ⟨d.PB, k, none⟩ (.pointer (some ⟨W.heap.size, 0, none⟩))) := (Kp.refl (fun b => b = d.PB) w').setCell (p := ⟨d.PB, k, none⟩) rfl _
  have r4 := r3.step kk (fun g _ e => by rw [e]; exact r3.cP)
  have c0 := r2.pk (by omega)
  refine r4.setPB ?_ (fun i i1 i2 => ?_) (fun j => ?_)
  · show (w'.setCell ⟨d.PB, k, none⟩ _).cell? ⟨d.PB, 0, none⟩ = some (.pointer none)
    rw [cell_off _ _ _ _ _ (by omega)]
    exact r2.p0 (by omega)
  · show (w'.setCell ⟨d.PB, k, none⟩ (.pointer (some ⟨W.heap.size, 0, none⟩))).cell? ⟨d.PB, i, none⟩ = some (.pointer (some ⟨up d.P k W.heap.size i, 0, none⟩))
    by_cases e : i = k
    · subst e
      rw [up_same]
      exact World.cell?_setCell_same' _ _ _ (by rw [c0 i i1 i2]; rfl)
    · rw [up_other _ _ _ _ e, cell_off _ _ _ _ _ (Ne.symm e)]
      exact c0 i i1 i2
  · show (w'.setCell ⟨d.PB, k, none⟩ _).frozen? ⟨d.PB, j, none⟩ = false
    rw [World.frozen?_setCell]
    exact r2.pf (by omega) j
/-- A sample added to a packer. -/
theorem added (h : Fs 99 S col W d) (k : Nat) (h1 : 1 ≤ k) (hk : k < 4) {v : Value} {l : List Smp} (kp : Kp (Mv (d.P k) (d.pv k)) W w') (hd : Hd S w' (d.P k) v l) (hs : Sub W (d.pv k) v) :
    Fs 99 S (tint col W.heap.size (2 + k)) w' { d with pv := up d.pv k v, pl := up d.pl k l } := by
  have r1 : Fs 99 S (YtedlmjieclaojabDoor.tint col W.heap.size (2 + k)) W d := h.recol (fun g hg => tint_old _ _ _ _ hg)
  have hc := h.cp k h1 hk (by omega)
  have r2 := (r1.less (2 + k)).step kp (fun g hg hm => by
    rw [tint_old _ _ _ _ hg]
    rcases hm with rfl | hm
    · exact hc.1
    · exact hc.2 g hm)
  refine r2.setP k h1 hk hd ⟨(r1.cp k h1 hk (by omega)).1, hc.2.tint (fun g hg => ?_)⟩
  by_cases hl : g < W.heap.size
  · exact .inl (hs g hg hl)
  · exact .inr (by omega)
/-- Bytes that are kept. -/
theorem kept (h : Fs 99 S col W d) (hnt : d.nt ≤ d.n) (hn : (d.n + 1) * 24 ≤ 140737488355328) {a : Option Addr} {m B : Nat} {x : List Int} (o : W.ownsRow S 5 1 (.slice a x.length m) x.length (bc x)) (hc : Clr col 10 (.slice a x.length m)) (hB : ∀ g, (Value.slice a x.length m).ownBlock = some g → B ≤ g)
    (hlt : (∀ g, d.kv.ownBlock = some g → g < B) ∧ ∀ i, i < d.n → ∀ g, (d.V i).ownBlock = some g → g < B) :
    ∃ g c w', (Builtin.append_ #[28, 28] 28 #[d.kv, .slice (some ⟨W.heap.size, 0, none⟩) 1 1]).run Tryd.prog (W.alloc (.cells #[.slice a x.length m] 38)) = .ok (.slice (some ⟨g, 0, none⟩) (d.n + 1) c) w' ∧
      Fs 99 S (tint col W.heap.size 10) w' { d with kv := .slice (some ⟨g, 0, none⟩) (d.n + 1) c, n := d.n + 1, V := up d.V d.n (.slice a x.length m), X := up d.X d.n x } ∧ Kp (fun b => d.kv.ownBlock = some b) W w' := by
  have hck := h.ck (by omega)
  obtain ⟨g, c, w', r, kt, kk, hg⟩ := (h.kp (by omega)).more a m x h.sw hn o (fun g hg => ⟨fun e => by have := hB g hg; have := hlt.1 g e; omega, fun i hi e => by have := hB g hg; have := hlt.2 i hi g e; omega⟩)
  refine ⟨g, c, w', r, ?_, kk⟩
  have r1 : Fs 99 S (YtedlmjieclaojabDoor.tint col W.heap.size 10) W d := h.recol (fun g hg => tint_old _ _ _ _ hg)
  have r2 := (r1.less 10).step kk (fun g hg hm => by rw [tint_old _ _ _ _ hg]; exact hck.1 g hm)
  refine r2.setK hnt kt ⟨hck.1.tint (fun b hb => ?_), fun i hi => ?_⟩
  · cases hb
    exact hg
  · by_cases e : i = d.n
    · subst e
      rw [up_same]
      exact hc.tint (fun b hb => .inl hb)
    · rw [up_other _ _ _ _ e]
      exact (hck.2 i (by omega)).tint (fun b hb => .inl hb)
/-- Bytes that are told. -/
theorem told (h : Fs 99 S col W d) (hn : (d.nt + 1) * 24 ≤ 140737488355328) {a : Option Addr} {m B : Nat} {x : List Int} (hx : d.X d.nt = x) (o : W.ownsRow S 5 1 (.slice a x.length m) x.length (bc x)) (hc : Clr col 11 (.slice a x.length m)) (hB : ∀ g, (Value.slice a x.length m).ownBlock = some g → B ≤ g)
    (hlt : (∀ g, d.tv.ownBlock = some g → g < B) ∧ ∀ i, i < d.nt → ∀ g, (d.T i).ownBlock = some g → g < B) :
    ∃ g c w', (Builtin.append_ #[28, 28] 28 #[d.tv, .slice (some ⟨W.heap.size, 0, none⟩) 1 1]).run Tryd.prog (W.alloc (.cells #[.slice a x.length m] 38)) = .ok (.slice (some ⟨g, 0, none⟩) (d.nt + 1) c) w' ∧
      Fs 99 S (tint col W.heap.size 11) w' { d with tv := .slice (some ⟨g, 0, none⟩) (d.nt + 1) c, nt := d.nt + 1, T := up d.T d.nt (.slice a x.length m) } ∧ Kp (fun b => d.tv.ownBlock = some b) W w' := by
  have hck := h.ct (by omega)
  obtain ⟨g, c, w', r, kt, kk, hg⟩ := (h.tl (by omega)).more a m x h.sw hn o (fun g hg => ⟨fun e => by have := hB g hg; have := hlt.1 g e; omega, fun i hi e => by have := hB g hg; have := hlt.2 i hi g e; omega⟩)
  have ex : up d.X d.nt x = d.X := by
    funext i
    by_cases e : i = d.nt
    · subst e
      rw [up_same, hx]
    · rw [up_other _ _ _ _ e]
  rw [ex] at kt
  refine ⟨g, c, w', r, ?_, kk⟩
  have r1 : Fs 99 S (YtedlmjieclaojabDoor.tint col W.heap.size 11) W d := h.recol (fun g hg => tint_old _ _ _ _ hg)
  have r2 := (r1.less 11).step kk (fun g hg hm => by rw [tint_old _ _ _ _ hg]; exact hck.1 g hm)
  refine r2.setT kt ⟨hck.1.tint (fun b hb => ?_), fun i hi => ?_⟩
  · cases hb
    exact hg
  · by_cases e : i = d.nt
    · subst e
      rw [up_same]
      exact hc.tint (fun b hb => .inl hb)
    · rw [up_other _ _ _ _ e]
      exact (hck.2 i (by omega)).tint (fun b hb => .inl hb)
end Fs
end Go.Proofs.YtedlmjieclaojabDoor
/- ChunkSteps: the bytes of no packer; a number's last two bits. -/
namespace Go.Proofs.YtedlmjieclaojabDoor
open Go.RowKit

theorem and3 (x : Int) : ∃ k : Nat, k < 4 ∧ bits BinOp.and IntKind.i64 x 3 = (k : Int) := by
  have h1 : ((BitVec.ofInt 64 x) &&& (BitVec.ofInt 64 3)).toNat < 4 := by
    rw [BitVec.toNat_and]
    have : (BitVec.ofInt 64 3).toNat = 3 := by decide
    rw [this]
    have := Nat.and_le_right (n := (BitVec.ofInt 64 x).toNat) (m := 3)
    omega
  refine ⟨((BitVec.ofInt 64 x) &&& (BitVec.ofInt 64 3)).toNat, h1, ?_⟩
  show IntKind.i64.wrap ((((BitVec.ofInt 64 x) &&& (BitVec.ofInt 64 3)).toNat : Nat) : Int) = _
  rw [IntKind.wrap_i64]
  omega
set_option maxHeartbeats 2000000 in
set_option maxRecDepth 100000 in
theorem bytes_nil (w : World) (hw : 3 ≤ w.heap.size) (l : List Smp) (hl0 : l = []) :
    Calls Tryd.prog 10 #[.pointer none] w fun e w' => ∃ g c, e = .returned (.slice (some ⟨g, 0, none⟩) (pk (frm l)).length c) ∧ w'.ownsRow w.heap.size 5 1 (.slice (some ⟨g, 0, none⟩) (pk (frm l)).length c) (pk (frm l)).length (bc (pk (frm l))) ∧ Below w.heap.size w w' := by
  have kn := new_any w hw
  rw [← hl0] at kn
  have hle : l.length ≤ 100000 := by rw [hl0]; decide
  have hXb := bin_bod l t0
  have HPk : Hid (pk (frm l) = nfL l.length (bod t0 l) 3 (qb (nb 0 17 ++ bod t0 l))) := by
    show _ = _
    rw [nfL_three]
    unfold pk frm qb
    rw [List.length_append, List.length_append, nb_len, nb_len]
  have hql : (pk (frm l)).length = qb (nb 0 17 ++ bod t0 l) := by rw [HPk.out, nfL_len]
  rw [hql, HPk.out]
  have hq3 : 3 ≤ qb (nb 0 17 ++ bod t0 l) := by unfold qb; rw [List.length_append, nb_len]; omega
  have hq9 : qb (nb 0 17 ++ bod t0 l) ≤ 100000000 := by
    unfold qb
    rw [hl0]
    simp only [bod, List.append_nil, nb_len]
    omega
  clear hql HPk hl0
  have CT : Hid (∀ W B v, Hd w.heap.size W B v l → W.cell? ⟨B, 2, none⟩ = some (.int .i64 (l.length : Nat)) ∧ Stm w.heap.size W B v (nb 0 17 ++ bod t0 l)) := fun W B v h => ⟨by have c2 := h.pk.tc.c0; rw [fin_len] at c2; exact c2, h.pk.stm⟩
  generalize l.length = n at *
  have HZ := nfL_zero n (bod t0 l) (qb (nb 0 17 ++ bod t0 l))
  generalize hX : bod t0 l = X at *
  generalize hQ : qb (nb 0 17 ++ X) = Q at *
  have HQ : Hid (qb (nb 0 17 ++ X) = Q) := hQ
  have HZ' : Hid (_ = _) := HZ
  have HN := fun i hi => num_or n X (hX ▸ hXb) i hi
  have HN' : Hid _ := HN
  clear HZ HN hX hXb hQ
  go_enter Tryd.func10, Tryd.ntmps10
  go_wp2_with fail
  go_fit kn
  rintro e W0 ⟨rfl, v, hH, bW⟩
  obtain ⟨c2, hS⟩ := CT.out _ _ _ hH
  have BW : Hid (Below w.heap.size w W0) := bW
  obtain ⟨G, C, rfl⟩ : ∃ G C, v = .slice (some ⟨G, 0, none⟩) Q C := by
    have hr := hS.row
    rw [HQ.out] at hr
    rcases hr.2 with ⟨_, e2⟩ | ⟨G, C, cur, e, _⟩
    · omega
    · exact ⟨G, C, e⟩
  obtain ⟨B, hB⟩ : ∃ B, B = w.heap.size := ⟨_, rfl⟩
  obtain ⟨S, hSS⟩ : ∃ S, S = w.heap.size := ⟨_, rfl⟩
  have HBS : Hid (B = w.heap.size ∧ S = w.heap.size) := ⟨hB, hSS⟩
  have HS : Hid (Stm S W0 B _ (nb 0 17 ++ X)) := (show Stm _ _ _ _ _ by rw [hB, hSS]; exact hS)
  have c0 := HS.out.c0
  rw [← hB] at c2
  rw [← hB]
  clear hS hH bW kn CT hB hSS
  have hbN : Below W0.heap.size W0 (W0.alloc (.cells #[.slice none 0 0, .int .i64 0] 58)) := (Below.refl _ _).alloc (Nat.le_refl _) _
  have HBN : Hid _ := hbN
  have hSN := stm_new W0 (.cells #[.slice none 0 0, .int .i64 0] 58) _ _ rfl rfl rfl
  have k := put_any W0.heap.size W0.heap.size _ [] n 17 _ hSN (by omega) (by decide) (by decide)
  have hlt := HS.out.lt
  have wn : IntKind.u64.wrap (n : Int) = (n : Int) := by rw [IntKind.wrap_u64]; omega
  clear hSN hbN
  go_wp2_with fail
  go_fit k
  rintro e w1 ⟨rfl, v1, hS1, _, hkp, _⟩
  have hb1 : Below W0.heap.size W0 w1 := HBN.out.trans (hkp.below (by simp) (by
    rintro i hi (e | e)
    · omega
    · cases e))
  have HB1 : Hid (Below W0.heap.size W0 w1) := hb1
  rw [List.nil_append] at hS1
  have hq17 : qb (nb n 17) = 3 := by unfold qb; rw [nb_len]
  have hr1 := hS1.row
  rw [hq17] at hr1
  obtain ⟨G1, C1, rfl⟩ : ∃ G C, v1 = .slice (some ⟨G, 0, none⟩) 3 C := by
    rcases hr1.2 with ⟨_, e2⟩ | ⟨G, C, cur, e, _⟩
    · omega
    · exact ⟨G, C, e⟩
  have d0 := hS1.c0
  have HO1 : Hid (w1.ownsRow W0.heap.size 5 1 (.slice (some ⟨G1, 0, none⟩) 3 C1) 3 (bc (gr (fb (nb n 17)) 8 3))) := hr1
  have e0 : w1.cell? ⟨B, 0, none⟩ = _ := bcell2 hb1 c0
  have hS' := HS.out.below hb1
  have kc := clone_any S G Q C _ w1 (by have := hS'.row; rw [HQ.out] at this; exact this) hq9
  clear k hS1 hkp hb1 c0 c2 HS hS' hlt hr1 hq17
  go_wp2_with fail
  go_fit kc
  rintro e w2 ⟨g, c, rfl, o2, b2⟩
  have HO2 : Hid (w2.ownsRow W0.heap.size 5 1 (.slice (some ⟨g, 0, none⟩) Q c) Q (bc (nfL n X 0 Q))) := by
    rw [HZ'.out]
    exact ⟨o2.1, o2.2.imp id (fun ⟨g', cap, cur, h1, h2, h3⟩ => ⟨g', cap, cur, h1, Nat.le_trans HB1.out.size h2, h3⟩)⟩
  have hgw : w1.heap.size ≤ g := by
    rcases o2.2 with ⟨h, _⟩ | ⟨g', _, _, e, h, _⟩
    · cases h
    · cases e; exact h
  have HB2 : Hid (Below W0.heap.size W0 w2) := HB1.out.trans (b2.mono HB1.out.size)
  have HR2 : Hid (w2.ownsRow W0.heap.size 5 1 (.slice (some ⟨G1, 0, none⟩) 3 C1) 3 (bc (gr (fb (nb n 17)) 8 3))) := Kp.row (M := fun _ => False) (Kp.of b2) HO1.out (fun _ _ => id)
  have hG1 : G1 < w1.heap.size := by
    rcases HO1.out.2 with ⟨h, _⟩ | ⟨g', _, _, e, _, h, _⟩
    · cases h
    · cases e; exact (Array.getElem?_eq_some_iff.1 h).1
  have d0' := bcell2 b2 d0
  have hgG : G1 ≠ g := by omega
  clear kc o2 b2 HO1 HB1 d0 e0 hgw hG1
  go_wp2_with fail
  go_loopw [26] (fun iv W0' => ∃ i : Nat, i ≤ 3 ∧ iv = .int .i64 (i : Nat) ∧ Hid (W0'.ownsRow W0.heap.size 5 1 (.slice (some ⟨g, 0, none⟩) Q c) Q (bc (nfL n X i Q))) ∧ Hid (W0'.ownsRow W0.heap.size 5 1 (.slice (some ⟨G1, 0, none⟩) 3 C1) 3 (bc (gr (fb (nb n 17)) 8 3))) ∧ Hid (Below W0.heap.size W0 W0')) (fun iv _ => 3 - (RowKit.intOf iv).toNat)
  case atStart => exact ⟨0, by decide, rfl, HO2, HR2, HB2⟩
  case round =>
    obtain ⟨i, hi, rfl, ho, hr, hb⟩ := hrel
    by_cases hlt : i < 3
    · have hii : (i : Int) < 3 := by omega
      have hiQ : (i : Int) < (Q : Int) := by omega
      have r1 : wr.cell? ⟨G1, i, none⟩ = some (.int .u8 ((bv (fb (nb n 17)) (8 * i) 8 : Nat) : Int)) := by
        have := hr.out.cells (g := G1) rfl i (.int .u8 ((gr (fb (nb n 17)) 8 3).getD i 0)) (by simp [bc, List.getD, gr_len, hlt])
        rw [Go.WideShapes.add_plain, Nat.zero_add, gr_getD _ _ _ _ hlt] at this
        exact this
      have hnf : nf n X i i = bv (fb (nb 0 17 ++ X)) (8 * i) 8 := by unfold nf; rw [if_neg (by omega)]
      have r2 : wr.cell? ⟨g, i, none⟩ = some (.int .u8 ((bv (fb (nb 0 17 ++ X)) (8 * i) 8 : Nat) : Int)) := by
        have := ho.out.cells (g := g) rfl i (.int .u8 ((nf n X i i : Nat) : Int)) (by rw [bc, List.getElem?_map, nfL, List.getElem?_map, List.getElem?_range (by omega)]; rfl)
        rw [Go.WideShapes.add_plain, Nat.zero_add, hnf] at this
        exact this
      have f2 := World.ownsRow.frozenAt ho.out i
      have hor := HN'.out i hlt
      have st := (World.ownsRow.stored ho.out i (.int .u8 ((bv (fb (nb n 17 ++ X)) (8 * i) 8 : Nat) : Int))).1
      rw [← bc_set, ← nfL_set] at st
      have HST : Hid _ := st
      have HSR : Hid (World.ownsRow (wr.setCell ⟨g, i, none⟩ (.int .u8 ((bv (fb (nb n 17 ++ X)) (8 * i) 8 : Nat) : Int))) W0.heap.size 5 1 (.slice (some ⟨G1, 0, none⟩) 3 C1) 3 (bc (gr (fb (nb n 17)) 8 3))) :=
        ((Kp.refl (fun k => k = g) wr).setCell (p := ⟨g, i, none⟩) rfl _).row hr.out (fun k e e2 => hgG ((Option.some.inj e).trans e2))
      have HSB : Hid (Below W0.heap.size W0 (wr.setCell ⟨g, i, none⟩ (.int .u8 ((bv (fb (nb n 17 ++ X)) (8 * i) 8 : Nat) : Int)))) := hb.out.setCell (p := ⟨g, i, none⟩) (by
        rcases ho.out.2 with ⟨h, _⟩ | ⟨g', _, _, e, h, _⟩
        · cases h
        · cases e; exact h) _
      clear ho hr hb hnf st
      generalize ((bv (fb (nb n 17 ++ X)) (8 * i) 8 : Nat) : Int) = Y at *
      generalize ((bv (fb (nb 0 17 ++ X)) (8 * i) 8 : Nat) : Int) = Y0 at *
      generalize ((bv (fb (nb n 17)) (8 * i) 8 : Nat) : Int) = Y1 at *
      go_wp2
      exact ⟨⟨i + 1, by omega, by go_num, HST, HSR, HSB⟩, by simp [RowKit.intOf]; omega⟩
    · have hii : ¬ (i : Int) < 3 := by omega
      have HF : Hid (wr.ownsRow W0.heap.size 5 1 (.slice (some ⟨g, 0, none⟩) Q c) Q (bc (nfL n X 3 Q))) := by
        have e : i = 3 := by omega
        rw [← e]; exact ho.out
      clear ho hr
      go_wp2
      go_ret
      exact ⟨g, c, rfl, row_down HF.out BW.out.size, BW.out.trans (hb.out.mono BW.out.size)⟩
end Go.Proofs.YtedlmjieclaojabDoor
/- ChunkSteps: scripts, in memory and as they came in. -/
namespace Go.Proofs.YtedlmjieclaojabDoor
open Go.ChangeShapes Go.WideShapes Go.ChangeAt Go.RowKit Go.Lib
set_option maxRecDepth 100000

/-- A step of a script. -/
structure Opx where
  who : Int
  kind : Int
  x : Smp
/-- Steps in memory. -/
def Om (w : World) (a : Option Addr) (l : List Opx) : Prop := l = [] ∨ ∃ g o, a = some ⟨g, o, none⟩ ∧ g < w.heap.size ∧ ∀ j y, l[j]? = some y → w.cell? ⟨g, o + j * 5, none⟩ = some (.int .i64 y.who) ∧ w.cell? ⟨g, o + j * 5 + 1, none⟩ = some (.int .i64 y.kind) ∧ w.cell? ⟨g, o + j * 5 + 2, none⟩ = some (.int .i64 y.x.t) ∧ w.cell? ⟨g, o + j * 5 + 3, none⟩ = some (.float .f64 y.x.v) ∧ w.cell? ⟨g, o + j * 5 + 4, none⟩ = some (.bool y.x.s)
theorem ops_open {H : Type} {enc : TypeId × Value → H} {W : World} {a : Option Addr} {len cap : Nat} {d : DataW H} {p : List MemPlace} {fuel : Nat}
    (hf : DataW.trod enc Tryd.prog W 0 (fun _ => true) true fuel 22 [Value.slice a len cap] = some (d, p)) (hz : ∀ n ∈ d.weights Tryd.prog 22, n ≤ reachBytes) :
    ∃ l : List Opx, l.length = len ∧ Om W a l ∧ (∀ y ∈ l, Sok y.x) ∧ len * 40 ≤ 140737488351232 := by
  rcases Go.Deep.open_slice Tryd.underlying22 hf with ⟨hcs, _⟩ | ⟨x, l, c, m, n, D, Pl, hcs, _, hl, hm, hmm, hd, hall⟩
  · simp at hcs
    obtain ⟨_, rfl, rfl⟩ := hcs
    exact ⟨[], rfl, .inl rfl, fun x hx => (by cases hx), by omega⟩
  · simp at hcs
    obtain ⟨rfl, rfl, rfl⟩ := hcs
    have hm' : m = cap := by simpa using hmm
    subst hm'
    obtain ⟨rfl, _⟩ := Prod.mk.inj hd
    have hC : Tryd.prog.cellsOf 33 = 5 := by kernel_rfl
    have each : ∀ i, i < m → ∃ u : Opx, W.cell? (x.add (i * 5)) = some (.int .i64 u.who) ∧ W.cell? (x.add (i * 5 + 1)) = some (.int .i64 u.kind) ∧ W.cell? (x.add (i * 5 + 2)) = some (.int .i64 u.x.t) ∧ W.cell? (x.add (i * 5 + 3)) = some (.float .f64 u.x.v) ∧ W.cell? (x.add (i * 5 + 4)) = some (.bool u.x.s) ∧ Sok u.x := by
      intro i hi
      obtain ⟨cs', h1, h2⟩ := hall i hi
      rw [hC] at h1
      obtain ⟨_, hlen, hcell⟩ := World.cells?_some h1
      obtain ⟨xs, k, hk, hxy, _, hxl, hff⟩ := DataW.trod_struct Tryd.underlying33 h2
      match xs, hxl, cs', hlen with
      | [y0, y1, y2], _, [v0, v1, v2, v3, v4], _ =>
        have g0 := hff 0 _ rfl
        have g1 := hff 1 _ rfl
        have g2 := hff 2 _ rfl
        have c3 : Tryd.prog.cellsOf 3 = 1 := by kernel_rfl
        have c31 : Tryd.prog.cellsOf 31 = 3 := by kernel_rfl
        simp [c3, c31] at g0 g1 g2
        obtain ⟨t0, e0, _, _⟩ := DataW.trod_int Tryd.underlying3 g0
        obtain ⟨t1, e1, _, _⟩ := DataW.trod_int Tryd.underlying3 g1
        obtain ⟨zs, k2, hk2, hzy, _, hzl, hgg⟩ := DataW.trod_struct Tryd.underlying31 g2
        match zs, hzl with
        | [z0, z1, z2], _ =>
          have f0 := hgg 0 _ rfl
          have f1 := hgg 1 _ rfl
          have f2 := hgg 2 _ rfl
          have c2 : Tryd.prog.cellsOf 2 = 1 := by kernel_rfl
          have c36 : Tryd.prog.cellsOf 29 = 1 := by kernel_rfl
          have c4 : Tryd.prog.cellsOf 4 = 1 := by kernel_rfl
          simp [c2, c36, c4] at f0 f1 f2
          obtain ⟨t, e2, _, wf⟩ := DataW.trod_int Tryd.underlying2 f0
          obtain ⟨v, e3, hv, _⟩ := trod_float Tryd.underlying29 f1
          obtain ⟨s, e4, _⟩ := DataW.trod_bool Tryd.underlying4 f2
          have q0 := hcell 0 (by omega)
          have q1 := hcell 1 (by omega)
          have q2 := hcell 2 (by omega)
          have q3 := hcell 3 (by omega)
          have q4 := hcell 4 (by omega)
          rw [Go.Deep.add_add] at q0 q1 q2 q3 q4
          have w0 : v0 = .int .i64 t0 := by simpa using e0
          have w1 : v1 = .int .i64 t1 := by simpa using e1
          have w2 : v2 = .int .i64 t := by simpa using e2
          have w4 : v4 = .bool s := by simpa using e4
          rw [w0, w1, w2, e3, w4] at q0 q1 q2 q3 q4
          simp [Lit.wf, IntKind.min, IntKind.max, IntKind.signed, IntKind.bits] at wf
          refine ⟨⟨t0, t1, ⟨t, v, s⟩⟩, by simpa using q0, by simpa using q1, by simpa using q2, by simpa using q3, by simpa using q4, ?_⟩
          unfold Sok
          exact ⟨by show _ ≤ t; omega, by show t ≤ _; omega, hv⟩
    have hI : Inhabited Opx := ⟨⟨0, 0, ⟨0, 0, false⟩⟩⟩
    obtain ⟨ss, hss⟩ := Go.Deep.choose_lt each
    refine ⟨(List.range len).map ss, by simp, ?_, ?_, ?_⟩
    · by_cases h0 : len = 0
      · left; rw [h0]; rfl
      · right
        obtain ⟨g, o, sp⟩ := x
        have hsp : sp = none := by
          have := (hss 0 (by omega)).1
          simpa [Addr.add] using World.cell?_spot this
        subst hsp
        have h00 := (hss 0 (by omega)).1
        rw [Go.WideShapes.add_plain] at h00
        refine ⟨g, o, rfl, World.block_lt_of_cell? W _ h00, fun j y hj => ?_⟩
        have hjl : j < len := by
          have := (List.getElem?_eq_some_iff.1 hj).1
          simpa using this
        have hy : y = ss j := by
          rw [List.getElem?_map, List.getElem?_range hjl] at hj
          exact (Option.some.inj hj).symm
        subst hy
        obtain ⟨q0, q1, q2, q3, q4, _⟩ := hss j (by omega)
        rw [Go.WideShapes.add_plain] at q0 q1 q2 q3 q4
        exact ⟨q0, by rw [Nat.add_assoc]; exact q1, by rw [Nat.add_assoc]; exact q2, by rw [Nat.add_assoc]; exact q3, by rw [Nat.add_assoc]; exact q4⟩
    · intro y hy
      obtain ⟨j, hj, rfl⟩ := List.mem_map.1 hy
      exact (hss j (by have := List.mem_range.1 hj; omega)).2.2.2.2.2
    · have hb : Tryd.prog.bytesOf 33 = 40 := by kernel_rfl
      have hr : reachBytes = 140737488351232 := by decide
      have := hz ((((List.range len).map D).length + ((List.range (m - len)).map fun j => D (len + j)).length) * 40) (by
        simp only [DataW.weights, Tryd.underlying22, hb]
        exact List.mem_cons.2 (.inl rfl))
      simp at this
      omega
end Go.Proofs.YtedlmjieclaojabDoor
/- ChunkSteps: what holds between two steps of a script. -/
namespace Go.Proofs.YtedlmjieclaojabDoor
open Go.RowKit

structure Iv (w : World) (S PB HB : Nat) (d : Da) (col : Nat → Nat) (W : World) : Prop where
  fs : Fs 99 S col W d
  ws : w.heap.size ≤ S
  pb : d.PB = PB
  hb : d.HB = HB
  nn : d.nt = d.n
  n2 : d.n ≤ 201
  eq : ∀ k, 1 ≤ k → k < 4 → d.pl k = d.hl k
  h0 : d.hl 0 = []
  ok : ∀ k, k < 4 → rsB (d.hl k) = true ∧ (∀ x ∈ d.hl k, Sok x) ∧ (d.hl k).length ≤ 100000
  bys : ∀ i, i < d.n → By (d.X i) ∧ (d.X i).length ≤ 100000000
  bl : Below w.heap.size w W
namespace Iv
variable {w : World} {S PB HB : Nat} {d : Da} {col : Nat → Nat} {W W' : World}
theorem below (h : Iv w S PB HB d col W) (b : Below W.heap.size W W') : Iv w S PB HB d col W' :=
  ⟨h.fs.below b, h.ws, h.pb, h.hb, h.nn, h.n2, h.eq, h.h0, h.ok, h.bys, h.bl.trans (b.mono h.bl.size)⟩
/-- A sample that is taken: held, then added. -/
theorem add (h : Iv w S PB HB d col W) (k : Nat) (h1 : 1 ≤ k) (hk : k < 4) (x : Smp) (hx : Sok x) (hlen : (d.hl k).length < 100000) (hord : 0 < (d.hl k).length → (fin t0 (d.hl k)).tm < x.t) (hS : Scl w) (hT : Tab w) :
    ∃ v' w', (Builtin.append_ #[35, 35] 35 #[d.hv k, .slice (some ⟨W.heap.size, 0, none⟩) 1 1]).run Tryd.prog (W.alloc (smX x)) = .ok v' w' ∧ Fs 99 S (tint col W.heap.size (6 + k)) (w'.setCell ⟨d.HB, k, none⟩ v') { d with hv := up d.hv k v', hl := up d.hl k (d.hl k ++ [x]) } ∧ (∃ a c, v' = .slice a ((d.hl k).length + 1) c) ∧ Below w.heap.size w w' ∧ Below w.heap.size w (w'.setCell ⟨d.HB, k, none⟩ v') ∧ Kp (fun g => (d.hv k).ownBlock = some g) W w' ∧
      ∀ W2, Below (w'.setCell ⟨d.HB, k, none⟩ v').heap.size (w'.setCell ⟨d.HB, k, none⟩ v') W2 → Calls Tryd.prog 7 #[.pointer (some ⟨d.P k, 0, none⟩), smV x] W2 fun e w'' => e = .returned (.int .i64 0) ∧ Kp (Mv (d.P k) (d.pv k)) W2 w'' ∧ ∃ d'' col'', Iv w S PB HB d'' col'' w'' ∧ d''.kv = d.kv ∧ d''.tv = d.tv ∧ d''.n = d.n := by
  obtain ⟨v', w', r, o, kp, hv⟩ := append_s W S (d.hv k) (d.hl k) x h.fs.sw (by omega) (h.fs.ho k hk (by omega))
  have hf := h.fs.held k hk kp (l := d.hl k ++ [x]) (by rw [List.length_append]; exact o) hv
  have bw : Below w.heap.size w w' := h.bl.trans (kp.below h.bl.size (fun g hg e => by have := (World.ownsRow.lt (h.fs.ho k hk (by omega)) g e).1; have := h.ws; omega))
  have bs : Below w.heap.size w (w'.setCell ⟨d.HB, k, none⟩ v') := bw.setCell (p := ⟨d.HB, k, none⟩) (by have := h.fs.hh.1; have := h.ws; show _ ≤ d.HB; omega) _
  refine ⟨v', w', r, hf, row_form o, bw, bs, kp, fun W2 b2 => ?_⟩
  have hf2 := hf.below b2
  have bs2 : Below w.heap.size w W2 := bs.trans (b2.mono bs.size)
  have hd := hf2.hd k h1 hk (by omega)
  have he := h.eq k h1 hk
  have kA := add_ok S (d.P k) (d.pv k) (d.pl k) x W2 hd (hS.below bs2) (hT.below bs2) hx (by rw [he]; exact hlen) (by rw [he]; exact hord)
  refine kA.mono fun e w'' q => ⟨q.1, ?_⟩
  obtain ⟨v2, hd2, hsub, kp2⟩ := q.2
  have hf3 := hf2.added k h1 hk kp2 hd2 hsub
  refine ⟨kp2, _, _, ⟨hf3, h.ws, h.pb, h.hb, h.nn, h.n2, fun i i1 i2 => ?_, ?_, fun i i1 => ?_, h.bys, ?_⟩, rfl, rfl, rfl⟩
  · show up d.pl k (d.pl k ++ [x]) i = up d.hl k (d.hl k ++ [x]) i
    by_cases e : i = k
    · subst e
      rw [up_same, up_same, h.eq i i1 i2]
    · rw [up_other _ _ _ _ e, up_other _ _ _ _ e]
      exact h.eq i i1 i2
  · show up d.hl k (d.hl k ++ [x]) 0 = []
    rw [up_other _ _ _ _ (by omega)]
    exact h.h0
  · show rsB (up d.hl k (d.hl k ++ [x]) i) = true ∧ (∀ y ∈ up d.hl k (d.hl k ++ [x]) i, Sok y) ∧ (up d.hl k (d.hl k ++ [x]) i).length ≤ 100000
    by_cases e : i = k
    · subst e
      rw [up_same]
      obtain ⟨o1, o2, o3⟩ := h.ok i i1
      refine ⟨?_, fun y hy => ?_, by rw [List.length_append]; show _ + 1 ≤ _; omega⟩
      · rw [rsB_snoc, o1]
        by_cases h0 : (d.hl i).length = 0
        · simp [h0]
        · simp [hord (by omega)]
      · rcases List.mem_append.1 hy with hy | hy
        · exact o2 y hy
        · have : y = x := by simpa using hy
          rw [this]
          exact hx
    · rw [up_other _ _ _ _ e]
      exact h.ok i i1
  · exact bs2.trans (kp2.below bs2.size (fun g hg hm => by
      rcases hm with rfl | hm
      · have q : S ≤ d.P k := hd.pk.SB
        have := h.ws
        omega
      · have q : S ≤ g := (World.ownsRow.lt hd.pk.stm.row g hm).1
        have := h.ws
        omega))
/-- A new packer, and nothing held for it. -/
theorem renew (h : Iv w S PB HB d col W) (k : Nat) (h1 : 1 ≤ k) (hk : k < 4) {v : Value} (b : Below W.heap.size W W') (hd : Hd W.heap.size W' W.heap.size v []) :
    Fs 99 S (tint col W.heap.size (2 + k)) (W'.setCell ⟨d.PB, k, none⟩ (.pointer (some ⟨W.heap.size, 0, none⟩))) { d with P := up d.P k W.heap.size, pv := up d.pv k v, pl := up d.pl k [] } ∧
      ∃ d'' col'', Iv w S PB HB d'' col'' ((W'.setCell ⟨d.PB, k, none⟩ (.pointer (some ⟨W.heap.size, 0, none⟩))).setCell ⟨d.HB, k, none⟩ (.slice none 0 0)) ∧ d''.kv = d.kv ∧ d''.tv = d.tv ∧ d''.n = d.n := by
  have hf := h.fs.newp k h1 hk b hd
  have hf2 := hf.held k hk (w' := W'.setCell ⟨d.PB, k, none⟩ (.pointer (some ⟨W.heap.size, 0, none⟩))) (v := .slice none 0 0) (l := []) (Kp.refl _ _) (World.ownsRow_nil _ _ _ _) (fun g hg => by cases hg)
  have b1 : Below w.heap.size w W' := h.bl.trans (b.mono h.bl.size)
  have b2 : Below w.heap.size w (W'.setCell ⟨d.PB, k, none⟩ (.pointer (some ⟨W.heap.size, 0, none⟩))) := b1.setCell (p := ⟨d.PB, k, none⟩) (by have := h.fs.pl.1; have := h.ws; show _ ≤ d.PB; omega) _
  have b3 := b2.setCell (p := ⟨d.HB, k, none⟩) (by have := h.fs.hh.1; have := h.ws; show _ ≤ d.HB; omega) (.slice none 0 0)
  refine ⟨hf, _, _, ⟨hf2, h.ws, h.pb, h.hb, h.nn, h.n2, fun i i1 i2 => ?_, ?_, fun i i1 => ?_, h.bys, b3⟩, rfl, rfl, rfl⟩
  · show up d.pl k [] i = up d.hl k [] i
    by_cases e : i = k
    · subst e
      rw [up_same, up_same]
    · rw [up_other _ _ _ _ e, up_other _ _ _ _ e]
      exact h.eq i i1 i2
  · show up d.hl k [] 0 = []
    rw [up_other _ _ _ _ (by omega)]
    exact h.h0
  · show rsB (up d.hl k [] i) = true ∧ (∀ y ∈ up d.hl k [] i, Sok y) ∧ (up d.hl k [] i).length ≤ 100000
    by_cases e : i = k
    · subst e
      rw [up_same]
      exact ⟨rfl, fun y hy => (by cases hy), by simp⟩
    · rw [up_other _ _ _ _ e]
      exact h.ok i i1
end Iv
end Go.Proofs.YtedlmjieclaojabDoor
/- ChunkSteps: bytes kept and told. -/
namespace Go.Proofs.YtedlmjieclaojabDoor
open Go.RowKit
namespace Iv
variable {w : World} {S PB HB : Nat} {d : Da} {col : Nat → Nat} {W W1 W2 : World}
theorem take (h : Iv w S PB HB d col W) (hn : d.n ≤ 200) {a1 a2 : Option Addr} {c1 c2 : Nat} {P : List Int} (b1 : Below W.heap.size W W1) (o1 : W1.ownsRow W.heap.size 5 1 (.slice a1 P.length c1) P.length (bc P)) (b2 : Below W1.heap.size W1 W2) (o2 : W2.ownsRow W1.heap.size 5 1 (.slice a2 P.length c2) P.length (bc P)) (hP : By P ∧ P.length ≤ 100000000) :
    ∃ g c w3 g' c' w4, (Builtin.append_ #[28, 28] 28 #[d.kv, .slice (some ⟨W2.heap.size, 0, none⟩) 1 1]).run Tryd.prog (W2.alloc (.cells #[.slice a2 P.length c2] 38)) = .ok (.slice (some ⟨g, 0, none⟩) (d.n + 1) c) w3 ∧
      (Builtin.append_ #[28, 28] 28 #[d.tv, .slice (some ⟨w3.heap.size, 0, none⟩) 1 1]).run Tryd.prog (w3.alloc (.cells #[.slice a1 P.length c1] 38)) = .ok (.slice (some ⟨g', 0, none⟩) (d.n + 1) c') w4 ∧
      ∃ d'' col'', Iv w S PB HB d'' col'' w4 ∧ d''.kv = .slice (some ⟨g, 0, none⟩) (d.n + 1) c ∧ d''.tv = .slice (some ⟨g', 0, none⟩) (d.n + 1) c' ∧ d''.n = d.n + 1 := by
  have f1 : Fs 99 S (tint col W.heap.size 11) W1 d := (h.fs.recol (fun g hg => tint_old _ _ _ _ hg)).below b1
  have f2 : Fs 99 S (tint (tint col W.heap.size 11) W1.heap.size 10) W2 d := (f1.recol (fun g hg => tint_old _ _ _ _ hg)).below b2
  have hS1 := f1.sw
  have hS0 := h.fs.sw
  have l1 := World.ownsRow.lt o1
  have l2 := World.ownsRow.lt o2
  have kl := fun g e => (World.ownsRow.lt (h.fs.kp (by omega)).row g e).2
  have vl := fun i hi g e => (World.ownsRow.lt ((h.fs.kp (by omega)).own i hi) g e).2
  have tl := fun g e => (World.ownsRow.lt (h.fs.tl (by omega)).row g e).2
  have ul := fun i hi g e => (World.ownsRow.lt ((h.fs.tl (by omega)).own i hi) g e).2
  obtain ⟨g, c, w3, r, f3, kk3⟩ := f2.kept (by rw [h.nn]; exact Nat.le_refl _) (by omega) (a := a2) (m := c2) (B := W1.heap.size) (x := P) (row_down o2 hS1) (fun g hg => tint_new _ _ _ _ (l2 g hg).1) (fun g hg => (l2 g hg).1)
    ⟨fun g e => Nat.lt_of_lt_of_le (kl g e) b1.size, fun i hi g e => Nat.lt_of_lt_of_le (vl i hi g e) b1.size⟩
  have o1' : w3.ownsRow W.heap.size 5 1 (.slice a1 P.length c1) P.length (bc P) := kk3.row (Kp.row (M := fun _ => False) (Kp.of b2) o1 (fun _ _ => id)) (fun g hg e => by have := kl g e; have := (l1 g hg).1; omega)
  obtain ⟨g', c', w4, r', f4, kk4⟩ := f3.told (by show (d.nt + 1) * 24 ≤ _; rw [h.nn]; omega) (a := a1) (m := c1) (B := W.heap.size) (x := P) (by show up d.X d.n P d.nt = P; rw [h.nn, up_same]) (row_down o1' hS0)
    (fun g hg => by
      have q := l1 g hg
      rw [tint_old _ _ _ _ (Nat.lt_of_lt_of_le q.2 b2.size), tint_old _ _ _ _ q.2, tint_new _ _ _ _ q.1]) (fun g hg => (l1 g hg).1)
    ⟨fun g e => tl g e, fun i hi g e => ul i hi g e⟩
  have ent : d.nt = d.n := h.nn
  refine ⟨g, c, w3, g', c', w4, r, ?_, _, _, ⟨f4, h.ws, h.pb, h.hb, ?_, ?_, h.eq, h.h0, h.ok, fun i hi => ?_, ?_⟩, rfl, ?_, rfl⟩
  · rw [ent] at r'
    exact r'
  · show d.nt + 1 = d.n + 1
    rw [ent]
  · show d.n + 1 ≤ 201
    omega
  · show By (up d.X d.n P i) ∧ (up d.X d.n P i).length ≤ 100000000
    by_cases e : i = d.n
    · subst e
      rw [up_same]
      exact hP
    · have hi2 : i < d.n + 1 := hi
      rw [up_other _ _ _ _ e]
      exact h.bys i (by omega)
  · have q1 : Below w.heap.size w W2 := (h.bl.trans (b1.mono h.bl.size)).trans (b2.mono (Nat.le_trans h.bl.size b1.size))
    have q2 := q1.trans (kk3.below q1.size (fun g hg e => by have q : S ≤ g := (World.ownsRow.lt (h.fs.kp (by omega)).row g e).1; have := h.ws; omega))
    exact q2.trans (kk4.below q2.size (fun g hg e => by have q : S ≤ g := (World.ownsRow.lt (h.fs.tl (by omega)).row g e).1; have := h.ws; omega))
  · show Value.slice (some ⟨g', 0, none⟩) (d.nt + 1) c' = .slice (some ⟨g', 0, none⟩) (d.n + 1) c'
    rw [ent]
end Iv
end Go.Proofs.YtedlmjieclaojabDoor
/- ChunkSteps: how a script begins. -/
namespace Go.Proofs.YtedlmjieclaojabDoor
open Go.RowKit

def pbX (p1 p2 p3 : Nat) : Obj := .cells #[.pointer none, .pointer (some ⟨p1, 0, none⟩), .pointer (some ⟨p2, 0, none⟩), .pointer (some ⟨p3, 0, none⟩)] 24
def hbX : Obj := .cells #[.slice none 0 0, .slice none 0 0, .slice none 0 0, .slice none 0 0] 35
def d0 (N p1 p2 p3 : Nat) (v1 v2 v3 : Value) : Da :=
  { PB := N, HB := N + 1, P := fun k => if k = 1 then p1 else if k = 2 then p2 else p3, pv := fun k => if k = 1 then v1 else if k = 2 then v2 else v3, pl := fun _ => [], hv := fun _ => .slice none 0 0, hl := fun _ => [], kv := .slice (some ⟨N + 2, 0, none⟩) 0 0, tv := .slice (some ⟨N + 3, 0, none⟩) 0 0, n := 0, nt := 0, V := fun _ => .slice none 0 0, T := fun _ => .slice none 0 0, X := fun _ => [] }
def col0 (N p2 p3 : Nat) (g : Nat) : Nat := if g = N then 0 else if g = N + 1 then 1 else if g = N + 2 then 10 else if g = N + 3 then 11 else if g < p2 then 3 else if g < p3 then 4 else 5
theorem heap_new_at2 (w : World) (o : Obj) (k : Nat) (h : k = w.heap.size) : (w.alloc o).heap[k]? = some o := by rw [h]; exact heap_alloc_new w o
theorem kpt_nil (W : World) (S B : Nat) (hB : S ≤ B) (he : W.heap[B]? = some (.cells #[] 38)) (V : Nat → Value) (X : Nat → List Int) : Kpt S W (.slice (some ⟨B, 0, none⟩) 0 0) 0 V X :=
  ⟨⟨rfl, .inr ⟨B, 0, #[], rfl, hB, he, Nat.le_refl _, by unfold maxLen; decide, by simp, by simp [gl]⟩⟩, fun i hi => absurd hi (by omega), fun i j hi => absurd hi (by omega), fun i hi => absurd hi (by omega)⟩
theorem Iv.start {w w1 w2 w3 w4 : World} {v1 v2 v3 : Value} (b1 : Below w.heap.size w w1) (h3 : 3 ≤ w.heap.size) (b2 : Below w1.heap.size w1 w2) (H1 : Hd w1.heap.size w2 w1.heap.size v1 []) (b3 : Below w2.heap.size w2 w3) (H2 : Hd w2.heap.size w3 w2.heap.size v2 []) (b4 : Below w3.heap.size w3 w4) (H3 : Hd w3.heap.size w4 w3.heap.size v3 []) :
    Iv w w.heap.size w4.heap.size (w4.heap.size + 1) (d0 w4.heap.size w1.heap.size w2.heap.size w3.heap.size v1 v2 v3) (col0 w4.heap.size w2.heap.size w3.heap.size) ((((w4.alloc (pbX w1.heap.size w2.heap.size w3.heap.size)).alloc hbX).alloc (.cells #[] 38)).alloc (.cells #[] 38)) := by
  obtain ⟨W, hW⟩ : ∃ W, W = ((((w4.alloc (pbX w1.heap.size w2.heap.size w3.heap.size)).alloc hbX).alloc (.cells #[] 38)).alloc (.cells #[] 38)) := ⟨_, rfl⟩
  obtain ⟨N, hN⟩ : ∃ N, N = w4.heap.size := ⟨_, rfl⟩
  have bW : Below w4.heap.size w4 W := by
    rw [hW]
    exact ((((Below.refl _ w4).alloc (Nat.le_refl _) _).alloc (by simp) _).alloc (by simp; omega) _).alloc (by simp; omega) _
  have sz : W.heap.size = N + 4 := by rw [hW, hN]; simp
  have e3 : W.heap[N + 3]? = some (.cells #[] 38) := by
    rw [hW, hN]
    exact heap_new_at2 _ _ _ (by simp)
  have e2 : W.heap[N + 2]? = some (.cells #[] 38) := by
    rw [hW, hN, Below.heap_alloc _ _ _ (by simp)]
    exact heap_new_at2 _ _ _ (by simp)
  have e1 : W.heap[N + 1]? = some hbX := by
    rw [hW, hN, Below.heap_alloc _ _ _ (by first | (simp; done) | (simp; omega)), Below.heap_alloc _ _ _ (by simp)]
    exact heap_new_at2 _ _ _ (by simp)
  have e0 : W.heap[N]? = some (pbX w1.heap.size w2.heap.size w3.heap.size) := by
    rw [hW, hN, Below.heap_alloc _ _ _ (by first | (simp; done) | (simp; omega)), Below.heap_alloc _ _ _ (by first | (simp; done) | (simp; omega)), Below.heap_alloc _ _ _ (by simp)]
    exact heap_new_at2 _ _ _ rfl
  have s1 := b1.size
  have s2 := b2.size
  have s3 := b3.size
  have s4 := b4.size
  have k1 : Hd w1.heap.size W w1.heap.size v1 [] := ((H1.below b3).below b4).below bW
  have k2 : Hd w2.heap.size W w2.heap.size v2 [] := (H2.below b4).below bW
  have k3 : Hd w3.heap.size W w3.heap.size v3 [] := H3.below bW
  have t1 := World.ownsRow.lt H1.pk.stm.row
  have t2 := World.ownsRow.lt H2.pk.stm.row
  have t3 := World.ownsRow.lt H3.pk.stm.row
  have q1 := H1.pk.stm.lt
  have q2 := H2.pk.stm.lt
  have q3 := H3.pk.stm.lt
  have hk : ∀ k, 1 ≤ k → k < 4 → k = 1 ∨ k = 2 ∨ k = 3 := fun k _ _ => by omega
  rw [← hW, ← hN]
  rw [← hN] at q3 s4 t3
  refine ⟨⟨by omega, h3, ⟨by show w.heap.size ≤ N; omega, by show N < _; omega⟩, ⟨by show w.heap.size ≤ N + 1; omega, by show N + 1 < _; omega⟩, fun _ => ?_, fun _ k g1 g2 => ?_, fun _ j => ?_, fun _ k g1 => ?_, fun _ j => ?_, fun k g1 g2 _ => ?_, fun k _ _ => World.ownsRow_nil _ _ _ _, fun _ => kpt_nil W _ (N + 2) (by omega) e2 _ _, fun _ => kpt_nil W _ (N + 3) (by omega) e3 _ _, ?_, ?_, fun k g1 g2 _ => ?_, fun k _ _ g hg => (by cases hg), fun _ => ⟨fun g hg => ?_, fun i hi => absurd hi (by simp [d0])⟩, fun _ => ⟨fun g hg => ?_, fun i hi => absurd hi (by simp [d0])⟩⟩, Nat.le_refl _, rfl, rfl, rfl, by show 0 ≤ 201; omega, fun _ _ _ => rfl, rfl, fun _ _ => ⟨rfl, fun y hy => (by cases hy), by show 0 ≤ 100000; omega⟩, fun i hi => absurd hi (by simp [d0]), ?_⟩
  · show W.cell? ⟨N, 0, none⟩ = _
    unfold World.cell?
    rw [e0]
    rfl
  · show W.cell? ⟨N, k, none⟩ = _
    unfold World.cell?
    rw [e0]
    rcases hk k g1 g2 with rfl | rfl | rfl <;> rfl
  · show W.frozen? ⟨N, j, none⟩ = false
    unfold World.frozen?
    rw [e0]
    simp [pbX]
  · show W.cell? ⟨N + 1, k, none⟩ = _
    unfold World.cell?
    rw [e1]
    rcases (show k = 0 ∨ k = 1 ∨ k = 2 ∨ k = 3 by omega) with rfl | rfl | rfl | rfl <;> rfl
  · show W.frozen? ⟨N + 1, j, none⟩ = false
    unfold World.frozen?
    rw [e1]
    simp [hbX]
  · rcases hk k g1 g2 with rfl | rfl | rfl
    · exact k1.low s1 h3
    · exact k2.low (by omega) h3
    · exact k3.low (by omega) h3
  · show col0 N _ _ N = 0
    simp [col0]
  · show col0 N _ _ (N + 1) = 1
    simp [col0]
  · rcases hk k g1 g2 with rfl | rfl | rfl
    · refine ⟨?_, fun g hg => ?_⟩
      · show col0 N _ _ w1.heap.size = 3
        unfold col0
        rw [if_neg (by omega), if_neg (by omega), if_neg (by omega), if_neg (by omega), if_pos (by omega)]
      · have := t1 g hg
        unfold col0
        rw [if_neg (by omega), if_neg (by omega), if_neg (by omega), if_neg (by omega), if_pos (by omega)]
    · refine ⟨?_, fun g hg => ?_⟩
      · show col0 N _ _ w2.heap.size = 4
        unfold col0
        rw [if_neg (by omega), if_neg (by omega), if_neg (by omega), if_neg (by omega), if_neg (by omega), if_pos (by omega)]
      · have := t2 g hg
        unfold col0
        rw [if_neg (by omega), if_neg (by omega), if_neg (by omega), if_neg (by omega), if_neg (by omega), if_pos (by omega)]
    · refine ⟨?_, fun g hg => ?_⟩
      · show col0 N _ _ w3.heap.size = 5
        unfold col0
        rw [if_neg (by omega), if_neg (by omega), if_neg (by omega), if_neg (by omega), if_neg (by omega), if_neg (by omega)]
      · have := t3 g hg
        unfold col0
        rw [if_neg (by omega), if_neg (by omega), if_neg (by omega), if_neg (by omega), if_neg (by omega), if_neg (by omega)]
  · have e : N + 2 = g := Option.some.inj hg
    rw [← e]
    simp [col0]
  · have e : N + 3 = g := Option.some.inj hg
    rw [← e]
    simp [col0]
  · exact (((b1.trans (b2.mono b1.size)).trans (b3.mono (by omega))).trans (b4.mono (by omega))).trans (bW.mono (by omega))
end Go.Proofs.YtedlmjieclaojabDoor
/- ChunkSteps: one step of the first kind. -/
namespace Go.Proofs.YtedlmjieclaojabDoor
open Go.RowKit
/-- What a call of Add leaves: the box, the table's cell, and all that is held. -/
def Lft (w : World) (S PB HB BX k m ka kc ta tc : Nat) (PT : Value) (x : Smp) (w' : World) : Prop :=
  (w'.cell? ⟨PB, k, none⟩ = some PT ∧ w'.cell? ⟨BX, 2, none⟩ = some (.int .i64 x.t) ∧ w'.cell? ⟨BX, 3, none⟩ = some (.float .f64 x.v) ∧ w'.cell? ⟨BX, 4, none⟩ = some (.bool x.s)) ∧
    ∃ d col, Hid (d.n = m) ∧ Hid (d.kv = .slice (some ⟨ka, 0, none⟩) m kc) ∧ Hid (d.tv = .slice (some ⟨ta, 0, none⟩) m tc) ∧ Hid (Iv w S PB HB d col w')
variable {w W0 W : World} {S PB HB BX k m ka kc ta tc : Nat} {d : Da} {col : Nat → Nat} {x : Smp} {PT : Value}
/-- An Add that changes nothing. -/
theorem left_same (h : Iv w S PB HB d col W) (hn : d.n = m) (h1 : d.kv = .slice (some ⟨ka, 0, none⟩) m kc) (h2 : d.tv = .slice (some ⟨ta, 0, none⟩) m tc) (hB : BX < W.heap.size)
    (hP : W.cell? ⟨PB, k, none⟩ = some PT) (x2 : W.cell? ⟨BX, 2, none⟩ = some (.int .i64 x.t)) (x3 : W.cell? ⟨BX, 3, none⟩ = some (.float .f64 x.v)) (x4 : W.cell? ⟨BX, 4, none⟩ = some (.bool x.s)) {W2 w' : World} (b : Below W.heap.size W W2) (b2 : Below W2.heap.size W2 w') : Lft w S PB HB BX k m ka kc ta tc PT x w' := by
  have bb : Below W.heap.size W w' := b.trans (b2.mono b.size)
  have hPB : PB < W.heap.size := by have := h.fs.pl.2; rw [h.pb] at this; exact this
  exact ⟨⟨(bb.cell (p := ⟨PB, k, none⟩) hPB).trans hP, (bb.cell (p := ⟨BX, 2, none⟩) hB).trans x2, (bb.cell (p := ⟨BX, 3, none⟩) hB).trans x3, (bb.cell (p := ⟨BX, 4, none⟩) hB).trans x4⟩, d, col, (show _ = _ from hn), (show _ = _ from h1), (show _ = _ from h2), h.below bb⟩
theorem blk_far {M : Nat → Prop} {A B : World} (k : Kp M A B) (p : Addr) (v : Value) (h : A.cell? p = some v) (hM : ¬ M p.block) : B.cell? p = some v := k.cell h hM
/-- An Add that takes the sample: it is held first. -/
theorem left_add (h0 : Iv w S PB HB d col W0) (b : Below W0.heap.size W0 W) (hBX : W0.heap.size ≤ BX) (hBl : BX < W.heap.size) (k : Nat) (k1 : 1 ≤ k) (hk : k < 4) (hx : Sok x) (hlen : (d.hl k).length < 100000) (hord : 0 < (d.hl k).length → (fin t0 (d.hl k)).tm < x.t) (hS : Scl w) (hT : Tab w)
    (hn : d.n = m) (h1 : d.kv = .slice (some ⟨ka, 0, none⟩) m kc) (h2 : d.tv = .slice (some ⟨ta, 0, none⟩) m tc)
    (x2 : W.cell? ⟨BX, 2, none⟩ = some (.int .i64 x.t)) (x3 : W.cell? ⟨BX, 3, none⟩ = some (.float .f64 x.v)) (x4 : W.cell? ⟨BX, 4, none⟩ = some (.bool x.s)) :
    ∃ a5 c5 w', (Builtin.append_ #[35, 35] 35 #[d.hv k, .slice (some ⟨W.heap.size, 0, none⟩) 1 1]).run Tryd.prog (W.alloc (smX x)) = .ok (.slice a5 ((d.hl k).length + 1) c5) w' ∧ (∃ u, w'.cell? ⟨HB, k, none⟩ = some u) ∧ w'.frozen? ⟨HB, k, none⟩ = false ∧
      ((w'.setCell ⟨HB, k, none⟩ (.slice a5 ((d.hl k).length + 1) c5)).cell? ⟨PB, k, none⟩ = some (.pointer (some ⟨d.P k, 0, none⟩)) ∧ (w'.setCell ⟨HB, k, none⟩ (.slice a5 ((d.hl k).length + 1) c5)).cell? ⟨BX, 2, none⟩ = some (.int .i64 x.t) ∧ (w'.setCell ⟨HB, k, none⟩ (.slice a5 ((d.hl k).length + 1) c5)).cell? ⟨BX, 3, none⟩ = some (.float .f64 x.v) ∧ (w'.setCell ⟨HB, k, none⟩ (.slice a5 ((d.hl k).length + 1) c5)).cell? ⟨BX, 4, none⟩ = some (.bool x.s)) ∧
      ∀ W2, Below (w'.setCell ⟨HB, k, none⟩ (.slice a5 ((d.hl k).length + 1) c5)).heap.size (w'.setCell ⟨HB, k, none⟩ (.slice a5 ((d.hl k).length + 1) c5)) W2 → Calls Tryd.prog 7 #[.pointer (some ⟨d.P k, 0, none⟩), smV x] W2 fun e w'' => e = .returned (.int .i64 0) ∧ Lft w S PB HB BX k m ka kc ta tc (.pointer (some ⟨d.P k, 0, none⟩)) x w'' := by
  obtain ⟨rfl, rfl⟩ : d.PB = PB ∧ d.HB = HB := ⟨h0.pb, h0.hb⟩
  have h := h0.below b
  have c1 := h.fs.hh.2
  have c2 := h0.fs.hh.2
  have c3 := h0.fs.pl.2
  obtain ⟨v', w', r, hf, ⟨a5, c5, ev⟩, bw, bs, kp, ht⟩ := h.add k k1 hk x hx hlen hord hS hT
  have hv := fun g e => (World.ownsRow.lt (h0.fs.ho k hk (by omega)) g e).2
  have far : ∀ j u, W.cell? ⟨BX, j, none⟩ = some u → (w'.setCell ⟨d.HB, k, none⟩ v').cell? ⟨BX, j, none⟩ = some u := fun j u hu => by
    have q := kp.cell (p := ⟨BX, j, none⟩) hu (fun e => by have := hv BX e; omega)
    rw [World.cell?_setCell_other _ _ _ _ (by intro e; cases e; omega)]
    exact q
  have pk : (w'.setCell ⟨d.HB, k, none⟩ v').cell? ⟨d.PB, k, none⟩ = some (.pointer (some ⟨d.P k, 0, none⟩)) := hf.pk (by omega) k k1 hk
  have kpf : ∀ j, w'.frozen? ⟨d.HB, j, none⟩ = false := fun j => by
    rw [World.frozen?_of_block (w := W) (kp.block d.HB c1 (fun e => by have q1 := h0.fs.ch k hk (by omega) d.HB e; have q2 := h0.fs.cH; omega))]
    exact h.fs.hf (by omega) j
  have hcell : w'.cell? ⟨d.HB, k, none⟩ = some (d.hv k) := by
    have q0 := h.fs.hb (by omega) k hk
    exact kp.cell (p := ⟨d.HB, k, none⟩) q0 (fun e => by have q1 := h0.fs.ch k hk (by omega) d.HB e; have q2 := h0.fs.cH; omega)
  subst ev
  refine ⟨a5, c5, w', r, ⟨_, hcell⟩, kpf k, ⟨pk, far 2 _ x2, far 3 _ x3, far 4 _ x4⟩, fun W2 b2 => ?_⟩
  refine (ht W2 b2).mono fun e w'' q => ⟨q.1, ?_⟩
  obtain ⟨kp2, d2, col2, I2, e1, e2, e3⟩ := q.2
  have sz : (w'.setCell ⟨d.HB, k, none⟩ (.slice a5 ((d.hl k).length + 1) c5)).heap.size ≤ W2.heap.size := b2.size
  have szw : W.heap.size ≤ (w'.setCell ⟨d.HB, k, none⟩ (.slice a5 ((d.hl k).length + 1) c5)).heap.size := by
    have := kp.size
    simpa using this
  have hp := h0.fs.hd k k1 hk (by omega)
  have p1 : d.P k < W0.heap.size := Fs.hd_lt hp
  have p2 := fun g e => (World.ownsRow.lt hp.pk.stm.row g e).2
  have hcp := h0.fs.cp k k1 hk (by omega)
  have hcP := h0.fs.cP
  have nM : ∀ B, (W0.heap.size ≤ B ∨ B = d.PB) → ¬ Mv (d.P k) (d.pv k) B := fun B hB hm => by
    rcases hm with hm | hm
    · rcases hB with hB | hB
      · omega
      · have := hcp.1
        rw [← hm, hB] at this
        omega
    · rcases hB with hB | hB
      · have := p2 B hm
        omega
      · have := hcp.2 B hm
        rw [hB] at this
        omega
  have kc2 : ∀ (B j : Nat) u, (W0.heap.size ≤ B ∨ B = d.PB) → B < (w'.setCell ⟨d.HB, k, none⟩ (.slice a5 ((d.hl k).length + 1) c5)).heap.size → (w'.setCell ⟨d.HB, k, none⟩ (.slice a5 ((d.hl k).length + 1) c5)).cell? ⟨B, j, none⟩ = some u → w''.cell? ⟨B, j, none⟩ = some u := fun B j u hB hl hu => kp2.cell (p := ⟨B, j, none⟩) ((b2.cell (p := ⟨B, j, none⟩) hl).trans hu) (nM B hB)
  have zb := b.size
  exact ⟨⟨kc2 d.PB k _ (.inr rfl) (by omega) pk, kc2 BX 2 _ (.inl hBX) (by omega) (far 2 _ x2), kc2 BX 3 _ (.inl hBX) (by omega) (far 3 _ x3), kc2 BX 4 _ (.inl hBX) (by omega) (far 4 _ x4)⟩, d2, col2, (show _ = _ from e3.trans hn), (show _ = _ from e1.trans h1), (show _ = _ from e2.trans h2), I2⟩
/-- The last sample's time. -/
theorem last_tm (l : List Smp) (n : Nat) (hl : l.length = n + 1) : ∃ y, l[n]? = some y ∧ (fin t0 l).tm = y.t := by
  have hne : l ≠ [] := by intro e; rw [e] at hl; simp at hl
  have e := List.dropLast_concat_getLast hne
  refine ⟨l.getLast hne, ?_, ?_⟩
  · rw [List.getLast_eq_getElem]
    rw [List.getElem?_eq_getElem (by omega)]
    congr 2
    omega
  · have q := fin_tm l.dropLast (l.getLast hne)
    rw [e] at q
    exact q
end Go.Proofs.YtedlmjieclaojabDoor
/- ChunkSteps: the walk. -/
namespace Go.Proofs.YtedlmjieclaojabDoor
open Go.RowKit

set_option maxHeartbeats 8000000 in
set_option maxRecDepth 100000 in
theorem steps_walk (a : Option Addr) (c : Nat) (os : List Opx) (w : World) (hm : Om w a os) (hok : ∀ y ∈ os, Sok y.x) (hs : Scl w) (ht : Tab w) (hl : os.length ≤ 140737488355328) :
    Calls Tryd.prog 3 #[.slice a os.length c] w fun e w' => e = .returned (.bool true) ∧ Below w.heap.size w w' := by
  have k1 := alive_any w hs ht
  have HM : Hid (Om w a os) := hm
  have HOK : Hid (∀ y ∈ os, Sok y.x) := hok
  have HS : Hid (Scl w) := hs
  have HT : Hid (Tab w) := ht
  have H3 : Hid (3 ≤ w.heap.size) := (show 3 ≤ _ by have := ht.1; omega)
  obtain ⟨n, hn⟩ : ∃ n, n = os.length := ⟨_, rfl⟩
  rw [← hn] at hl ⊢
  have HN : Hid (n = os.length) := hn
  have hni : (n : Int) ≤ 140737488355328 := by omega
  clear hm hok hs ht hn
  go_enter Tryd.func3, Tryd.ntmps3
  go_wp2_with fail
  go_fit k1
  rintro e w1 ⟨rfl, b1⟩
  have B1 : Hid (Below w.heap.size w w1) := b1
  have k2 := new_any w1 (Nat.le_trans H3.out b1.size)
  clear k1 b1
  go_wp2_with fail
  go_fit k2
  rintro e w2 ⟨rfl, v1, hd1, b2⟩
  have D1 : Hid (Hd w1.heap.size w2 w1.heap.size v1 []) := hd1
  have B2 : Hid (Below w1.heap.size w1 w2) := b2
  have k3 := new_any w2 (Nat.le_trans H3.out (Nat.le_trans B1.out.size b2.size))
  clear k2 b2 hd1
  go_wp2_with fail
  go_fit k3
  rintro e w3 ⟨rfl, v2, hd2, b3⟩
  have D2 : Hid (Hd w2.heap.size w3 w2.heap.size v2 []) := hd2
  have B3 : Hid (Below w2.heap.size w2 w3) := b3
  have k4 := new_any w3 (Nat.le_trans H3.out (Nat.le_trans B1.out.size (Nat.le_trans B2.out.size b3.size)))
  clear k3 b3 hd2
  go_wp2_with fail
  go_fit k4
  rintro e w4 ⟨rfl, v3, hd3, b4⟩
  have I0 : Hid (Iv w w.heap.size w4.heap.size (w4.heap.size + 1) (d0 w4.heap.size w1.heap.size w2.heap.size w3.heap.size v1 v2 v3) (col0 w4.heap.size w2.heap.size w3.heap.size) ((((w4.alloc (pbX w1.heap.size w2.heap.size w3.heap.size)).alloc hbX).alloc (.cells #[] 38)).alloc (.cells #[] 38))) := Iv.start B1.out H3.out B2.out D1.out B3.out D2.out b4 hd3
  have mk : ∀ W : World, (Instr.makeSlice 27 (.int .i64 4) (.int .i64 4)).run Tryd.prog W = .ok (.slice (some ⟨W.heap.size, 0, none⟩) 4 4) (W.alloc (.cells #[.slice none 0 0, .slice none 0 0, .slice none 0 0, .slice none 0 0] 35)) := fun W => by
    obtain ⟨i0, hi, hz0, hz1, hz2⟩ := info_parts (show (Tryd.prog.info? 35).map (fun i => (i.zero, i.size, i.bytes)) = some (some (.slice none 0 0), 1, 24) by kernel_rfl)
    have := run_make (P := Tryd.prog) W 27 35 i0 (.slice none 0 0) Tryd.underlying27 hi hz0 .i64 .i64 4 4 (by decide) (by decide) (by rw [hz2]; decide) (by decide)
    have e : madeCells (Value.slice none 0 0).cells ((4 : Int).toNat * 1) = #[.slice none 0 0, .slice none 0 0, .slice none 0 0, .slice none 0 0] := by kernel_rfl
    rw [hz1, e] at this
    exact this
  simp only [pbX, hbX] at I0
  clear k4 b4 hd3 D1 D2 B2 B3
  go_wp2_with fail
  obtain ⟨N, hN⟩ : ∃ N, N = w4.heap.size := ⟨_, rfl⟩
  rw [← hN] at I0 ⊢
  clear hN mk
  have Z1 : Hid ((d0 N w1.heap.size w2.heap.size w3.heap.size v1 v2 v3).n = 0) := (show _ = _ from rfl)
  have Z2 : Hid ((d0 N w1.heap.size w2.heap.size w3.heap.size v1 v2 v3).kv = .slice (some ⟨N + 2, 0, none⟩) 0 0) := (show _ = _ from rfl)
  have Z3 : Hid ((d0 N w1.heap.size w2.heap.size w3.heap.size v1 v2 v3).tv = .slice (some ⟨N + 3, 0, none⟩) 0 0) := (show _ = _ from rfl)
  go_loopw [6, 7, 8] (fun kv tv iv w' => ∃ (i : Nat) (d : Da) (col : Nat → Nat) (ka ta : Nat) (kc tc m : Nat), iv = .int .i64 (i : Nat) ∧ i ≤ n ∧ kv = .slice (some ⟨ka, 0, none⟩) m kc ∧ tv = .slice (some ⟨ta, 0, none⟩) m tc ∧ m ≤ 201 ∧ Hid (d.n = m) ∧ Hid (d.kv = .slice (some ⟨ka, 0, none⟩) m kc) ∧ Hid (d.tv = .slice (some ⟨ta, 0, none⟩) m tc) ∧ Hid (Iv w w.heap.size N (N + 1) d col w')) (fun _ _ iv _ => n - (RowKit.intOf iv).toNat)
  case atStart => exact ⟨0, _, _, _, _, _, _, 0, rfl, Nat.zero_le _, rfl, rfl, by omega, Z1, Z2, Z3, I0⟩
  case round =>
    obtain ⟨i, d, col, ka, ta, kc, tc, m, rfl, hi, rfl, rfl, hm2, hdn, hdk, hdt, hI⟩ := hrel
    by_cases hlt : i < n
    · have hii : (i : Int) < (n : Int) := by omega
      have hil : i < os.length := by have := HN.out; omega
      obtain ⟨y, hy⟩ : ∃ y, os[i]? = some y := ⟨os[i], List.getElem?_eq_getElem _⟩
      have HX : Hid (Sok y.x) := HOK.out y (List.mem_of_getElem? hy)
      obtain ⟨g, o, rfl, hg, hcs⟩ : ∃ g o, a = some ⟨g, o, none⟩ ∧ g < w.heap.size ∧ _ := by
        rcases HM.out with h | h
        · rw [h] at hil; simp at hil
        · exact h
      obtain ⟨y0, y1, y2, y3, y4⟩ := hcs i y hy
      have z0 := (hI.out.bl.cell (p := ⟨g, o + i * 5, none⟩) hg).trans y0
      have z1 := (hI.out.bl.cell (p := ⟨g, o + i * 5 + 1, none⟩) hg).trans y1
      have z2 := (hI.out.bl.cell (p := ⟨g, o + i * 5 + 2, none⟩) hg).trans y2
      have z3 := (hI.out.bl.cell (p := ⟨g, o + i * 5 + 3, none⟩) hg).trans y3
      have z4 := (hI.out.bl.cell (p := ⟨g, o + i * 5 + 4, none⟩) hg).trans y4
      obtain ⟨k, hk, ek⟩ := and3 y.who
      obtain ⟨q, hq, eq⟩ := and3 y.kind
      have hsf := @run_store_float Tryd.prog
      have hki : (k : Int) < 4 := by omega
      clear y0 y1 y2 y3 y4 hcs hy I0
      have I1 : Hid (Iv w w.heap.size N (N + 1) d col (wr.alloc (.cells #[.int .i64 y.who, .int .i64 y.kind, .int .i64 y.x.t, .float .f64 y.x.v, .bool y.x.s] 33))) := hI.out.below ((Below.refl _ _).alloc (Nat.le_refl _) _)
      generalize y.who = who at *
      generalize y.kind = kind at *
      generalize hxx : y.x = x at *
      have hq4 : q = 0 ∨ q = 1 ∨ q = 2 ∨ q = 3 := by omega
      rcases hq4 with rfl | rfl | rfl | rfl
      · have HI0 : Hid (Iv w w.heap.size N (N + 1) d col wr) := hI
        have x2 : (wr.alloc (.cells #[.int .i64 who, .int .i64 kind, .int .i64 x.t, .float .f64 x.v, .bool x.s] 33)).cell? ⟨wr.heap.size, 2, none⟩ = some (.int .i64 x.t) := by unfold World.cell?; rw [heap_alloc_new]; rfl
        have x3 : (wr.alloc (.cells #[.int .i64 who, .int .i64 kind, .int .i64 x.t, .float .f64 x.v, .bool x.s] 33)).cell? ⟨wr.heap.size, 3, none⟩ = some (.float .f64 x.v) := by unfold World.cell?; rw [heap_alloc_new]; rfl
        have x4 : (wr.alloc (.cells #[.int .i64 who, .int .i64 kind, .int .i64 x.t, .float .f64 x.v, .bool x.s] 33)).cell? ⟨wr.heap.size, 4, none⟩ = some (.bool x.s) := by unfold World.cell?; rw [heap_alloc_new]; rfl
        have hH := I1.out.fs.hb (by omega) k hk
        rw [I1.out.hb] at hH
        have ho := I1.out.fs.ho k hk (by omega)
        obtain ⟨ah, ch, eh⟩ := row_form ho
        rw [eh] at hH ho
        obtain ⟨L, hL⟩ : ∃ L, L = (d.hl k).length := ⟨_, rfl⟩
        rw [← hL] at hH eh
        have HEH : Hid (d.hv k = .slice ah L ch) := (show _ = _ from eh)
        have HSm : Hid (Sm (wr.alloc (.cells #[.int .i64 who, .int .i64 kind, .int .i64 x.t, .float .f64 x.v, .bool x.s] 33)) ah (d.hl k)) := Sm.of_row ho
        have hL5 : L ≤ 100000 := by have := (I1.out.ok k hk).2.2; omega
        have hLi : (L : Int) ≤ 100000 := by omega
        have HLL : Hid (L = (d.hl k).length) := hL
        have HBl : Hid (wr.heap.size < (wr.alloc (.cells #[.int .i64 who, .int .i64 kind, .int .i64 x.t, .float .f64 x.v, .bool x.s] 33)).heap.size) := (show _ < _ by simp)
        have HB1 : Hid (Below wr.heap.size wr (wr.alloc (.cells #[.int .i64 who, .int .i64 kind, .int .i64 x.t, .float .f64 x.v, .bool x.s] 33))) := (Below.refl _ _).alloc (Nat.le_refl _) _
        have HXX : Hid (y.x = x) := (show _ = _ from hxx)
        clear hL ho hI eh hxx
        go_upto_region 15 with fail
        generalize hWW : wr.alloc (.cells #[.int .i64 who, .int .i64 kind, .int .i64 x.t, .float .f64 x.v, .bool x.s] 33) = W1 at *
        obtain ⟨BX, hBX⟩ : ∃ BX, BX = wr.heap.size := ⟨_, rfl⟩
        rw [← hBX] at x2 x3 x4 HBl ⊢
        have HBX : Hid (BX = wr.heap.size) := hBX
        clear hBX hWW z0 z1 z2 z3 z4
        rcases Nat.eq_zero_or_pos k with hk0 | hk0
        · subst hk0
          have hPT : W1.cell? ⟨N, 0, none⟩ = some (.pointer none) := by
            have := I1.out.fs.p0 (by omega)
            rw [I1.out.pb] at this
            exact this
          have HA : Hid (∀ W2, Below W1.heap.size W1 W2 → Calls Tryd.prog 7 #[(.pointer none), .agg #[.int .i64 x.t, .float .f64 x.v, .bool x.s]] W2 fun e w' => e = .returned (.int .i64 2) ∧ Lft w w.heap.size N (N + 1) BX 0 m ka kc ta tc (.pointer none) x w') := (show ∀ W2, _ → _ from fun W2 b => (add_nil x W2).mono fun e w' q => ⟨q.1, left_same I1.out hdn.out hdk.out hdt.out HBl.out hPT x2 x3 x4 b q.2⟩)
          have hz : ((0 : Nat) : Int) = 0 := rfl
          rw [hz]
          clear hz
          go_upto_region 23 with fail
          go_region_held3 (fun w' => w'.cell? ⟨N, 0, none⟩ = some (.pointer none) ∧ w'.cell? ⟨BX, 2, none⟩ = some (.int .i64 x.t) ∧ w'.cell? ⟨BX, 3, none⟩ = some (.float .f64 x.v) ∧ w'.cell? ⟨BX, 4, none⟩ = some (.bool x.s)) (first | exact ⟨hPT, x2, x3, x4⟩ | assumption | go_keep) (first | (go_at_call 7; go_fit (HA.out _ (by repeat (first | exact Below.refl _ _ | refine Below.drew ?_ | exact (Below.refl _ _).trans ⟨rfl, rfl, rfl, Nat.le_refl _, fun _ _ => rfl⟩))); rintro e w5 ⟨rfl, s5, d2, col2, E1, E2, E3, I3⟩))
          all_goals
            go_wp2
            exact ⟨⟨i + 1, d2, col2, ka, ta, kc, tc, m, by go_num, by omega, rfl, rfl, hm2, E1, E2, E3, I3⟩, by simp [RowKit.intOf]; omega⟩
        · have hki0 : ¬ (k : Int) = 0 := by omega
          have hPT := I1.out.fs.pk (by omega) k hk0 hk
          rw [I1.out.pb] at hPT
          have HK0 : Hid (0 < k) := hk0
          clear hk0
          rcases Nat.lt_or_ge L 100000 with hL1 | hL1
          · have hLn : ¬ (100000 : Int) ≤ (L : Int) := by omega
            have HL1 : Hid (L < 100000) := hL1
            clear hLi hL5 hL1
            by_cases hor : 0 < L ∧ x.t ≤ (fin t0 (d.hl k)).tm
            · obtain ⟨j, hj⟩ : ∃ j, L = j + 1 := ⟨L - 1, by omega⟩
              obtain ⟨yl, hy1, hy2⟩ := last_tm (d.hl k) j (HLL.out.symm.trans hj)
              obtain ⟨g, o, rfl, hg, hcs⟩ : ∃ g o, ah = some ⟨g, o, none⟩ ∧ g < W1.heap.size ∧ _ := by
                rcases HSm.out with h | h
                · rw [h] at hy1; simp at hy1
                · exact h
              have y0 := (hcs _ yl hy1).1
              have hle : x.t ≤ yl.t := by rw [← hy2]; exact hor.2
              generalize yl.t = ty at *
              have hd : decide (x.t ≤ ty) = true := decide_eq_true hle
              have q0 : (0 : Int) < (L : Int) := by omega
              have q0n : 0 < L := by omega
              have qd : decide (0 < L) = true := decide_eq_true q0n
              have q1 : IntKind.i64.wrap ((L : Int) - 1) = (j : Nat) := by rw [IntKind.wrap_i64]; have := HL1.out; omega
              have q2 : (L : Int) - 1 = (j : Nat) := by omega
              have q3 : (j : Int) < (L : Int) := by omega
              have q4 : IntKind.i64.wrap (j : Int) = (j : Nat) := by rw [IntKind.wrap_i64]; have := HL1.out; omega
              have HJ : Hid (L = j + 1) := hj
              have HO0 : Hid (0 < L) := hor.1
              clear hj
              have HA : Hid (∀ W2, Below W1.heap.size W1 W2 → Calls Tryd.prog 7 #[(.pointer (some ⟨d.P k, 0, none⟩)), .agg #[.int .i64 x.t, .float .f64 x.v, .bool x.s]] W2 fun e w' => e = .returned (.int .i64 170) ∧ Lft w w.heap.size N (N + 1) BX k m ka kc ta tc (.pointer (some ⟨d.P k, 0, none⟩)) x w') := (show ∀ W2, _ → _ from fun W2 b => (add_order w.heap.size (d.P k) (d.pv k) (d.pl k) x W2 ((I1.out.fs.hd k HK0.out hk (by omega)).below b) (by rw [I1.out.eq k HK0.out hk, ← HLL.out]; exact HL1.out) (by rw [I1.out.eq k HK0.out hk, ← HLL.out]; exact HO0.out) (by rw [I1.out.eq k HK0.out hk]; exact hor.2)).mono fun e w' q => ⟨q.1, left_same I1.out hdn.out hdk.out hdt.out HBl.out hPT x2 x3 x4 b q.2⟩)
              have HOR : Hid (0 < L ∧ x.t ≤ (fin t0 (d.hl k)).tm) := hor
              clear hor hcs hy1 hy2 hle
              go_upto_region 20 with fail
              go_big_quiet (fail)
              go_upto_region 23 with fail
              go_region_held3 (fun w' => w'.cell? ⟨N, k, none⟩ = some (.pointer (some ⟨d.P k, 0, none⟩)) ∧ w'.cell? ⟨BX, 2, none⟩ = some (.int .i64 x.t) ∧ w'.cell? ⟨BX, 3, none⟩ = some (.float .f64 x.v) ∧ w'.cell? ⟨BX, 4, none⟩ = some (.bool x.s)) (first | exact ⟨hPT, x2, x3, x4⟩ | assumption | go_keep) (first | (go_at_call 7; go_fit (HA.out _ (by repeat (first | exact Below.refl _ _ | refine Below.drew ?_ | exact (Below.refl _ _).trans ⟨rfl, rfl, rfl, Nat.le_refl _, fun _ _ => rfl⟩))); rintro e w5 ⟨rfl, s5, d2, col2, E1, E2, E3, I3⟩))
              all_goals
                go_wp2
                exact ⟨⟨i + 1, d2, col2, ka, ta, kc, tc, m, by go_num, by omega, rfl, rfl, hm2, E1, E2, E3, I3⟩, by simp [RowKit.intOf]; omega⟩
            · have HO : Hid (0 < (d.hl k).length → (fin t0 (d.hl k)).tm < x.t) := (show _ → _ from fun h => by
                rcases Int.lt_or_le (fin t0 (d.hl k)).tm x.t with h1 | h1
                · exact h1
                · exact absurd ⟨by rw [HLL.out]; exact h, h1⟩ hor)
              clear hor
              rcases Nat.eq_zero_or_pos L with hL0 | hL0
              · have hL0i : ¬ (0 : Int) < (L : Int) := by omega
                have hL0n : ¬ 0 < L := by omega
                have qd : decide (0 < L) = false := decide_eq_false hL0n
                clear hL0
                go_upto_region 20 with fail
                go_big_quiet (fail)
                go_upto_region 22 with fail
                obtain ⟨W4, hW4⟩ : ∃ W4, W4 = W1.drewN nq := ⟨_, rfl⟩
                have bW4 : Below W1.heap.size W1 W4 := by rw [hW4]; exact (Below.refl _ _).trans ⟨rfl, rfl, rfl, Nat.le_refl _, fun _ _ => rfl⟩
                rw [← hW4]
                have bWd : Below W1.heap.size W1 W4.drew := bW4.drew
                have y2 := (bW4.cell (p := ⟨BX, 2, none⟩) HBl.out).trans x2
                have y3 := (bW4.cell (p := ⟨BX, 3, none⟩) HBl.out).trans x3
                have y4 := (bW4.cell (p := ⟨BX, 4, none⟩) HBl.out).trans x4
                have hHl : N + 1 < W1.heap.size := by have := I1.out.fs.hh.2; rw [I1.out.hb] at this; exact this
                have yH := (bW4.cell (p := ⟨N + 1, k, none⟩) hHl).trans hH
                have yHa := ((bW4.alloc (by rw [hW4]; exact Nat.le_refl _) (.cells #[.int .i64 x.t, .float .f64 x.v, .bool x.s] 31)).cell (p := ⟨N + 1, k, none⟩) hHl).trans hH
                have b04 : Below wr.heap.size wr W4.drew := HB1.out.trans (bWd.mono HB1.out.size)
                obtain ⟨a5, c5, w7, r7, ⟨u7, hu7⟩, hf7, hp7, hc7⟩ := left_add HI0.out b04 (BX := BX) (by rw [HBX.out]; exact Nat.le_refl _) (Nat.lt_of_lt_of_le HBl.out bWd.size) k HK0.out hk HX.out (by rw [← HLL.out]; exact HL1.out) HO.out HS.out HT.out hdn.out hdk.out hdt.out y2 y3 y4
                rw [HEH.out, ← HLL.out] at r7
                rw [← HLL.out] at hp7 hc7
                have r8 : (Builtin.append_ #[35, 35] 35 #[.slice ah L ch, .slice (some ⟨W4.heap.size, 0, none⟩) 1 1]).run Tryd.prog (W4.alloc (.cells #[.int .i64 x.t, .float .f64 x.v, .bool x.s] 31)).drew = .ok (.slice a5 (L + 1) c5) w7 := r7
                have HA : Hid (∀ W2, Below (w7.setCell ⟨N + 1, k, none⟩ (.slice a5 (L + 1) c5)).heap.size (w7.setCell ⟨N + 1, k, none⟩ (.slice a5 (L + 1) c5)) W2 → Calls Tryd.prog 7 #[(.pointer (some ⟨d.P k, 0, none⟩)), .agg #[.int .i64 x.t, .float .f64 x.v, .bool x.s]] W2 fun e w' => e = .returned (.int .i64 0) ∧ Lft w w.heap.size N (N + 1) BX k m ka kc ta tc (.pointer (some ⟨d.P k, 0, none⟩)) x w') := hc7
                have HP7 : Hid _ := hp7
                clear r7 hc7 hp7 hW4 bW4 bWd b04 hHl x2 x3 x4 hPT hH
                go_region_law (refine step_append_run rfl (.tmp 76) (.tmp 79) 35 35 rfl _ _ rfl rfl r8 ?_)
                all_goals
                  obtain ⟨hPT, x2, x3, x4⟩ := HP7.out
                  go_upto_region 23 with fail
                  generalize w7.setCell ⟨N + 1, k, none⟩ (.slice a5 (L + 1) c5) = W5 at *
                  go_region_held3 (fun w' => w'.cell? ⟨N, k, none⟩ = some (.pointer (some ⟨d.P k, 0, none⟩)) ∧ w'.cell? ⟨BX, 2, none⟩ = some (.int .i64 x.t) ∧ w'.cell? ⟨BX, 3, none⟩ = some (.float .f64 x.v) ∧ w'.cell? ⟨BX, 4, none⟩ = some (.bool x.s)) (first | exact ⟨hPT, x2, x3, x4⟩ | assumption | go_keep) (first | (go_at_call 7; go_fit (HA.out _ (by repeat (first | exact Below.refl _ _ | refine Below.drew ?_ | exact (Below.refl _ _).trans ⟨rfl, rfl, rfl, Nat.le_refl _, fun _ _ => rfl⟩))); rintro e w5 ⟨rfl, s5, d2, col2, E1, E2, E3, I3⟩))
                  all_goals
                    go_wp2
                    exact ⟨⟨i + 1, d2, col2, ka, ta, kc, tc, m, by go_num, by omega, rfl, rfl, hm2, E1, E2, E3, I3⟩, by simp [RowKit.intOf]; omega⟩
              · obtain ⟨j, hj⟩ : ∃ j, L = j + 1 := ⟨L - 1, by omega⟩
                obtain ⟨yl, hy1, hy2⟩ := last_tm (d.hl k) j (HLL.out.symm.trans hj)
                obtain ⟨g, o, rfl, hg, hcs⟩ : ∃ g o, ah = some ⟨g, o, none⟩ ∧ g < W1.heap.size ∧ _ := by
                  rcases HSm.out with h | h
                  · rw [h] at hy1; simp at hy1
                  · exact h
                have y0 := (hcs _ yl hy1).1
                have hle : ¬ x.t ≤ yl.t := by rw [← hy2]; have := HO.out (by rw [← HLL.out]; omega); omega
                generalize yl.t = ty at *
                have hd : decide (x.t ≤ ty) = false := decide_eq_false hle
                have q0 : (0 : Int) < (L : Int) := by omega
                have q0n : 0 < L := by omega
                have qd : decide (0 < L) = true := decide_eq_true q0n
                have q1 : IntKind.i64.wrap ((L : Int) - 1) = (j : Nat) := by rw [IntKind.wrap_i64]; have := HL1.out; omega
                have q2 : (L : Int) - 1 = (j : Nat) := by omega
                have q3 : (j : Int) < (L : Int) := by omega
                have q4 : IntKind.i64.wrap (j : Int) = (j : Nat) := by rw [IntKind.wrap_i64]; have := HL1.out; omega
                clear hcs hy1 hy2 hle hj hL0
                go_upto_region 20 with fail
                go_big_quiet (fail)
                go_upto_region 22 with fail
                obtain ⟨W4, hW4⟩ : ∃ W4, W4 = W1.drewN nq := ⟨_, rfl⟩
                have bW4 : Below W1.heap.size W1 W4 := by rw [hW4]; exact (Below.refl _ _).trans ⟨rfl, rfl, rfl, Nat.le_refl _, fun _ _ => rfl⟩
                rw [← hW4]
                have bWd : Below W1.heap.size W1 W4.drew := bW4.drew
                have y2 := (bW4.cell (p := ⟨BX, 2, none⟩) HBl.out).trans x2
                have y3 := (bW4.cell (p := ⟨BX, 3, none⟩) HBl.out).trans x3
                have y4 := (bW4.cell (p := ⟨BX, 4, none⟩) HBl.out).trans x4
                have hHl : N + 1 < W1.heap.size := by have := I1.out.fs.hh.2; rw [I1.out.hb] at this; exact this
                have yH := (bW4.cell (p := ⟨N + 1, k, none⟩) hHl).trans hH
                have yHa := ((bW4.alloc (by rw [hW4]; exact Nat.le_refl _) (.cells #[.int .i64 x.t, .float .f64 x.v, .bool x.s] 31)).cell (p := ⟨N + 1, k, none⟩) hHl).trans hH
                have b04 : Below wr.heap.size wr W4.drew := HB1.out.trans (bWd.mono HB1.out.size)
                obtain ⟨a5, c5, w7, r7, ⟨u7, hu7⟩, hf7, hp7, hc7⟩ := left_add HI0.out b04 (BX := BX) (by rw [HBX.out]; exact Nat.le_refl _) (Nat.lt_of_lt_of_le HBl.out bWd.size) k HK0.out hk HX.out (by rw [← HLL.out]; exact HL1.out) HO.out HS.out HT.out hdn.out hdk.out hdt.out y2 y3 y4
                rw [HEH.out, ← HLL.out] at r7
                rw [← HLL.out] at hp7 hc7
                have r8 : (Builtin.append_ #[35, 35] 35 #[.slice (some ⟨g, o, none⟩) L ch, .slice (some ⟨W4.heap.size, 0, none⟩) 1 1]).run Tryd.prog (W4.alloc (.cells #[.int .i64 x.t, .float .f64 x.v, .bool x.s] 31)).drew = .ok (.slice a5 (L + 1) c5) w7 := r7
                have HA : Hid (∀ W2, Below (w7.setCell ⟨N + 1, k, none⟩ (.slice a5 (L + 1) c5)).heap.size (w7.setCell ⟨N + 1, k, none⟩ (.slice a5 (L + 1) c5)) W2 → Calls Tryd.prog 7 #[(.pointer (some ⟨d.P k, 0, none⟩)), .agg #[.int .i64 x.t, .float .f64 x.v, .bool x.s]] W2 fun e w' => e = .returned (.int .i64 0) ∧ Lft w w.heap.size N (N + 1) BX k m ka kc ta tc (.pointer (some ⟨d.P k, 0, none⟩)) x w') := hc7
                have HP7 : Hid _ := hp7
                clear r7 hc7 hp7 hW4 bW4 bWd b04 hHl x2 x3 x4 hPT hH
                go_region_law (refine step_append_run rfl (.tmp 76) (.tmp 79) 35 35 rfl _ _ rfl rfl r8 ?_)
                all_goals
                  obtain ⟨hPT, x2, x3, x4⟩ := HP7.out
                  go_upto_region 23 with fail
                  generalize w7.setCell ⟨N + 1, k, none⟩ (.slice a5 (L + 1) c5) = W5 at *
                  go_region_held3 (fun w' => w'.cell? ⟨N, k, none⟩ = some (.pointer (some ⟨d.P k, 0, none⟩)) ∧ w'.cell? ⟨BX, 2, none⟩ = some (.int .i64 x.t) ∧ w'.cell? ⟨BX, 3, none⟩ = some (.float .f64 x.v) ∧ w'.cell? ⟨BX, 4, none⟩ = some (.bool x.s)) (first | exact ⟨hPT, x2, x3, x4⟩ | assumption | go_keep) (first | (go_at_call 7; go_fit (HA.out _ (by repeat (first | exact Below.refl _ _ | refine Below.drew ?_ | exact (Below.refl _ _).trans ⟨rfl, rfl, rfl, Nat.le_refl _, fun _ _ => rfl⟩))); rintro e w5 ⟨rfl, s5, d2, col2, E1, E2, E3, I3⟩))
                  all_goals
                    go_wp2
                    exact ⟨⟨i + 1, d2, col2, ka, ta, kc, tc, m, by go_num, by omega, rfl, rfl, hm2, E1, E2, E3, I3⟩, by simp [RowKit.intOf]; omega⟩
          · have hLn : (100000 : Int) ≤ (L : Int) := by omega
            obtain rfl : L = 100000 := by omega
            have HA : Hid (∀ W2, Below W1.heap.size W1 W2 → Calls Tryd.prog 7 #[(.pointer (some ⟨d.P k, 0, none⟩)), .agg #[.int .i64 x.t, .float .f64 x.v, .bool x.s]] W2 fun e w' => e = .returned (.int .i64 1) ∧ Lft w w.heap.size N (N + 1) BX k m ka kc ta tc (.pointer (some ⟨d.P k, 0, none⟩)) x w') := (show ∀ W2, _ → _ from fun W2 b => (add_long w.heap.size (d.P k) (d.pv k) (d.pl k) x W2 ((I1.out.fs.hd k HK0.out hk (by omega)).below b) (by rw [I1.out.eq k HK0.out hk, ← HLL.out])).mono fun e w' q => ⟨q.1, left_same I1.out hdn.out hdk.out hdt.out HBl.out hPT x2 x3 x4 b q.2⟩)
            go_upto_region 23 with fail
            go_region_held3 (fun w' => w'.cell? ⟨N, k, none⟩ = some (.pointer (some ⟨d.P k, 0, none⟩)) ∧ w'.cell? ⟨BX, 2, none⟩ = some (.int .i64 x.t) ∧ w'.cell? ⟨BX, 3, none⟩ = some (.float .f64 x.v) ∧ w'.cell? ⟨BX, 4, none⟩ = some (.bool x.s)) (first | exact ⟨hPT, x2, x3, x4⟩ | assumption | go_keep) (first | (go_at_call 7; go_fit (HA.out _ (by repeat (first | exact Below.refl _ _ | refine Below.drew ?_ | exact (Below.refl _ _).trans ⟨rfl, rfl, rfl, Nat.le_refl _, fun _ _ => rfl⟩))); rintro e w5 ⟨rfl, s5, d2, col2, E1, E2, E3, I3⟩))
            all_goals
              go_wp2
              exact ⟨⟨i + 1, d2, col2, ka, ta, kc, tc, m, by go_num, by omega, rfl, rfl, hm2, E1, E2, E3, I3⟩, by simp [RowKit.intOf]; omega⟩
      · obtain ⟨PT, L, hPT, hL⟩ : ∃ PT L, (wr.alloc (.cells #[.int .i64 who, .int .i64 kind, .int .i64 x.t, .float .f64 x.v, .bool x.s] 33)).cell? ⟨N, k, none⟩ = some PT ∧ (L = (d.hl k).length ∧ L ≤ 100000 ∧ ∀ W2, Below (wr.alloc (.cells #[.int .i64 who, .int .i64 kind, .int .i64 x.t, .float .f64 x.v, .bool x.s] 33)).heap.size (wr.alloc (.cells #[.int .i64 who, .int .i64 kind, .int .i64 x.t, .float .f64 x.v, .bool x.s] 33)) W2 → Calls Tryd.prog 8 #[PT] W2 fun e w' => e = .returned (.int .i64 (L : Nat)) ∧ w' = W2) := by
          rcases Nat.eq_zero_or_pos k with rfl | hk0
          · exact ⟨_, 0, by have := I1.out.fs.p0 (by omega); rw [I1.out.pb] at this; exact this, by rw [I1.out.h0]; rfl, by omega, fun W2 _ => len_nil W2⟩
          · refine ⟨_, (d.hl k).length, by have := I1.out.fs.pk (by omega) k hk0 hk; rw [I1.out.pb] at this; exact this, rfl, (I1.out.ok k hk).2.2, fun W2 b => ?_⟩
            rw [← I1.out.eq k hk0 hk]
            exact len_any _ _ _ _ W2 ((I1.out.fs.hd k hk0 hk (by omega)).below b)
        have HL : Hid (∀ W2, Below (wr.alloc (.cells #[.int .i64 who, .int .i64 kind, .int .i64 x.t, .float .f64 x.v, .bool x.s] 33)).heap.size (wr.alloc (.cells #[.int .i64 who, .int .i64 kind, .int .i64 x.t, .float .f64 x.v, .bool x.s] 33)) W2 → Calls Tryd.prog 8 #[PT] W2 fun e w' => e = .returned (.int .i64 (L : Nat)) ∧ w' = W2) := hL.2.2
        have hH := I1.out.fs.hb (by omega) k hk
        rw [I1.out.hb] at hH
        obtain ⟨ah, ch, eh⟩ := row_form (I1.out.fs.ho k hk (by omega))
        rw [eh, ← hL.1] at hH
        have hLi : (L : Int) ≤ 100000 := by have := hL.2.1; omega
        clear hL eh hI
        go_upto_region 26 with fail
        generalize hWW : wr.alloc (.cells #[.int .i64 who, .int .i64 kind, .int .i64 x.t, .float .f64 x.v, .bool x.s] 33) = W1 at *
        clear hWW
        go_region_held3 (fun w' => w'.cell? ⟨N, k, none⟩ = some PT ∧ w'.cell? ⟨N + 1, k, none⟩ = some (.slice ah L ch)) (first | exact ⟨hPT, hH⟩ | assumption | go_keep) (first | (go_at_call 8; go_fit (HL.out _ (by repeat (first | exact Below.refl _ _ | refine Below.drew ?_))); rintro e w5 ⟨rfl, rfl⟩))
        all_goals
          have I3 : Hid (Iv w w.heap.size N (N + 1) d col W1.drew) := I1.out.below (by repeat (first | exact Below.refl _ _ | refine Below.drew ?_))
          go_wp2
          exact ⟨⟨i + 1, d, col, ka, ta, kc, tc, m, by go_num, by omega, rfl, rfl, hm2, hdn, hdk, hdt, I3⟩, by simp [RowKit.intOf]; omega⟩
      · rcases Nat.lt_or_ge 200 m with h2 | h2
        · have h2i : (200 : Int) < (m : Int) := by omega
          go_wp2
          exact ⟨⟨i + 1, d, col, ka, ta, kc, tc, m, by go_num, by omega, rfl, rfl, hm2, hdn, hdk, hdt, I1⟩, by simp [RowKit.intOf]; omega⟩
        · have h2i : ¬ (200 : Int) < (m : Int) := by omega
          have h2n : ¬ 200 < m := by omega
          have hN2 : d.n ≤ 200 := by rw [hdn.out]; exact h2
          obtain ⟨P, hP, HPB⟩ : ∃ P, P = pk (frm (d.hl k)) ∧ Hid (pkB (d.hl k) = P) := ⟨_, rfl, by
            show _ = _
            obtain ⟨q1, q2, q3⟩ := I1.out.ok k hk
            have e0 : pkE (d.hl k) = 0 := by unfold pkE; rw [if_neg (by omega), if_pos q1]
            unfold pkB
            rw [if_pos e0]⟩
          have HBy : Hid (By P ∧ P.length ≤ 100000000) := by
            refine (show _ ∧ _ from ⟨by rw [← HPB.out]; exact pkB_by _, ?_⟩)
            obtain ⟨q1, q2, q3⟩ := I1.out.ok k hk
            have := bod_len (d.hl k) t0 gt0 q2
            rw [hP, pk_len]
            unfold frm
            rw [List.length_append, nb_len]
            omega
          have hH := I1.out.fs.hb (by omega) k hk
          rw [I1.out.hb] at hH
          have ho := I1.out.fs.ho k hk (by omega)
          obtain ⟨ah, ch, eh⟩ := row_form ho
          rw [eh] at hH ho
          obtain ⟨L, hL⟩ : ∃ L, L = (d.hl k).length := ⟨_, rfl⟩
          have KP := rpack_any ah ch (d.hl k) _ (Sm.of_row ho) (I1.out.ok k hk).2.1 (by have := (I1.out.ok k hk).2.2; omega)
          rw [← hL] at hH KP
          obtain ⟨PL, hPL⟩ : ∃ PL, PL = P.length := ⟨_, rfl⟩
          obtain ⟨PT, hPT, HT⟩ : ∃ PT, (wr.alloc (.cells #[.int .i64 who, .int .i64 kind, .int .i64 x.t, .float .f64 x.v, .bool x.s] 33)).cell? ⟨N, k, none⟩ = some PT ∧ Hid (∀ W2, Below (wr.alloc (.cells #[.int .i64 who, .int .i64 kind, .int .i64 x.t, .float .f64 x.v, .bool x.s] 33)).heap.size (wr.alloc (.cells #[.int .i64 who, .int .i64 kind, .int .i64 x.t, .float .f64 x.v, .bool x.s] 33)) W2 → Calls Tryd.prog 10 #[PT] W2 fun e w' => ∃ g c, e = .returned (.slice (some ⟨g, 0, none⟩) PL c) ∧ w'.ownsRow W2.heap.size 5 1 (.slice (some ⟨g, 0, none⟩) PL c) PL (bc P) ∧ Below W2.heap.size W2 w') := by
            rcases Nat.eq_zero_or_pos k with rfl | hk0
            · refine ⟨_, by have := I1.out.fs.p0 (by omega); rw [I1.out.pb] at this; exact this, (show ∀ W2, _ → _ from fun W2 b => ?_)⟩
              rw [hPL, hP]
              exact bytes_nil W2 (Nat.le_trans H3.out (Nat.le_trans I1.out.bl.size b.size)) _ I1.out.h0
            · refine ⟨_, by have := I1.out.fs.pk (by omega) k hk0 hk; rw [I1.out.pb] at this; exact this, (show ∀ W2, _ → _ from fun W2 b => ?_)⟩
              rw [hPL, hP, ← I1.out.eq k hk0 hk]
              exact bytes_any _ _ _ _ W2 ((I1.out.fs.hd k hk0 hk (by omega)).below b)
          have HPL : Hid (PL = P.length) := hPL
          clear hI ho eh hL hP hPL
          go_wp2_with fail
          go_fit KP
          rintro e w5 ⟨v, rfl, o5, b5⟩
          rw [HPB.out] at o5
          obtain ⟨a1, c1, rfl⟩ := row_form o5
          rw [← HPL.out] at o5 ⊢
          have hPT5 := (b5.cell (p := ⟨N, k, none⟩) (by have := I1.out.fs.pl.2; rw [I1.out.pb] at this; exact this)).trans hPT
          have KB := HT.out w5 b5
          have O5 : Hid (w5.ownsRow (wr.alloc (.cells #[.int .i64 who, .int .i64 kind, .int .i64 x.t, .float .f64 x.v, .bool x.s] 33)).heap.size 5 1 (.slice a1 PL c1) PL (bc P)) := o5
          have B5 : Hid (Below (wr.alloc (.cells #[.int .i64 who, .int .i64 kind, .int .i64 x.t, .float .f64 x.v, .bool x.s] 33)).heap.size (wr.alloc (.cells #[.int .i64 who, .int .i64 kind, .int .i64 x.t, .float .f64 x.v, .bool x.s] 33)) w5) := b5
          clear KP hPT HT o5 b5 hH
          go_wp2_with fail
          go_fit KB
          rintro e w6 ⟨g6, c6, rfl, o6, b6⟩
          have KS : Calls Tryd.prog 11 #[.slice (some ⟨g6, 0, none⟩) PL c6, .slice a1 PL c1] w6 fun e w' => e = .returned (.bool true) ∧ w' = w6 := by
            have i1 : Im w6 (some ⟨g6, 0, none⟩) P := Im.of_row (by rw [HPL.out] at o6; exact o6)
            have i2 : Im w6 a1 P := (Im.of_row (by have := O5.out; rw [HPL.out] at this; exact this)).below b6
            have := same_any (some ⟨g6, 0, none⟩) a1 c6 c1 P P w6 i1 i2 HBy.out.1 HBy.out.1
            rw [← HPL.out, decide_eq_true rfl] at this
            exact this
          obtain ⟨g, c, w7, g', c', w8, r7, r8, d2, col2, I2, e1, e2, e3⟩ := I1.out.take hN2 (a1 := a1) (a2 := some ⟨g6, 0, none⟩) (c1 := c1) (c2 := c6) (P := P) B5.out (by rw [← HPL.out]; exact O5.out) b6 (by rw [← HPL.out]; exact o6) HBy.out
          rw [hdk.out, hdn.out, ← HPL.out] at r7
          rw [hdt.out, hdn.out, ← HPL.out] at r8
          rw [hdn.out] at e1 e2 e3
          have E1 : Hid (d2.n = m + 1) := (show _ = _ from e3)
          have E2 : Hid (d2.kv = .slice (some ⟨g, 0, none⟩) (m + 1) c) := (show _ = _ from e1)
          have E3 : Hid (d2.tv = .slice (some ⟨g', 0, none⟩) (m + 1) c') := (show _ = _ from e2)
          have I3 : Hid (Iv w w.heap.size N (N + 1) d2 col2 w8) := I2
          clear I2 e1 e2 e3 KB o6 b6 hPT5
          go_wp2_with fail
          go_fit KS
          rintro e w6' ⟨rfl, rfl⟩
          clear KS
          go_wp2_with (first | (at_builtin; refine wpList_append_run rfl (.tmp 126) (.tmp 128) 28 28 rfl _ _ rfl rfl r7 ?_) | (at_builtin; refine wpList_append_run rfl (.tmp 130) (.tmp 132) 28 28 rfl _ _ rfl rfl r8 ?_))
          exact ⟨⟨i + 1, d2, col2, g, g', c, c', m + 1, by go_num, by omega, rfl, rfl, by omega, E1, E2, E3, I3⟩, by simp [RowKit.intOf]; omega⟩
      · rcases Nat.eq_zero_or_pos k with hk0 | hk0
        · have hk1 : ¬ (0 : Int) < (k : Int) := by omega
          have hk2 : ¬ 0 < k := by omega
          go_wp2
          exact ⟨⟨i + 1, d, col, ka, ta, kc, tc, m, by go_num, by omega, rfl, rfl, hm2, hdn, hdk, hdt, I1⟩, by simp [RowKit.intOf]; omega⟩
        · have hk1 : (0 : Int) < (k : Int) := by omega
          have KN := new_any (wr.alloc (.cells #[.int .i64 who, .int .i64 kind, .int .i64 x.t, .float .f64 x.v, .bool x.s] 33)) (Nat.le_trans H3.out I1.out.bl.size)
          have HI3 : Hid (Iv w w.heap.size N (N + 1) d col wr) := hI
          clear hI
          go_wp2_with fail
          go_fit KN
          rintro e w5 ⟨rfl, v, hd, b5⟩
          obtain ⟨hf, d2, col2, I2, e1, e2, e3⟩ := I1.out.renew k hk0 hk b5 hd
          have I3 : Hid (Iv w w.heap.size N (N + 1) d2 col2 ((w5.setCell ⟨N, k, none⟩ (.pointer (some ⟨(wr.alloc (.cells #[.int .i64 who, .int .i64 kind, .int .i64 x.t, .float .f64 x.v, .bool x.s] 33)).heap.size, 0, none⟩))).setCell ⟨N + 1, k, none⟩ (.slice none 0 0))) := (show Iv _ _ _ _ _ _ _ by rw [I1.out.pb, I1.out.hb] at I2; exact I2)
          have f5 := I1.out.fs.below b5
          have p5 := f5.pk (by omega) k hk0 hk
          have p6 := f5.pf (by omega) k
          have q5 := hf.hb (by omega) k hk
          have q6 := hf.hf (by omega) k
          simp only [I1.out.pb, I1.out.hb, World.size_alloc] at p5 p6 q5 q6
          simp only [World.size_alloc] at I3
          have E1 : Hid (d2.n = m) := (show _ = _ from e3.trans hdn.out)
          have E2 : Hid (d2.kv = .slice (some ⟨ka, 0, none⟩) m kc) := (show _ = _ from e1.trans hdk.out)
          have E3 : Hid (d2.tv = .slice (some ⟨ta, 0, none⟩) m tc) := (show _ = _ from e2.trans hdt.out)
          clear hf I2 e1 e2 e3 f5 KN hd b5
          go_wp2
          exact ⟨⟨i + 1, d2, col2, ka, ta, kc, tc, m, by go_num, by omega, rfl, rfl, hm2, E1, E2, E3, I3⟩, by simp [RowKit.intOf]; omega⟩
    · have hii : ¬ (i : Int) < (n : Int) := by omega
      have hkp := hI.out.fs.kp (by omega)
      have htl := hI.out.fs.tl (by omega)
      rw [hI.out.nn] at htl
      rw [hdk.out, hdn.out] at hkp
      rw [hdt.out, hdn.out] at htl
      have HKP : Hid (Kpt w.heap.size wr (.slice (some ⟨ka, 0, none⟩) m kc) m d.V d.X) := hkp
      have HTL : Hid (Kpt w.heap.size wr (.slice (some ⟨ta, 0, none⟩) m tc) m d.T d.X) := htl
      have HBY : Hid (∀ j, j < m → By (d.X j) ∧ (d.X j).length ≤ 100000000) := (show ∀ j, _ → _ from fun j hj => hI.out.bys j (by rw [hdn.out]; exact hj))
      have HBL : Hid (Below w.heap.size w wr) := hI.out.bl
      have HSW : Hid (w.heap.size ≤ wr.heap.size) := hI.out.fs.sw
      have HB0 : Hid (Below wr.heap.size wr wr) := Below.refl _ _
      have hmi : (m : Int) ≤ 201 := by omega
      clear hkp htl hI hdn hdk hdt I0 Z1 Z2 Z3
      go_wp2_with fail
      clear hlt hii hi
      generalize wr = V0 at *
      go_loopw [16] (fun jv w' => ∃ (j : Nat), jv = .int .i64 (j : Nat) ∧ j ≤ m ∧ Hid (Below V0.heap.size V0 w')) (fun jv _ => m - (RowKit.intOf jv).toNat)
      case atStart => exact ⟨0, rfl, Nat.zero_le _, HB0⟩
      case round =>
        obtain ⟨j, rfl, hj, hb⟩ := hrel
        by_cases hlt : j < m
        · have hji : (j : Int) < (m : Int) := by omega
          have c1 := (hb.out.cell (p := ⟨ka, j, none⟩) HKP.out.ls.1.ll).trans (HKP.out.ls.2 j hlt)
          have c2 := (hb.out.cell (p := ⟨ta, j, none⟩) HTL.out.ls.1.ll).trans (HTL.out.ls.2 j hlt)
          have o1 := HKP.out.own j hlt
          have o2 := HTL.out.own j hlt
          obtain ⟨a1, k1, q1⟩ := row_form o1
          obtain ⟨a2, k2, q2⟩ := row_form o2
          rw [q1] at c1 o1
          rw [q2] at c2 o2
          have HS1 : Hid (∀ W2, Below V0.heap.size V0 W2 → Calls Tryd.prog 11 #[.slice a1 (d.X j).length k1, .slice a2 (d.X j).length k2] W2 fun e w' => e = .returned (.bool true) ∧ w' = W2) := (show ∀ W2, _ → _ from fun W2 b => by
            have := same_any a1 a2 k1 k2 (d.X j) (d.X j) W2 ((Im.of_row o1).below b) ((Im.of_row o2).below b) (HBY.out j hlt).1 (HBY.out j hlt).1
            rw [decide_eq_true rfl] at this
            exact this)
          obtain ⟨Y, hY⟩ : ∃ Y, Y = (d.X j).length := ⟨_, rfl⟩
          rw [← hY] at c1 c2 HS1
          clear o1 o2 q1 q2 hY
          go_upto_region 43 with fail
          go_region_held3 (fun w' => w'.cell? ⟨ka, j, none⟩ = some (.slice a1 Y k1) ∧ w'.cell? ⟨ta, j, none⟩ = some (.slice a2 Y k2)) (first | exact ⟨c1, c2⟩ | assumption | go_keep) (first | (go_at_call 11; go_fit (HS1.out _ (by repeat (first | exact hb.out | refine Below.drew ?_))); rintro e w5 ⟨rfl, rfl⟩))
          all_goals
            have hb2 : Hid (Below V0.heap.size V0 wr.drew) := (show Below _ _ _ by repeat (first | exact hb.out | refine Below.drew ?_))
            go_wp2
            exact ⟨⟨j + 1, by go_num, by omega, hb2⟩, by simp [RowKit.intOf]; omega⟩
        · have hji : ¬ (j : Int) < (m : Int) := by omega
          have KW : Kpt w.heap.size wr (.slice (some ⟨ka, 0, none⟩) m kc) m d.V d.X := HKP.out.kp (M := fun _ => False) (Kp.of hb.out) (fun _ _ => id) (fun _ _ _ _ => id)
          have KA := apart_any w.heap.size m ka kc d.V (fun i => (d.X i).length) d.X wr KW.ls.1 KW.own KW.ls.2 (fun i hi => Nat.le_trans (HBY.out i hi).2 (by omega)) (by omega) (Nat.le_trans HSW.out hb.out.size)
          have HKW : Hid (∀ i, i < m → ∀ g, (d.V i).ownBlock = some g → w.heap.size ≤ g) := (show ∀ i, _ → _ from fun i hi g e => (World.ownsRow.lt (KW.own i hi) g e).1)
          clear KW
          go_wp2_with fail
          go_fit KA
          rintro e w5 ⟨rfl, kk⟩
          have HKK : Hid (Below w.heap.size w w5) := (show Below _ _ _ from (HBL.out.trans (hb.out.mono HBL.out.size)).trans (kk.below (Nat.le_trans HSW.out hb.out.size) (fun g hg hm => by
            obtain ⟨i2, hi2, e2⟩ := hm
            have := HKW.out i2 hi2 g e2
            omega)))
          clear kk KA
          go_wp2
          go_ret
          exact ⟨rfl, HKK.out⟩
end Go.Proofs.YtedlmjieclaojabDoor
/- ChunkSteps: the row and the card. -/
namespace Go.Proofs.YtedlmjieclaojabDoor
open Go.ChangeShapes Go.WideShapes Go.ChangeAt Go.RowKit Go.Lib
set_option maxRecDepth 100000

def laidT : List (String × DataW Unit) := Rows.chunkStepsRow.laid
theorem steps_lifted (os : Os) (started : os.Started) (H : Type) (enc : TypeId × Value → H) :
    ReturnsInHanded {} Tryd.checked os 3 .any (fun w args => (Rows.chunkStepsSpec.pre enc Tryd.prog Tryd.f3 [] false w args ∧ laidMetH Tryd.prog laidT w) ∧ sizedMet enc Tryd.prog Tryd.f3 (OpenSpec.ofChange Rows.chunkStepsSpec) false w args)
      (Rows.chunkStepsSpec.post enc Tryd.prog Tryd.f3 false true false false) := by
  refine returnsInHanded_of_change_and (C := Tryd.checked) (X := fun w _ => laidMetH Tryd.prog laidT w) (fun _ _ _ hh h => h.of_heap hh) own started (by kernel_rfl) Tryd.func3
    (ChangeSpec.witness_shaped (enc := enc) (C := Tryd.checked) (os := os) (X := fun w _ => laidMetH Tryd.prog laidT w) false (World.laidAll Tryd.prog os laidT) #[.slice none 0 0] 8 (World.laidAll_os _ _ _)
      (World.shaped_of_ZipB (by kernel_rfl) (by kernel_rfl)) (by kernel_rfl) (by kernel_rfl) (by kernel_rfl)
      (by rw [MakeChecks.laidMetH_plain _ _ _ (by kernel_rfl)]; exact laidMet_laidAll _ (by kernel_rfl) (by kernel_rfl))) ?_
  intro W base args ds gs before hval0 hW _ hz0 hL _
  have hval : ∀ (j : Nat) t v, Tryd.f3.params[j]? = some t → args[j]? = some v → Value.okWide Tryd.prog W .any base t v := hval0
  have hW' := hW
  obtain ⟨p, q, hA0, hV, rfl, _, _⟩ := hW
  have hA : DataW.TrodAll enc Tryd.prog W 0 (fun _ => true) true Tryd.f3.params.toList args.toList ds p := hA0
  have hsz : (DataW.weightsEach Tryd.prog (Tryd.f3.params.toList ++ Rows.chunkStepsSpec.plain.varTypes Tryd.prog) (ds ++ gs)).all (· ≤ reachBytes) = true := hz0
  rw [Tryd.params3] at hA hval hsz
  obtain ⟨v0, d0, rfl, rfl, h0⟩ := trodAll_one hA
  obtain ⟨rfl, rfl⟩ := trodVars_none hV
  obtain ⟨a0, n0, c0, rfl⟩ := okWide_slice Tryd.underlying22 (hval 0 22 v0 rfl rfl)
  have hS : Scl W := scl_of hL (.tail _ (.head _)) (MakeChecks.laidMetH_plain _ _ _ (by kernel_rfl))
  have hT : Tab W := tab_of hL (.head _) (MakeChecks.laidMetH_plain _ _ _ (by kernel_rfl))
  have k0 := h0
  have lt0 : ∀ x ∈ p, x.block < W.heap.size := by obtain ⟨m, hm⟩ := k0; exact DataW.trod_lt m _ _ _ hm
  have z0 : ∀ n ∈ d0.weights Tryd.prog 22, n ≤ reachBytes := fun n hn => by
    have := List.all_eq_true.1 hsz _ (DataW.weights_mem_each (j := 0) (t := 22) (d := d0) rfl rfl n hn)
    simpa using this
  have walk : Calls Tryd.prog 3 #[.slice a0 n0 c0] W fun e w' => e = .returned (.bool true) ∧ Below W.heap.size W w' := by
    obtain ⟨f0, hf0⟩ := h0
    have hg0 : DataW.trod enc Tryd.prog W 0 (fun _ => true) true f0 22 [.slice a0 n0 c0] = some (d0, p) := hf0
    obtain ⟨l, rfl, hm, hok, hb⟩ := ops_open hg0 z0
    exact steps_walk a0 c0 l W hm hok hS hT (by omega)
  refine walk.mono fun e W' ⟨he, bel⟩ => ?_
  subst he
  exact ⟨_, rfl, _, _, _, [], _, [], hW', trodAll_mk1 (shut_bool Tryd.underlying4 _), trodAll_mk1 (Below.trod laidOut (by kernel_rfl) (of_decide_eq_true (by kernel_rfl)) k0 bel lt0), rfl, bel.frame _, fun h => by cases h⟩

theorem steps_said : Rows.ChunkStepsSaid :=
  OpenClaim.holds_of_wide 3 Tryd.f3 rfl rfl rfl rfl rfl rfl rfl ⟨rfl, rfl, rfl, rfl, rfl⟩ rfl rfl rfl rfl rfl (by kernel_rfl) Tryd.func3 (by kernel_rfl)
    (of_decide_eq_true (by kernel_rfl)) (by unfold Func.isWrapper; first | (rw [if_pos (by decide +kernel)]; kernel_rfl) | (rw [if_neg (by decide +kernel)]; exact ⟨rfl, rfl⟩))
    (fun os started H enc _ => steps_lifted os started H enc)

theorem steps_plain (f : FuncId) (fn : Func) (hf : Tryd.pinned.checked.prog.funcNamed Rows.chunkStepsRow.func = some f) (hfn : Tryd.pinned.checked.prog.funcs[f]? = some fn) :
    false = Tryd.pinned.checked.prog.looks [] ∧ ∀ (j : Nat) t, fn.params[j]? = some t → Tryd.pinned.checked.prog.wantsStandIn t = false := by
  obtain rfl : f = 3 := Option.some.inj ((show Tryd.prog.funcNamed Rows.chunkStepsRow.func = some 3 by kernel_rfl).symm.trans hf) |>.symm
  obtain rfl : fn = Tryd.f3 := (Option.some.inj (Tryd.func3.symm.trans hfn)).symm
  refine ⟨by kernel_rfl, fun j t ht => ?_⟩
  rw [Tryd.params3] at ht
  have hm : t ∈ [22] := by simpa using Array.mem_of_getElem? ht
  have hall : ([22].all fun u => !Tryd.prog.wantsStandIn u) = true := by kernel_rfl
  exact (show Tryd.prog.wantsStandIn t = false by simpa using List.all_eq_true.1 hall t hm)

theorem steps_card : Rows.ChunkStepsCardSaid :=
  Claim7.holds_tied_plain_at .later [] _ _ _ _ steps_said (fun _ h => by cases h) (by kernel_rfl) (fun _ h => by cases h) chunkSteps_row_tie rfl ⟨rfl, rfl⟩ (by kernel_rfl) rfl steps_plain (by kernel_rfl)
#print axioms steps_card
end Go.Proofs.YtedlmjieclaojabDoor
