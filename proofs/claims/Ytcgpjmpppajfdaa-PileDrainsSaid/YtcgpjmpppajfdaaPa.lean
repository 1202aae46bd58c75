/- Several piles side by side, and their books. -/
import Derived.Test.YtcgpjmpppajfdaaEm
namespace Go.Proofs.Ytcgpjmpppajfdaa
open Go.RowKit

def fl (k : Nat) : Bool := decide (k % 3 = 2)
def lvF (flat : Bool) : Value := if flat = true then lvN else lvK
def aF (flat : Bool) : Rk → Rk → Bool := if flat = true then inO lsN else inO lsK
theorem ahF (flat : Bool) : AhC (lvF flat) (aF flat) := by
  cases flat
  · exact aheadK
  · exact aheadN
theorem isF (flat : Bool) : Is (Kf flat) (aF flat) := by
  cases flat
  · exact isK
  · exact isN

/-- Piles and books: v, n, f, m: what the piles hold; B: the same as lists; vb, C: the books. -/
structure PS (q G Pb Bb : Nat) (w : World) (col : Nat → Nat) (W : World) (bb xx : Nat → Nat) (v vb : Nat → Value) (n m : Nat → Nat) (f : Nat → Nat → Rk) (B : Nat → List Rk) (C : Nat → List It) : Prop where
  pl : ∀ k, k < q → Pl W (bb k) (xx k) (lvF (fl k)) (v k) (n k) (f k) (m k)
  bk : ∀ k, k < q → Bk (Kf (fl k)) (B k) (n k) (f k) (m k)
  row : ∀ k, k < q → Ir W 0 (vb k) (C k).length (lk (C k))
  c1 : ∀ k, k < q → col (bb k) = k ∧ col (xx k) = k ∧ ∀ g, (v k).ownBlock = some g → col g = k
  c2 : ∀ k, k < q → ∀ g, (vb k).ownBlock = some g → col g = 10 + k
  pc : ∀ k, k < q → W.cell? ⟨Pb, k, none⟩ = some (.pointer (some ⟨bb k, 0, none⟩))
  bc : ∀ k, k < q → W.cell? ⟨Bb, k, none⟩ = some (vb k) ∧ W.frozen? ⟨Bb, k, none⟩ = false
  cP : col Pb = 8
  cB : col Bb = 9
  old : ∀ j, j < G → col j = 99
  below : Below G w W
  gw : G ≤ W.heap.size
  hq : q ≤ 5
section
variable {q G Pb Bb : Nat} {w W W' : World} {col : Nat → Nat} {bb xx : Nat → Nat} {v vb : Nat → Value} {n m : Nat → Nat} {f : Nat → Nat → Rk} {B : Nat → List Rk} {C : Nat → List It}
theorem PS.below' (h : PS q G Pb Bb w col W bb xx v vb n m f B C) (b : Below W.heap.size W W') : PS q G Pb Bb w col W' bb xx v vb n m f B C := by
  have k : Kp (fun _ => False) W W' := Kp.of b
  exact ⟨fun j hj => (h.pl j hj).below b, h.bk, fun j hj => (h.row j hj).below b, h.c1, h.c2, fun j hj => k.cell (h.pc j hj) id, fun j hj => ⟨k.cell (h.bc j hj).1 id, k.frozen (h.bc j hj).1 (h.bc j hj).2 id⟩, h.cP, h.cB, h.old, h.below.trans (b.mono h.gw), Nat.le_trans h.gw b.size, h.hq⟩
/-- A step of the pile i. -/
theorem PS.pile (h : PS q G Pb Bb w col W bb xx v vb n m f B C) (i : Nat) (hi : i < q) {M : Nat → Prop} (k : Kp M W W') (hM : ∀ j, M j → j = bb i ∨ (v i).ownBlock = some j) {v' : Value} {n' m' : Nat} {f' : Nat → Rk} {B' : List Rk} (p : Pl W' (bb i) (xx i) (lvF (fl i)) v' n' f' m') (b : Bk (Kf (fl i)) B' n' f' m') (hv : ∀ g, v'.ownBlock = some g → (v i).ownBlock = some g ∨ W.heap.size ≤ g) :
    PS q G Pb Bb w (fun j => if j < W.heap.size then col j else i) W' bb xx (up v i v') vb (up n i n') (up m i m') (up f i f') (up B i B') C := by
  have hcM : ∀ j, M j → col j = i := fun j e => by
    rcases hM j e with e | e
    · rw [e]; exact (h.c1 i hi).1
    · exact (h.c1 i hi).2.2 j e
  have hq := h.hq
  have lt1 : ∀ j, j < q → bb j < W.heap.size := fun j hj => World.block_lt_of_cell? W _ (h.pl j hj).cm
  have lt2 : ∀ j, j < q → xx j < W.heap.size := fun j hj => World.block_lt_of_cell? W _ (h.pl j hj).hp.bxc
  have lt3 : ∀ j, j < q → ∀ g, (v j).ownBlock = some g → g < W.heap.size := fun j hj g e => (World.ownsRow.lt (h.pl j hj).hp.row g e).2
  have lt4 : ∀ j, j < q → ∀ g, (vb j).ownBlock = some g → g < W.heap.size := fun j hj g e => (World.ownsRow.lt (h.row j hj) g e).2
  have c0 : 0 < q := by omega
  have ltP : Pb < W.heap.size := World.block_lt_of_cell? W _ (h.pc 0 c0)
  have ltB : Bb < W.heap.size := World.block_lt_of_cell? W _ (h.bc 0 c0).1
  refine ⟨fun j hj => ?_, fun j hj => ?_, fun j hj => ?_, fun j hj => ?_, fun j hj g e => ?_, fun j hj => ?_, fun j hj => ?_, ?_, ?_, fun j hj => ?_, ?_, Nat.le_trans h.gw k.size, h.hq⟩
  · by_cases hji : j = i
    · subst hji
      rw [up_same, up_same, up_same, up_same]
      exact p
    · rw [up_other _ _ _ _ hji, up_other _ _ _ _ hji, up_other _ _ _ _ hji, up_other _ _ _ _ hji]
      exact (h.pl j hj).kp k (fun e => by have := hcM _ e; have := (h.c1 j hj).1; omega) (fun e => by have := hcM _ e; have := (h.c1 j hj).2.1; omega) (fun g e x => by have := hcM _ x; have := (h.c1 j hj).2.2 g e; omega)
  · by_cases hji : j = i
    · subst hji
      rw [up_same, up_same, up_same, up_same]
      exact b
    · rw [up_other _ _ _ _ hji, up_other _ _ _ _ hji, up_other _ _ _ _ hji, up_other _ _ _ _ hji]
      exact h.bk j hj
  · exact k.row (h.row j hj) (fun g e x => by have := hcM _ x; have := h.c2 j hj g e; omega)
  · refine ⟨by rw [if_pos (lt1 j hj)]; exact (h.c1 j hj).1, by rw [if_pos (lt2 j hj)]; exact (h.c1 j hj).2.1, fun g e => ?_⟩
    by_cases hji : j = i
    · subst hji
      rw [up_same] at e
      rcases hv g e with e | e
      · rw [if_pos (lt3 j hj g e)]; exact (h.c1 j hj).2.2 g e
      · rw [if_neg (by omega)]
    · rw [up_other _ _ _ _ hji] at e
      rw [if_pos (lt3 j hj g e)]; exact (h.c1 j hj).2.2 g e
  · rw [if_pos (lt4 j hj g e)]; exact h.c2 j hj g e
  · exact k.cell (h.pc j hj) (fun (e : M Pb) => by have := hcM _ e; have := h.cP; omega)
  · exact ⟨k.cell (h.bc j hj).1 (fun (e : M Bb) => by have := hcM _ e; have := h.cB; omega), k.frozen (h.bc j hj).1 (h.bc j hj).2 (fun (e : M Bb) => by have := hcM _ e; have := h.cB; omega)⟩
  · rw [if_pos ltP]; exact h.cP
  · rw [if_pos ltB]; exact h.cB
  · have := h.gw
    rw [if_pos (by omega)]; exact h.old j hj
  · exact h.below.trans (k.below h.gw (fun j hj e => by have := hcM _ e; have := h.old j hj; omega))
/-- A new list in the book i. -/
theorem PS.book (h : PS q G Pb Bb w col W bb xx v vb n m f B C) (i : Nat) (hi : i < q) {M : Nat → Prop} (k : Kp M W W') (hM : ∀ j, M j → (vb i).ownBlock = some j) {v' : Value} {l' : List It} (p : Ir W' 0 v' l'.length (lk l')) (hv : ∀ g, v'.ownBlock = some g → (vb i).ownBlock = some g ∨ W.heap.size ≤ g) :
    W'.cell? ⟨Bb, i, none⟩ = some (vb i) ∧ W'.frozen? ⟨Bb, i, none⟩ = false ∧ PS q G Pb Bb w (fun j => if j < W.heap.size then col j else 10 + i) (W'.setCell ⟨Bb, i, none⟩ v') bb xx v (up vb i v') n m f B (up C i l') := by
  have hcM : ∀ j, M j → col j = 10 + i := fun j e => h.c2 i hi j (hM j e)
  have hq := h.hq
  have lt1 : ∀ j, j < q → bb j < W.heap.size := fun j hj => World.block_lt_of_cell? W _ (h.pl j hj).cm
  have lt2 : ∀ j, j < q → xx j < W.heap.size := fun j hj => World.block_lt_of_cell? W _ (h.pl j hj).hp.bxc
  have lt3 : ∀ j, j < q → ∀ g, (v j).ownBlock = some g → g < W.heap.size := fun j hj g e => (World.ownsRow.lt (h.pl j hj).hp.row g e).2
  have lt4 : ∀ j, j < q → ∀ g, (vb j).ownBlock = some g → g < W.heap.size := fun j hj g e => (World.ownsRow.lt (h.row j hj) g e).2
  have c0 : 0 < q := by omega
  have ltP : Pb < W.heap.size := World.block_lt_of_cell? W _ (h.pc 0 c0)
  have ltB : Bb < W.heap.size := World.block_lt_of_cell? W _ (h.bc 0 c0).1
  have hP := h.cP
  have hB := h.cB
  have nB : ¬ M Bb := fun e => by have := hcM _ e; omega
  have d1 := fun j hj => k.cell (h.bc j hj).1 nB
  have d2 := fun j hj => k.frozen (h.bc j hj).1 (h.bc j hj).2 nB
  have k2 : Kp (· = Bb) W' (W'.setCell ⟨Bb, i, none⟩ v') := (Kp.refl (· = Bb) W').setCell (p := ⟨Bb, i, none⟩) rfl _
  refine ⟨d1 i hi, d2 i hi, fun j hj => ?_, h.bk, fun j hj => ?_, fun j hj => ?_, fun j hj g e => ?_, fun j hj => ?_, fun j hj => ?_, ?_, ?_, fun j hj => ?_, ?_, ?_, h.hq⟩
  · obtain ⟨q1, q2, q3⟩ := h.c1 j hj
    refine ((h.pl j hj).kp k (fun e => by have := hcM _ e; omega) (fun e => by have := hcM _ e; omega) (fun g e x => by have := hcM _ x; have := q3 g e; omega)).kp k2 (fun (e : bb j = Bb) => by rw [e] at q1; omega) (fun (e : xx j = Bb) => by rw [e] at q2; omega) (fun g e (x : g = Bb) => by have := q3 g e; rw [x] at this; omega)
  · by_cases hji : j = i
    · subst hji
      rw [up_same, up_same]
      refine k2.row p (fun g e (x : g = Bb) => ?_)
      rcases hv g e with e | e
      · have := h.c2 j hj g e
        rw [x] at this
        omega
      · omega
    · rw [up_other _ _ _ _ hji, up_other _ _ _ _ hji]
      refine k2.row (k.row (h.row j hj) (fun g e x => by have := hcM _ x; have := h.c2 j hj g e; omega)) (fun g e (x : g = Bb) => ?_)
      have := h.c2 j hj g e
      rw [x] at this
      omega
  · refine ⟨by rw [if_pos (lt1 j hj)]; exact (h.c1 j hj).1, by rw [if_pos (lt2 j hj)]; exact (h.c1 j hj).2.1, fun g e => ?_⟩
    rw [if_pos (lt3 j hj g e)]; exact (h.c1 j hj).2.2 g e
  · by_cases hji : j = i
    · subst hji
      rw [up_same] at e
      rcases hv g e with e | e
      · rw [if_pos (lt4 j hj g e)]; exact h.c2 j hj g e
      · rw [if_neg (by omega)]
    · rw [up_other _ _ _ _ hji] at e
      rw [if_pos (lt4 j hj g e)]; exact h.c2 j hj g e
  · exact k2.cell (k.cell (h.pc j hj) (fun (e : M Pb) => by have := hcM _ e; omega)) (fun (e : Pb = Bb) => by rw [e] at hP; omega)
  · by_cases hji : j = i
    · subst hji
      rw [up_same]
      exact ⟨World.cell?_setCell_same' _ _ _ (by rw [d1 j hj]; rfl), by rw [World.frozen?_setCell]; exact d2 j hj⟩
    · rw [up_other _ _ _ _ hji]
      exact ⟨by rw [World.cell?_setCell_other _ _ _ _ (by simp)]; exact d1 j hj, by rw [World.frozen?_setCell]; exact d2 j hj⟩
  · rw [if_pos ltP]; exact hP
  · rw [if_pos ltB]; exact hB
  · have := h.gw
    rw [if_pos (by omega)]; exact h.old j hj
  · refine (h.below.trans (k.below h.gw (fun j hj e => by have := hcM _ e; have := h.old j hj; omega))).setCell (p := ⟨Bb, i, none⟩) ?_ _
    rcases Nat.lt_or_ge Bb G with x | x
    · have := h.old Bb x; omega
    · exact x
  · exact Nat.le_trans (Nat.le_trans h.gw k.size) (by simp [World.setCell])
end
end Go.Proofs.Ytcgpjmpppajfdaa
