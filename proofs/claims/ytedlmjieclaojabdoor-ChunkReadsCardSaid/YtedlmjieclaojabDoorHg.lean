/- The reference's Unpack under way. -/
import Derived.Test.YtedlmjieclaojabDoorHf
import Derived.Test.YtedlmjieclaojabDoorRj
import Derived.Test.YtedlmjieclaojabDoorFb
namespace Go.Proofs.YtedlmjieclaojabDoor
open Go.RowKit

theorem rfN_r (B : Nat → Nat) (N : Nat) (s : Rs) : (rfN B N s).r = (rdN B N s).r := by
  unfold rfN
  by_cases h : rfX B N (rdT B N s) = true
  · rw [if_pos h]
  · rw [if_neg h]
theorem rfN_b (B : Nat → Nat) (N : Nat) (s : Rs) : (rfN B N s).b = (rfX B N (rdT B N s) || (rdV B N (rdT B N s)).b) := by
  unfold rfN
  by_cases h : rfX B N (rdT B N s) = true
  · rw [if_pos h, h]; rfl
  · have h' : rfX B N (rdT B N s) = false := by simpa using h
    rw [if_neg h, h']; rfl
theorem rfF_sok (b : Nat → Nat) (N : Nat) : ∀ k s l, Fok s.r → rfF b N k s = some l → ∀ x ∈ l, Sok x
  | 0, _, l, _, h => by cases h; intro x hx; cases hx
  | k + 1, s, l, hf, h => by
    unfold rfF at h
    split at h
    · cases h
    · rcases hx : rfF b N k (rfN b N s) with _ | l'
      · rw [hx] at h; cases h
      · rw [hx] at h
        cases h
        intro x hm
        rcases List.mem_cons.1 hm with rfl | hm
        · exact rdO_sok b N s hf
        · exact rfF_sok b N k _ l' (by rw [rfN_r]; exact rdN_fok b N s hf) hx x hm
theorem rfR_sok (xs : List Int) (l : List Smp) (h : rfR xs = some l) : ∀ x ∈ l, Sok x := by
  unfold rfR at h
  split at h
  · cases h
  · split at h
    · cases h
    · exact rfF_sok _ _ _ _ l fok0 h
theorem rf_unp (xs : List Int) : rfU xs = unp xs := rf_eq xs (fun l h => rfR_sok xs l h)
/-- The reference's Unpack under way: its reader, its frame, its samples. -/
structure Un (w : World) (B F c : Nat) (a0 : Option Addr) (xs : List Int) (W : World) (sv : Value) (L : List Smp) (fr to p : Nat) (b : Bool) : Prop where
  rq : Rq W B a0 c xs p b
  f0 : W.cell? ⟨F, 0, none⟩ = some (.bool (isF to))
  f1 : W.cell? ⟨F, 1, none⟩ = some (.int .i64 (fr : Nat))
  f2 : W.cell? ⟨F, 2, none⟩ = some (.int .i64 (rF to : Nat))
  fz : ∀ i, W.frozen? ⟨F, i, none⟩ = false
  row : W.ownsRow (F + 1) 31 3 sv L.length (smc L)
  bl : Below w.heap.size w W
  BF : B < F
  wB : w.heap.size ≤ B
  ag : ∀ g o, a0 = some ⟨g, o, none⟩ → g < w.heap.size
section
variable {w W W' : World} {B F c : Nat} {a0 : Option Addr} {xs : List Int} {sv : Value} {L : List Smp} {fr to p p' : Nat} {b b' : Bool}
theorem Un.lt (h : Un w B F c a0 xs W sv L fr to p b) : F < W.heap.size := World.block_lt_of_cell? W _ h.f0
theorem Un.reader (h : Un w B F c a0 xs W sv L fr to p b) (hq : Rq W' B a0 c xs p' b') (k : Kp (fun k => k = B) W W') : Un w B F c a0 xs W' sv L fr to p' b' := by
  have nF : ¬ F = B := by have := h.BF; omega
  exact ⟨hq, k.cell h.f0 nF, k.cell h.f1 nF, k.cell h.f2 nF, fun i => by rw [World.frozen?_of_block (w := W) (k.block F h.lt nF)]; exact h.fz i, k.row h.row (fun g e e2 => by
    have := h.BF
    rcases h.row.2 with ⟨h', _⟩ | ⟨g', _, _, h', h2, _⟩
    · rw [h'] at e; cases e
    · rw [h'] at e
      have : g' = g := Option.some.inj e
      omega), h.bl.trans (k.below h.bl.size (fun i hi e => by have := h.wB; omega)), h.BF, h.wB, h.ag⟩
theorem Un.below (h : Un w B F c a0 xs W sv L fr to p b) (k : Below W.heap.size W W') : Un w B F c a0 xs W' sv L fr to p b :=
  ⟨h.rq.below k, bcell2 k h.f0, bcell2 k h.f1, bcell2 k h.f2, fun i => by rw [World.frozen?_of_block (w := W) (k.block F h.lt)]; exact h.fz i, Kp.row (M := fun _ => False) (Kp.of k) h.row (fun _ _ => id), h.bl.trans (k.mono h.bl.size), h.BF, h.wB, h.ag⟩
theorem Un.frame (h : Un w B F c a0 xs W sv L fr to p b) (fr2 to2 : Nat) : Un w B F c a0 xs (st3 W F (isF to2) (fr2 : Nat) (rF to2 : Nat)) sv L fr2 to2 p b := by
  have kk : Kp (fun k => k = F) W (st3 W F (isF to2) (fr2 : Nat) (rF to2 : Nat)) := by
    unfold st3
    exact (((Kp.refl (fun k => k = F) W).setCell (p := ⟨F, 0, none⟩) rfl _).setCell (p := ⟨F, 1, none⟩) rfl _).setCell (p := ⟨F, 2, none⟩) rfl _
  obtain ⟨c0, c1, c2⟩ := st3_cells W F (isF to2) (fr2 : Nat) (rF to2 : Nat) _ _ _ h.f0 h.f1 h.f2
  have hBF := h.BF
  have hwB := h.wB
  refine ⟨h.rq.kp kk (by omega) (fun g o e e2 => by have := h.ag g o e; omega), c0, c1, c2, fun i => ?_, kk.row h.row (fun g e e2 => by
    rcases h.row.2 with ⟨h', _⟩ | ⟨g', _, _, h', h2, _⟩
    · rw [h'] at e; cases e
    · rw [h'] at e
      have : g' = g := Option.some.inj e
      omega), h.bl.trans (kk.below h.bl.size (fun i hi e => by omega)), h.BF, h.wB, h.ag⟩
  unfold st3
  rw [World.frozen?_setCell, World.frozen?_setCell, World.frozen?_setCell]
  exact h.fz i
theorem Un.push (h : Un w B F c a0 xs W sv L fr to p b) (x : Smp) (hn : L.length ≤ 1000000) :
    ∃ v' w', (Builtin.append_ #[35, 35] 35 #[sv, .slice (some ⟨W.heap.size, 0, none⟩) 1 1]).run Tryd.prog (W.alloc (smX x)) = .ok v' w' ∧ Un w B F c a0 xs w' v' (L ++ [x]) fr to p b := by
  have hlt := h.lt
  obtain ⟨v', w', r, o', k', hv⟩ := append_s W (F + 1) sv L x (by omega) (by omega) h.row
  have low : ∀ j, j < F + 1 → ¬ sv.ownBlock = some j := fun j hj e => by
    rcases h.row.2 with ⟨h', _⟩ | ⟨g', _, _, h', h2, _⟩
    · rw [h'] at e; cases e
    · rw [h'] at e
      have : g' = j := Option.some.inj e
      omega
  have hBF := h.BF
  have hwB := h.wB
  refine ⟨v', w', r, h.rq.kp k' (low B (by omega)) (fun g o e => low g (by have := h.ag g o e; omega)), k'.cell h.f0 (low F (by omega)), k'.cell h.f1 (low F (by omega)), k'.cell h.f2 (low F (by omega)), fun i => by rw [World.frozen?_of_block (w := W) (k'.block F hlt (low F (by omega)))]; exact h.fz i, ?_, h.bl.trans (k'.below h.bl.size (fun i hi => low i (by omega))), h.BF, h.wB, h.ag⟩
  rw [List.length_append]
  exact o'
end
/-- What is so between the rounds. -/
def Ur (w : World) (B F c : Nat) (a0 : Option Addr) (xs : List Int) (V i : Nat) (sv lv dv tv : Value) (W : World) : Prop :=
  ∃ (L : List Smp) (fr to p : Nat) (b : Bool), L.length = i ∧ (∀ x ∈ L, Sok x) ∧ Un w B F c a0 xs W sv L fr to p b ∧
    ((b = true ∧ rfR xs = none) ∨ (b = false ∧ ∃ st : Rs, st.p = p ∧ st.b = false ∧ st.r.n = i ∧ Fok st.r ∧ st.r.fr = fr ∧ st.r.to = to ∧ lv = .int .u64 (st.r.vl : Nat) ∧ dv = .int .i64 st.r.st ∧ tv = .int .i64 st.r.tm ∧ rfR xs = (rfF (bt 8 xs) (8 * xs.length) (V - i) st).map (L ++ ·)))
end Go.Proofs.YtedlmjieclaojabDoor
