/- PileMuddled: the list; the pushes. -/
import Derived.Test.YtcgpjmpppajfdaaMa
namespace Go.Proofs.Ytcgpjmpppajfdaa
open Go.RowKit

/-- A thing ahead of a list. -/
def cns (x : It) (xs : Nat → It) (j : Nat) : It := if j = 0 then x else xs (j - 1)
theorem ic_cns (x : It) (xs : Nat → It) : ∀ n, ic (cns x xs) (n + 1) = i2 x ++ ic xs n
  | 0 => by rw [ic_succ]; rfl
  | n + 1 => by
    rw [ic_succ, ic_cns x xs n, ic_succ xs n, List.append_assoc]
    rfl
theorem app_list (w : World) (x : It) (a : Option Addr) (c n : Nat) (xs : Nat → It) (hf : Iml w a xs n) (hn : (n + 1) * 16 ≤ 140737488355328) :
    ∃ v' w', (Builtin.append_ #[22, 22] 22 #[.slice (some ⟨w.heap.size, 0, none⟩) 1 1, .slice a n c]).run Try.prog (w.alloc (iX x)) = .ok v' w' ∧ Ir w' w.heap.size v' (n + 1) (cns x xs) ∧ Below w.heap.size w w' := by
  obtain ⟨i0, hi, hz0, hz1, hz2⟩ := info_parts infI
  have o0 : (w.alloc (iX x)).ownsRow w.heap.size 24 2 (.slice (some ⟨w.heap.size, 0, none⟩) 1 1) 1 (i2 x) :=
    ⟨rfl, .inr ⟨w.heap.size, 1, _, rfl, Nat.le_refl _, heap_alloc_new w _, Nat.le_refl _, by unfold maxLen; omega, by simp, rfl⟩⟩
  have hb := (Below.refl w.heap.size w).alloc (Nat.le_refl _) (iX x)
  cases a with
  | none =>
    have h0 : n = 0 := by
      rcases hf with h | ⟨g, o, e, _⟩
      · exact h
      · cases e
    subst h0
    refine ⟨.slice (some ⟨w.heap.size, 0, none⟩) 1 1, w.alloc (iX x), ?_, ?_, hb⟩
    · exact run_append_room_src (P := Try.prog) (w.alloc (iX x)) 22 22 22 24 i0 Try.underlying22 hi w.heap.size 0 1 1 (.slice none 0 c) 0 [] (hz1 ▸ Src.ofNil _ Try.underlying22 c) (by omega) (fun j hj => by cases hj) (fun j hj => by cases hj)
    · unfold Ir
      rw [ic_cns]
      exact o0
  | some ad =>
    have hnews : ∀ j u, (ic xs n)[j]? = some u → (w.alloc (iX x)).cell? (ad.add j) = some u := by
      rcases hf with h | ⟨g, o, e, hg, hat⟩
      · subst h
        intro j u hj
        simp [ic] at hj
      · cases e
        intro j u hj
        rw [Go.WideShapes.add_plain]
        have hjl : j < n * 2 := by
          have := (List.getElem?_eq_some_iff.1 hj).1
          rwa [ic_len] at this
        refine cell_al _ ?_
        have e2 : j = (j / 2) * 2 + j % 2 := by omega
        rw [e2] at hj ⊢
        rw [ic_get xs n (j / 2) (j % 2) (by omega) (by omega)] at hj
        obtain ⟨q0, q1⟩ := hat (j / 2) (by omega)
        have : j % 2 = 0 ∨ j % 2 = 1 := by omega
        rcases this with h | h
        · rw [h] at hj ⊢
          simp [i2] at hj
          rw [← hj, Nat.add_zero]
          exact q0
        · rw [h] at hj ⊢
          simp [i2] at hj
          rw [← hj, ← Nat.add_assoc]
          exact q1
    obtain ⟨v', w', r, o', g, _⟩ := run_append_own (P := Try.prog) (w.alloc (iX x)) w.heap.size 22 22 24 i0 (.agg #[.int .i64 0, .int .i64 0]) 2 16 Try.underlying22 hi hz0 hz1 hz2 rfl (by decide) _ 1 (i2 x) o0 ad n c (ic xs n) (ic_len xs n) hnews
      (fun u hu => by
        obtain ⟨j, hj⟩ := List.mem_iff_getElem?.1 hu
        have hjl : j < n * 2 := by
          have := (List.getElem?_eq_some_iff.1 hj).1
          rwa [ic_len] at this
        have e2 : j = (j / 2) * 2 + j % 2 := by omega
        rw [e2, ic_get xs n (j / 2) (j % 2) (by omega) (by omega)] at hj
        have : j % 2 = 0 ∨ j % 2 = 1 := by omega
        rcases this with h | h
        · rw [h] at hj; simp [i2] at hj; rw [← hj]; rfl
        · rw [h] at hj; simp [i2] at hj; rw [← hj]; rfl) (by unfold maxLen; omega) (by omega) (by simp)
    refine ⟨v', w', r, ?_, hb.grown g (by simp) (fun k hk => by simp [Value.ownBlock] at hk; omega)⟩
    unfold Ir
    rw [ic_cns, Nat.add_comm n 1]
    exact o'

/-- The popping loop's state. -/
structure PM (B N : Nat) (w3 : World) (A : Rk → Rk → Bool) (T : List It) (lv : Value) (W : World) (p : Nat) (pre : List It) (v vm : Value) (f : Nat → Rk) : Prop where
  pl : Pl W (B + 1) B lv v p f N
  row : Ir W (B + 2) vm pre.length (lk pre)
  out : pre ++ outL A p f = T
  hv : ∀ k, v.ownBlock = some k → B ≤ k
  below : Below B w3 W
theorem PM.gw {B N p : Nat} {w3 W : World} {A : Rk → Rk → Bool} {T pre : List It} {lv v vm : Value} {f : Nat → Rk} (h : PM B N w3 A T lv W p pre v vm f) : B + 2 ≤ W.heap.size := by
  have : B + 1 < W.heap.size := World.block_lt_of_cell? W _ h.pl.cm
  omega
theorem PM.step {B N p : Nat} {w3 W : World} {A : Rk → Rk → Bool} {T pre : List It} {lv v vm : Value} {f : Nat → Rk} (hA : AhC lv A) (h : PM B N w3 A T lv W (p + 1) pre v vm f) (hn : p + 1 ≤ 1152921504606846976) (hl : (pre.length + 1) * 16 ≤ 140737488355328) :
    Calls Try.prog 14 #[.pointer (some ⟨B + 1, 0, none⟩)] W fun r w' => r = .returned (.tuple #[.agg #[.int .i64 (f 0).1.1, .int .i64 (f 0).1.2], .bool true]) ∧
      ∃ g c w2 v2 f2, (Builtin.append_ #[22, 22] 22 #[vm, .slice (some ⟨w'.heap.size + 1, 0, none⟩) 1 1]).run Try.prog ((w'.alloc (.cells #[.int .i64 (f 0).1.1, .int .i64 (f 0).1.2] 24)).alloc (.cells #[.int .i64 (f 0).1.1, .int .i64 (f 0).1.2] 24)) = .ok (.slice (some ⟨g, 0, none⟩) (pre.length + 1) c) w2 ∧
        PM B N w3 A T lv w2 p (pre ++ [(f 0).1]) v2 (.slice (some ⟨g, 0, none⟩) (pre.length + 1) c) f2 := by
  obtain ⟨g, c, rfl⟩ : ∃ g c, v = .slice (some ⟨g, 0, none⟩) (p + 1) c := by
    rcases h.pl.hp.row.2 with ⟨_, e⟩ | ⟨g, c, _, e, _⟩
    · omega
    · exact ⟨g, c, e⟩
  refine (ppop_some A (B + 1) B g c p N lv f W hA h.pl hn).mono fun r w' ⟨hr, p', k⟩ => ⟨hr, ?_⟩
  have hgB : B ≤ g := h.hv g rfl
  have hgw := h.gw
  have row' : Ir w' (B + 2) vm pre.length (lk pre) := k.row h.row (by
    rintro j e (x | x)
    · have := (World.ownsRow.lt h.row j e).1
      omega
    · exact row_tags h.row h.pl.hp.row (by decide) e (by rw [x]; rfl))
  have bel' : Below B w3 w' := h.below.trans (k.below (by omega) (fun j hj e => by rcases e with e | e <;> omega))
  have b1 : Below w'.heap.size w' (w'.alloc (iX (f 0).1)) := (Below.refl _ w').alloc (Nat.le_refl _) _
  have hsz : B + 2 ≤ w'.heap.size := Nat.le_trans hgw k.size
  obtain ⟨g2, c2, w2, r2, o2, k2, _⟩ := append_i (w'.alloc (iX (f 0).1)) (B + 2) vm pre.length (lk pre) (f 0).1 (by simp; omega) hl (row'.below b1)
  rw [World.size_alloc] at r2
  have nb : ∀ j, vm.ownBlock = some j → B + 2 ≤ j := fun j e => (World.ownsRow.lt h.row j e).1
  refine ⟨g2, c2, w2, _, _, r2, (p'.below b1).kp k2 (fun e => by have := nb _ e; omega) (fun e => by have := nb _ e; omega) (fun j e x => row_tags p'.hp.row row' (by decide) e x), ?_, ?_, h.hv, ?_⟩
  · rw [show (pre ++ [(f 0).1]).length = pre.length + 1 by simp]
    exact Ir.congr o2 (lk_push pre (f 0).1)
  · rw [← h.out, outL]
    simp
  · exact (bel'.trans (b1.mono (by omega))).trans (k2.below (by simp; omega) (fun j hj e => by have := nb _ e; omega))
end Go.Proofs.Ytcgpjmpppajfdaa
