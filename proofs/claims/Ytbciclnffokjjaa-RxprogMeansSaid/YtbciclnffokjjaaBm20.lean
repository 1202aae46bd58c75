/- A bundle of texts. -/
import Derived.Test.YtbciclnffokjjaaBm19
/- Code: its length; Compile. -/
namespace Go.Proofs.Ytbciclnffokjjaa
open Go.RowKit

theorem catF_sum {F : Nat → Int → List Ia} {L : Nat → Int} (b : Int) : ∀ n, (∀ j, j < n → ∀ b, ((F j b).length : Int) = L j) → ((catF F n b).length : Int) = sumN L n
  | 0, _ => rfl
  | n + 1, h => by
    unfold catF sumN
    rw [List.length_append, Int.natCast_add, catF_sum b n (fun j hj => h j (by omega)), h n (by omega)]
theorem altF_sum {F : Nat → Int → List Ia} {L : Nat → Int} (e b : Int) : ∀ n, (∀ j, j < n → ∀ b, ((F j b).length : Int) = L j) → ((altF F e n b).length : Int) = sumN L n + 2 * n
  | 0, _ => rfl
  | n + 1, h => by
    have ih := altF_sum (F := F) (L := L) e b n (fun j hj => h j (by omega))
    have hn := h n (by omega) (b + (altF F e n b).length + 1)
    unfold altF sumN
    rw [List.length_append, List.length_cons, List.length_append, List.length_singleton]
    push_cast
    omega
theorem sumN_mem {L : Nat → Int} : ∀ {n : Nat}, (∀ j, j < n → 0 ≤ L j) → ∀ j, j < n → L j ≤ sumN L n
  | 0, _, j, hj => by omega
  | n + 1, h, j, hj => by
    have h0 : 0 ≤ sumN L n := by
      have key : ∀ m, m ≤ n → 0 ≤ sumN L m := by
        intro m
        induction m with
        | zero => intro _; exact Int.le_refl _
        | succ m ih => intro hm; unfold sumN; have := ih (by omega); have := h m (by omega); omega
      exact key n (Nat.le_refl _)
    unfold sumN
    by_cases e : j = n
    · subst e; omega
    · have := sumN_mem (n := n) (fun j hj => h j (by omega)) j (by omega)
      have := h n (by omega)
      omega
theorem repC_len (k : List Ia) (mn mx : Int) (lz : Bool) (b : Int) (h0 : 0 ≤ mn) (hx : mx = -1 ∨ mn ≤ mx) (hm : ¬ mx = 0) : ((repC k mn mx lz b).length : Int) = if mx = -1 then mn * k.length + k.length + 2 else mn * k.length + (mx - mn) * (k.length + 1) := by
  unfold repC
  rw [if_neg hm]
  have hl : ((layF k mn.toNat b).length : Int) = mn * k.length := by rw [layF_len]; push_cast; rw [Int.toNat_of_nonneg h0]
  by_cases h1 : mx = -1
  · rw [if_pos h1, if_pos h1, List.length_append, List.length_cons, List.length_append, mvs_len, List.length_singleton]
    push_cast
    omega
  · rw [if_neg h1, if_neg h1, List.length_append, optF_len]
    push_cast
    rw [Int.toNat_of_nonneg (by omega), hl, Int.add_comm 1 (k.length : Int)]
theorem cod_len : ∀ (m : Nat) (t : Tr) (b : Int), WF m t → lenF m t ≤ 10000 → ((cod m t b).length : Int) = lenF m t
  | 0, _, _, h, _ => by cases h
  | m + 1, t, b, hw, hl => by
    obtain ⟨⟨hnd, _⟩, hkn, hk⟩ := hw
    have hbd : ∀ j, j < (t []).kn → 0 ≤ lenF m (kid t j) ∧ lenF m (kid t j) ≤ 10001 := fun j hj => lenF_bd m _ (hk j hj)
    have hkd := ndB_kind hnd
    rw [lenF_succ] at hl ⊢
    obtain ⟨s, hs⟩ : ∃ s, sumN (fun j => lenF m (kid t j)) (t []).kn = s := ⟨_, rfl⟩
    rw [hs] at hl ⊢
    have hmem : ∀ j, j < (t []).kn → lenF m (kid t j) ≤ s := fun j hj => by rw [← hs]; exact sumN_mem (L := fun j => lenF m (kid t j)) (fun j hj => (hbd j hj).1) j hj
    have hs0 : 0 ≤ s := by
      rw [← hs]
      exact (sumN_bd (f := fun j => lenF m (kid t j)) (b := 10001) (by omega) _ hbd).1
    have ih : s ≤ 10000 → ∀ j, j < (t []).kn → ∀ b, (((fun j b => cod m (kid t j) b) j b).length : Int) = lenF m (kid t j) := fun h j hj b => cod_len m _ b (hk j hj) (by have := hmem j hj; omega)
    have hmin : lenK (t []) s ≤ 10000 := by omega
    rw [show min (lenK (t []) s) 10001 = lenK (t []) s by omega]
    by_cases k2 : (t []).kind = 2
    · have eC : cod (m + 1) t b = [⟨2, b + 1, 0, 0, [((t []).r, (t []).r)]⟩] := by unfold cod; rw [if_pos k2]
      have eL : lenK (t []) s = 1 := by unfold lenK; rw [if_neg (by omega), if_neg (by omega), if_neg (by omega), if_neg (by omega)]
      rw [eC, eL]; rfl
    by_cases k3 : (t []).kind = 3
    · have eC : cod (m + 1) t b = [clsC (rsL (t [])) b] := by unfold cod; rw [if_neg k2, if_pos k3]
      have eL : lenK (t []) s = 1 := by unfold lenK; rw [if_neg (by omega), if_neg (by omega), if_neg (by omega), if_neg (by omega)]
      rw [eC, eL]; rfl
    by_cases k4 : (t []).kind = 4
    · have eC : cod (m + 1) t b = catF (fun j b => cod m (kid t j) b) (t []).kn b := by
        conv => lhs; unfold cod
        rw [if_neg k2, if_neg k3, if_pos k4]
      have eL : lenK (t []) s = s := by unfold lenK; rw [if_pos (Or.inr k4)]
      rw [eL] at hmin ⊢
      rw [eC, catF_sum b _ (ih hmin), hs]
    by_cases k5 : (t []).kind = 5
    · have h2 := ndB_row hnd (.inr k5)
      have eC : cod (m + 1) t b = altC (fun j b => cod m (kid t j) b) ((t []).kn - 1) b := by
        conv => lhs; unfold cod
        rw [if_neg k2, if_neg k3, if_neg k4, if_pos k5]
      have eL : lenK (t []) s = s + 2 * (((t []).kn : Int) - 1) := by unfold lenK; rw [if_neg (by omega), if_pos k5]
      rw [eL] at hmin ⊢
      rw [eC]
      have ih' := ih (by omega)
      have e0 : ((altF (fun j b => cod m (kid t j) b) (b + (altF (fun j b => cod m (kid t j) b) 0 ((t []).kn - 1) b).length + ((fun j b => cod m (kid t j) b) ((t []).kn - 1) (b + (altF (fun j b => cod m (kid t j) b) 0 ((t []).kn - 1) b).length)).length) ((t []).kn - 1) b).length : Int) = sumN (fun j => lenF m (kid t j)) ((t []).kn - 1) + 2 * (((t []).kn - 1 : Nat) : Int) := altF_sum _ b _ (fun j hj => ih' j (by omega))
      have e2 := ih' ((t []).kn - 1) (by omega) (b + (altF (fun j b => cod m (kid t j) b) 0 ((t []).kn - 1) b).length)
      have e1 : sumN (fun j => lenF m (kid t j)) (t []).kn = sumN (fun j => lenF m (kid t j)) ((t []).kn - 1) + lenF m (kid t ((t []).kn - 1)) := by
        obtain ⟨q, hq⟩ : ∃ q, (t []).kn = q + 1 := ⟨(t []).kn - 1, by omega⟩
        rw [hq, Nat.add_sub_cancel]
        rfl
      unfold altC
      rw [List.length_append, Int.natCast_add, e0, e2]
      omega
    by_cases k6 : (t []).kind = 6
    · have h6 := ndB_rep hnd k6
      have eC : cod (m + 1) t b = repC (cod m (kid t 0) 0) (t []).mn (t []).mx (t []).lz b := by
        conv => lhs; unfold cod
        rw [if_neg k2, if_neg k3, if_neg k4, if_neg k5, if_pos k6]
      have eL : lenK (t []) s = if (t []).mx = -1 then (t []).mn * s + s + 2 else (t []).mn * s + ((t []).mx - (t []).mn) * (s + 1) := by unfold lenK; rw [if_neg (by omega), if_neg k5, if_neg (by omega), if_pos k6]
      rw [eL] at hmin ⊢
      rw [eC]
      have hs1 : lenF m (kid t 0) = s := by
        have e : sumN (fun j => lenF m (kid t j)) 1 = s := by rw [← hs, h6.1]
        simpa [sumN] using e
      by_cases hx : (t []).mx = 0
      · have hmn : (t []).mn = 0 := by omega
        unfold repC
        rw [if_pos hx, if_neg (by omega), hx, hmn]
        simp
      · have hsl : s ≤ 10000 := by
          by_cases h : s ≤ 10000
          · exact h
          · exfalso
            split at hmin
            · have := Int.mul_nonneg h6.2.1 hs0
              omega
            · by_cases hm0 : (t []).mn = 0
              · rw [hm0] at hmin
                have h3 : 1 * (s + 1) ≤ ((t []).mx - 0) * (s + 1) := Int.mul_le_mul_of_nonneg_right (by omega) (by omega)
                omega
              · have h3 : 1 * s ≤ (t []).mn * s := Int.mul_le_mul_of_nonneg_right (by omega) hs0
                have h4 := Int.mul_nonneg (show 0 ≤ (t []).mx - (t []).mn by omega) (show 0 ≤ s + 1 by omega)
                omega
        have hk0 : ((cod m (kid t 0) 0).length : Int) = s := by rw [cod_len m _ 0 (hk 0 (by omega)) (by omega), hs1]
        rw [repC_len _ _ _ _ _ h6.2.1 (by omega) hx, hk0]
    by_cases k7 : (t []).kind = 7
    · have h7 := ndB_grp hnd k7
      have eC : cod (m + 1) t b = ⟨4, b + 1, 0, 2 * (t []).cp, []⟩ :: (cod m (kid t 0) (b + 1) ++ [⟨4, b + 1 + (cod m (kid t 0) (b + 1)).length + 1, 0, 2 * (t []).cp + 1, []⟩]) := by
        conv => lhs; unfold cod
        rw [if_neg k2, if_neg k3, if_neg k4, if_neg k5, if_neg k6, if_pos k7]
      have eL : lenK (t []) s = s + 2 := by unfold lenK; rw [if_neg (by omega), if_neg k5, if_pos k7]
      rw [eL] at hmin ⊢
      rw [eC]
      have hs1 : lenF m (kid t 0) = s := by
        have e : sumN (fun j => lenF m (kid t j)) 1 = s := by rw [← hs, h7]
        simpa [sumN] using e
      have := ih (by omega) 0 (by omega) (b + 1)
      dsimp only at this
      rw [List.length_cons, List.length_append, List.length_singleton]
      push_cast
      omega
    by_cases k13 : (t []).kind = 13
    · have eC : cod (m + 1) t b = [⟨9, b + 1, 0, 1, []⟩] := by unfold cod; rw [if_neg k2, if_neg k3, if_neg k4, if_neg k5, if_neg k6, if_neg k7, if_pos k13]
      have eL : lenK (t []) s = 1 := by unfold lenK; rw [if_neg (by omega), if_neg (by omega), if_neg (by omega), if_neg (by omega)]
      rw [eC, eL]; rfl
    by_cases k8 : 8 ≤ (t []).kind
    · have eC : cod (m + 1) t b = [⟨(t []).kind - 3, b + 1, 0, 0, []⟩] := by unfold cod; rw [if_neg k2, if_neg k3, if_neg k4, if_neg k5, if_neg k6, if_neg k7, if_neg k13, if_pos k8]
      have eL : lenK (t []) s = 1 := by unfold lenK; rw [if_neg (by omega), if_neg (by omega), if_neg (by omega), if_neg (by omega)]
      rw [eC, eL]; rfl
    · have eC : cod (m + 1) t b = [] := by unfold cod; rw [if_neg k2, if_neg k3, if_neg k4, if_neg k5, if_neg k6, if_neg k7, if_neg k13, if_neg k8]
      have eL : lenK (t []) s = s := by unfold lenK; rw [if_pos (Or.inl (by omega))]
      rw [eC, eL]
      have h0 := ndB_leaf hnd (.inl (by omega))
      rw [h0] at hs
      have : s = 0 := hs.symm
      rw [this]
      rfl
end Go.Proofs.Ytbciclnffokjjaa
/- Code: Compile. -/
namespace Go.Proofs.Ytbciclnffokjjaa
open Go.RowKit

abbrev prV (ia : Option Addr) (n ic : Nat) (st gr : Int) (na : Option Addr) (nn nc : Nat) : Value := .agg #[.slice ia n ic, .int .i64 st, .int .i64 gr, .slice na nn nc]
abbrev prX (ia : Option Addr) (n ic : Nat) (st gr : Int) (na : Option Addr) (nn nc : Nat) : Obj := .cells #[.slice ia n ic, .int .i64 st, .int .i64 gr, .slice na nn nc] 25
theorem prX_cells {w W : World} (ia : Option Addr) (n ic : Nat) (st gr : Int) (na : Option Addr) (nn nc : Nat) (h : Below (w.alloc (prX ia n ic st gr na nn nc)).heap.size (w.alloc (prX ia n ic st gr na nn nc)) W) :
    W.cell? ⟨w.heap.size, 0, none⟩ = some (.slice ia n ic) ∧ W.cell? ⟨w.heap.size, 1, none⟩ = some (.int .i64 st) ∧ W.cell? ⟨w.heap.size, 2, none⟩ = some (.int .i64 gr) ∧ W.cell? ⟨w.heap.size, 3, none⟩ = some (.slice na nn nc) := by
  have e : (w.alloc (prX ia n ic st gr na nn nc)).heap[w.heap.size]? = some (prX ia n ic st gr na nn nc) := heap_alloc_new w _
  refine ⟨bcell2 h ?_, bcell2 h ?_, bcell2 h ?_, bcell2 h ?_⟩
  all_goals
    unfold World.cell?
    rw [e]
    rfl


theorem vds_tree {B : Nat} {w : World} {m : Nat} {t : Tr} {op : Int} {P : St → Prop} (ht : Tat B w t) (hF : ∀ t' op' s s', Tat B w t' → vd m t' op' s = some s' → P s → P s') : ∀ {j : Nat} {s s' : St}, j ≤ (t []).kn → vds (vd m) t op j s = some s' → P s → P s'
  | 0, s, s', _, h, hp => by cases h; exact hp
  | j + 1, s, s', hj, h, hp => by
    unfold vds at h
    cases hj' : vds (vd m) t op j s with
    | none => rw [hj'] at h; cases h
    | some s4 =>
      rw [hj'] at h
      exact hF _ _ _ _ (ht.kid j (by omega)) h (vds_tree ht hF (by omega) hj' hp)
/-- The names that a survey finds are no longer than those of the tree. -/
theorem vd_names {B : Nat} {w : World} : ∀ (m : Nat) (t : Tr) (op : Int) (s s1 : St), Tat B w t → vd m t op s = some s1 → (∀ j, j < s.n → (s.f j).size ≤ 140737488351232) → ∀ j, j < s1.n → (s1.f j).size ≤ 140737488351232
  | 0, _, _, _, _, _, h, _ => by cases h
  | m + 1, t, op, s, s1, ht, h, hs => by
    unfold vd at h
    split at h
    · cases h
    · cases hm : mid (t []) { s with k := s.k + 1 } with
      | none => rw [hm] at h; cases h
      | some s2 =>
        rw [hm] at h
        have h2 : ∀ j, j < s2.n → (s2.f j).size ≤ 140737488351232 := by
          unfold mid grp at hm
          split at hm
          · cases hm; exact hs
          · split at hm
            · split at hm
              · cases hm
              · cases hm
                intro j hj
                dsimp only at hj ⊢
                by_cases e : j = s.n
                · rw [e, up_same]; exact ht.node.2.2.1
                · rw [up_other _ _ _ _ e]; exact hs j (by omega)
            · cases hm; exact hs
        exact vds_tree (P := fun s => ∀ j, j < s.n → (s.f j).size ≤ 140737488351232) ht (fun t' op' a b ht' h hp => vd_names m t' op' a b ht' h hp) (Nat.le_refl _) h h2

abbrev pX0 : Obj := .cells #[.slice none 0 0, .int .i64 0, .int .i64 0, .slice none 0 0] 25
set_option maxHeartbeats 1000000 in
set_option maxRecDepth 100000 in
/-- Compile of a tree that isn't valid or too big: the error. -/
theorem compile_no (t : Tr) (w : World) (ht : Tat w.heap.size w t) (h : sizF t = 0 ∨ 10000 < sizF t) :
    Calls Try.prog 10 #[ndV (t [])] w fun e w' => e = .returned (.tuple #[prV none 0 0 0 0 none 0 0, .int .i64 (if sizF t = 0 then 2 else 90)]) ∧ Below w.heap.size w w' := by
  have b1 : Below w.heap.size w ((w.alloc (ndX (t []))).alloc pX0) := two_below _ _
  have hb1 : ((w.alloc (ndX (t []))).alloc pX0).heap[w.heap.size + 1]? = some pX0 := by have := heap_alloc_new (w.alloc (ndX (t []))) pX0; simpa using this
  have kS := size_any t _ ((ht.below b1).mono b1.size)
  have HK : Hid (∀ w1, Below ((w.alloc (ndX (t []))).alloc pX0).heap.size ((w.alloc (ndX (t []))).alloc pX0) w1 → Below w.heap.size w w1 ∧ w1.heap[w.heap.size + 1]? = some pX0) := fun w1 b => ⟨b1.trans (b.mono b1.size), (b.block (w.heap.size + 1) (by simp)).trans hb1⟩
  clear ht b1 hb1
  generalize sizF t = s at *
  generalize t [] = d at *
  by_cases h0 : s = 0
  · subst h0
    show Calls Try.prog 10 #[ndV d] w fun e w' => e = .returned (.tuple #[prV none 0 0 0 0 none 0 0, .int .i64 2]) ∧ Below w.heap.size w w'
    clear h
    go_enter Try.func10, Try.ntmps10
    go_wp2_with fail
    go_fit kS
    rintro e w1 ⟨rfl, b⟩
    obtain ⟨bw, hblk⟩ := HK.out w1 b
    have q : ∀ i u, #[Value.slice none 0 0, .int .i64 0, .int .i64 0, .slice none 0 0][i]? = some u → w1.cell? ⟨w.heap.size + 1, i, none⟩ = some u := fun i u h => by
      unfold World.cell?
      rw [hblk]
      exact h
    have q0 := q 0 _ rfl
    have q1 := q 1 _ rfl
    have q2 := q 2 _ rfl
    have q3 := q 3 _ rfl
    have z : ∀ i, w1.frozen? ⟨w.heap.size + 1, i, none⟩ = false := fun i => by
      unfold World.frozen?
      rw [hblk]
      simp
    have z0 := z 0
    have z1 := z 1
    have z2 := z 2
    have z3 := z 3
    have BW : Hid (Below w.heap.size w w1) := bw
    clear b bw hblk q z kS HK
    go_wp2
    refine bodyPost_ret (v := .tuple #[prV none 0 0 0 0 none 0 0, .int .i64 2]) (by simp [results, Try.results10, go_sem, q0, q1, q2, q3]) rfl ⟨rfl, ?_⟩
    exact (((BW.out.setCell (p := ⟨w.heap.size + 1, 0, none⟩) (by simp) _).setCell (p := ⟨w.heap.size + 1, 1, none⟩) (by simp) _).setCell (p := ⟨w.heap.size + 1, 2, none⟩) (by simp) _).setCell (p := ⟨w.heap.size + 1, 3, none⟩) (by simp) _
  · have h1 : 10000 < s := by omega
    have e : (if s = 0 then (2 : Int) else 90) = 90 := if_neg h0
    rw [e]
    have t0 : (s == 0) = false := by simpa using h0
    clear h h0 e
    go_enter Try.func10, Try.ntmps10
    go_wp2_with fail
    go_fit kS
    rintro e w1 ⟨rfl, b⟩
    obtain ⟨bw, hblk⟩ := HK.out w1 b
    have q : ∀ i u, #[Value.slice none 0 0, .int .i64 0, .int .i64 0, .slice none 0 0][i]? = some u → w1.cell? ⟨w.heap.size + 1, i, none⟩ = some u := fun i u h => by
      unfold World.cell?
      rw [hblk]
      exact h
    have q0 := q 0 _ rfl
    have q1 := q 1 _ rfl
    have q2 := q 2 _ rfl
    have q3 := q 3 _ rfl
    have z : ∀ i, w1.frozen? ⟨w.heap.size + 1, i, none⟩ = false := fun i => by
      unfold World.frozen?
      rw [hblk]
      simp
    have z0 := z 0
    have z1 := z 1
    have z2 := z 2
    have z3 := z 3
    have BW : Hid (Below w.heap.size w w1) := bw
    clear b bw hblk q z kS HK
    go_wp2
    refine bodyPost_ret (v := .tuple #[prV none 0 0 0 0 none 0 0, .int .i64 90]) (by simp [results, Try.results10, go_sem, q0, q1, q2, q3]) rfl ⟨rfl, ?_⟩
    exact (((BW.out.setCell (p := ⟨w.heap.size + 1, 0, none⟩) (by simp) _).setCell (p := ⟨w.heap.size + 1, 1, none⟩) (by simp) _).setCell (p := ⟨w.heap.size + 1, 2, none⟩) (by simp) _).setCell (p := ⟨w.heap.size + 1, 3, none⟩) (by simp) _
end Go.Proofs.Ytbciclnffokjjaa
/- Code: Compile of a tree that has a program. -/
namespace Go.Proofs.Ytbciclnffokjjaa
open Go.RowKit

theorem Ow.below {S : Nat} {w w' : World} {v : Value} {c : List Ia} (h : Ow S w v c) (hb : Below w.heap.size w w') : Ow S w' v c := by
  obtain ⟨g, cc, f, rfl, hr, hi⟩ := h
  exact ⟨g, cc, f, rfl, (Kp.of (M := fun _ => False) hb).row hr (fun _ _ => id), fun j i hj => (hi j i hj).kp (Kp.of hb) (fun _ _ e => e)⟩
theorem Ro.avoid {w : World} {M : Nat → Prop} {a : Option Addr} {n : Nat} {rs : List Rg} (h : Ro w M a n rs) (T : Nat) (hT : ∀ o r, w.cell? ⟨T, o, none⟩ ≠ some (.int .i32 r)) : Ro w (fun k => M k ∨ k = T) a n rs := by
  refine ⟨h.1, ?_⟩
  rcases h.2 with h0 | ⟨g, o, e, hg, hm, hc⟩
  · exact .inl h0
  · by_cases h0 : n = 0
    · exact .inl h0
    · refine .inr ⟨g, o, e, hg, fun x => ?_, hc⟩
      rcases x with x | x
      · exact hm x
      · subst x
        have hl : 0 < rs.length := by have := h.1; omega
        have := (hc 0 _ (List.getElem?_eq_getElem hl)).1
        exact hT _ _ this
theorem sizF_ok {t : Tr} (h0 : ¬ sizF t = 0) (h1 : sizF t ≤ 10000) : okT t = true ∧ lenF 8195 t ≤ 9999 ∧ sizF t = lenF 8195 t + 1 := by
  unfold sizF at *
  by_cases h : okT t = true
  · rw [if_pos h] at *
    exact ⟨h, by omega, by omega⟩
  · rw [if_neg h] at h0
    exact absurd rfl h0
set_option maxHeartbeats 2000000 in
set_option maxRecDepth 100000 in
/-- Compile of a valid tree that isn't too big: its program. -/
theorem compile_yes (t : Tr) (w : World) (ht : Tat w.heap.size w t) (h0 : ¬ sizF t = 0) (h1 : sizF t ≤ 10000) :
    Calls Try.prog 10 #[ndV (t [])] w fun e w' => (∃ iv nv s1, e = .returned (.tuple #[.agg #[iv, .int .i64 0, .int .i64 (s1.n : Int), nv], .int .i64 0]) ∧ svd t = some s1 ∧ s1.n ≤ 100 ∧ Ow w.heap.size w' iv (prgC t) ∧ w'.ownsRow w.heap.size 9 1 nv s1.n (sc s1.f s1.n)) ∧ Below w.heap.size w w' := by
  obtain ⟨hok, hlen, hsz⟩ := sizF_ok h0 h1
  have hwf := WF_ok hok
  obtain ⟨s1, hs1⟩ : ∃ s1, svd t = some s1 := by
    unfold okT at hok
    cases hs : svd t with
    | none => rw [hs] at hok; cases hok
    | some s1 => exact ⟨s1, rfl⟩
  have hn100 : s1.n ≤ 100 := vd_n 8195 t 0 s0 s1 hs1 (by decide)
  have hcl : (cod 8195 t 0).length + 1 ≤ 100000 := by have := cod_len 8195 t 0 hwf (by omega); omega
  have b1 : Below w.heap.size w ((w.alloc (ndX (t []))).alloc pX0) := two_below _ _
  have hb1 : ((w.alloc (ndX (t []))).alloc pX0).heap[w.heap.size + 1]? = some pX0 := by have := heap_alloc_new (w.alloc (ndX (t []))) pX0; simpa using this
  have hc1 : Cs ((w.alloc (ndX (t []))).alloc pX0) w.heap.size 0 (t []) := ndX_cells (t []) ((Below.refl _ _).alloc (Nat.le_refl _) _)
  obtain ⟨V, hV⟩ : ∃ V, V = (w.alloc (ndX (t []))).alloc pX0 := ⟨_, rfl⟩
  have hVz : V.heap.size = w.heap.size + 2 := by rw [hV]; simp
  rw [← hV] at b1 hb1 hc1
  have htV : Tat V.heap.size V t := (ht.below b1).mono b1.size
  have kS := size_any t V htV
  have HG : Hid (∀ w1, Below V.heap.size V w1 → Calls Try.prog 26 #[ndV (t [])] w1 fun e w' => (∃ v, e = .returned v ∧ w'.ownsRow w1.heap.size 9 1 v s1.n (sc s1.f s1.n)) ∧ Below w1.heap.size w1 w') := fun w1 b => groups_any t w1 s1 ((htV.below b).mono b.size) hs1 (vd_names 8195 t 0 s0 s1 ht hs1 (fun j hj => by cases hj)) hn100
  have HP : Hid (∀ w1, Below V.heap.size V w1 → Calls Try.prog 27 #[ndV (t [])] w1 fun e w' => (∃ v, e = .returned v ∧ Ow w1.heap.size w' v (prgC t)) ∧ Below w1.heap.size w1 w') := fun w1 b => programOf_any t w1 ((htV.below b).mono b.size) hwf hcl
  have HC : Hid (∀ w1, Below V.heap.size V w1 → Cs w1 w.heap.size 0 (t []) ∧ w1.heap[w.heap.size + 1]? = some pX0) := fun w1 b => ⟨hc1.below b (by omega), (b.block (w.heap.size + 1) (by omega)).trans hb1⟩
  have HB : Hid (Below w.heap.size w V) := b1
  have HVZ : Hid (V.heap.size = w.heap.size + 2) := hVz
  have HS1 : Hid (svd t = some s1) := hs1
  have HN : Hid (s1.n ≤ 100) := hn100
  have hs0' : (sizF t == 0) = false := by simpa using h0
  clear ht hok hlen hsz hwf hs1 hcl b1 hb1 hc1 hVz htV h0
  generalize sizF t = s at *
  generalize prgC t = pr at *
  have HVV : Hid (V = (w.alloc (ndX (t []))).alloc pX0) := hV
  subst hV
  have HT : Hid (∃ d, t [] = d) := ⟨_, rfl⟩
  clear HVV
  generalize t [] = d at *
  go_enter Try.func10, Try.ntmps10
  go_wp2_with fail
  go_fit kS
  rintro e w1 ⟨rfl, b1⟩
  have k1 := HG.out w1 b1
  obtain ⟨f0, f1, f2, f3, f4, f5, f6, f7, f8⟩ := (HC.out w1 b1).1.zero
  have B1 : Hid (Below ((w.alloc (ndX d)).alloc pX0).heap.size ((w.alloc (ndX d)).alloc pX0) w1) := b1
  clear kS b1
  go_wp2_with fail
  go_fit k1
  rintro e w2 ⟨⟨nv, rfl, o2⟩, b2⟩
  have B2 : Hid (Below ((w.alloc (ndX d)).alloc pX0).heap.size ((w.alloc (ndX d)).alloc pX0) w2) := B1.out.trans (b2.mono B1.out.size)
  have O2 : Hid (w2.ownsRow w.heap.size 9 1 nv s1.n (sc s1.f s1.n)) := row_mono o2 (by have := B1.out.size; have := HVZ.out; omega)
  have O2s : Hid (w2.ownsRow w1.heap.size 9 1 nv s1.n (sc s1.f s1.n)) := o2
  obtain ⟨na, nc, hnv⟩ : ∃ na nc, nv = .slice na s1.n nc := by
    rcases o2.2 with ⟨e, e2⟩ | ⟨g, cc, cur, e, _⟩
    · exact ⟨none, 0, by rw [e, e2]⟩
    · exact ⟨_, cc, e⟩
  have k2 := HP.out w2 B2.out
  obtain ⟨g0, g1, g2, g3, g4, g5, g6, g7, g8⟩ := (HC.out w2 B2.out).1.zero
  subst hnv
  clear k1 o2 b2 f0 f1 f2 f3 f4 f5 f6 f7 f8
  go_wp2_with fail
  go_fit k2
  rintro e w3 ⟨⟨iv, rfl, o3⟩, b3⟩
  have B3 : Hid (Below ((w.alloc (ndX d)).alloc pX0).heap.size ((w.alloc (ndX d)).alloc pX0) w3) := B2.out.trans (b3.mono B2.out.size)
  have O3 : Hid (w3.ownsRow w.heap.size 9 1 (.slice na s1.n nc) s1.n (sc s1.f s1.n)) := (Kp.of (M := fun _ => False) b3).row O2.out (fun _ _ => id)
  obtain ⟨g, cc, fi, hiv, hrow, hism⟩ := o3
  have hblk := (HC.out w3 B3.out).2
  have q : ∀ i u, #[Value.slice none 0 0, .int .i64 0, .int .i64 0, .slice none 0 0][i]? = some u → w3.cell? ⟨w.heap.size + 1, i, none⟩ = some u := fun i u h => by
    unfold World.cell?
    rw [hblk]
    exact h
  have q0 := q 0 _ rfl
  have q1 := q 1 _ rfl
  have q2 := q 2 _ rfl
  have q3 := q 3 _ rfl
  have z : ∀ i, w3.frozen? ⟨w.heap.size + 1, i, none⟩ = false := fun i => by
    unfold World.frozen?
    rw [hblk]
    simp
  have z0 := z 0
  have z1 := z 1
  have z2 := z 2
  have z3 := z 3
  subst hiv
  have HF : Hid (∀ w4, Kp (· = w.heap.size + 1) w3 w4 → Ow w.heap.size w4 (.slice (some ⟨g, 0, none⟩) pr.length cc) pr ∧ w4.ownsRow w.heap.size 9 1 (.slice na s1.n nc) s1.n (sc s1.f s1.n) ∧ Below w.heap.size w w4) := fun w4 k => by
    have hg2 : w2.heap.size ≤ g := by
      rcases hrow.2 with ⟨e, _⟩ | ⟨G, _, _, e, hG, _⟩
      · cases e
      · cases e; exact hG
    have hw2 := B2.out.size
    have hvz := HVZ.out
    refine ⟨⟨g, cc, fi, rfl, row_mono (k.row hrow (fun i e => by cases e; exact fun e => by have e' : g = w.heap.size + 1 := e; omega)) (by omega), fun j i hj => ?_⟩, k.row O3.out (fun i e e' => ?_), (HB.out.trans (B3.out.mono HB.out.size)).trans (k.below (by have := B3.out.size; omega) (fun i hi e => by have e' : i = w.heap.size + 1 := e; omega))⟩
    · obtain ⟨a1, a2, a3, a4, hro⟩ := hism j i hj
      have hT : ∀ o r, w3.cell? ⟨w.heap.size + 1, o, none⟩ ≠ some (.int .i32 r) := fun o r h => by
        unfold World.cell? at h
        rw [hblk] at h
        match o, h with
        | 0, h => simp at h
        | 1, h => simp at h
        | 2, h => simp at h
        | 3, h => simp at h
        | o + 4, h => simp at h
      exact ⟨a1, a2, a3, a4, (hro.avoid (w.heap.size + 1) hT).kp (k.mono (fun i _ e => .inr e)) (fun i _ e => .inl e)⟩
    · have h1 : w1.heap.size ≤ i := by
        rcases O2s.out.2 with ⟨e0, _⟩ | ⟨G, _, _, e0, hG, _⟩
        · rw [e0] at e; cases e
        · rw [e0] at e
          have : G = i := Option.some.inj e
          omega
      have e2 : i = w.heap.size + 1 := e'
      have := B1.out.size
      omega
  clear hblk q z k2 b3 g0 g1 g2 g3 g4 g5 g6 g7 g8 hrow hism
  go_wp2
  refine bodyPost_ret (v := .tuple #[.agg #[.slice (some ⟨g, 0, none⟩) pr.length cc, .int .i64 0, .int .i64 (s1.n : Int), .slice na s1.n nc], .int .i64 0]) (by simp [results, Try.results10, go_sem, q0, q1, q2, q3]) rfl ?_
  have kk : ∀ a b c d, Kp (· = w.heap.size + 1) w3 ((((w3.setCell ⟨w.heap.size + 1, 0, none⟩ a).setCell ⟨w.heap.size + 1, 1, none⟩ b).setCell ⟨w.heap.size + 1, 2, none⟩ c).setCell ⟨w.heap.size + 1, 3, none⟩ d) := fun a b c d => ((((Kp.refl (· = w.heap.size + 1) w3).setCell (p := ⟨w.heap.size + 1, 0, none⟩) rfl _).setCell (p := ⟨w.heap.size + 1, 1, none⟩) rfl _).setCell (p := ⟨w.heap.size + 1, 2, none⟩) rfl _).setCell (p := ⟨w.heap.size + 1, 3, none⟩) rfl _
  obtain ⟨h1, h2, h3⟩ := HF.out _ (kk _ _ _ _)
  exact ⟨⟨_, _, s1, rfl, HS1.out, HN.out, h1, h2⟩, h3⟩
end Go.Proofs.Ytbciclnffokjjaa
