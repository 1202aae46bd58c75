/- The reference: Or of lists that rise, Sorted, put, And, Or, Without. -/
import Derived.Test.YtnjhffbegaegnaaMg
namespace Go.Proofs.Ytnjhffbegaegnaa
open Go.RowKit Go.Lib Go.Shelf Go.Sort

theorem undrew {B : Nat} {w w' : World} (h : Below B w.drew w') : Below B w w' := ⟨h.1, h.2, h.3, h.4, h.5⟩
set_option maxHeartbeats 2000000 in
set_option maxRecDepth 100000 in
theorem ror_rs (a b : Option Addr) (c d : Nat) (xs ys : List Int) (w : World) (hx : Zm w a xs) (hy : Zm w b ys) (hc : xs.length ≤ c) (hd : ys.length ≤ d) (hl : xs.length ≤ 2097152) (hl2 : ys.length ≤ 2097152) (hrx : Rs xs) (hry : Rs ys) :
    Calls Try.prog 7 #[.slice a xs.length c, .slice b ys.length d] w (RZ w (mg true true true xs ys)) := by
  have k1 : Calls Try.prog 14 #[.slice a xs.length c] w (PZ w (xs)) := put_rs a c xs w hx hc (by omega) hrx
  have K2 : Hid (∀ w1, Below w.heap.size w w1 → Calls Try.prog 14 #[.slice b ys.length d] w1 (PZ w1 (ys))) := fun w1 hb => put_rs b d ys w1 (hy.below hb) hd (by omega) hry
  have HL : Hid ((xs).length ≤ 2097152 ∧ (ys).length ≤ 2097152) := ⟨hl, hl2⟩
  clear hx hy hl hl2 hc hd hrx hry
  go_enter Try.func7, Try.ntmps7
  go_wp2_with fail
  go_fit k1
  rintro e w1 ⟨a1, c1, rfl, hc1, z1, b1⟩
  have k2 := K2.out w1 b1
  have Z1 : Hid (Zm w1 a1 (xs)) := z1
  have C1 : Hid ((xs).length ≤ c1) := hc1
  have B1 : Hid (Below w.heap.size w w1) := b1
  clear z1 b1 k1 hc1
  generalize hn1 : (xs).length = n1
  have N1 : Hid ((xs).length = n1) := hn1
  clear hn1
  go_wp2_with fail
  go_fit k2
  rintro e w2 ⟨a2, c2, rfl, hc2, z2, b2⟩
  have k3 := merge_any a1 a2 c1 c2 (xs) (ys) true true true w2 (Z1.out.below b2) z2 C1.out hc2 HL.out.1 HL.out.2
  rw [N1.out] at k3
  have B2 : Hid (Below w.heap.size w w2) := B1.out.trans (b2.mono B1.out.size)
  clear z2 b2 k2 Z1 hc2
  generalize (ys).length = m1 at k3 ⊢
  go_wp2_with fail
  go_fit k3
  rintro e w3 ⟨v3, rfl, z3, b3⟩
  go_wp2
  go_ret
  exact ⟨_, rfl, Zr.mono z3 B2.out.size, B2.out.trans (b3.mono B2.out.size)⟩
theorem rsg_app (l : List Int) (h : Nat) : mg true true true (rsg (l.take h)) (rsg (l.drop h)) = rsg l := by
  have := or_rs (l.take h) (l.drop h)
  rw [List.take_append_drop] at this
  exact this.symm
theorem rs_small {l : List Int} (h : l.length < 2) : Rs l := by
  match l, h with
  | [], _ => exact List.Pairwise.nil
  | [x], _ => exact List.pairwise_singleton _ _
  | _ :: _ :: _, h => exact absurd h (by simp)
theorem Zm.take {w : World} {a : Option Addr} {xs : List Int} (h : Zm w a xs) (k : Nat) : Zm w a (xs.take k) := by
  rcases h with h | ⟨g, o, ha, hg, hc⟩
  · exact .inl (by rw [h]; simp)
  · refine .inr ⟨g, o, ha, hg, fun j hj => ?_⟩
    have hj2 := hj
    rw [List.length_take] at hj
    rw [hc j (by omega)]
    simp only [List.getD]
    rw [List.getElem?_take_of_lt (by omega)]
theorem Zm.drop {w : World} {g o : Nat} {xs : List Int} (h : Zm w (some ⟨g, o, none⟩) xs) (k : Nat) : Zm w (some ⟨g, o + k, none⟩) (xs.drop k) := by
  rcases h with h | ⟨g', o', ha, hg, hc⟩
  · exact .inl (by rw [h]; simp)
  · cases ha
    refine .inr ⟨g, o + k, rfl, hg, fun j hj => ?_⟩
    rw [List.length_drop] at hj
    have := hc (k + j) (by omega)
    rw [show o + (k + j) = o + k + j by omega] at this
    rw [this]
    simp [List.getD]
/-- A new row of nothing. -/
theorem Zr.built (w : World) : Zr (w.alloc (.cells #[] 3)) w.heap.size (.slice (some ⟨w.heap.size, 0, none⟩) 0 0) [] := by
  have := World.ownsRow_lit (base := w.heap.size) (e := 3) (size := 1) w #[] 0 (Nat.le_refl _) (by unfold maxLen; omega) rfl
  exact this
theorem Zr.built2 (w : World) (B : Nat) (hB : B ≤ w.heap.size) (x y : Int) : Zr (w.alloc (.cells #[.int .i64 x, .int .i64 y] 3)) B (.slice (some ⟨w.heap.size, 0, none⟩) 2 2) [x, y] := by
  have := World.ownsRow_lit (base := B) (e := 3) (size := 1) w #[.int .i64 x, .int .i64 y] 2 hB (by unfold maxLen; omega) rfl
  exact this
set_option maxHeartbeats 4000000 in
set_option maxRecDepth 100000 in
theorem sorted_any : ∀ (N : Nat) (a : Option Addr) (c : Nat) (xs : List Int) (w : World), xs.length ≤ N → Zm w a xs → xs.length ≤ c → xs.length ≤ 2097152 →
    Calls Try.prog 21 #[.slice a xs.length c] w (RZ w (rsg xs)) := by
  intro N
  induction N with
  | zero =>
    intro a c xs w h0 hx hc hl
    have e : xs = [] := List.eq_nil_of_length_eq_zero (by omega)
    subst e
    obtain ⟨v1, w1, r1, z1, b1⟩ := append_zs (w.alloc (.cells #[] 3)) w.heap.size _ [] [] a c (by simp) (by simp) (Zr.built w) (.inl rfl)
    have Z1 : Hid (Zr w1 w.heap.size v1 (rsg [])) := by show Zr _ _ _ _; rw [rsg_self List.Pairwise.nil]; exact z1
    have B1 : Hid (Below w.heap.size w w1) := ((Below.refl _ w).alloc (Nat.le_refl _) _).trans b1
    clear z1 b1 hx hc hl h0
    go_enter Try.func21, Try.ntmps21
    go_wp2_with (at_builtin; refine Ytnjhffbegaegnaa.wpList_append_run rfl (.tmp 6) (.tmp 7) 22 22 rfl _ _ rfl rfl r1 ?_)
    go_ret
    exact ⟨_, rfl, Z1.out, B1.out⟩
  | succ N ih =>
    intro a c xs w hN hx hc hl
    by_cases hlt : xs.length < 2
    · obtain ⟨v1, w1, r1, z1, b1⟩ := append_zs (w.alloc (.cells #[] 3)) w.heap.size _ [] xs a c (by simp) (by simp; omega) (Zr.built w) (hx.below ((Below.refl _ w).alloc (Nat.le_refl _) _))
      have Z1 : Hid (Zr w1 w.heap.size v1 (rsg xs)) := by show Zr _ _ _ _; rw [rsg_self (rs_small hlt)]; exact z1
      have B1 : Hid (Below w.heap.size w w1) := ((Below.refl _ w).alloc (Nat.le_refl _) _).trans b1
      have hi : (xs.length : Int) < 2 := by omega
      clear z1 b1 hx hc hl hN hlt ih
      generalize xs.length = n at *
      go_enter Try.func21, Try.ntmps21
      go_wp2_with (at_builtin; refine Ytnjhffbegaegnaa.wpList_append_run rfl (.tmp 6) (.tmp 7) 22 22 rfl _ _ rfl rfl r1 ?_)
      go_ret
      exact ⟨_, rfl, Z1.out, B1.out⟩
    · obtain ⟨g, o, rfl, hg, hcs⟩ := hx.at (i := 0) (by omega)
      obtain ⟨n, hn⟩ : ∃ n, n = xs.length := ⟨_, rfl⟩
      obtain ⟨h, hh⟩ : ∃ h, h = n / 2 := ⟨_, rfl⟩
      have l1 : (xs.take h).length = h := by rw [List.length_take]; omega
      have l2 : (xs.drop h).length = n - h := by rw [List.length_drop]; omega
      have K1 : Hid (∀ w1, Below w.heap.size w w1 → Calls Try.prog 21 #[.slice (some ⟨g, o, none⟩) h c] w1 (RZ w1 (rsg (xs.take h)))) := fun w1 hb => by
        have := ih (some ⟨g, o, none⟩) c (xs.take h) w1 (by omega) ((hx.take h).below hb) (by omega) (by omega)
        rw [l1] at this
        exact this
      have K2 : Hid (∀ w1, Below w.heap.size w w1 → Calls Try.prog 21 #[.slice (some ⟨g, o + h, none⟩) (n - h) (c - h)] w1 (RZ w1 (rsg (xs.drop h)))) := fun w1 hb => by
        have := ih (some ⟨g, o + h, none⟩) (c - h) (xs.drop h) w1 (by omega) ((hx.drop h).below hb) (by omega) (by omega)
        rw [l2] at this
        exact this
      have KO : Hid (∀ w1 v1 v2, Zr w1 w.heap.size v1 (rsg (xs.take h)) → Zr w1 w.heap.size v2 (rsg (xs.drop h)) → Calls Try.prog 7 #[v1, v2] w1 (RZ w1 (rsg xs))) := fun w1 v1 v2 z1 z2 => by
        obtain ⟨a1, c1, rfl, hc1, m1⟩ := z1.sl
        obtain ⟨a2, c2, rfl, hc2, m2⟩ := z2.sl
        have := ror_rs a1 a2 c1 c2 _ _ w1 m1 m2 hc1 hc2 (by have := rsg_len (xs.take h); omega) (by have := rsg_len (xs.drop h); omega) (rsg_rs _) (rsg_rs _)
        rw [rsg_app] at this
        exact this
      rw [← hn] at hc hl ⊢
      have q0 : ¬ (n : Int) < 2 := by omega
      have q1 : Int.tdiv (n : Int) 2 = (h : Nat) := by rw [Int.tdiv_eq_ediv_of_nonneg (by omega)]; omega
      have q2 : (h : Int) ≤ (n : Int) := by omega
      have q3 : (n : Int) ≤ (c : Int) := by omega
      have q4 : ¬ c = h := by omega
      have q5 : (n : Int) ≤ 2097152 := by omega
      have q6 : (0 : Int) ≤ (h : Int) := by omega
      have q7 : (h : Int) ≤ (c : Int) := by omega
      have q8 : IntKind.i64.wrap (h : Int) = (h : Int) := by rw [IntKind.wrap_i64]; omega
      have q9 : (0 : Int) ≤ (n : Int) := by omega
      have b0 : Hid (Below w.heap.size w w.drew) := (show Below w.heap.size w w.drew from ⟨rfl, rfl, rfl, Nat.le_refl _, fun _ _ => rfl⟩)
      clear hN hx hlt l1 l2 hcs hn hh hg ih
      go_enter Try.func21, Try.ntmps21
      go_wp2_with fail
      go_region_held3 (fun _ => True) (trivial) ((first | (go_at_call 21; go_fit (K1.out w.drew b0.out); rintro e w1 ⟨v1, rfl, z1, b1⟩; have B1 : Hid (Below w.heap.size w w1) := undrew b1; have Z1 : Hid (Zr w1 w.heap.size v1 (rsg (xs.take h))) := z1; clear z1 b1) | (go_at_call 21; go_fit (K2.out w1 B1.out); rintro e w2 ⟨v2, rfl, z2, b2⟩; have B2 : Hid (Below w.heap.size w w2) := B1.out.trans (b2.mono B1.out.size); have Y1 : Hid (Zr w2 w.heap.size v1 (rsg (xs.take h))) := Zr.below Z1.out b2; have Y2 : Hid (Zr w2 w.heap.size v2 (rsg (xs.drop h))) := Zr.mono z2 B1.out.size; clear z2 b2) | (go_at_call 7; go_fit (KO.out w2 v1 v2 Y1.out Y2.out); rintro e w3 ⟨v3, rfl, z3, b3⟩; have B3 : Hid (Below w.heap.size w w3) := B2.out.trans (b3.mono B2.out.size); have Z3 : Hid (Zr w3 w.heap.size v3 (rsg xs)) := Zr.mono z3 B2.out.size; clear z3 b3)))
      go_wp2
      go_ret
      exact ⟨_, rfl, Z3.out, B3.out⟩
end Go.Proofs.Ytnjhffbegaegnaa
