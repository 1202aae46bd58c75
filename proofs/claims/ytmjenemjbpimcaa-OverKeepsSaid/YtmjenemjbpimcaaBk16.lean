/- A bundle of texts. -/
import Derived.Test.YtmjenemjbpimcaaBk15
import Derived.Test.YtmjenemjbpimcaaBk02
import Derived.BigRegion
import Derived.Test.YtmjenemjbpimcaaBk14
/- A row of floats sorted in place: the exchange of two blocks, the turning of two. -/
namespace Go.Proofs.Ytmjenemjbpimcaa
open Go.RowKit

theorem seg_set {E : Type} (f : Nat → E) (j : Nat) (x : E) (n : Nat) : ∀ a, a ≤ j → seg (up f j x) a n = (seg f a n).set (j - a) x := by
  induction n with
  | zero => intro a h; rfl
  | succ n ih =>
    intro a h
    by_cases e : j = a
    · subst e
      rw [seg, seg, Nat.sub_self, List.set_cons_zero]
      congr 1
      · exact if_pos rfl
      · exact seg_congr _ _ _ _ _ fun i hi => if_neg (by omega)
    · obtain ⟨d, hd⟩ : ∃ d, j - a = d + 1 := ⟨j - a - 1, by omega⟩
      rw [seg, seg, ih (a + 1) (by omega), hd, List.set_cons_succ, show j - (a + 1) = d by omega]
      congr 1
      exact if_neg (by omega)
theorem seg_getD (f : Nat → Nat) (j : Nat) (n : Nat) : ∀ a, j < n → (seg f a n).getD j 0 = f (a + j) := by
  induction n generalizing j with
  | zero => intro a h; omega
  | succ n ih =>
    intro a h
    cases j with
    | zero => rfl
    | succ j =>
      have := ih j (a + 1) (by omega)
      rw [show a + 1 + j = a + (j + 1) by omega] at this
      exact this

/-- A row of floats of one's own. -/
def Rf (w : World) (S g c n : Nat) (f : Nat → Nat) : Prop := Fr w S (.slice (some ⟨g, 0, none⟩) n c) (seg f 0 n)
section
variable {w : World} {S g c n : Nat} {f : Nat → Nat}
theorem Rf.fr (h : Rf w S g c n f) : Fr w S (.slice (some ⟨g, 0, none⟩) (seg f 0 n).length c) (seg f 0 n) := by rw [seg_length]; exact h
theorem Rf.cell (h : Rf w S g c n f) (j : Nat) (hj : j < n) : w.cell? ⟨g, j, none⟩ = some (.float .f64 (f j)) := by
  rw [h.fr.cell j (by rw [seg_length]; exact hj), seg_getD f j n 0 hj, Nat.zero_add]
theorem Rf.froz (h : Rf w S g c n f) (j : Nat) : w.frozen? ⟨g, j, none⟩ = false := h.fr.froz j
theorem Rf.ge (h : Rf w S g c n f) : S ≤ g := h.fr.ge
theorem Rf.drew (h : Rf w S g c n f) (k : Nat) : Rf (w.drewN k) S g c n f := h
theorem Rf.set (h : Rf w S g c n f) (j x : Nat) : Rf (w.setCell ⟨g, j, none⟩ (.float .f64 x)) S g c n (up f j x) := by
  have := h.fr.set j x
  rw [seg_length] at this
  unfold Rf
  rw [seg_set f j x n 0 (Nat.zero_le _), Nat.sub_zero]
  exact this
/-- Two exchanged. -/
theorem Rf.swap (h : Rf w S g c n f) (i j : Nat) : Rf (((w.drewN 1).setCell ⟨g, i, none⟩ (.float .f64 (f j))).setCell ⟨g, j, none⟩ (.float .f64 (f i))) S g c n (up (up f i (f j)) j (f i)) := ((h.drew 1).set i (f j)).set j (f i)
theorem Rf.swap_below (h : Rf w S g c n f) (i j x y : Nat) : Below S w (((w.drewN 1).setCell ⟨g, i, none⟩ (.float .f64 x)).setCell ⟨g, j, none⟩ (.float .f64 y)) := ((below_drewN (Below.refl _ _) 1).setCell (p := ⟨g, i, none⟩) h.ge _).setCell (p := ⟨g, j, none⟩) h.ge _
end

set_option maxHeartbeats 2000000 in
set_option maxRecDepth 100000 in
theorem swapRange_any (S g c n a b m : Nat) (f : Nat → Nat) (cv : Value) (w : World) (h : Rf w S g c n f) (hab : a + m ≤ b) (hb : b + m ≤ n) (hn : n ≤ 4611686018427387904) :
    Calls Try.prog 106 #[.slice (some ⟨g, 0, none⟩) n c, .int .i64 (a : Int), .int .i64 (b : Int), .int .i64 (m : Int), cv] w fun r w' => r = .returned (.tuple #[]) ∧ Rf w' S g c n (swb f a b m) ∧ Below S w w' := by
  have hsf := @run_store_float Try.prog
  have H0 : Hid (Rf w S g c n f) := h
  have HZ : Hid (∀ i, a + i < b → up (up (swb f a b i) (a + i) (swb f a b i (b + i))) (b + i) (swb f a b i (a + i)) = swb f a b (i + 1)) := fun i hi => swb_succ f a b i hi
  have H00 : Hid (swb f a b 0 = f) := swb_zero f a b
  generalize hF : swb f a b = F at *
  clear h hF
  go_enter Try.func106, Try.ntmps106
  go_wp2
  go_loopw [10] (fun iv w' => ∃ (i : Nat), iv = .int .i64 (i : Int) ∧ i ≤ m ∧ Hid (Rf w' S g c n (F i)) ∧ Below S w w') (fun iv _ => m - (RowKit.intOf iv).toNat)
  case atStart => exact ⟨0, rfl, by omega, by show Rf _ _ _ _ _ _; rw [H00.out]; exact H0, Below.refl _ _⟩
  case round =>
    obtain ⟨i, rfl, hi, o, hbel⟩ := hrel
    by_cases hlt : i < m
    · have hii : (i : Int) < m := by omega
      obtain ⟨p, hp⟩ : ∃ p : Nat, p = a + i := ⟨_, rfl⟩
      obtain ⟨q, hq⟩ : ∃ q : Nat, q = b + i := ⟨_, rfl⟩
      have hpi : (a : Int) + (i : Int) = (p : Int) := by omega
      have hqi : (b : Int) + (i : Int) = (q : Int) := by omega
      have c1 := o.out.cell p (by omega)
      have c2 := o.out.cell q (by omega)
      have f1 := o.out.froz p
      have f2 := o.out.froz q
      have o2 := o.out.swap p q
      have b2 := hbel.trans (o.out.swap_below p q (F i q) (F i p))
      have e := HZ.out i (by omega)
      rw [← hp, ← hq] at e
      rw [e] at o2
      have O2 : Hid _ := o2
      have hpq : p < q ∧ q < n := by omega
      obtain ⟨hpq, hqn⟩ := hpq
      have HI : Hid (i + 1 ≤ m) := hlt
      clear o2 e hp hq
      generalize F i p = x at *
      generalize F i q = y at *
      go_wp2_with fail
      go_region
      go_wp2
      exact ⟨⟨i + 1, by go_num, HI, O2, b2⟩, by simp [RowKit.intOf]; omega⟩
    · have hii : ¬ (i : Int) < m := by omega
      have e : i = m := by omega
      have O2 : Hid (Rf wr S g c n (F m)) := by rw [← e]; exact o
      go_wp2
      go_end0
      exact ⟨rfl, O2.out, hbel⟩
end Go.Proofs.Ytmjenemjbpimcaa
/- A row of floats sorted in place: two blocks turned. -/
namespace Go.Proofs.Ytmjenemjbpimcaa
open Go.RowKit

set_option maxHeartbeats 2000000 in
set_option maxRecDepth 100000 in
theorem rotate_any (S g c n s m e : Nat) (f : Nat → Nat) (cv : Value) (w : World) (h : Rf w S g c n f) (hs : s < m) (he : m < e) (hn : e ≤ n) (hb : n ≤ 4611686018427387904) :
    Calls Try.prog 102 #[.slice (some ⟨g, 0, none⟩) n c, .int .i64 (s : Int), .int .i64 (m : Int), .int .i64 (e : Int), cv] w fun r w' => r = .returned (.tuple #[]) ∧ Rf w' S g c n (rot f s m e) ∧ Below S w w' := by
  have k1 := fun (a b l : Nat) (f' : Nat → Nat) (w1 : World) (h1 : Hid (Rf w1 S g c n f')) (hab : a + l ≤ b) (hbl : b + l ≤ n) => swapRange_any S g c n a b l f' cv w1 h1.out hab hbl hb
  have H0 : Hid (Rf w S g c n f) := h
  obtain ⟨T, hT⟩ : ∃ T, rot f s m e = T := ⟨_, rfl⟩
  rw [hT]
  have HT : Hid (rot f s m e = T) := hT
  clear h hT
  have HE : Hid (∀ (f' : Nat → Nat) i, i ≤ m → swb f' (m - i) m i = rot f' (m - i) m (m + i)) := fun f' i hi => rot_even f' m i hi
  have HL : Hid (∀ (f' : Nat → Nat) i j, i ≤ m → j < i → rot (swb f' (m - i) m j) (m - (i - j)) m (m + j) = rot f' (m - i) m (m + j)) := fun f' i j h1 h2 => rot_left f' m i j h1 h2
  have HR : Hid (∀ (f' : Nat → Nat) i j, i ≤ m → i < j → rot (swb f' (m - i) (m + j - i) i) (m - i) m (m + (j - i)) = rot f' (m - i) m (m + j)) := fun f' i j h1 h2 => rot_right f' m i j h1 h2
  go_enter Try.func102, Try.ntmps102
  go_wp2
  go_loopw [10, 11] (fun iv jv w' => ∃ (i j : Nat) (f' : Nat → Nat), iv = .int .i64 (i : Int) ∧ jv = .int .i64 (j : Int) ∧ 0 < i ∧ 0 < j ∧ i ≤ m ∧ m + j ≤ n ∧ Hid (Rf w' S g c n f') ∧ Hid (rot f' (m - i) m (m + j) = T) ∧ Below S w w') (fun iv jv _ => (RowKit.intOf iv).toNat + (RowKit.intOf jv).toNat)
  case atStart => exact ⟨m - s, e - m, f, by congr 1; omega, by congr 1; omega, by omega, by omega, by omega, by omega, H0, by show _ = _; rw [show m - (m - s) = s by omega, show m + (e - m) = e by omega]; exact HT.out, Below.refl _ _⟩
  case round =>
    obtain ⟨i, j, f', rfl, rfl, hi0, hj0, him, hjn, o, ht, hbel⟩ := hrel
    obtain ⟨p, hp⟩ : ∃ p : Nat, p = m - i := ⟨_, rfl⟩
    have hpi : (m : Int) - (i : Int) = (p : Int) := by omega
    have hpm : p + i = m := by omega
    have HP : Hid (p = m - i) := hp
    clear hp
    by_cases heq : i = j
    · subst heq
      have kk := fun w1 h1 => k1 p m i f' w1 h1 (by omega) (by omega)
      have hf : swb f' p m i = T := by rw [HP.out, HE.out f' i him]; exact ht.out
      rw [hf] at kk
      go_wp2_with fail
      go_fit (kk _ o)
      rintro r w2 ⟨rfl, ho, hb2⟩
      have O2 : Hid (Rf w2 S g c n T) := ho
      have B2 := hbel.trans hb2
      go_wp2
      go_end0
      exact ⟨rfl, O2.out, B2⟩
    · have hne : (i : Int) ≠ (j : Int) := by omega
      by_cases hgt : j < i
      · have hgi : (j : Int) < (i : Int) := by omega
        have kk := fun w1 h1 => k1 p m j f' w1 h1 (by omega) (by omega)
        have hf : Hid (rot (swb f' p m j) (m - (i - j)) m (m + j) = T) := by show _ = _; rw [HP.out, HL.out f' i j him hgt]; exact ht.out
        go_wp2_with fail
        go_fit (kk _ o)
        rintro r w2 ⟨rfl, ho, hb2⟩
        have O2 : Hid (Rf w2 S g c n (swb f' p m j)) := ho
        have B2 := hbel.trans hb2
        clear ho hb2
        go_wp2
        refine ⟨⟨i - j, j, _, by congr 1; omega, rfl, by omega, by omega, by omega, by omega, O2, hf, B2⟩, by simp [RowKit.intOf]; omega⟩
      · have hgi : ¬ (j : Int) < (i : Int) := by omega
        obtain ⟨q, hq⟩ : ∃ q : Nat, q = m + j - i := ⟨_, rfl⟩
        have hqi : (m : Int) + (j : Int) - (i : Int) = (q : Int) := by omega
        have hqm : q + i = m + j := by omega
        have HQ : Hid (q = m + j - i) := hq
        clear hq
        have kk := fun w1 h1 => k1 p q i f' w1 h1 (by omega) (by omega)
        have hf : Hid (rot (swb f' p q i) (m - i) m (m + (j - i)) = T) := by show _ = _; rw [HP.out, HQ.out, HR.out f' i j him (by omega)]; exact ht.out
        go_wp2_with fail
        go_fit (kk _ o)
        rintro r w2 ⟨rfl, ho, hb2⟩
        have O2 : Hid (Rf w2 S g c n (swb f' p q i)) := ho
        have B2 := hbel.trans hb2
        clear ho hb2
        go_wp2
        refine ⟨⟨i, j - i, _, rfl, by congr 1; omega, by omega, by omega, by omega, by omega, O2, hf, B2⟩, by simp [RowKit.intOf]; omega⟩
end Go.Proofs.Ytmjenemjbpimcaa
/- A row of floats sorted in place: by insertion. -/
namespace Go.Proofs.Ytmjenemjbpimcaa
open Go.RowKit

abbrev cv67 : Value := .func (.func 80) #[] #[]
theorem cmS_neg (a b : Int) (h : a < b) : cmS a b = -1 := if_pos h
theorem cmS_pos (a b : Int) (h : ¬ a < b) : ∃ c, cmS a b = c ∧ 0 ≤ c := by
  unfold cmS; rw [if_neg h]; split
  · exact ⟨1, rfl, by decide⟩
  · exact ⟨0, rfl, by decide⟩

set_option maxHeartbeats 2000000 in
set_option maxRecDepth 100000 in
theorem insSort_any (S g c n a b : Nat) (f : Nat → Nat) (w : World) (h : Rf w S g c n f) (hab : a ≤ b) (hbn : b ≤ n) (hn : n ≤ 4611686018427387904) :
    Calls Try.prog 97 #[.slice (some ⟨g, 0, none⟩) n c, .int .i64 (a : Int), .int .i64 (b : Int), cv67] w fun r w' => r = .returned (.tuple #[]) ∧ (∃ f', Rf w' S g c n f' ∧ Stb ky f f' a b ∧ Srt ky f' a b) ∧ Below S w w' := by
  have hsf := @run_store_float Try.prog
  have H0 : Hid (Rf w S g c n f) := h
  clear h
  go_enter Try.func97, Try.ntmps97
  go_wp2
  go_loopw [8, 9] (fun iv _ w' => ∃ (i : Nat) (f1 : Nat → Nat), iv = .int .i64 (i : Int) ∧ a + 1 ≤ i ∧ (i ≤ b ∨ i = a + 1) ∧ Hid (Rf w' S g c n f1) ∧ Hid (Stb ky f f1 a b) ∧ Hid (Srt ky f1 a i) ∧ Below S w w') (fun iv _ _ => b + 1 - (RowKit.intOf iv).toNat)
  case atStart => exact ⟨a + 1, f, by congr 1, by omega, .inr rfl, H0, Stb.refl _ _ _, Srt.one _ _ _ (Nat.le_refl _), Below.refl _ _⟩
  case round =>
    obtain ⟨i, f1, rfl, hi1, hi2, o, st, so, hbel⟩ := hrel
    by_cases hlt : i < b
    · have hii : (i : Int) < b := by omega
      have HI : Hid (i + 1 ≤ b) := hlt
      have HIN : Hid (∀ j, a ≤ j → j ≤ i → (∀ x, j ≤ x → x < i → ky (f1 i) < ky (f1 x)) → (j = a ∨ ky (f1 (j - 1)) ≤ ky (f1 i)) → Stb ky f (rot f1 j i (i + 1)) a b ∧ Srt ky (rot f1 j i (i + 1)) a (i + 1)) := fun j h1 h2 h3 h4 =>
        ⟨st.out.trans ((rot_stb f1 j i (i + 1) h2 (by omega) fun x y hx1 hx2 hy1 hy2 => by
          have := h3 x hx1 hx2
          have e : y = i := by omega
          subst e
          omega).wide h1 (by omega) (by omega)), ins_srt f1 a i j so.out h1 h2 h3 h4⟩
      go_wp2
      go_loopw [9] (fun jv w' => ∃ (j : Nat), jv = .int .i64 (j : Int) ∧ a ≤ j ∧ j ≤ i ∧ Hid (Rf w' S g c n (rot f1 j i (i + 1))) ∧ Hid (∀ x, j ≤ x → x < i → ky (f1 i) < ky (f1 x)) ∧ Below S w w') (fun jv _ => (RowKit.intOf jv).toNat)
      case atStart => exact ⟨i, rfl, by omega, Nat.le_refl _, by show Rf _ _ _ _ _ _; rw [rot_empty f1 i i (i + 1) (.inl rfl) (Nat.le_refl _) (by omega)]; exact o, fun x h1 h2 => by omega, hbel⟩
      case round =>
        obtain ⟨j, rfl, hj1, hj2, o2, hk, hbel2⟩ := hrel
        by_cases hja : j = a
        · have hd : decide (a < j) = false := decide_eq_false (by omega)
          obtain ⟨s1, s2⟩ := HIN.out j hj1 hj2 hk.out (.inl hja)
          have S1 : Hid _ := s1
          have S2 : Hid _ := s2
          clear s1 s2 hja
          go_wp2_with fail
          go_quiet (fail)
          have O2 : Hid (Rf (wr.drewN nq) S g c n (rot f1 j i (i + 1))) := o2
          have B2 := below_drewN hbel2 nq
          clear o2 hbel2
          generalize wr.drewN nq = W2 at *
          go_wp2
          exact ⟨⟨i + 1, _, by go_num, by omega, .inl HI, O2, S1, S2, B2⟩, by simp [RowKit.intOf]; omega⟩
        · have hgt : (a : Int) < (j : Int) := by omega
          obtain ⟨p, hp⟩ : ∃ p : Nat, p = j - 1 := ⟨_, rfl⟩
          have hpj : p + 1 = j := by omega
          have hpi : (j : Int) - 1 = (p : Int) := by omega
          have HP : Hid (p = j - 1) := hp
          clear hp
          have c1 := o2.out.cell j (by omega)
          have c2 := o2.out.cell p (by omega)
          have v1 : rot f1 j i (i + 1) j = f1 i := by rw [rot_lo _ _ _ _ _ (Nat.le_refl _) (by omega)]; congr 1; omega
          have v2 : rot f1 j i (i + 1) p = f1 p := rot_out _ _ _ _ _ (by omega) hj2 (by omega)
          rw [v1] at c1
          rw [v2] at c2
          have kO := order_any (f1 i) (f1 p)
          have hjn : j < n ∧ p < n := by omega
          obtain ⟨hjn, hpn⟩ := hjn
          by_cases hcm : ky (f1 i) < ky (f1 p)
          · rw [cmS_neg _ _ hcm] at kO
            have K3 : Hid (∀ x, p ≤ x → x < i → ky (f1 i) < ky (f1 x)) := fun x h1 h2 => by
              by_cases hx : x = p
              · subst hx; exact hcm
              · exact hk.out x (by omega) h2
            have e3 : up (up (rot f1 j i (i + 1)) j (f1 p)) p (f1 i) = rot f1 p i (i + 1) := by
              have := rot_down f1 j i (by omega) hj2
              rw [← HP.out, v1, v2] at this
              exact this
            have HS : Hid (∀ W, Rf W S g c n (rot f1 j i (i + 1)) → Rf (((W.drewN 1).setCell ⟨g, j, none⟩ (.float .f64 (f1 p))).setCell ⟨g, p, none⟩ (.float .f64 (f1 i))) S g c n (rot f1 p i (i + 1)) ∧ Below S W (((W.drewN 1).setCell ⟨g, j, none⟩ (.float .f64 (f1 p))).setCell ⟨g, p, none⟩ (.float .f64 (f1 i)))) := fun W hW => by
              have o3 := hW.swap j p
              rw [v1, v2, e3] at o3
              exact ⟨o3, hW.swap_below j p _ _⟩
            clear v1 v2 hcm e3
            generalize f1 i = x at *
            generalize f1 p = y at *
            go_wp2_with fail
            go_quiet (exact Calls.quiet_of_same (kO _))
            have o3 : Rf (wr.drewN nq) S g c n (rot f1 j i (i + 1)) := o2.out
            have b3 := below_drewN hbel2 nq
            have d1 : (wr.drewN nq).cell? ⟨g, j, none⟩ = some (.float .f64 x) := c1
            have d2 : (wr.drewN nq).cell? ⟨g, p, none⟩ = some (.float .f64 y) := c2
            generalize wr.drewN nq = W2 at *
            obtain ⟨o4, b4⟩ := HS.out W2 o3
            have fz1 := o3.froz j
            have fz2 := o3.froz p
            have O4 : Hid _ := o4
            have b5 := b3.trans b4
            clear o3 b3 c1 c2 o4 b4 kO o2 hbel2 HS
            go_wp2_with fail
            go_region
            go_wp2
            exact ⟨⟨p, by go_num, by omega, by omega, O4, K3, b5⟩, by simp [RowKit.intOf]; omega⟩
          · obtain ⟨cc, hcc, hc0⟩ := cmS_pos _ _ hcm
            rw [hcc] at kO
            obtain ⟨s1, s2⟩ := HIN.out j hj1 hj2 hk.out (.inr (by rw [← HP.out]; omega))
            have S1 : Hid _ := s1
            have S2 : Hid _ := s2
            have hnl : decide (cc < 0) = false := decide_eq_false (by omega)
            clear s1 s2 hcc v1 v2 hcm
            generalize f1 i = x at *
            generalize f1 p = y at *
            go_wp2_with fail
            go_quiet (exact Calls.quiet_of_same (kO _))
            have O2 : Hid (Rf (wr.drewN nq) S g c n (rot f1 j i (i + 1))) := o2
            have B2 := below_drewN hbel2 nq
            clear o2 hbel2 c1 c2
            generalize wr.drewN nq = W2 at *
            go_wp2
            exact ⟨⟨i + 1, _, by go_num, by omega, .inl HI, O2, S1, S2, B2⟩, by simp [RowKit.intOf]; omega⟩
    · have hii : ¬ (i : Int) < b := by omega
      have S2 : Hid (Srt ky f1 a b) := fun x y h1 h2 h3 => so.out x y h1 h2 (by omega)
      go_wp2
      go_end0
      exact ⟨rfl, ⟨_, o.out, st.out, S2.out⟩, hbel⟩
end Go.Proofs.Ytmjenemjbpimcaa
/- A row of floats sorted in place: one thing merged with a sorted row. -/
namespace Go.Proofs.Ytmjenemjbpimcaa
open Go.RowKit

/-- What a merge leaves. -/
def Mg (S g c n a b : Nat) (f : Nat → Nat) (w : World) (r : Ending) (w' : World) : Prop := r = .returned (.tuple #[]) ∧ (∃ f', Rf w' S g c n f' ∧ Stb ky f f' a b ∧ Srt ky f' a b) ∧ Below S w w'

set_option maxHeartbeats 2000000 in
set_option maxRecDepth 100000 in
theorem sym1_any (S g c n a b : Nat) (f : Nat → Nat) (w : World) (h : Rf w S g c n f) (hmb : a + 1 < b) (hbn : b ≤ n) (hn : n ≤ 4611686018427387904) (h2 : Srt ky f (a + 1) b) :
    Calls Try.prog 98 #[.slice (some ⟨g, 0, none⟩) n c, .int .i64 (a : Int), .int .i64 ((a + 1 : Nat) : Int), .int .i64 (b : Int), cv67] w (Mg S g c n a b f w) := by
  have hsf := @run_store_float Try.prog
  have H0 : Hid (Rf w S g c n f) := h
  have H2 : Hid (Srt ky f (a + 1) b) := h2
  have hone : (((a + 1 : Nat) : Int) - (a : Int) == 1) = true := by simp; omega
  obtain ⟨m, hm⟩ : ∃ m, a + 1 = m := ⟨_, rfl⟩
  rw [hm] at hone ⊢
  rw [hm] at H2
  have HM : Hid (a + 1 = m) := hm
  have ham : a < m ∧ m < b := by omega
  obtain ⟨ham, hmb'⟩ := ham
  have HU : Hid (∀ e, a < e → up (up (rot f a (a + 1) e) (e - 1) (rot f a (a + 1) e e)) e (rot f a (a + 1) e (e - 1)) = rot f a (a + 1) (e + 1)) := fun e he => rot_up f a e he
  clear h h2 hm hmb
  go_enter Try.func98, Try.ntmps98
  go_wp2
  go_loopw [10, 11] (fun iv jv w' => ∃ (i j : Nat), iv = .int .i64 (i : Int) ∧ jv = .int .i64 (j : Int) ∧ m ≤ i ∧ i ≤ j ∧ j ≤ b ∧ Hid ((i = m ∨ ky (f (i - 1)) < ky (f a)) ∧ (j = b ∨ ky (f a) ≤ ky (f j))) ∧ Hid (Rf w' S g c n f) ∧ Below S w w') (fun iv jv _ => (RowKit.intOf jv).toNat - (RowKit.intOf iv).toNat)
  case atStart => exact ⟨m, b, rfl, rfl, by omega, by omega, by omega, ⟨.inl rfl, .inl rfl⟩, H0, Below.refl _ _⟩
  case round =>
    obtain ⟨i, j, rfl, rfl, hi1, hij, hjb, hk, o, hbel⟩ := hrel
    by_cases hlt : i < j
    · have hii : (i : Int) < j := by omega
      obtain ⟨hh, hhe⟩ : ∃ hh : Nat, hh = (i + j) / 2 := ⟨_, rfl⟩
      have hh1 : i ≤ hh ∧ hh < j := by omega
      have hhi : ((i : Int) + (j : Int)) / 2 = (hh : Int) := by omega
      obtain ⟨hh1, hh2⟩ := hh1
      clear hhe
      have c1 := o.out.cell hh (by omega)
      have c2 := o.out.cell a (by omega)
      have kO := order_any (f hh) (f a)
      have hhn : hh < n ∧ a < n := by omega
      obtain ⟨hhn, han⟩ := hhn
      by_cases hcm : ky (f hh) < ky (f a)
      · rw [cmS_neg _ _ hcm] at kO
        have K2 : Hid ((hh + 1 = m ∨ ky (f (hh + 1 - 1)) < ky (f a)) ∧ (j = b ∨ ky (f a) ≤ ky (f j))) := ⟨.inr hcm, hk.out.2⟩
        clear hcm
        go_wp2_with fail
        go_quiet (exact Calls.quiet_of_same (kO _))
        have O2 : Hid (Rf (wr.drewN nq) S g c n f) := o
        have B2 := below_drewN hbel nq
        clear o hbel c1 c2
        generalize wr.drewN nq = W2 at *
        go_wp2
        exact ⟨⟨hh + 1, j, by go_num, rfl, by omega, by omega, by omega, K2, O2, B2⟩, by simp [RowKit.intOf]; omega⟩
      · obtain ⟨cc, hcc, hc0⟩ := cmS_pos _ _ hcm
        rw [hcc] at kO
        have hnl : decide (cc < 0) = false := decide_eq_false (by omega)
        have K2 : Hid ((i = m ∨ ky (f (i - 1)) < ky (f a)) ∧ (hh = b ∨ ky (f a) ≤ ky (f hh))) := ⟨hk.out.1, .inr (by omega)⟩
        clear hcm hcc
        go_wp2_with fail
        go_quiet (exact Calls.quiet_of_same (kO _))
        have O2 : Hid (Rf (wr.drewN nq) S g c n f) := o
        have B2 := below_drewN hbel nq
        clear o hbel c1 c2
        generalize wr.drewN nq = W2 at *
        go_wp2
        exact ⟨⟨i, hh, rfl, rfl, by omega, by omega, by omega, K2, O2, B2⟩, by simp [RowKit.intOf]; omega⟩
    · have hii : ¬ (i : Int) < j := by omega
      obtain rfl : i = j := by omega
      have HS : Hid (Stb ky f (rot f a (a + 1) i) a b ∧ Srt ky (rot f a (a + 1) i) a b) := by
        have hm := HM.out
        have hall : ∀ x, a + 1 ≤ x → x < i → ky (f x) < ky (f a) := fun x h1 h2 => by
          rcases hk.out.1 with h | h
          · omega
          · have := H2.out.le x (i - 1) (by omega) (by omega) (by omega)
            omega
        refine ⟨(rot_stb f a (a + 1) i (by omega) (by omega) fun x y hx1 hx2 hy1 hy2 => ?_).wide (Nat.le_refl _) (by omega) hjb, ins_srt1 f a b i (by rw [hm]; exact H2.out) (by omega) hjb hall hk.out.2⟩
        obtain rfl : x = a := by omega
        have := hall y hy1 hy2
        omega
      clear hk
      go_wp2
      go_loopw [13] (fun kv w' => ∃ (k : Nat), kv = .int .i64 (k : Int) ∧ a ≤ k ∧ k + 1 ≤ i ∧ Hid (Rf w' S g c n (rot f a (a + 1) (k + 1))) ∧ Below S w w') (fun kv _ => i - (RowKit.intOf kv).toNat)
      case atStart => exact ⟨a, rfl, by omega, by omega, by show Rf _ _ _ _ _ _; rw [rot_empty f a (a + 1) (a + 1) (.inr rfl) (by omega) (by omega)]; exact o, hbel⟩
      case round =>
        obtain ⟨k, rfl, hk1, hk2, o2, hbel2⟩ := hrel
        by_cases hke : k + 1 < i
        · have hki : (k : Int) < (i : Int) - 1 := by omega
          obtain ⟨q, hq⟩ : ∃ q : Nat, q = k + 1 := ⟨_, rfl⟩
          have hqi : (k : Int) + 1 = (q : Int) := by omega
          have e3 := HU.out q (by omega)
          rw [show q - 1 = k by omega] at e3
          have o3 := o2.out
          rw [← hq] at o3
          have hqn : k < q ∧ q < n := by omega
          have HQ : Hid (q = k + 1) := hq
          have HI : Hid (q + 1 ≤ i) := by show _ ≤ _; omega
          have HA : Hid (a ≤ q) := by show _ ≤ _; omega
          have HD : Hid (i - q < i - k) := by show _ < _; omega
          obtain ⟨hkq, hqn⟩ := hqn
          clear hq
          have c1 := o3.cell k (by omega)
          have c2 := o3.cell q hqn
          have f1 := o3.froz k
          have f2 := o3.froz q
          have o4 := o3.swap k q
          have b4 := hbel2.trans (o3.swap_below k q (rot f a (a + 1) q q) (rot f a (a + 1) q k))
          rw [e3] at o4
          have O4 : Hid _ := o4
          clear o3 o4 e3 o2 hbel2
          generalize rot f a (a + 1) q k = x at *
          generalize rot f a (a + 1) q q = y at *
          go_wp2_with fail
          go_region
          go_wp2
          exact ⟨⟨q, by go_num, HA.out, HI.out, O4, b4⟩, by simp [RowKit.intOf]; exact HD.out⟩
        · have hki : ¬ (k : Int) < (i : Int) - 1 := by omega
          have O2 : Hid (Rf wr S g c n (rot f a (a + 1) i)) := by
            show Rf _ _ _ _ _ _
            have e : i = k + 1 := by omega
            rw [e]; exact o2
          go_wp2
          go_end0
          exact ⟨rfl, ⟨_, O2.out, HS.out.1, HS.out.2⟩, hbel2⟩
end Go.Proofs.Ytmjenemjbpimcaa
