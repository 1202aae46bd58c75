/- A bundle of texts. -/
import Derived.Test.YtmjenemjbpimcabGreatBc25
import Derived.Test.YtmjenemjbpimcabGreatBc20
import Derived.Deep.CutRange
import Derived.Deep.RegionHeld3
/- Reference functions (from stage 6). -/
namespace Go.Proofs.YtmjenemjbpimcabGreat
open Go.RowKit

set_option maxHeartbeats 400000 in
theorem rBits_any (x : Nat) (w : World) : Calls Tryz.prog 96 #[.float .f64 x] w fun r w' => r = .returned (.int .u64 (nb x : Int)) ∧ w' = w := by
  have k1 := callBits x
  obtain ⟨d, hd⟩ : ∃ d : Nat, d = x % 2 ^ 63 * 2 := ⟨_, rfl⟩
  have hs : IntKind.u64.wrap ((x : Int) * 2) = (d : Int) := by
    rw [IntKind.wrap_u64]
    omega
  have hnb : nb x = if 18437736874454810624 < d then 9221120237041090561 else x := by
    unfold nb
    by_cases h : nanB x = true
    · rw [if_pos h, if_pos (by have := (nan_iff x).1 h; omega)]
    · rw [if_neg h, if_neg (fun h2 => h ((nan_iff x).2 (by omega)))]
  rw [hnb]
  clear hd hnb
  by_cases h : 18437736874454810624 < d
  · rw [if_pos h]
    have hi : (18437736874454810624 : Int) < (d : Int) := by omega
    go_enter Tryz.func96, Tryz.ntmps96
    go_wp2
    go_ret
    exact ⟨rfl, rfl⟩
  · rw [if_neg h]
    have hi : ¬ (18437736874454810624 : Int) < (d : Int) := by omega
    go_enter Tryz.func96, Tryz.ntmps96
    go_wp2
    go_ret
    exact ⟨rfl, rfl⟩
set_option maxHeartbeats 400000 in
theorem place_any (x : Nat) (hx : x < 18446744073709551616) (w : World) : Calls Tryz.prog 126 #[.float .f64 x] w fun r w' => r = .returned (.int .i64 (ky x)) ∧ w' = w := by
  have k1 := rBits_any x
  cases hn : nanB x with
  | true =>
    rw [ky_nan x hn]
    rw [show nb x = 9221120237041090561 from if_pos hn] at k1
    go_enter Tryz.func126, Tryz.ntmps126
    go_wp2_with fail
    go_fit (k1 _)
    rintro r w ⟨rfl, rfl⟩
    go_wp2
    go_ret
    exact ⟨rfl, rfl⟩
  | false =>
    have hnn : ¬ 0x7ff0000000000000 < x % 2 ^ 63 := fun h => by
      have := (nan_iff x).2 h
      rw [hn] at this
      cases this
    rw [show nb x = x from if_neg (by rw [hn]; decide)] at k1
    have hk : ky x = sv (sgn x) (x % 2 ^ 63) := if_neg (by rw [hn]; decide)
    have hne : ((x : Int) == 9221120237041090561) = false := beq_eq_false_iff_ne.2 (by omega)
    obtain ⟨r, hr⟩ : ∃ r : Nat, r = x % 2 ^ 63 := ⟨_, rfl⟩
    have hr2 : r ≤ 9218868437227405312 := by omega
    by_cases hs : x < 2 ^ 63
    · have e : ky x = (x : Int) := by
        have h1 : sgn x = false := by unfold sgn; rw [Nat.div_eq_of_lt hs]; rfl
        rw [hk, h1]; unfold sv
        rw [if_neg (by decide), Nat.mod_eq_of_lt hs]
      rw [e]
      have hd : (x : Int) / 9223372036854775808 = 0 := by omega
      have hx2 : x ≤ 9218868437227405312 := by omega
      clear e hk hr hnn
      go_enter Tryz.func126, Tryz.ntmps126
      go_wp2_with fail
      go_fit (k1 _)
      rintro r w ⟨rfl, rfl⟩
      go_wp2
      go_ret
      exact ⟨rfl, rfl⟩
    · have e : ky x = -(r : Int) := by
        have h1 : sgn x = true := by
          unfold sgn
          have : x / 2 ^ 63 = 1 := by omega
          rw [this]; rfl
        rw [hk, h1, ← hr]; unfold sv
        rw [if_pos rfl]
      rw [e]
      have hd : (x : Int) / 9223372036854775808 = 1 := by omega
      obtain ⟨d, hdd⟩ : ∃ d : Nat, d = r * 2 := ⟨_, rfl⟩
      have hw : IntKind.u64.wrap ((x : Int) * 2) = (d : Int) := by
        rw [IntKind.wrap_u64]
        omega
      have hd2 : (d : Int) / 2 = (r : Int) := by omega
      clear e hk hr hnn hdd
      go_enter Tryz.func126, Tryz.ntmps126
      go_wp2_with fail
      go_fit (k1 _)
      rintro r w ⟨rfl, rfl⟩
      go_wp2
      go_ret
      exact ⟨rfl, rfl⟩
set_option maxHeartbeats 400000 in
theorem rorder_any (x y : Nat) (hx : x < 18446744073709551616) (hy : y < 18446744073709551616) (w : World) : Calls Tryz.prog 115 #[.float .f64 x, .float .f64 y] w fun r w' => r = .returned (.int .i64 (cmS (ky x) (ky y))) ∧ w' = w := by
  have k1 := place_any x hx
  have k2 := place_any y hy
  generalize ky x = a at *
  generalize ky y = b at *
  rcases Int.lt_trichotomy a b with h | h | h
  · have e : cmS a b = -1 := if_pos h
    rw [e]
    clear e
    go_enter Tryz.func115, Tryz.ntmps115
    go_wp2_with fail
    go_fit (k1 _)
    rintro r w ⟨rfl, rfl⟩
    go_wp2_with fail
    go_fit (k2 _)
    rintro r w ⟨rfl, rfl⟩
    go_wp2
    go_ret
    exact ⟨rfl, rfl⟩
  · subst h
    have e : cmS a a = 0 := by unfold cmS; rw [if_neg (by omega), if_neg (by omega)]
    rw [e]
    clear e
    go_enter Tryz.func115, Tryz.ntmps115
    go_wp2_with fail
    go_fit (k1 _)
    rintro r w ⟨rfl, rfl⟩
    go_wp2_with fail
    go_fit (k2 _)
    rintro r w ⟨rfl, rfl⟩
    go_wp2
    go_ret
    exact ⟨rfl, rfl⟩
  · have e : cmS a b = 1 := by unfold cmS; rw [if_neg (by omega), if_pos h]
    rw [e]
    clear e
    have h' : ¬ a < b := by omega
    go_enter Tryz.func115, Tryz.ntmps115
    go_wp2_with fail
    go_fit (k1 _)
    rintro r w ⟨rfl, rfl⟩
    go_wp2_with fail
    go_fit (k2 _)
    rintro r w ⟨rfl, rfl⟩
    go_wp2
    go_ret
    exact ⟨rfl, rfl⟩
def Rs (N : Nat) : Prop := ∀ (g o c : Nat) (xs : List Nat) (w : World), xs.length ≤ N → xs ≠ [] → xs.length ≤ c → c ≤ 9223372036854775807 → g < w.heap.size → FAt w g o xs → Wd xs → xs.length * 8 ≤ 140737488355328 → Calls Tryz.prog 94 #[.slice (some ⟨g, o, none⟩) xs.length c] w (So w xs)
set_option maxHeartbeats 4000000 in
set_option maxRecDepth 100000 in
theorem rsorted_two (g o c : Nat) (xs : List Nat) (w : World) (N : Nat) (ih : Rs N) (hN : xs.length ≤ N + 1) (h2 : 2 ≤ xs.length) (hc : xs.length ≤ c) (hcm : c ≤ 9223372036854775807) (hg : g < w.heap.size) (hat : FAt w g o xs) (hw : Wd xs) (hb : xs.length * 8 ≤ 140737488355328) :
    Calls Tryz.prog 94 #[.slice (some ⟨g, o, none⟩) xs.length c] w (So w xs) := by
  obtain ⟨h, hh⟩ : ∃ h : Nat, h = xs.length / 2 := ⟨_, rfl⟩
  have hq : (xs.length : Int).tdiv 2 = (h : Int) := by rw [Int.tdiv_eq_ediv_of_nonneg (by omega)]; omega
  have hge : ¬ (xs.length : Int) < 2 := by omega
  have hh1 : 1 ≤ h ∧ h < xs.length := by omega
  have hl1 : (xs.take h).length = h := by simp; omega
  have hl2 : (xs.drop h).length = xs.length - h := by simp
  have kA : Hid (∀ w1, Below w.heap.size w w1 → Calls Tryz.prog 94 #[.slice (some ⟨g, o, none⟩) h c] w1 (So w1 (xs.take h))) := fun w1 hb1 => by
    have := ih g o c (xs.take h) w1 (by omega) (fun e => by rw [e] at hl1; simp at hl1; omega) (by omega) hcm (Nat.lt_of_lt_of_le hg hb1.size) (fun j hj => (hb1.cell (p := ⟨g, o + j, none⟩) hg).trans (hat.take h j hj)) (fun j hj => by
      rw [hl1] at hj
      have := hw j (by omega)
      simpa [List.getD, List.getElem?_take, hj] using this) (by omega)
    rw [hl1] at this
    exact this
  have kB : Hid (∀ w1, Below w.heap.size w w1 → Calls Tryz.prog 94 #[.slice (some ⟨g, o + h, none⟩) (xs.length - h) (c - h)] w1 (So w1 (xs.drop h))) := fun w1 hb1 => by
    have := ih g (o + h) (c - h) (xs.drop h) w1 (by omega) (fun e => by rw [e] at hl2; simp at hl2; omega) (by omega) (by omega) (Nat.lt_of_lt_of_le hg hb1.size) (fun j hj => (hb1.cell (p := ⟨g, o + h + j, none⟩) hg).trans (hat.drop h j hj)) (fun j hj => by
      rw [hl2] at hj
      have := hw (h + j) (by omega)
      simpa [List.getD, List.getElem?_drop] using this) (by omega)
    rw [hl2] at this
    exact this
  have HX : Hid (xs.take h ++ xs.drop h = xs) := List.take_append_drop h xs
  obtain ⟨h1a, h1b⟩ := hh1
  have hhc : h ≤ c := by omega
  clear hat hw ih hh hl1 hl2
  generalize hL : xs.length = L at *
  have HL : Hid (xs.length = L) := hL
  clear hL
  have stp : Hid (∀ w1 w2, Below w.heap.size w w1 → Below w1.heap.size w1 w2 → Below w.heap.size w w2) := fun w1 w2 h1 h2 => h1.trans (h2.mono h1.size)
  have blD : ∀ {w1 : World}, Below w.heap.size w w1 → Below w.heap.size w w1.drew := fun h => h.drew
  have hwr : IntKind.i64.wrap (h : Int) = (h : Int) := by rw [IntKind.wrap_i64]; omega
  have hch : ¬ c = h := by omega
  have ib1 : (0 : Int) ≤ (h : Int) := by omega
  have ib2 : (h : Int) ≤ (c : Int) := by omega
  have ib3 : (h : Int) ≤ (L : Int) := by omega
  have ib4 : (L : Int) - (h : Int) = ((L - h : Nat) : Int) := by omega
  go_enter Tryz.func94, Tryz.ntmps94
  go_wp2_with fail
  go_region_held3 (fun w' => Below w.heap.size w w') (first | assumption | exact blD (Below.refl _ _) | exact Below.refl _ _) (first | (go_at_call 94; go_fit (kA.out _ (by assumption)); rintro e w5 ⟨v1, ys1, rfl, f1, s1, u1, d1, l1, hb5⟩; have q5 : Below w.heap.size w w5 := stp.out _ _ (by assumption) hb5) | (go_at_call 94; go_fit (kB.out _ (by assumption)); rintro e w6 ⟨v2, ys2, rfl, f2, s2, u2, d2, l2, hb6⟩; have q6 : Below w.heap.size w w6 := stp.out _ _ (by assumption) hb6))
  have f1' := f1.below hb6
  obtain ⟨a1, c1, rfl, m1⟩ := f1'.fm
  obtain ⟨a2, c2, rfl, m2⟩ := f2.fm
  have k1 : ys1.length ≤ c1 ∧ c1 ≤ 9223372036854775807 := by
    rcases f1'.2 with ⟨e, h0⟩ | ⟨_, cap, _, e, _, _, h1, h2, _⟩
    · have := Value.slice.inj e; omega
    · have := Value.slice.inj e; unfold maxLen at h2; omega
  have k2 : ys2.length ≤ c2 ∧ c2 ≤ 9223372036854775807 := by
    rcases f2.2 with ⟨e, h0⟩ | ⟨_, cap, _, e, _, _, h1, h2, _⟩
    · have := Value.slice.inj e; omega
    · have := Value.slice.inj e; unfold maxLen at h2; omega
  have MM : Hid (Ms xs [] ys1 ys2 L) := by
    have h4 : ys1.length + ys2.length = L := by
      have h1 := l1
      have h2 := l2
      have h3 := HL.out
      simp at h1 h2
      omega
    refine ⟨?_, List.Pairwise.nil, u1, u2, (fun x hx => by cases hx), (fun j hj => by simp at hj), d1, d2, by simpa using h4⟩
    have := s1.append s2
    rw [HX.out] at this
    simpa using this
  obtain ⟨S1, hS1⟩ : ∃ S1, S1 = w6.heap.size := ⟨_, rfl⟩
  have HS1 : Hid (S1 = w6.heap.size) := hS1
  have M1 : Hid (Fm w6 a1 ys1) := m1
  have M2 : Hid (Fm w6 a2 ys2) := m2
  have Q6 : Hid (Below w.heap.size w w6) := q6
  have HB : Hid (L * 8 ≤ 140737488355328) := hb
  clear f1 f1' f2 s1 s2 u1 u2 d1 d2 l1 l2 hb5 hb6 q5 m1 m2 hS1 q6 kA kB
  generalize hn1 : ys1.length = n1 at *
  generalize hn2 : ys2.length = n2 at *
  have N1 : Hid (ys1.length = n1) := hn1
  have N2 : Hid (ys2.length = n2) := hn2
  clear hn1 hn2
  go_wp2
  go_loopw [3, 4, 5] (fun av bv ov w' => ∃ (a1 a2 : Option Addr) (ra rb out : List Nat) (na nb c1 c2 : Nat), av = .slice a1 na c1 ∧ bv = .slice a2 nb c2 ∧ na ≤ c1 ∧ nb ≤ c2 ∧ c1 ≤ 9223372036854775807 ∧ c2 ≤ 9223372036854775807 ∧ Hid (ra.length = na) ∧ Hid (rb.length = nb) ∧ Hid (Fm w6 a1 ra) ∧ Hid (Fm w6 a2 rb) ∧ Hid (Ms xs out ra rb L) ∧ Hid (Fr w' S1 ov out) ∧ Below S1 w6 w') (fun av bv _ _ => slen av + slen bv)
  case atStart => exact ⟨a1, a2, ys1, ys2, [], n1, n2, c1, c2, rfl, rfl, k1.1, k2.1, k1.2, k2.2, N1, N2, M1, M2, MM, Fr.nil _ _, by rw [HS1.out]; exact Below.refl _ _⟩
  case round =>
    clear k1 k2 M1 M2 MM N1 N2
    obtain ⟨b1, b2, ra, rb, out, na, nb, e1, e2, rfl, rfl, he1, he2, he3, he4, hl1, hl2, m1, m2, mm, oo, hbel⟩ := hrel
    have HG : Hid (S1 ≤ wr.heap.size) := by show _ ≤ _; have := hbel.size; rw [← HS1.out] at this; exact this
    by_cases ha : na = 0
    · by_cases hb0 : nb = 0
      · subst ha hb0
        have FIN : Hid (Sim ky xs out ∧ Up ky out ∧ Wd out ∧ out.length = xs.length) := by
          obtain ⟨h1, h2, _, _, _, h6, _, _, h9⟩ := mm.out
          have e1 : ra = [] := List.eq_nil_of_length_eq_zero hl1.out
          have e2 : rb = [] := List.eq_nil_of_length_eq_zero hl2.out
          subst e1 e2
          have h10 := HL.out
          exact ⟨by simpa using h1, h2, h6, by simp at h9; omega⟩
        have FB : Hid (Below w.heap.size w wr) := Q6.out.trans (by
          have := hbel.mono (B' := w.heap.size) (by rw [HS1.out]; exact Q6.out.size)
          exact this)
        have FR : Hid (w.heap.size ≤ S1) := by show _ ≤ _; rw [HS1.out]; exact Q6.out.size
        go_wp2
        go_ret
        exact ⟨_, out, rfl, oo.out.low FR.out, FIN.out.1, FIN.out.2.1, FIN.out.2.2.1, FIN.out.2.2.2, FB.out⟩
      · subst ha
        have e0 : ra = [] := List.eq_nil_of_length_eq_zero hl1.out
        subst e0
        obtain ⟨y, rb', hry⟩ : ∃ y rb', rb = y :: rb' := by
          cases rb with
          | nil => exact absurd hl2.out.symm hb0
          | cons u v => exact ⟨u, v, rfl⟩
        subst hry
        obtain ⟨g2, o2, rfl, hg2, haty⟩ : ∃ g2 o2, b2 = some ⟨g2, o2, none⟩ ∧ g2 < w6.heap.size ∧ FAt w6 g2 o2 (y :: rb') := by
          rcases m2.out with h0 | ⟨g2, o2, h1, h2, h3⟩
          · cases h0
          · exact ⟨g2, o2, h1, h2, h3⟩
        have cy : wr.cell? ⟨g2, o2, none⟩ = some (.float .f64 y) := (hbel.cell (p := ⟨g2, o2, none⟩) (by rw [HS1.out]; exact hg2)).trans haty.head
        have MTy : Hid (Fm w6 (some ⟨g2, o2 + 1, none⟩) rb') := Fm.tail hg2 haty
        have LTy : Hid (rb'.length = nb - 1) := by show _ = _; have := hl2.out; simp at this; omega
        have hpy : (0 : Int) < (nb : Int) := by omega
        have hqy : (1 : Int) ≤ (nb : Int) := by omega
        have hdy : decide (0 < nb) = true := decide_eq_true (by omega)
        have hzy : (nb == 0) = false := beq_eq_false_iff_ne.2 hb0
        have hzyi : ((nb : Int) == 0) = false := beq_eq_false_iff_ne.2 (by omega)
        have hny : (nb : Int) ≠ 0 := by omega
        clear haty hg2
        have MS : Hid (Ms xs (out ++ [y]) [] rb' L) := mm.out.right fun x hx => by cases hx
        have HOL : Hid ((out.length + 1) * 8 ≤ 140737488355328) := by
          have h1 := MS.out.2.2.2.2.2.2.2.2
          have h2 := HB.out
          simp at h1
          show _ ≤ _
          omega
        by_cases hcap : e2 = 1
        · have MT : Hid (Fm w6 (some ⟨g2, o2, none⟩) rb') := by
            left
            refine List.eq_nil_of_length_eq_zero ?_
            rw [LTy.out]
            omega
          go_wp2_with fail
          go_quiet (fail)
          have cz : (wr.drewN nq).cell? ⟨g2, o2, none⟩ = some (.float .f64 y) := cy
          have oz := oo.out.drew nq
          have bz := below_drewN hbel nq
          have gz : S1 ≤ (wr.drewN nq).heap.size := HG.out
          clear cy oo hbel HG
          generalize wr.drewN nq = W2 at *
          obtain ⟨v', w', r1, o3, b3⟩ := append_f W2 S1 _ out y gz HOL.out oz
          have O3 : Hid _ := o3
          have B3 := bz.trans b3
          clear o3 oz bz gz b3
          go_wp2_with (at_builtin; refine wpList_append_run rfl (.tmp 58) (.tmp 62) 33 33 rfl _ _ rfl rfl r1 ?_)
          exact ⟨⟨_, _, [], rb', _, 0, nb - 1, e1, 0, rfl, rfl, by omega, by omega, by omega, by omega, hl1, LTy, m1, MT, MS, O3, B3⟩, by simp [slen]; omega⟩
        · have MT := MTy
          go_wp2_with fail
          go_quiet (fail)
          have cz : (wr.drewN nq).cell? ⟨g2, o2, none⟩ = some (.float .f64 y) := cy
          have oz := oo.out.drew nq
          have bz := below_drewN hbel nq
          have gz : S1 ≤ (wr.drewN nq).heap.size := HG.out
          clear cy oo hbel HG
          generalize wr.drewN nq = W2 at *
          obtain ⟨v', w', r1, o3, b3⟩ := append_f W2 S1 _ out y gz HOL.out oz
          have O3 : Hid _ := o3
          have B3 := bz.trans b3
          clear o3 oz bz gz b3
          go_wp2_with (at_builtin; refine wpList_append_run rfl (.tmp 58) (.tmp 62) 33 33 rfl _ _ rfl rfl r1 ?_)
          exact ⟨⟨_, _, [], rb', _, 0, nb - 1, e1, e2 - 1, rfl, rfl, by omega, by omega, by omega, by omega, hl1, LTy, m1, MT, MS, O3, B3⟩, by simp [slen]; omega⟩
    · by_cases hb0 : nb = 0
      · subst hb0
        have e0 : rb = [] := List.eq_nil_of_length_eq_zero hl2.out
        subst e0
        obtain ⟨x, ra', hrx⟩ : ∃ x ra', ra = x :: ra' := by
          cases ra with
          | nil => exact absurd hl1.out.symm ha
          | cons u v => exact ⟨u, v, rfl⟩
        subst hrx
        obtain ⟨g1, o1, rfl, hg1, hatx⟩ : ∃ g1 o1, b1 = some ⟨g1, o1, none⟩ ∧ g1 < w6.heap.size ∧ FAt w6 g1 o1 (x :: ra') := by
          rcases m1.out with h0 | ⟨g1, o1, h1, h2, h3⟩
          · cases h0
          · exact ⟨g1, o1, h1, h2, h3⟩
        have cx : wr.cell? ⟨g1, o1, none⟩ = some (.float .f64 x) := (hbel.cell (p := ⟨g1, o1, none⟩) (by rw [HS1.out]; exact hg1)).trans hatx.head
        have MTx : Hid (Fm w6 (some ⟨g1, o1 + 1, none⟩) ra') := Fm.tail hg1 hatx
        have LTx : Hid (ra'.length = na - 1) := by show _ = _; have := hl1.out; simp at this; omega
        have hpx : (0 : Int) < (na : Int) := by omega
        have hqx : (1 : Int) ≤ (na : Int) := by omega
        have hdx : decide (0 < na) = true := decide_eq_true (by omega)
        have hzx : (na == 0) = false := beq_eq_false_iff_ne.2 ha
        have hzxi : ((na : Int) == 0) = false := beq_eq_false_iff_ne.2 (by omega)
        have hnx : (na : Int) ≠ 0 := by omega
        clear hatx hg1
        have MS : Hid (Ms xs (out ++ [x]) ra' [] L) := mm.out.left fun y hy => by cases hy
        have HOL : Hid ((out.length + 1) * 8 ≤ 140737488355328) := by
          have h1 := MS.out.2.2.2.2.2.2.2.2
          have h2 := HB.out
          simp at h1
          show _ ≤ _
          omega
        by_cases hcap : e1 = 1
        · have MT : Hid (Fm w6 (some ⟨g1, o1, none⟩) ra') := by
            left
            refine List.eq_nil_of_length_eq_zero ?_
            rw [LTx.out]
            omega
          go_wp2_with fail
          go_quiet (fail)
          have cz : (wr.drewN nq).cell? ⟨g1, o1, none⟩ = some (.float .f64 x) := cx
          have oz := oo.out.drew nq
          have bz := below_drewN hbel nq
          have gz : S1 ≤ (wr.drewN nq).heap.size := HG.out
          clear cx oo hbel HG
          generalize wr.drewN nq = W2 at *
          obtain ⟨v', w', r1, o3, b3⟩ := append_f W2 S1 _ out x gz HOL.out oz
          have O3 : Hid _ := o3
          have B3 := bz.trans b3
          clear o3 oz bz gz b3
          go_wp2_with (at_builtin; refine wpList_append_run rfl (.tmp 50) (.tmp 54) 33 33 rfl _ _ rfl rfl r1 ?_)
          exact ⟨⟨_, _, ra', [], _, na - 1, 0, 0, e2, rfl, rfl, by omega, by omega, by omega, by omega, LTx, hl2, MT, m2, MS, O3, B3⟩, by simp [slen]; omega⟩
        · have MT := MTx
          go_wp2_with fail
          go_quiet (fail)
          have cz : (wr.drewN nq).cell? ⟨g1, o1, none⟩ = some (.float .f64 x) := cx
          have oz := oo.out.drew nq
          have bz := below_drewN hbel nq
          have gz : S1 ≤ (wr.drewN nq).heap.size := HG.out
          clear cx oo hbel HG
          generalize wr.drewN nq = W2 at *
          obtain ⟨v', w', r1, o3, b3⟩ := append_f W2 S1 _ out x gz HOL.out oz
          have O3 : Hid _ := o3
          have B3 := bz.trans b3
          clear o3 oz bz gz b3
          go_wp2_with (at_builtin; refine wpList_append_run rfl (.tmp 50) (.tmp 54) 33 33 rfl _ _ rfl rfl r1 ?_)
          exact ⟨⟨_, _, ra', [], _, na - 1, 0, e1 - 1, e2, rfl, rfl, by omega, by omega, by omega, by omega, LTx, hl2, MT, m2, MS, O3, B3⟩, by simp [slen]; omega⟩
      · obtain ⟨x, ra', hrx⟩ : ∃ x ra', ra = x :: ra' := by
          cases ra with
          | nil => exact absurd hl1.out.symm ha
          | cons u v => exact ⟨u, v, rfl⟩
        subst hrx
        obtain ⟨g1, o1, rfl, hg1, hatx⟩ : ∃ g1 o1, b1 = some ⟨g1, o1, none⟩ ∧ g1 < w6.heap.size ∧ FAt w6 g1 o1 (x :: ra') := by
          rcases m1.out with h0 | ⟨g1, o1, h1, h2, h3⟩
          · cases h0
          · exact ⟨g1, o1, h1, h2, h3⟩
        have cx : wr.cell? ⟨g1, o1, none⟩ = some (.float .f64 x) := (hbel.cell (p := ⟨g1, o1, none⟩) (by rw [HS1.out]; exact hg1)).trans hatx.head
        have MTx : Hid (Fm w6 (some ⟨g1, o1 + 1, none⟩) ra') := Fm.tail hg1 hatx
        have LTx : Hid (ra'.length = na - 1) := by show _ = _; have := hl1.out; simp at this; omega
        have hpx : (0 : Int) < (na : Int) := by omega
        have hqx : (1 : Int) ≤ (na : Int) := by omega
        have hdx : decide (0 < na) = true := decide_eq_true (by omega)
        have hzx : (na == 0) = false := beq_eq_false_iff_ne.2 ha
        have hzxi : ((na : Int) == 0) = false := beq_eq_false_iff_ne.2 (by omega)
        have hnx : (na : Int) ≠ 0 := by omega
        clear hatx hg1
        obtain ⟨y, rb', hry⟩ : ∃ y rb', rb = y :: rb' := by
          cases rb with
          | nil => exact absurd hl2.out.symm hb0
          | cons u v => exact ⟨u, v, rfl⟩
        subst hry
        obtain ⟨g2, o2, rfl, hg2, haty⟩ : ∃ g2 o2, b2 = some ⟨g2, o2, none⟩ ∧ g2 < w6.heap.size ∧ FAt w6 g2 o2 (y :: rb') := by
          rcases m2.out with h0 | ⟨g2, o2, h1, h2, h3⟩
          · cases h0
          · exact ⟨g2, o2, h1, h2, h3⟩
        have cy : wr.cell? ⟨g2, o2, none⟩ = some (.float .f64 y) := (hbel.cell (p := ⟨g2, o2, none⟩) (by rw [HS1.out]; exact hg2)).trans haty.head
        have MTy : Hid (Fm w6 (some ⟨g2, o2 + 1, none⟩) rb') := Fm.tail hg2 haty
        have LTy : Hid (rb'.length = nb - 1) := by show _ = _; have := hl2.out; simp at this; omega
        have hpy : (0 : Int) < (nb : Int) := by omega
        have hqy : (1 : Int) ≤ (nb : Int) := by omega
        have hdy : decide (0 < nb) = true := decide_eq_true (by omega)
        have hzy : (nb == 0) = false := beq_eq_false_iff_ne.2 hb0
        have hzyi : ((nb : Int) == 0) = false := beq_eq_false_iff_ne.2 (by omega)
        have hny : (nb : Int) ≠ 0 := by omega
        clear haty hg2
        have hxl : x < 18446744073709551616 := mm.out.2.2.2.2.2.2.1.head
        have hyl : y < 18446744073709551616 := mm.out.2.2.2.2.2.2.2.1.head
        have kO := rorder_any x y hxl hyl
        by_cases hxy : ky x ≤ ky y
        · have MS : Hid (Ms xs (out ++ [x]) ra' (y :: rb') L) := mm.out.left fun u hu => by
            rcases List.mem_cons.1 hu with rfl | hu
            · exact hxy
            · have := (List.pairwise_cons.1 mm.out.2.2.2.1).1 u hu
              omega
          have HOL : Hid ((out.length + 1) * 8 ≤ 140737488355328) := by
            have h1 := MS.out.2.2.2.2.2.2.2.2
            have h2 := HB.out
            simp at h1
            show _ ≤ _
            omega
          obtain ⟨cc, hcc, hc0⟩ : ∃ cc, cmS (ky x) (ky y) = cc ∧ cc ≤ 0 := by
            unfold cmS
            by_cases h1 : ky x < ky y
            · rw [if_pos h1]; exact ⟨_, rfl, by decide⟩
            · rw [if_neg h1, if_neg (by omega)]; exact ⟨_, rfl, by decide⟩
          rw [hcc] at kO
          have hcd : decide (cc ≤ 0) = true := decide_eq_true hc0
          clear hcc hxy
          by_cases hcap : e1 = 1
          · have MT : Hid (Fm w6 (some ⟨g1, o1, none⟩) ra') := by
              left
              refine List.eq_nil_of_length_eq_zero ?_
              rw [LTx.out]
              omega
            go_wp2_with fail
            go_quiet (exact Calls.quiet_of_same (kO _))
            have cz : (wr.drewN nq).cell? ⟨g1, o1, none⟩ = some (.float .f64 x) := cx
            have oz := oo.out.drew nq
            have bz := below_drewN hbel nq
            have gz : S1 ≤ (wr.drewN nq).heap.size := HG.out
            clear cx cy oo hbel HG
            generalize wr.drewN nq = W2 at *
            obtain ⟨v', w', r1, o3, b3⟩ := append_f W2 S1 _ out x gz HOL.out oz
            have O3 : Hid _ := o3
            have B3 := bz.trans b3
            clear o3 oz bz gz b3
            go_wp2_with (at_builtin; refine wpList_append_run rfl (.tmp 50) (.tmp 54) 33 33 rfl _ _ rfl rfl r1 ?_)
            exact ⟨⟨_, _, ra', y :: rb', _, na - 1, nb, 0, e2, rfl, rfl, by omega, by omega, by omega, by omega, LTx, hl2, MT, m2, MS, O3, B3⟩, by simp [slen]; omega⟩
          · have MT := MTx
            go_wp2_with fail
            go_quiet (exact Calls.quiet_of_same (kO _))
            have cz : (wr.drewN nq).cell? ⟨g1, o1, none⟩ = some (.float .f64 x) := cx
            have oz := oo.out.drew nq
            have bz := below_drewN hbel nq
            have gz : S1 ≤ (wr.drewN nq).heap.size := HG.out
            clear cx cy oo hbel HG
            generalize wr.drewN nq = W2 at *
            obtain ⟨v', w', r1, o3, b3⟩ := append_f W2 S1 _ out x gz HOL.out oz
            have O3 : Hid _ := o3
            have B3 := bz.trans b3
            clear o3 oz bz gz b3
            go_wp2_with (at_builtin; refine wpList_append_run rfl (.tmp 50) (.tmp 54) 33 33 rfl _ _ rfl rfl r1 ?_)
            exact ⟨⟨_, _, ra', y :: rb', _, na - 1, nb, e1 - 1, e2, rfl, rfl, by omega, by omega, by omega, by omega, LTx, hl2, MT, m2, MS, O3, B3⟩, by simp [slen]; omega⟩
        · have MS : Hid (Ms xs (out ++ [y]) (x :: ra') rb' L) := mm.out.right fun u hu => by
            rcases List.mem_cons.1 hu with rfl | hu
            · omega
            · have := (List.pairwise_cons.1 mm.out.2.2.1).1 u hu
              omega
          have HOL : Hid ((out.length + 1) * 8 ≤ 140737488355328) := by
            have h1 := MS.out.2.2.2.2.2.2.2.2
            have h2 := HB.out
            simp at h1
            show _ ≤ _
            omega
          have hcc : cmS (ky x) (ky y) = 1 := by unfold cmS; rw [if_neg (by omega), if_pos (by omega)]
          rw [hcc] at kO
          clear hcc hxy
          by_cases hcap : e2 = 1
          · have MT : Hid (Fm w6 (some ⟨g2, o2, none⟩) rb') := by
              left
              refine List.eq_nil_of_length_eq_zero ?_
              rw [LTy.out]
              omega
            go_wp2_with fail
            go_quiet (exact Calls.quiet_of_same (kO _))
            have cz : (wr.drewN nq).cell? ⟨g2, o2, none⟩ = some (.float .f64 y) := cy
            have oz := oo.out.drew nq
            have bz := below_drewN hbel nq
            have gz : S1 ≤ (wr.drewN nq).heap.size := HG.out
            clear cx cy oo hbel HG
            generalize wr.drewN nq = W2 at *
            obtain ⟨v', w', r1, o3, b3⟩ := append_f W2 S1 _ out y gz HOL.out oz
            have O3 : Hid _ := o3
            have B3 := bz.trans b3
            clear o3 oz bz gz b3
            go_wp2_with (at_builtin; refine wpList_append_run rfl (.tmp 58) (.tmp 62) 33 33 rfl _ _ rfl rfl r1 ?_)
            exact ⟨⟨_, _, x :: ra', rb', _, na, nb - 1, e1, 0, rfl, rfl, by omega, by omega, by omega, by omega, hl1, LTy, m1, MT, MS, O3, B3⟩, by simp [slen]; omega⟩
          · have MT := MTy
            go_wp2_with fail
            go_quiet (exact Calls.quiet_of_same (kO _))
            have cz : (wr.drewN nq).cell? ⟨g2, o2, none⟩ = some (.float .f64 y) := cy
            have oz := oo.out.drew nq
            have bz := below_drewN hbel nq
            have gz : S1 ≤ (wr.drewN nq).heap.size := HG.out
            clear cx cy oo hbel HG
            generalize wr.drewN nq = W2 at *
            obtain ⟨v', w', r1, o3, b3⟩ := append_f W2 S1 _ out y gz HOL.out oz
            have O3 : Hid _ := o3
            have B3 := bz.trans b3
            clear o3 oz bz gz b3
            go_wp2_with (at_builtin; refine wpList_append_run rfl (.tmp 58) (.tmp 62) 33 33 rfl _ _ rfl rfl r1 ?_)
            exact ⟨⟨_, _, x :: ra', rb', _, na, nb - 1, e1, e2 - 1, rfl, rfl, by omega, by omega, by omega, by omega, hl1, LTy, m1, MT, MS, O3, B3⟩, by simp [slen]; omega⟩

set_option maxHeartbeats 1000000 in
set_option maxRecDepth 100000 in
theorem rsorted_one (g o c : Nat) (x : Nat) (w : World) (hg : g < w.heap.size) (hat : FAt w g o [x]) (hw : Wd [x]) :
    Calls Tryz.prog 94 #[.slice (some ⟨g, o, none⟩) 1 c] w (So w [x]) := by
  obtain ⟨v', w1, r1, o1, b1⟩ := copy_all w g o c [x] hg hat (by simp)
  have r2 : (Builtin.append_ #[33, 33] 33 #[.slice (some ⟨w.heap.size, 0, none⟩) 0 0, .slice (some ⟨g, o, none⟩) 1 c]).run Tryz.prog (w.alloc (.cells #[] 25)) = .ok v' w1 := r1
  have O1 : Hid (Fr w1 w.heap.size v' [x]) := o1
  have HW : Hid (Wd [x]) := hw
  clear hat o1 r1 hw
  go_enter Tryz.func94, Tryz.ntmps94
  go_wp2_with (at_builtin; refine wpList_append_run rfl _ _ 33 33 rfl _ _ rfl rfl r2 ?_)
  go_wp2
  go_ret
  exact ⟨_, [x], rfl, O1.out, Sim.refl _, List.pairwise_singleton _ _, HW.out, rfl, b1⟩
theorem rsorted_any : ∀ N, Rs N := by
  intro N
  induction N with
  | zero => intro g o c xs w h1 h2; exact absurd (List.eq_nil_of_length_eq_zero (by omega)) h2
  | succ N ih =>
    intro g o c xs w h1 h2 h3 h4 h5 h6 h7 h8
    match xs, h2 with
    | [x], _ => exact rsorted_one g o c x w h5 h6 h7
    | x :: y :: l, _ => exact rsorted_two g o c (x :: y :: l) w N ih h1 (by simp) h3 h4 h5 h6 h7 h8
set_option maxHeartbeats 4000000 in
set_option maxRecDepth 100000 in
theorem rquantile_part (q g o c : Nat) (xs : List Nat) (w0 : World) (N y z K M : Nat) (hp : Pt q) (hg : g < w0.heap.size) (hat : FAt w0 g o xs) (hw : Wd xs) (hl : xs.length * 8 ≤ 140737488355328) (hc : xs.length ≤ c) (hc2 : c ≤ 9223372036854775807) (hN : N + 1 = xs.length) (hq : Qp q N y z K M) :
    Calls Tryz.prog 40 #[.float .f64 q, .slice (some ⟨g, o, none⟩) xs.length c] w0 (RB w0 (quV (isrt xs) K M z)) := by
  obtain ⟨h1, h2, h3, h4, h5, h6⟩ := hq
  have r1 : ∀ t w, (binOp .mul t (.float .f64 q) (.float .f64 (iw (N : Int)))).run Tryz.prog w = .ok (.float .f64 y) w := fun t w => run_float_arith w .mul t .f64 _ _ _ h1
  have r2 : ∀ t w, (binOp .sub t (.float .f64 y) (.float .f64 (flr y))).run Tryz.prog w = .ok (.float .f64 z) w := fun t w => run_float_arith w .sub t .f64 _ _ _ h5
  have r3 : ∀ w, (convert 25 3 (.float .f64 (flr y))).run Tryz.prog w = .ok (.int .i64 (K : Int)) w := fun w => run_convert_float_int w 25 3 .f64 .i64 _ _ (by rw [Tryz.underlying25]; rfl) Tryz.underlying3 h3
  have kF := floor_num y h2
  have hcn := cvN
  have hKn : K < xs.length ∧ M < xs.length := by omega
  obtain ⟨hKn, hMn⟩ := hKn
  have hni : (xs.length : Int) - 1 = (N : Int) := by omega
  obtain ⟨K1, hK1⟩ : ∃ K1 : Nat, K1 = K + 1 := ⟨_, rfl⟩
  have hki : (K : Int) + 1 = (K1 : Int) := by omega
  have hif : (if (N : Int) < (K1 : Int) then (N : Int) else (K1 : Int)) = (M : Int) := by split <;> omega
  have hif2 : (if N < K1 then (N : Int) else (K1 : Int)) = (M : Int) := by split <;> omega
  have hKi : (K : Int) < (xs.length : Int) := by omega
  have hMi : (M : Int) < (xs.length : Int) := by omega
  clear hK1
  have HLK : Hid ((isrt xs).getD K 0 < 18446744073709551616) := isrt_wd xs hw K hKn
  clear h1 h2 h3 h5 h6
  generalize flr y = kw at *
  have hl8 : xs.length * 8 ≤ 140737488355328 := hl
  have k1 := bad_any q
  rw [hp.1] at k1
  have hne : xs ≠ [] := fun e => by rw [e] at hN; simp at hN
  have hne0 : ((xs.length : Int) == 0) = false := beq_eq_false_iff_ne.2 (by omega)
  have k2 := rsorted_any xs.length g o c xs w0 (Nat.le_refl _) hne hc hc2 hg hat hw hl
  have o0 : (FloatKind.f64.format.order q 0 == some .lt) = false := by
    rw [ord0 q hp.1]
    refine beq_eq_false_iff_ne.2 fun h => ?_
    have h1 := Int.compare_eq_lt.1 (Option.some.inj h)
    have := hp.2.1
    omega
  have o1 : (FloatKind.f64.format.order q 4607182418800017408 == some .gt) = false := by
    rw [ord1 q hp.1]
    refine beq_eq_false_iff_ne.2 fun h => ?_
    have h1 := Int.compare_eq_gt.1 (Option.some.inj h)
    have := hp.2.2
    omega
  clear hat hg hw hp
  go_enter Tryz.func40, Tryz.ntmps40
  go_wp2_with fail
  go_fit (k1 _)
  rintro r w ⟨rfl, rfl⟩
  go_wp2_with fail
  go_fit k2
  rintro r W2 ⟨v, ys, rfl, fr, s1, u1, d1, l1, b2⟩
  have hS : ys = isrt xs := isrt_one s1 u1
  have hne2 : ys ≠ [] := fun e => by rw [e] at l1; simp at l1; omega
  obtain ⟨g1, c1, rfl, rf2⟩ := fr.rf hne2
  rw [l1] at rf2
  rw [l1]
  have B2 : Hid (Below w.heap.size w W2) := b2
  have hget : ∀ j, j < xs.length → ys.getD j 0 = (isrt xs).getD j 0 := fun j hj => by rw [hS]
  obtain ⟨xK, hxK⟩ : ∃ xK, xK = (isrt xs).getD K 0 := ⟨_, rfl⟩
  obtain ⟨xM, hxM⟩ : ∃ xM, xM = (isrt xs).getD M 0 := ⟨_, rfl⟩
  have HK : Hid ((isrt xs).getD K 0 = xK) := hxK.symm
  have HM : Hid ((isrt xs).getD M 0 = xM) := hxM.symm
  have CK : Hid (W2.cell? ⟨g1, K, none⟩ = some (.float .f64 xK)) := by show _ = _; rw [rf2.cell K hKn, hget K hKn, ← hxK]
  have CM : Hid (W2.cell? ⟨g1, M, none⟩ = some (.float .f64 xM)) := by show _ = _; rw [rf2.cell M hMn, hget M hMn, ← hxM]
  rw [← hxK] at HLK
  clear rf2 s1 u1 d1 l1 fr b2 hS hget hxK hxM k2 hne hne2
  generalize xs.length = L at *
  have cK : W2.cell? ⟨g1, K, none⟩ = some (.float .f64 xK) := CK.out
  have cM : W2.cell? ⟨g1, M, none⟩ = some (.float .f64 xM) := CM.out
  by_cases hz : FloatKind.f64.format.order z 0 = some .eq
  · have HV : Hid (quV (isrt xs) K M z = cl xK) := by show _ = _; unfold quV; rw [if_pos hz, HK.out]
    go_wp2_with fail
    go_fit (kF _)
    rintro r w ⟨rfl, rfl⟩
    go_wp2
    go_ret
    exact ⟨_, rfl, B2.out, HLK.out, HV.out.symm⟩
  · have HV : Hid (quV (isrt xs) K M z = fb .add (fb .mul (cl xK) (fb .sub (some 4607182418800017408) (cl z))) (fb .mul (cl xM) (cl z))) := by show _ = _; unfold quV; rw [if_neg hz, HK.out, HM.out]
    have hz' : (FloatKind.f64.format.order z 0 == some .eq) = false := beq_eq_false_iff_ne.2 hz
    clear hz
    go_wp2_with fail
    go_fit (kF _)
    rintro r w ⟨rfl, rfl⟩
    clear r1
    go_wp2_with fail
    refine wp_region_loose (by kernel_rfl) (by kernel_rfl) ?_
    iterate 5 (refine wpLoose_quiet rfl rfl ?_; intro KK hKK; go_big_quiet_op; go_big_quiet_on)
    refine wpLoose_float .sub (.inr (.inl rfl)) 25 25 _ _ rfl rfl _ _ rfl rfl (by rintro _ k' ⟨n', rfl⟩; first | exact ⟨n' + k', World.drewN_drewN _ _ _⟩ | exact ⟨n' + k', by simp [Nat.add_assoc]⟩) ?_
    intro z1 hz1l hz1
    go_simp
    refine wpLoose_float .mul (.inr (.inr (.inl rfl))) 25 25 _ _ rfl rfl _ _ rfl rfl (by rintro _ k' ⟨n', rfl⟩; first | exact ⟨n' + k', World.drewN_drewN _ _ _⟩ | exact ⟨n' + k', by simp [Nat.add_assoc]⟩) ?_
    intro z2 hz2l hz2
    go_simp
    iterate 5 (refine wpLoose_quiet rfl rfl ?_; intro KK hKK; go_big_quiet_op; go_big_quiet_on)
    refine wpLoose_float .mul (.inr (.inr (.inl rfl))) 25 25 _ _ rfl rfl _ _ rfl rfl (by rintro _ k' ⟨n', rfl⟩; first | exact ⟨n' + k', World.drewN_drewN _ _ _⟩ | exact ⟨n' + k', by simp [Nat.add_assoc]⟩) ?_
    intro z3 hz3l hz3
    go_simp
    refine wpLoose_float .add (.inl rfl) 25 25 _ _ rfl rfl _ _ rfl rfl (by rintro _ k' ⟨n', rfl⟩; first | exact ⟨n' + k', World.drewN_drewN _ _ _⟩ | exact ⟨n' + k', by simp [Nat.add_assoc]⟩) ?_
    intro z4 hz4l hz4
    go_simp
    iterate 1 (refine wpLoose_quiet rfl rfl ?_; intro KK hKK; go_big_quiet_op; go_big_quiet_on)
    refine wpLoose_nil ?_
    intro n
    have HE : Hid (cl z4 = quV (isrt xs) K M z) := by
      show _ = _
      rw [HV.out, hz4, hz3, hz2, hz1, cl_lit 4607182418800017408 (by decide)]
    have B3 : Hid _ := below_drewN B2.out n
    clear hz4 hz3 hz2 hz1
    go_wp2
    go_ret
    exact ⟨_, rfl, B3.out, hz4l, HE.out⟩

set_option maxHeartbeats 1000000 in
theorem rquantile_no (q : Nat) (cc : Option Nat) (h : byP q cc) (v : Value) (n : Nat) (a : Option Addr) (c : Nat) (hv : v = .slice a n c) (hn : n ≠ 0) (w : World) : Calls Tryz.prog 40 #[.float .f64 q, v] w (RB w cc) := by
  subst hv
  have hne0 : ((n : Int) == 0) = false := beq_eq_false_iff_ne.2 (by omega)
  have k1 := bad_any q
  rcases h with ⟨hn, rfl⟩ | ⟨hn, h, rfl⟩ | ⟨hn, h, rfl⟩
  · rw [hn] at k1
    go_enter Tryz.func40, Tryz.ntmps40
    go_wp2_with fail
    go_fit (k1 _)
    rintro r w ⟨rfl, rfl⟩
    go_wp2_with fail
    go_fit (rnan_any _)
    rintro r w ⟨rfl, rfl⟩
    go_wp2
    go_ret
    exact ⟨_, rfl, Below.refl _ _, by decide, cl_theNaN⟩
  · rw [hn] at k1
    have h0 := ord0 q hn
    rw [Int.compare_eq_lt.2 h] at h0
    clear h
    go_enter Tryz.func40, Tryz.ntmps40
    go_wp2_with fail
    go_fit (k1 _)
    rintro r w ⟨rfl, rfl⟩
    go_wp2_with fail
    go_fit (rinfm_any _)
    rintro r w ⟨rfl, rfl⟩
    go_wp2
    go_ret
    exact ⟨_, rfl, Below.refl _ _, by decide, cl_lit _ (by decide)⟩
  · rw [hn] at k1
    have h0 := ord0 q hn
    have h1 := ord1 q hn
    rw [Int.compare_eq_gt.2 (show (0 : Int) < ky q by omega)] at h0
    rw [Int.compare_eq_gt.2 h] at h1
    clear h
    go_enter Tryz.func40, Tryz.ntmps40
    go_wp2_with fail
    go_fit (k1 _)
    rintro r w ⟨rfl, rfl⟩
    go_wp2_with fail
    go_fit (rinf1_any _)
    rintro r w ⟨rfl, rfl⟩
    go_wp2
    go_ret
    exact ⟨_, rfl, Below.refl _ _, by decide, cl_lit _ (by decide)⟩
set_option maxHeartbeats 1000000 in
theorem rquantile_nil (q : Nat) (a : Option Addr) (c : Nat) (w : World) : Calls Tryz.prog 40 #[.float .f64 q, .slice a 0 c] w (RB w none) := by
  go_enter Tryz.func40, Tryz.ntmps40
  go_wp2_with fail
  go_fit (rnan_any _)
  rintro r w ⟨rfl, rfl⟩
  go_wp2
  go_ret
  exact ⟨_, rfl, Below.refl _ _, by decide, cl_theNaN⟩
/-- Both sides answer alike. -/
theorem quantile_both (q : Nat) (a : Option Addr) (c : Nat) (xs : List Nat) (w0 : World) (hf : Fm w0 a xs) (hw : Wd xs) (hl : xs.length * 8 ≤ 140737488355328) (hc : xs.length ≤ c) (hc2 : c ≤ 9223372036854775807) :
    ∃ C, (∀ w, Below w0.heap.size w0 w → Calls Tryz.prog 68 #[.float .f64 q, .slice a xs.length c] w (RB w C)) ∧ (∀ w, Below w0.heap.size w0 w → Calls Tryz.prog 40 #[.float .f64 q, .slice a xs.length c] w (RB w C)) := by
  rcases hf with rfl | ⟨g, o, rfl, hg, hat⟩
  · exact ⟨none, fun w _ => quantile_nil q a c w, fun w _ => rquantile_nil q a c w⟩
  · by_cases h0 : xs.length = 0
    · rw [h0]
      exact ⟨none, fun w _ => quantile_nil q _ c w, fun w _ => rquantile_nil q _ c w⟩
    · rcases part_or q with hp | ⟨cc, h⟩
      · obtain ⟨y, z, K, M, hq⟩ := qp_ex q (xs.length - 1) hp (by omega)
        refine ⟨_, fun w hb => quantile_part q g o c xs w (xs.length - 1) y z K M hp (Nat.lt_of_lt_of_le hg hb.size) (fun j hj => (hb.cell (p := ⟨g, o + j, none⟩) hg).trans (hat j hj)) hw hl (by omega) hq,
          fun w hb => rquantile_part q g o c xs w (xs.length - 1) y z K M hp (Nat.lt_of_lt_of_le hg hb.size) (fun j hj => (hb.cell (p := ⟨g, o + j, none⟩) hg).trans (hat j hj)) hw hl hc hc2 (by omega) hq⟩
      · exact ⟨cc, fun w _ => quantile_no q cc h _ xs.length _ c rfl h0 w, fun w _ => rquantile_no q cc h _ xs.length _ c rfl h0 w⟩
end Go.Proofs.YtmjenemjbpimcabGreat
