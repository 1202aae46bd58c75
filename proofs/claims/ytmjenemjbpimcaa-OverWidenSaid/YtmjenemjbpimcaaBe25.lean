/- A bundle of texts. -/
import Derived.Test.YtmjenemjbpimcaaBe24
import Derived.Test.YtmjenemjbpimcaaBe21
import Derived.Test.YtmjenemjbpimcaaBe14
/- OverWiden: what Extrapolate answers, held against the growth. -/
namespace Go.Proofs.Ytmjenemjbpimcaa
open Go.RowKit Ieee

theorem gtB_key (a t : Nat) (ha : nanB a = false) (ht : nanB t = false) : gtB (some a) (some t) = decide (ky t < ky a) := by
  have h : fo (some a) (some t) = some (compare (ky a) (ky t)) := key_order a t ha ht
  unfold gtB
  rw [h]
  rcases Int.lt_trichotomy (ky a) (ky t) with h3 | h3 | h3
  · have h4 : ¬ ky t < ky a := by omega
    simp [compare, compareOfLessAndEq, h3, h4]
  · simp [compare, compareOfLessAndEq, h3]
  · have h4 : ¬ ky a < ky t := by omega
    have h5 : ¬ ky a = ky t := by omega
    simp [compare, compareOfLessAndEq, h3, h4, h5]
/-- From finite ways. -/
theorem exA_wide (g s m a b v : Nat) (L : Option Nat) (ctr : Bool) (hg : g % 2 ^ 63 < 0x7ff0000000000000) (hs : s % 2 ^ 63 < 0x7ff0000000000000) (s1 : 4562254508917369340 ≤ ky s) (s2 : ky s ≤ 4805448888795376124)
    (ha : a % 2 ^ 63 < 0x7ff0000000000000) (a1 : 0 ≤ ky a) (a2 : ky a ≤ 4805448888795376124) (hb : b % 2 ^ 63 < 0x7ff0000000000000) (b1 : 0 ≤ ky b) (b2 : ky b ≤ 4805448888795376124)
    (hm : m < 18446744073709551616) (hnm : nanB m = false) (hm0 : 0 ≤ ky m) (hv : v < 18446744073709551616) :
    ∃ z, exA (some g) (some s) (some m) (some a) (some b) (cl v) L ctr false = some z ∧ (0 < ky g → ky g ≤ ky z) ∧ (ky g < 0 → ky z ≤ ky g) ∧ (ky g = 0 → ky z = 0) := by
  obtain ⟨x, ex, hx, x1, x2⟩ := rch_nn a m ha a1 a2 hm hnm hm0
  obtain ⟨y, ey, hy, y1, y2⟩ := rch_nn b m hb b1 b2 hm hnm hm0
  have hX : ∃ x', (if ctr = true then cutF (some s) (cl v) (some g) (rchF (some a) (some m)) else rchF (some a) (some m)) = some x' ∧ x' % 2 ^ 63 < 0x7ff0000000000000 ∧ 0 ≤ ky x' ∧ ky x' ≤ 4805448888795376124 := by
    rw [ex]
    cases ctr
    · exact ⟨x, rfl, hx, x1, x2⟩
    · rw [if_pos rfl]
      by_cases h0 : 0 < ky g
      · obtain ⟨x', e, f, f1, f2⟩ := cut_nn s x v g hs (by omega) hx x1 hv hg h0
        exact ⟨x', e, f, f1, by omega⟩
      · rw [cut_no1 (by
          rw [gtB_key g 0 (ky_fin g hg).1 (by decide), show ky 0 = 0 by decide]
          exact decide_eq_false h0)]
        exact ⟨x, rfl, hx, x1, x2⟩
  obtain ⟨x', ex', hx', f1, f2⟩ := hX
  obtain ⟨t, et, ht, t1⟩ := tm_ok s x' y hs hx' hy s1 s2 f1 f2 y1 y2
  unfold exA
  rw [if_neg (by decide), ex', ey, et]
  rcases Int.lt_trichotomy (ky g) 0 with h | h | h
  · obtain ⟨z, e, h1⟩ := mul_dn g t hg h ht t1
    exact ⟨z, e, fun _ => by omega, fun _ => h1, fun _ => by omega⟩
  · obtain ⟨z, e, h1⟩ := mul_nil g t hg h ht t1
    exact ⟨z, e, fun _ => by omega, fun _ => by omega, fun _ => h1⟩
  · obtain ⟨z, e, h1⟩ := mul_up g t hg (by omega) ht t1
    exact ⟨z, e, fun _ => h1, fun _ => by omega, fun _ => by omega⟩
theorem snd_up {ss : Nat → Smp} {n : Nat} {F T N : Int} (h : Snd ss n F T N) : ∀ i, i < n → F < (ss i).t ∧ (ss 0).t ≤ (ss i).t ∧ (0 < i → (ss 0).t < (ss i).t)
  | 0, hi => by
    have := (h.2.1 0 hi).2
    exact ⟨this, Int.le_refl _, fun h => by omega⟩
  | i + 1, hi => by
    have h1 : (ss i).t < (ss (i + 1)).t := (h.2.1 (i + 1) hi).2
    obtain ⟨a1, a2, _⟩ := snd_up h i (by omega)
    exact ⟨by omega, by omega, fun _ => by omega⟩
theorem ex_wide (ss : Nat → Smp) (n : Nat) (F T N : Int) (ctr : Bool) (hs : Snd ss n F T N) (hsw : SW ss n) (hn : 2 ≤ n) (hn9 : n ≤ 140737488355328) (g : Nat) (hG : grF (fun j => (ss j).v) n ctr = some g) (hg : g % 2 ^ 63 < 0x7ff0000000000000) :
    ∃ z, exF ss n F T ctr false = some z ∧ (0 < ky g → ky g ≤ ky z) ∧ (ky g < 0 → ky z ≤ ky g) ∧ (ky g = 0 → ky z = 0) := by
  obtain ⟨⟨q1, q2, q3, _, _⟩, hall, hT⟩ := id hs
  obtain ⟨u1, u2, u3⟩ := snd_up hs (n - 1) (by omega)
  obtain ⟨w1, _, _⟩ := snd_up hs 0 (by omega)
  have hT2 : (ss (n - 1)).t ≤ T := by
    obtain ⟨k, rfl⟩ : ∃ k, n = k + 1 := ⟨n - 1, by omega⟩
    exact hT
  have u4 := u3 (by omega)
  have d1 : df (ss (n - 1)).t (ss 0).t = (((ss (n - 1)).t - (ss 0).t).toNat : Int) := by
    unfold df
    rw [IntKind.wrap_i64]
    omega
  have d2 : df (ss 0).t F = (((ss 0).t - F).toNat : Int) := by
    unfold df
    rw [IntKind.wrap_i64]
    omega
  have d3 : df T (ss (n - 1)).t = ((T - (ss (n - 1)).t).toNat : Int) := by
    unfold df
    rw [IntKind.wrap_i64]
    omega
  obtain ⟨s, es, hs', s0, s2, s1⟩ := sec_nn ((ss (n - 1)).t - (ss 0).t).toNat (by omega)
  obtain ⟨a, ea, ha, a1, a2, _⟩ := sec_nn ((ss 0).t - F).toNat (by omega)
  obtain ⟨b, eb, hb, b1, b2, _⟩ := sec_nn (T - (ss (n - 1)).t).toNat (by omega)
  have s1' := s1 (by omega)
  obtain ⟨i1, i2, i3, i4⟩ := iw_top (n - 1) (by omega)
  obtain ⟨sg, k, j, hr, hu, _, _, hsn, ekk⟩ := pos_read (iw ((n - 1 : Nat) : Int)) i4 i1
  have hk : k ≠ 0 := fun hk => by
    rw [hk, Nat.zero_mul] at hu
    have := uv_inj _ 0 (by rw [← hu]; rfl)
    have := i3 (by omega)
    omega
  obtain rfl := hsn hk
  obtain ⟨m, em, hm⟩ := quo_ky s _ hs' s0 k j hr hk
  unfold exF
  rw [hG, d1, d2, d3, es, ea, eb, show fb .quo (some s) (some (nW (n - 1))) = some m from em]
  exact exA_wide g s m a b _ _ ctr hg hs' s1' s2 ha a1 a2 hb b1 b2 (fb_lt em) (fb_num em) (by omega) (hsw 0 (by omega)).2.2
end Go.Proofs.Ytmjenemjbpimcaa
/- OverWiden: what the law compares. -/
namespace Go.Proofs.Ytmjenemjbpimcaa
open Go.RowKit Ieee

/-- Three ways that a pair of questions goes out well. -/
def Ok3 (p q r : Bool) : Prop := p = false ∨ (p = true ∧ q = false) ∨ (p = true ∧ q = true ∧ r = true)
theorem ok3 (p q r : Bool) (h : p = true → q = true → r = true) : Ok3 p q r := by
  cases p
  · exact .inl rfl
  · cases q
    · exact .inr (.inl ⟨rfl, rfl⟩)
    · exact .inr (.inr ⟨rfl, rfl, h rfl rfl⟩)
theorem leB_key (a t : Nat) (ha : nanB a = false) (ht : nanB t = false) : ((FloatKind.f64.format.order a t == some .lt) || (FloatKind.f64.format.order a t == some .eq)) = decide (ky a ≤ ky t) := by
  rw [key_order a t ha ht]
  rcases Int.lt_trichotomy (ky a) (ky t) with h3 | h3 | h3
  · have : ky a ≤ ky t := by omega
    simp [compare, compareOfLessAndEq, h3, this]
  · simp [compare, compareOfLessAndEq, h3]
  · have h4 : ¬ ky a < ky t := by omega
    have h5 : ¬ ky a = ky t := by omega
    have h6 : ¬ ky a ≤ ky t := by omega
    simp [compare, compareOfLessAndEq, h4, h5, h6]
theorem ge_key (a t : Nat) (ha : nanB a = false) (ht : nanB t = false) : ((FloatKind.f64.format.order a t == some .gt) || (FloatKind.f64.format.order a t == some .eq)) = decide (ky t ≤ ky a) := by
  have h := geB_key a t ha ht
  unfold geB at h
  exact h
theorem order_nanX (a t : Nat) (ha : nanB a = true) : FloatKind.f64.format.order a t = none := by
  rw [fo_cl, show cl a = none by unfold cl; rw [ha]; rfl]
  rfl
theorem kMax : ky 9218868437227405311 = 9218868437227405311 := by decide
theorem kMin : ky 18442240474082181119 = -9218868437227405311 := by decide
theorem cmp3 (x z : Nat) (H : nanB x = false → x % 2 ^ 63 < 0x7ff0000000000000 → nanB z = false ∧ (0 < ky x → ky x ≤ ky z) ∧ (ky x < 0 → ky z ≤ ky x) ∧ (ky x = 0 → ky z = 0)) :
    Ok3 (FloatKind.f64.format.order x 0 == some .gt) (FloatKind.f64.format.order x 9218868437227405311 == some .lt || FloatKind.f64.format.order x 9218868437227405311 == some .eq) (FloatKind.f64.format.order z x == some .gt || FloatKind.f64.format.order z x == some .eq) ∧
    ((FloatKind.f64.format.order x 0 == some .eq) = false ∨ ((FloatKind.f64.format.order x 0 == some .eq) = true ∧ (FloatKind.f64.format.order z 0 != some .eq) = false)) ∧
    Ok3 (FloatKind.f64.format.order x 0 == some .lt) (FloatKind.f64.format.order x 18442240474082181119 == some .gt || FloatKind.f64.format.order x 18442240474082181119 == some .eq) (FloatKind.f64.format.order z x == some .lt || FloatKind.f64.format.order z x == some .eq) := by
  have k0 : ky 0 = 0 := by decide
  cases nx : nanB x
  · have e0 := key_order x 0 nx (by decide)
    rw [leB_key x 9218868437227405311 nx (by decide), ge_key x 18442240474082181119 nx (by decide), kMax, kMin]
    have fin : -9218868437227405311 ≤ ky x → ky x ≤ 9218868437227405311 → x % 2 ^ 63 < 0x7ff0000000000000 := fun h1 h2 => fin_of x (by omega) (by omega)
    have gt0 : (FloatKind.f64.format.order x 0 == some .gt) = true → 0 < ky x := fun h => by
      have h2 := gtB_key x 0 nx (by decide)
      rw [show gtB (some x) (some 0) = (FloatKind.f64.format.order x 0 == some .gt) from rfl, h, k0] at h2
      exact of_decide_eq_true h2.symm
    have lt0 : (FloatKind.f64.format.order x 0 == some .lt) = true → ky x < 0 := fun h => by
      have h2 := ltB_key x 0 nx (by decide)
      rw [show ltB (some x) (some 0) = (FloatKind.f64.format.order x 0 == some .lt) from rfl, h, k0] at h2
      exact of_decide_eq_true h2.symm
    refine ⟨ok3 _ _ _ fun h1 h2 => ?_, ?_, ok3 _ _ _ fun h1 h2 => ?_⟩
    · have a1 := gt0 h1
      have a2 := of_decide_eq_true h2
      obtain ⟨nz, b1, _, _⟩ := H nx (fin (by omega) (by omega))
      rw [ge_key z x nz nx]
      exact decide_eq_true (b1 a1)
    · cases he : (FloatKind.f64.format.order x 0 == some .eq)
      · exact .inl rfl
      · refine .inr ⟨rfl, ?_⟩
        have h1 : FloatKind.f64.format.order x 0 = some .eq := by simpa using he
        rw [e0, k0] at h1
        have hx0 : ky x = 0 := by
          have h2 := Option.some.inj h1
          rcases Int.lt_trichotomy (ky x) 0 with h3 | h3 | h3
          · simp [compare, compareOfLessAndEq, h3] at h2
          · exact h3
          · have h4 : ¬ ky x < 0 := by omega
            have h5 : ¬ ky x = 0 := by omega
            simp [compare, compareOfLessAndEq, h4, h5] at h2
        obtain ⟨nz, _, _, b3⟩ := H nx (fin (by omega) (by omega))
        rw [key_order z 0 nz (by decide), b3 hx0, k0]
        rfl
    · have a1 := lt0 h1
      have a2 := of_decide_eq_true h2
      obtain ⟨nz, _, b2, _⟩ := H nx (fin (by omega) (by omega))
      rw [leB_key z x nz nx]
      exact decide_eq_true (b2 a1)
  · rw [order_nanX x 0 nx]
    exact ⟨.inl rfl, .inl rfl, .inl rfl⟩
end Go.Proofs.Ytmjenemjbpimcaa
/- OverMembers: which value is meant. -/
namespace Go.Proofs.Ytmjenemjbpimcaa
open Go.RowKit Ieee

theorem outI_mem (up : Bool) (V : Nat → Nat) : ∀ i, ∃ j, j ≤ i ∧ outI up V i = cl (V j)
  | 0 => ⟨0, Nat.le_refl _, rfl⟩
  | i + 1 => by
    by_cases h : outB up (cl (V (i + 1))) (outI up V i) = true
    · exact ⟨i + 1, Nat.le_refl _, if_pos h⟩
    · obtain ⟨j, hj, e⟩ := outI_mem up V i
      exact ⟨j, by omega, (if_neg h).trans e⟩
/-- Beaten. -/
def cmB (up : Bool) (v m : Option Nat) : Bool := if up = true then gtB v m else ltB v m
theorem cm_none (up : Bool) (m : Option Nat) : cmB up none m = false := by cases up <;> rfl
theorem cm_none2 (up : Bool) (m : Option Nat) : cmB up m none = false := by cases up <;> cases m <;> rfl
theorem outI_nan (up : Bool) (V : Nat → Nat) : ∀ i, outI up V i = none → ∀ j, j ≤ i → cl (V j) = none
  | 0 => fun h j hj => by
    obtain rfl : j = 0 := by omega
    exact h
  | i + 1 => fun h j hj => by
    by_cases hB : outB up (cl (V (i + 1))) (outI up V i) = true
    · have e : outI up V (i + 1) = cl (V (i + 1)) := if_pos hB
      rw [e] at h
      have hm : outI up V i = none := by
        unfold outB at hB
        rw [h] at hB
        have hc := cm_none up (outI up V i)
        unfold cmB at hc
        rw [hc] at hB
        simpa using hB
      by_cases hj2 : j = i + 1
      · rw [hj2, h]
      · exact outI_nan up V i hm j (by omega)
    · have e : outI up V (i + 1) = outI up V i := if_neg hB
      rw [e] at h
      unfold outB at hB
      rw [h] at hB
      simp at hB
theorem cm_key (up : Bool) (x y : Nat) : cmB up (cl x) (cl y) = true ↔ nanB x = false ∧ nanB y = false ∧ (if up = true then ky y < ky x else ky x < ky y) := by
  cases hx : nanB x
  · cases hy : nanB y
    · have h := key_order x y hx hy
      have h1 := gtB_eq x y
      have h2 := ltB_eq x y
      rw [h] at h1 h2
      unfold cmB
      cases up
      · rw [if_neg (by decide), if_neg (by decide), ← h2]
        rcases Int.lt_trichotomy (ky x) (ky y) with h3 | h3 | h3
        · simp [compare, compareOfLessAndEq, h3]
        · simp [compare, compareOfLessAndEq, h3]
        · have : ¬ ky x < ky y := by omega
          have h5 : ¬ ky x = ky y := by omega
          simp [compare, compareOfLessAndEq, this, h5]
      · rw [if_pos rfl, if_pos rfl, ← h1]
        rcases Int.lt_trichotomy (ky x) (ky y) with h3 | h3 | h3
        · have : ¬ ky y < ky x := by omega
          simp [compare, compareOfLessAndEq, h3, this]
        · simp [compare, compareOfLessAndEq, h3]
        · have h4 : ¬ ky x < ky y := by omega
          have h5 : ¬ ky x = ky y := by omega
          simp [compare, compareOfLessAndEq, h3, h4, h5]
    · have e : cl y = none := by unfold cl; rw [hy]; rfl
      rw [e, cm_none2]
      simp
  · have e : cl x = none := by unfold cl; rw [hx]; rfl
    rw [e, cm_none]
    simp
theorem outI_top (up : Bool) (V : Nat → Nat) : ∀ i j, j ≤ i → cmB up (cl (V j)) (outI up V i) = false
  | 0 => fun j hj => by
    obtain rfl : j = 0 := by omega
    show cmB up (cl (V 0)) (cl (V 0)) = false
    refine Bool.eq_false_iff.2 fun h => ?_
    have := ((cm_key up _ _).1 h).2.2
    cases up <;> simp at this
  | i + 1 => fun j hj => by
    obtain ⟨k, hk, ek⟩ := outI_mem up V i
    by_cases hB : outB up (cl (V (i + 1))) (outI up V i) = true
    · have e : outI up V (i + 1) = cl (V (i + 1)) := if_pos hB
      rw [e]
      refine Bool.eq_false_iff.2 fun h => ?_
      obtain ⟨n1, n2, h1⟩ := (cm_key up _ _).1 h
      by_cases hj2 : j = i + 1
      · subst hj2
        cases up <;> simp at h1
      · have ih := outI_top up V i j (by omega)
        by_cases hm : outI up V i = none
        · have := outI_nan up V i hm j (by omega)
          rw [this, cm_none] at h
          cases h
        · have hc : cmB up (cl (V (i + 1))) (cl (V k)) = true := by
            rw [← ek]
            unfold outB at hB
            cases he : outI up V i
            · exact absurd he hm
            · rw [he] at hB
              simpa [cmB] using hB
          obtain ⟨_, n3, h2⟩ := (cm_key up _ _).1 hc
          rw [ek] at ih
          have : cmB up (cl (V j)) (cl (V k)) = true := (cm_key up _ _).2 ⟨n1, n3, by
            cases up
            · simp at h1 h2 ⊢; omega
            · simp at h1 h2 ⊢; omega⟩
          rw [this] at ih
          cases ih
    · have e : outI up V (i + 1) = outI up V i := if_neg hB
      rw [e]
      by_cases hj2 : j = i + 1
      · subst hj2
        unfold outB at hB
        refine Bool.eq_false_iff.2 fun h => hB ?_
        unfold cmB at h
        rw [h]; rfl
      · exact outI_top up V i j (by omega)

theorem insC_mem {a x : Option Nat} : ∀ {l : List (Option Nat)}, a ∈ insC x l → a = x ∨ a ∈ l
  | [], h => .inl (by simpa [insC] using h)
  | y :: l, h => by
    unfold insC at h
    split at h
    · simpa using h
    · rcases List.mem_cons.1 h with h | h
      · exact .inr (by simp [h])
      · rcases insC_mem h with h | h
        · exact .inl h
        · exact .inr (by simp [h])
theorem isrtC_mem {a : Option Nat} : ∀ {l : List (Option Nat)}, a ∈ isrtC l → a ∈ l
  | [], h => h
  | x :: l, h => by
    rcases insC_mem (show a ∈ insC x (isrtC l) from h) with h | h
    · simp [h]
    · exact List.mem_cons_of_mem _ (isrtC_mem h)
theorem insC_len (x : Option Nat) : ∀ l, (insC x l).length = l.length + 1
  | [] => rfl
  | y :: l => by
    unfold insC
    split
    · rfl
    · show (insC x l).length + 1 = _
      rw [insC_len x l]; rfl
theorem isrtC_len : ∀ l, (isrtC l).length = l.length
  | [] => rfl
  | x :: l => by
    show (insC x (isrtC l)).length = _
    rw [insC_len, isrtC_len l]; rfl
theorem quC_mem (L : List (Option Nat)) (K M z : Nat) (hz : FloatKind.f64.format.order z 0 = some .eq) (hK : K < L.length) : quC (isrtC L) K M z ∈ L := by
  unfold quC
  rw [if_pos hz]
  refine isrtC_mem ?_
  have h : K < (isrtC L).length := by rw [isrtC_len]; exact hK
  rw [List.getD_eq_getElem?_getD, List.getElem?_eq_getElem h]
  exact List.getElem_mem h

theorem near_whole (m d e : Nat) (i : Int) (hi : -(e : Int) ≤ i) (hn : m * 2 ^ (i + e).toNat = d * 2 ^ e) : Ieee.double.nearest false m i = Ieee.double.nearest false d 0 := by
  have e1 : Ieee.double.nearest false (m <<< (i + e).toNat) (-(e : Int)) = Ieee.double.nearest false m i := by
    rw [nearest_shift]; congr 1; omega
  have e2 : Ieee.double.nearest false (d <<< e) (-(e : Int)) = Ieee.double.nearest false d 0 := by
    rw [nearest_shift]; congr 1; omega
  rw [← e1, ← e2, Nat.shiftLeft_eq, Nat.shiftLeft_eq, hn]
theorem down_exact (c k : Nat) : Toward.down.cut false (c <<< k) k = c := by
  rw [down_form]
  simp only [Bool.false_and, Bool.toNat_false, Nat.add_zero]
  by_cases hc : c = 0
  · subst hc
    rw [Nat.zero_shiftLeft, Nat.zero_div]
  · have hk : k ≤ (c <<< k).log2 := by
      rw [Nat.shiftLeft_eq]
      refine (Nat.le_log2 (Nat.mul_ne_zero hc (Nat.ne_of_gt (Nat.two_pow_pos k)))).2 ?_
      exact Nat.le_mul_of_pos_left _ (by omega)
    rw [Nat.min_eq_left (by omega), Nat.shiftLeft_eq, Nat.shiftLeft_eq, Nat.one_mul, Nat.mul_div_cancel _ (Nat.two_pow_pos k)]
theorem wr00 : wr 0 false = 0 := by decide +kernel
theorem flr0 : flr 0 = 0 := by decide +kernel
theorem fsub00 : floatBits .sub .f64 0 0 = some 0 := by decide +kernel
theorem word00 : Ieee.double.word false 0 = 0 := by decide +kernel
theorem ord00 : FloatKind.f64.format.order 0 0 = some .eq := by decide +kernel
/-- The rest of a quantile of 0 or of 1 is nothing. -/
theorem qp_rest (q N y z K M : Nat) (hq : q = 0 ∨ q = 4607182418800017408) (hN : N < 2 ^ 53) (h : Qp q N y z K M) : FloatKind.f64.format.order z 0 = some .eq := by
  obtain ⟨h1, _, _, _, h5, _⟩ := h
  obtain ⟨m, i, hr, hu⟩ := iw_nn N (by omega)
  have hi := (read_place _ _ _ _ hr).1
  have e : floatBits .mul .f64 q (iw (N : Int)) = ((Ieee.double.read q).product (Ieee.double.read (iw (N : Int)))).map Ieee.double.write := rfl
  rw [e, hr] at h1
  rcases hq with rfl | rfl
  · have r0 : Ieee.double.read 0 = .number false 0 (-1074) := by
      have := read_zero false
      rwa [word00] at this
    rw [r0] at h1
    have hy : y = Ieee.double.nearest (false ^^ false) (0 * m) (-1074 + i) := (Option.some.inj h1).symm
    rw [Nat.zero_mul, Bool.xor_false, nearest_zero, word00] at hy
    subst hy
    rw [flr0, fsub00] at h5
    obtain rfl := Option.some.inj h5
    exact ord00
  · rw [rdOne] at h1
    have hy : y = Ieee.double.nearest (false ^^ false) (2 ^ 52 * m) (-52 + i) := (Option.some.inj h1).symm
    rw [Bool.xor_false] at hy
    obtain ⟨b, hb⟩ : ∃ b : Nat, b = 1074 := ⟨_, rfl⟩
    have hU : U = 2 ^ b := by rw [hb]; exact U_eq
    have hb2 : (i + 1074).toNat = (i + (b : Int)).toNat := by rw [hb]; rfl
    rw [hU, hb2] at hu
    have iwN : iw (N : Int) = Ieee.double.nearest false N 0 := by
      rw [iw_eq, show decide ((N : Int) < 0) = false from decide_eq_false (by omega), Int.natAbs_natCast]
    have hyN : y = iw (N : Int) := by
      rw [hy, iwN]
      refine near_whole _ _ (b + 52) _ (by omega) ?_
      have : (-52 + i + ((b + 52 : Nat) : Int)).toNat = (i + (b : Int)).toNat := by omega
      rw [this, Nat.mul_assoc, hu, Nat.mul_comm (2 ^ 52), Nat.mul_assoc, ← Nat.pow_add]
    have hfl : flr (iw (N : Int)) = iw (N : Int) := by
      have e2 : flr (iw (N : Int)) = Ieee.double.nearest false (Toward.down.cut false (m <<< i.toNat) (-i).toNat) 0 := by
        unfold flr
        rw [hr]
        rfl
      have e3 : m <<< i.toNat = N <<< (-i).toNat := by
        rw [Nat.shiftLeft_eq, Nat.shiftLeft_eq]
        have hp : 0 < 2 ^ (min i 0 + (b : Int)).toNat := Nat.two_pow_pos _
        refine Nat.eq_of_mul_eq_mul_right hp ?_
        rw [Nat.mul_assoc, ← Nat.pow_add, Nat.mul_assoc, ← Nat.pow_add]
        have g1 : i.toNat + (min i 0 + (b : Int)).toNat = (i + (b : Int)).toNat := by omega
        have g2 : (-i).toNat + (min i 0 + (b : Int)).toNat = b := by omega
        rw [g1, g2, hu]
      rw [e2, e3, down_exact, ← iwN]
    rw [hyN, hfl, sub_fin _ _ _ _ _ _ _ _ hr hr, Int.sub_self] at h5
    have hz : z = 0 := by
      have := (Option.some.inj h5).symm
      rw [this]
      exact wr00
    rw [hz]
    exact ord00
/-- The quantile of 0 and that of 1 are values of the list. -/
theorem quantile_mem (q : Nat) (hq : q = 0 ∨ q = 4607182418800017408) (L : List (Option Nat)) (hl : L.length * 8 ≤ 140737488355328) (h0 : L.length ≠ 0) : ∃ C, C ∈ L ∧ ∀ xs, Wd xs → cs xs = L → ∀ W a c, Fm W a xs → Calls Try.prog 48 #[.float .f64 q, .slice a xs.length c] W (RB W C) := by
  have hp : Pt q := by
    rcases hq with rfl | rfl
    · exact ⟨by decide +kernel, by decide +kernel, by decide +kernel⟩
    · exact ⟨by decide +kernel, by decide +kernel, by decide +kernel⟩
  obtain ⟨y, z, K, M, hqp⟩ := qp_ex q (L.length - 1) hp (by omega)
  refine ⟨quC (isrtC L) K M z, quC_mem L K M z (qp_rest q _ y z K M hq (by omega) hqp) ?_, fun xs hw he W a c hf => ?_⟩
  · have := hqp.2.2.2.1
    omega
  have hlen : xs.length = L.length := by rw [← cs_len, he]
  rcases hf with rfl | ⟨g, o, rfl, hg, hat⟩
  · simp at hlen; omega
  have k := quantile_part q g o c xs W (L.length - 1) y z K M hp hg hat hw (by omega) (by omega) hqp
  rw [quV_cs, isrt_cs, he] at k
  exact k
end Go.Proofs.Ytmjenemjbpimcaa
/- OverMembers: what the six calls answer. -/
namespace Go.Proofs.Ytmjenemjbpimcaa
open Go.RowKit

def mi (j : Nat) : Nat := ([8, 9, 2, 3, 10, 10] : List Nat).getD j 0
def mq (j : Nat) : List Nat := if j = 4 then [0] else if j = 5 then [4607182418800017408] else []
/-- What is asked of an answer. -/
def Mm (ss : Nat → Smp) (n j z : Nat) : Prop := (∃ i, i < n ∧ cl z = cl (ss i).v) ∧ (j = 0 → ∀ i, i < n → gtB (cl (ss i).v) (cl z) = false) ∧ (j = 1 → ∀ i, i < n → ltB (cl (ss i).v) (cl z) = false) ∧ (j < 2 → cl z = none → cl (ss 0).v = none) ∧ (j = 2 → cl z = cl (ss 0).v) ∧ (j = 3 → cl z = cl (ss (n - 1)).v)
theorem call_yes (k : Nat) (hk : k < 23) (a : Option Addr) (n c : Nat) (F T N : Int) (ss : Nat → Smp) (aa : Option Addr) (na ca : Nat) (R : Option Nat) (W : World) (h : HypW a n ss W) (hs : Snd ss n F T N) (hm : (fnAt k).2.2.1 ≤ n) (hna : na = (fnAt k).2.1) (hn9 : na ≤ 9)
    (hB : ∀ W', Below W.heap.size W W' → Calls Try.prog (fnAt k).2.2.2 #[Wn a n c F T N, .slice aa na ca] W' (RB W' R)) :
    Calls Try.prog 10 #[.string (fnAt k).1, Wn a n c F T N, .slice aa na ca] W fun r w' => ∃ z, r = .returned (.tuple #[.float .f64 z, .bool true]) ∧ z < 18446744073709551616 ∧ Below W.heap.size W w' ∧ cl z = R := by
  refine (call_at k hk _ rfl a n c F T N ss aa na ca R W h.1 (by have := h.2.2; omega) (by omega) (fun _ _ _ W' b => hB W' b)).mono fun r w' x => ?_
  obtain ⟨z, b, rfl, hb, b1, hl, h1, _⟩ := x
  obtain rfl := hb.2 ⟨hna, hm, hs⟩
  exact ⟨z, rfl, hl, b1, h1 rfl⟩
theorem cs_vls_mem {ss : Nat → Smp} {n : Nat} {C : Option Nat} (h : C ∈ cs (vls ss n)) : ∃ i, i < n ∧ C = cl (ss i).v := by
  unfold cs vls at h
  simp only [List.mem_map, List.mem_range] at h
  obtain ⟨x, ⟨i, hi, rfl⟩, rfl⟩ := h
  exact ⟨i, hi, rfl⟩
theorem members_call (j : Nat) (hj : j < 6) (a : Option Addr) (n c : Nat) (F T N : Int) (ss : Nat → Smp) (aa : Option Addr) (ca : Nat) (W : World) (h : HypW a n ss W) (hn : 1 ≤ n) (hc : n ≤ c) (hs : Snd ss n F T N) (hA : Fm W aa (mq j)) :
    Calls Try.prog 10 #[.string (fnAt (mi j)).1, Wn a n c F T N, .slice aa (mq j).length ca] W fun r w' => ∃ z, r = .returned (.tuple #[.float .f64 z, .bool true]) ∧ z < 18446744073709551616 ∧ Below W.heap.size W w' ∧ Mm ss n j z := by
  have hlen : (cs (vls ss n)).length * 8 ≤ 140737488355328 := by have := h.2.2; rw [cs_len, vls_len]; omega
  have hl0 : (cs (vls ss n)).length ≠ 0 := by rw [cs_len, vls_len]; omega
  rcases (show j = 0 ∨ j = 1 ∨ j = 2 ∨ j = 3 ∨ j = 4 ∨ j = 5 by omega) with rfl | rfl | rfl | rfl | rfl | rfl
  · refine (call_yes 8 (by decide) a n c F T N ss aa 0 ca _ W h hs hn rfl (by decide) fun W' b => highest_fn a n c F T N ss _ W' (h.below b) hn hc).mono fun r w' x => ?_
    obtain ⟨z, e, hl, b, hz⟩ := x
    refine ⟨z, e, hl, b, ?_, fun _ i hi => ?_, fun h => by omega, fun _ hn0 => ?_, fun h => by omega, fun h => by omega⟩
    · obtain ⟨i, hi, ei⟩ := outI_mem true (fun j => (ss j).v) (n - 1)
      exact ⟨i, by omega, hz.trans ei⟩
    · rw [hz]
      exact outI_top true (fun j => (ss j).v) (n - 1) i (by omega)
    · rw [hz] at hn0
      exact outI_nan true (fun j => (ss j).v) (n - 1) hn0 0 (by omega)
  · refine (call_yes 9 (by decide) a n c F T N ss aa 0 ca _ W h hs hn rfl (by decide) fun W' b => lowest_fn a n c F T N ss _ W' (h.below b) hn hc).mono fun r w' x => ?_
    obtain ⟨z, e, hl, b, hz⟩ := x
    refine ⟨z, e, hl, b, ?_, fun h => by omega, fun _ i hi => ?_, fun _ hn0 => ?_, fun h => by omega, fun h => by omega⟩
    · obtain ⟨i, hi, ei⟩ := outI_mem false (fun j => (ss j).v) (n - 1)
      exact ⟨i, by omega, hz.trans ei⟩
    · rw [hz]
      exact outI_top false (fun j => (ss j).v) (n - 1) i (by omega)
    · rw [hz] at hn0
      exact outI_nan false (fun j => (ss j).v) (n - 1) hn0 0 (by omega)
  · refine (call_yes 2 (by decide) a n c F T N ss aa 0 ca _ W h hs hn rfl (by decide) fun W' b => first_fn a n c F T N ss _ W' (h.below b) hn).mono fun r w' x => ?_
    obtain ⟨z, e, hl, b, hz⟩ := x
    exact ⟨z, e, hl, b, ⟨0, by omega, hz⟩, fun h => by omega, fun h => by omega, fun h => by omega, fun _ => hz, fun h => by omega⟩
  · refine (call_yes 3 (by decide) a n c F T N ss aa 0 ca _ W h hs hn rfl (by decide) fun W' b => last_fn a n c F T N ss _ W' (h.below b) hn).mono fun r w' x => ?_
    obtain ⟨z, e, hl, b, hz⟩ := x
    exact ⟨z, e, hl, b, ⟨n - 1, by omega, hz⟩, fun h => by omega, fun h => by omega, fun h => by omega, fun h => by omega, fun _ => hz⟩
  · obtain ⟨C, hC, hq⟩ := quantile_mem 0 (.inl rfl) (cs (vls ss n)) hlen hl0
    refine (call_yes 10 (by decide) a n c F T N ss aa 1 ca C W h hs hn rfl (by decide) fun W' b => quantile_fn a n c F T N ss aa ca [0] C W' (h.below b) (hA.below b) rfl hq).mono fun r w' x => ?_
    obtain ⟨z, e, hl, b, hz⟩ := x
    obtain ⟨i, hi, ei⟩ := cs_vls_mem hC
    exact ⟨z, e, hl, b, ⟨i, hi, hz.trans ei⟩, fun h => by omega, fun h => by omega, fun h => by omega, fun h => by omega, fun h => by omega⟩
  · obtain ⟨C, hC, hq⟩ := quantile_mem 4607182418800017408 (.inr rfl) (cs (vls ss n)) hlen hl0
    refine (call_yes 10 (by decide) a n c F T N ss aa 1 ca C W h hs hn rfl (by decide) fun W' b => quantile_fn a n c F T N ss aa ca [4607182418800017408] C W' (h.below b) (hA.below b) rfl hq).mono fun r w' x => ?_
    obtain ⟨z, e, hl, b, hz⟩ := x
    obtain ⟨i, hi, ei⟩ := cs_vls_mem hC
    exact ⟨z, e, hl, b, ⟨i, hi, hz.trans ei⟩, fun h => by omega, fun h => by omega, fun h => by omega, fun h => by omega, fun h => by omega⟩
end Go.Proofs.Ytmjenemjbpimcaa
