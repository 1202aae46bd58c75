/- A bundle of texts. -/
import Derived.Test.YtbciclnffokjjaaBm33
/- The reference's validity: valid at leaves. -/
namespace Go.Proofs.Ytbciclnffokjjaa
open Go.RowKit

theorem mid_plain3 {d : Nd} {s : St} (h7 : ¬ d.kind = 7) (h10 : ¬ d.kind = 10) (h11 : ¬ d.kind = 11) : mid d s = some s := by
  unfold mid
  rw [if_neg (fun h => by rcases h with h | h; exact h10 h; exact h11 h), if_neg h7]
theorem mid_plain {d : Nd} {s : St} (h7 : ¬ d.kind = 7) : ∃ l, mid d s = some { s with l := l } := by
  unfold mid
  by_cases h : d.kind = 10 ∨ d.kind = 11
  · exact ⟨true, by rw [if_pos h]⟩
  · exact ⟨s.l, by rw [if_neg h, if_neg h7]⟩
set_option maxHeartbeats 4000000 in
set_option maxRecDepth 100000 in
theorem valid_2 (S B m : Nat) (t : Tr) (ab op : Int) (s : St) (v : Value) (w : World) (hIH : VdR S B m) (hv : Cn S w B v s.k s.n s.n s.f) (ht : Tat S w t) (hk : s.k + 1 ≤ 8194) (hm : 8194 ≤ s.k + (m + 1)) (hn : s.n ≤ 100) (hS : S ≤ w.heap.size) (ho0 : 0 ≤ op) (hop : opN ab (t []).kind op ≤ 250) (h1 : 1 ≤ (t []).kind) (h13 : (t []).kind ≤ 13) (hbare : bareB (t []) = true) (hkind : (t []).kind = 2) :
    Calls Try.prog 30 #[.pointer (some ⟨B, 0, none⟩), ndV (t []), .int .i64 ab, .int .i64 op] w (Vr S B v (vd (m + 1) t (opN ab (t []).kind op) s) w) := by
  obtain ⟨hv2, hc2, hk2, hz2, hg2⟩ := cn_beg (t []) hv
  have ht2 := ht.below (hv.low hS hk2)
  obtain ⟨hnd, hkn⟩ := nd_of hbare h1 h13
  have hnode := ht.node
  obtain ⟨OP, hOP⟩ : ∃ OP, OP = opN ab (t []).kind op := ⟨_, rfl⟩
  rw [← hOP] at hop ⊢
  have HVD : Hid (vd (m + 1) t OP s = if ndB (t []) = false then none else (mid (t []) { s with k := s.k + 1 }).bind fun s1 => vds (vd m) t (if (t []).kind = 7 then OP + 1 else OP) (t []).kn s1) := by
    show (if _ then _ else _) = _
    cases e : ndB (t []) with
    | false => rw [if_pos (.inr (.inr rfl)), if_pos rfl]
    | true => rw [if_neg (fun h => by rcases h with h | h | h; exact absurd h (by omega); exact absurd h (by omega); cases h)]; rfl
  obtain ⟨W, hW⟩ : ∃ W, W = bgW w B (t []) s.k := ⟨_, rfl⟩
  have HW : Hid (W = (w.alloc (ndX (t []))).setCell ⟨B, 0, none⟩ (.int .i64 ((s.k : Int) + 1))) := hW
  rw [← hW] at hv2 hc2 hk2 hz2 ht2
  obtain ⟨G, hG⟩ : ∃ G, G = w.heap.size := ⟨_, rfl⟩
  have HG : Hid (G = w.heap.size) := hG
  rw [← hG] at hc2 hz2 hg2
  have c0 := (hv.below ((Below.refl _ w).alloc (Nat.le_refl _) (ndX (t [])))).c0
  have f0 := (hv.below ((Below.refl _ w).alloc (Nat.le_refl _) (ndX (t [])))).fz 0
  have d0 := hv2.c0
  push_cast at d0
  obtain ⟨W1, hW1⟩ : ∃ W1, W1 = W.alloc (ndX (t [])) := ⟨_, rfl⟩
  have HW1 : Hid (W1 = W.alloc (ndX (t []))) := hW1
  have b1 : Below W.heap.size W W1 := by rw [hW1]; exact (Below.refl _ W).alloc (Nat.le_refl _) _
  have HC1 : Hid (Cs W1 G 0 (t [])) := hc2.kp (M := fun _ => False) (Kp.of b1) id
  have HV1 : Hid (Cn S W1 B v (s.k + 1) s.n s.n s.f) := hv2.below b1
  have hS2 : S ≤ W.heap.size := Nat.le_trans hS hk2.size
  have HT1 : Hid (Tat S W1 t) := ht2.below (b1.mono hS2)
  have HK1 : Hid (Kp (Mv B v) w W1) := hk2.trans (Kp.of b1)
  have HZ1 : Hid (S ≤ W1.heap.size ∧ w.heap.size ≤ W1.heap.size) := ⟨Nat.le_trans hS2 b1.size, Nat.le_trans hk2.size b1.size⟩
  have HM1 : Hid (¬ Mv B v G) := hg2
  have HNO : Hid (vd (m + 1) t OP s = none → Vr S B v (vd (m + 1) t OP s) w (.returned (.bool false)) W1) := fun e => by rw [e]; exact Vr.no (hk2.trans (Kp.of b1))
  obtain ⟨e0, e1, e2, e3, e4, e5, e6, e7, e8⟩ := hc2
  simp only [Nat.zero_add] at e0 e1 e2 e3 e4 e5 e6 e7 e8
  obtain ⟨x0, x1, x2, x3, x4, x5, x6, x7, x8⟩ := HC1.out
  simp only [Nat.zero_add] at x0 x1 x2 x3 x4 x5 x6 x7 x8
  have kB := rBrackets_any ab (t []).kind W
  have kBa := bare_any (t []) W
  rw [hbare] at kBa
  have hki : (s.k : Int) + 1 ≤ 8194 := by omega
  have IH : Hid (VdR S B m) := hIH
  have HN0 : Hid (s.n ≤ 100 ∧ s.k + 1 ≤ 8194 ∧ 8194 ≤ s.k + (m + 1)) := ⟨hn, hk, hm⟩
  have hkn0 : (t []).kn = 0 := hkn (by omega)
  have HR : Hid (vd (m + 1) t OP s = if ruB (t []).r = true then some { s with k := s.k + 1 } else none) := by
    unfold Hid
    rw [HVD.out, hnd, if_pos hkind, hkn0]
    rw [mid_plain3 (show ¬ (t []).kind = 7 by omega) (show ¬ (t []).kind = 10 by omega) (show ¬ (t []).kind = 11 by omega)]
    cases ruB (t []).r <;> rfl
  have HY : Hid (vd (m + 1) t OP s = some { s with k := s.k + 1 } → Vr S B v (vd (m + 1) t OP s) w (.returned (.bool true)) W1) := fun e => by rw [e]; exact Vr.yes HV1.out (Sub.refl _ _) HK1.out
  have HNB : Hid (∀ b, b = false → vd (m + 1) t OP s = none → Vr S B v (vd (m + 1) t OP s) w (.returned (.bool b)) W1) := fun b e => by subst e; exact HNO.out
  have hr : ruB (t []).r = decide (0 ≤ (t []).r ∧ (t []).r ≤ 1114111) := rfl
  clear hv hW hG hv2 hk2 hz2 hg2 ht ht2 hnd hkn hnode hIH hn hk hm hS hS2 b1 hW1 hbare HVD HT1 HC1 HV1 hkn0 IH HN0
  have HKD : Hid ((t []).kind = 2) := hkind
  clear hkind
  cases hb : brB ab (t []).kind
  all_goals
    have hOP2 := hOP
    unfold opN at hOP2
    rw [hb] at hOP2 kB
    simp only [Bool.false_eq_true, if_false, if_true] at hOP2
    clear hb hOP
    subst hOP2
    generalize hd : t [] = d at *
    have HD : Hid (t [] = d) := hd
    clear hd
    go_enter Try.func30, Try.ntmps30
    go_upto_region 2 with fail
    rw [← HW.out, ← HG.out]
    go_wp2_with fail
    go_fit kB
    rintro e w2 ⟨rfl, rfl⟩
    clear kB c0 f0
    go_wp2_with fail
    go_fit kBa
    rintro e w3 ⟨rfl, hw3⟩
    rw [← HW1.out] at hw3
    have hw3' := hw3.symm
    subst hw3'
    clear hw3
    clear kBa d0 e0 e1 e2 e3 e4 e5 e6 e7 e8
    rw [HKD.out] at x0
    by_cases hr0 : 0 ≤ d.r
    · by_cases hr1 : d.r ≤ 1114111
      · have hT : ruB d.r = true := by rw [hr]; exact decide_eq_true ⟨hr0, hr1⟩
        rw [if_pos hT] at HR
        go_wp2
        go_ret
        exact HY.out HR.out
      · have hT : ¬ ruB d.r = true := by rw [hr]; simp; omega
        rw [if_neg hT] at HR
        go_wp2
        go_ret
        exact HNB.out _ (decide_eq_false (by omega)) HR.out
    · have hT : ¬ ruB d.r = true := by rw [hr]; simp; omega
      rw [if_neg hT] at HR
      go_wp2
      go_ret
      exact HNO.out HR.out
set_option maxHeartbeats 4000000 in
set_option maxRecDepth 100000 in
theorem valid_3 (S B m : Nat) (t : Tr) (ab op : Int) (s : St) (v : Value) (w : World) (hIH : VdR S B m) (hv : Cn S w B v s.k s.n s.n s.f) (ht : Tat S w t) (hk : s.k + 1 ≤ 8194) (hm : 8194 ≤ s.k + (m + 1)) (hn : s.n ≤ 100) (hS : S ≤ w.heap.size) (ho0 : 0 ≤ op) (hop : opN ab (t []).kind op ≤ 250) (h1 : 1 ≤ (t []).kind) (h13 : (t []).kind ≤ 13) (hbare : bareB (t []) = true) (hkind : (t []).kind = 3) :
    Calls Try.prog 30 #[.pointer (some ⟨B, 0, none⟩), ndV (t []), .int .i64 ab, .int .i64 op] w (Vr S B v (vd (m + 1) t (opN ab (t []).kind op) s) w) := by
  obtain ⟨hv2, hc2, hk2, hz2, hg2⟩ := cn_beg (t []) hv
  have ht2 := ht.below (hv.low hS hk2)
  obtain ⟨hnd, hkn⟩ := nd_of hbare h1 h13
  have hnode := ht.node
  obtain ⟨OP, hOP⟩ : ∃ OP, OP = opN ab (t []).kind op := ⟨_, rfl⟩
  rw [← hOP] at hop ⊢
  have HVD : Hid (vd (m + 1) t OP s = if ndB (t []) = false then none else (mid (t []) { s with k := s.k + 1 }).bind fun s1 => vds (vd m) t (if (t []).kind = 7 then OP + 1 else OP) (t []).kn s1) := by
    show (if _ then _ else _) = _
    cases e : ndB (t []) with
    | false => rw [if_pos (.inr (.inr rfl)), if_pos rfl]
    | true => rw [if_neg (fun h => by rcases h with h | h | h; exact absurd h (by omega); exact absurd h (by omega); cases h)]; rfl
  obtain ⟨W, hW⟩ : ∃ W, W = bgW w B (t []) s.k := ⟨_, rfl⟩
  have HW : Hid (W = (w.alloc (ndX (t []))).setCell ⟨B, 0, none⟩ (.int .i64 ((s.k : Int) + 1))) := hW
  rw [← hW] at hv2 hc2 hk2 hz2 ht2
  obtain ⟨G, hG⟩ : ∃ G, G = w.heap.size := ⟨_, rfl⟩
  have HG : Hid (G = w.heap.size) := hG
  rw [← hG] at hc2 hz2 hg2
  have c0 := (hv.below ((Below.refl _ w).alloc (Nat.le_refl _) (ndX (t [])))).c0
  have f0 := (hv.below ((Below.refl _ w).alloc (Nat.le_refl _) (ndX (t [])))).fz 0
  have d0 := hv2.c0
  push_cast at d0
  obtain ⟨W1, hW1⟩ : ∃ W1, W1 = W.alloc (ndX (t [])) := ⟨_, rfl⟩
  have HW1 : Hid (W1 = W.alloc (ndX (t []))) := hW1
  have b1 : Below W.heap.size W W1 := by rw [hW1]; exact (Below.refl _ W).alloc (Nat.le_refl _) _
  have HC1 : Hid (Cs W1 G 0 (t [])) := hc2.kp (M := fun _ => False) (Kp.of b1) id
  have HV1 : Hid (Cn S W1 B v (s.k + 1) s.n s.n s.f) := hv2.below b1
  have hS2 : S ≤ W.heap.size := Nat.le_trans hS hk2.size
  have HT1 : Hid (Tat S W1 t) := ht2.below (b1.mono hS2)
  have HK1 : Hid (Kp (Mv B v) w W1) := hk2.trans (Kp.of b1)
  have HZ1 : Hid (S ≤ W1.heap.size ∧ w.heap.size ≤ W1.heap.size) := ⟨Nat.le_trans hS2 b1.size, Nat.le_trans hk2.size b1.size⟩
  have HM1 : Hid (¬ Mv B v G) := hg2
  have HNO : Hid (vd (m + 1) t OP s = none → Vr S B v (vd (m + 1) t OP s) w (.returned (.bool false)) W1) := fun e => by rw [e]; exact Vr.no (hk2.trans (Kp.of b1))
  obtain ⟨e0, e1, e2, e3, e4, e5, e6, e7, e8⟩ := hc2
  simp only [Nat.zero_add] at e0 e1 e2 e3 e4 e5 e6 e7 e8
  obtain ⟨x0, x1, x2, x3, x4, x5, x6, x7, x8⟩ := HC1.out
  simp only [Nat.zero_add] at x0 x1 x2 x3 x4 x5 x6 x7 x8
  have kB := rBrackets_any ab (t []).kind W
  have kBa := bare_any (t []) W
  rw [hbare] at kBa
  have hki : (s.k : Int) + 1 ≤ 8194 := by omega
  have IH : Hid (VdR S B m) := hIH
  have HN0 : Hid (s.n ≤ 100 ∧ s.k + 1 ≤ 8194 ∧ 8194 ≤ s.k + (m + 1)) := ⟨hn, hk, hm⟩
  have hkn0 : (t []).kn = 0 := hkn (by omega)
  have HR : Hid (vd (m + 1) t OP s = if setB (t []).rf (t []).rn = true then some { s with k := s.k + 1 } else none) := by
    unfold Hid
    have hnd3 : ndB (t []) = setB (t []).rf (t []).rn := by rw [hnd, if_neg (show ¬ (t []).kind = 2 by omega), if_pos hkind]
    rw [HVD.out, hnd3, hkn0]
    rw [mid_plain3 (show ¬ (t []).kind = 7 by omega) (show ¬ (t []).kind = 10 by omega) (show ¬ (t []).kind = 11 by omega)]
    cases setB (t []).rf (t []).rn <;> rfl
  have HY : Hid (∀ w', Below W1.heap.size W1 w' → vd (m + 1) t OP s = some { s with k := s.k + 1 } → Vr S B v (vd (m + 1) t OP s) w (.returned (.bool true)) w') := fun w' b e => by rw [e]; exact Vr.yes (HV1.out.below b) (Sub.refl _ _) (HK1.out.trans (Kp.of b))
  have HNO2 : Hid (∀ w', Below W1.heap.size W1 w' → vd (m + 1) t OP s = none → Vr S B v (vd (m + 1) t OP s) w (.returned (.bool false)) w') := fun w' b e => by rw [e]; exact Vr.no (HK1.out.trans (Kp.of b))
  have kR := rRanges_any (t []).ra (t []).rn (t []).rc (t []).rf W1 HT1.out.ranges.ml (by omega)
  clear hv hW hG hv2 hk2 hz2 hg2 ht ht2 hnd hkn hnode hIH hn hk hm hS hS2 b1 hW1 hbare HVD HT1 HC1 HV1 hkn0 IH HN0 HNO
  have HKD : Hid ((t []).kind = 3) := hkind
  clear hkind
  cases hb : brB ab (t []).kind
  all_goals
    have hOP2 := hOP
    unfold opN at hOP2
    rw [hb] at hOP2 kB
    simp only [Bool.false_eq_true, if_false, if_true] at hOP2
    clear hb hOP
    subst hOP2
    generalize hd : t [] = d at *
    have HD : Hid (t [] = d) := hd
    clear hd
    go_enter Try.func30, Try.ntmps30
    go_upto_region 2 with fail
    rw [← HW.out, ← HG.out]
    go_wp2_with fail
    go_fit kB
    rintro e w2 ⟨rfl, rfl⟩
    clear kB c0 f0
    go_wp2_with fail
    go_fit kBa
    rintro e w3 ⟨rfl, hw3⟩
    rw [← HW1.out] at hw3
    have hw3' := hw3.symm
    subst hw3'
    clear hw3
    clear kBa d0 e0 e1 e2 e3 e4 e5 e6 e7 e8
    rw [HKD.out] at x0
    cases hT : setB d.rf d.rn
    all_goals
      rw [hT] at HR kR
      simp only [Bool.false_eq_true, if_false, if_true] at HR
      go_wp2_with fail
      go_fit kR
      rintro e w4 ⟨rfl, b4⟩
      have B4 : Hid (Below W1.heap.size W1 w4) := b4
      clear b4 kR
      go_wp2
      go_ret
      first
        | exact HNO2.out _ B4.out HR.out
        | exact HY.out _ B4.out HR.out
end Go.Proofs.Ytbciclnffokjjaa
