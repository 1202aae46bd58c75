/- A bundle of texts. -/
import Derived.Test.YtajaadagejhllaaGreatDoorBs41
/- The reference's validity: valid at leaves. -/
namespace Go.Proofs.YtajaadagejhllaaGreatDoor
open Go.RowKit

theorem mid_plain3 {d : Nd} {s : St} (h7 : ¬ d.kind = 7) (h10 : ¬ d.kind = 10) (h11 : ¬ d.kind = 11) : mid d s = some s := by
  unfold mid
  rw [if_neg (fun h => by rcases h with h | h; exact h10 h; exact h11 h), if_neg h7]
theorem mid_plain {d : Nd} {s : St} (h7 : ¬ d.kind = 7) : ∃ l, mid d s = some { s with l := l } := by
  unfold mid
  by_cases h : d.kind = 10 ∨ d.kind = 11
  · exact ⟨true, by rw [if_pos h]⟩
  · exact ⟨s.l, by rw [if_neg h, if_neg h7]⟩
set_option maxHeartbeats 4000000 in
set_option maxRecDepth 100000 in
theorem valid_2 (S B m : Nat) (t : Tr) (ab op : Int) (s : St) (v : Value) (w : World) (hIH : VdR S B m) (hv : Cn S w B v s.k s.n s.n s.f) (ht : Tat S w t) (hk : s.k + 1 ≤ 8194) (hm : 8194 ≤ s.k + (m + 1)) (hn : s.n ≤ 100) (hS : S ≤ w.heap.size) (ho0 : 0 ≤ op) (hop : opN ab (t []).kind op ≤ 250) (h1 : 1 ≤ (t []).kind) (h13 : (t []).kind ≤ 13) (hbare : bareB (t []) = true) (hkind : (t []).kind = 2) :
    Calls Tryz.prog 42 #[.pointer (some ⟨B, 0, none⟩), ndV (t []), .int .i64 ab, .int .i64 op] w (Vr S B v (vd (m + 1) t (opN ab (t []).kind op) s) w) := by
  obtain ⟨hv2, hc2, hk2, hz2, hg2⟩ := cn_beg (t []) hv
  have ht2 := ht.below (hv.low hS hk2)
  obtain ⟨hnd, hkn⟩ := nd_of hbare h1 h13
  have hnode := ht.node
  obtain ⟨OP, hOP⟩ : ∃ OP, OP = opN ab (t []).kind op := ⟨_, rfl⟩
  rw [← hOP] at hop ⊢
  have HVD : Hid (vd (m + 1) t OP s = if ndB (t []) = false then none else (mid (t []) { s with k := s.k + 1 }).bind fun s1 => vds (vd m) t (if (t []).kind = 7 then OP + 1 else OP) (t []).kn s1) := by
    show (if _ then _ else _) = _
    cases e : ndB (t []) with
    | false => rw [if_pos (.inr (.inr rfl)), if_pos rfl]
    | true => rw [if_neg (fun h => by rcases h with h | h | h; exact absurd h (by omega); exact absurd h (by omega); cases h)]; rfl
  obtain ⟨W, hW⟩ : ∃ W, W = bgW w B (t []) s.k := ⟨_, rfl⟩
  have HW : Hid (W = (w.alloc (ndX (t []))).setCell ⟨B, 0, none⟩ (.int .i64 ((s.k : Int) + 1))) := hW
  rw [← hW] at hv2 hc2 hk2 hz2 ht2
  obtain ⟨G, hG⟩ : ∃ G, G = w.heap.size := ⟨_, rfl⟩
  have HG : Hid (G = w.heap.size) := hG
  rw [← hG] at hc2 hz2 hg2
  have c0 := (hv.below ((Below.refl _ w).alloc (Nat.le_refl _) (ndX (t [])))).c0
  have f0 := (hv.below ((Below.refl _ w).alloc (Nat.le_refl _) (ndX (t [])))).fz 0
  have d0 := hv2.c0
  push_cast at d0
  obtain ⟨W1, hW1⟩ : ∃ W1, W1 = W.alloc (ndX (t [])) := ⟨_, rfl⟩
  have HW1 : Hid (W1 = W.alloc (ndX (t []))) := hW1
  have b1 : Below W.heap.size W W1 := by rw [hW1]; exact (Below.refl _ W).alloc (Nat.le_refl _) _
  have HC1 : Hid (Cs W1 G 0 (t [])) := hc2.kp (M := fun _ => False) (Kp.of b1) id
  have HV1 : Hid (Cn S W1 B v (s.k + 1) s.n s.n s.f) := hv2.below b1
  have hS2 : S ≤ W.heap.size := Nat.le_trans hS hk2.size
  have HT1 : Hid (Tat S W1 t) := ht2.below (b1.mono hS2)
  have HK1 : Hid (Kp (Mv B v) w W1) := hk2.trans (Kp.of b1)
  have HZ1 : Hid (S ≤ W1.heap.size ∧ w.heap.size ≤ W1.heap.size) := ⟨Nat.le_trans hS2 b1.size, Nat.le_trans hk2.size b1.size⟩
  have HM1 : Hid (¬ Mv B v G) := hg2
  have HNO : Hid (vd (m + 1) t OP s = none → Vr S B v (vd (m + 1) t OP s) w (.returned (.bool false)) W1) := fun e => by rw [e]; exact Vr.no (hk2.trans (Kp.of b1))
  obtain ⟨e0, e1, e2, e3, e4, e5, e6, e7, e8⟩ := hc2
  simp only [Nat.zero_add] at e0 e1 e2 e3 e4 e5 e6 e7 e8
  obtain ⟨x0, x1, x2, x3, x4, x5, x6, x7, x8⟩ := HC1.out
  simp only [Nat.zero_add] at x0 x1 x2 x3 x4 x5 x6 x7 x8
  have kB := rBrackets_any ab (t []).kind W
  have kBa := bare_any (t []) W
  rw [hbare] at kBa
  have hki : (s.k : Int) + 1 ≤ 8194 := by omega
  have IH : Hid (VdR S B m) := hIH
  have HN0 : Hid (s.n ≤ 100 ∧ s.k + 1 ≤ 8194 ∧ 8194 ≤ s.k + (m + 1)) := ⟨hn, hk, hm⟩
  have hkn0 : (t []).kn = 0 := hkn (by omega)
  have HR : Hid (vd (m + 1) t OP s = if ruB (t []).r = true then some { s with k := s.k + 1 } else none) := by
    unfold Hid
    rw [HVD.out, hnd, if_pos hkind, hkn0]
    rw [mid_plain3 (show ¬ (t []).kind = 7 by omega) (show ¬ (t []).kind = 10 by omega) (show ¬ (t []).kind = 11 by omega)]
    cases ruB (t []).r <;> rfl
  have HY : Hid (vd (m + 1) t OP s = some { s with k := s.k + 1 } → Vr S B v (vd (m + 1) t OP s) w (.returned (.bool true)) W1) := fun e => by rw [e]; exact Vr.yes HV1.out (Sub.refl _ _) HK1.out
  have HNB : Hid (∀ b, b = false → vd (m + 1) t OP s = none → Vr S B v (vd (m + 1) t OP s) w (.returned (.bool b)) W1) := fun b e => by subst e; exact HNO.out
  have hr : ruB (t []).r = decide (0 ≤ (t []).r ∧ (t []).r ≤ 1114111) := rfl
  clear hv hW hG hv2 hk2 hz2 hg2 ht ht2 hnd hkn hnode hIH hn hk hm hS hS2 b1 hW1 hbare HVD HT1 HC1 HV1 hkn0 IH HN0
  have HKD : Hid ((t []).kind = 2) := hkind
  clear hkind
  cases hb : brB ab (t []).kind
  all_goals
    have hOP2 := hOP
    unfold opN at hOP2
    rw [hb] at hOP2 kB
    simp only [Bool.false_eq_true, if_false, if_true] at hOP2
    clear hb hOP
    subst hOP2
    generalize hd : t [] = d at *
    have HD : Hid (t [] = d) := hd
    clear hd
    go_enter Tryz.func42, Tryz.ntmps42
    go_upto_region 2 with fail
    rw [← HW.out, ← HG.out]
    go_wp2_with fail
    go_fit kB
    rintro e w2 ⟨rfl, rfl⟩
    clear kB c0 f0
    go_wp2_with fail
    go_fit kBa
    rintro e w3 ⟨rfl, hw3⟩
    rw [← HW1.out] at hw3
    have hw3' := hw3.symm
    subst hw3'
    clear hw3
    clear kBa d0 e0 e1 e2 e3 e4 e5 e6 e7 e8
    rw [HKD.out] at x0
    by_cases hr0 : 0 ≤ d.r
    · by_cases hr1 : d.r ≤ 1114111
      · have hT : ruB d.r = true := by rw [hr]; exact decide_eq_true ⟨hr0, hr1⟩
        rw [if_pos hT] at HR
        go_wp2
        go_ret
        exact HY.out HR.out
      · have hT : ¬ ruB d.r = true := by rw [hr]; simp; omega
        rw [if_neg hT] at HR
        go_wp2
        go_ret
        exact HNB.out _ (decide_eq_false (by omega)) HR.out
    · have hT : ¬ ruB d.r = true := by rw [hr]; simp; omega
      rw [if_neg hT] at HR
      go_wp2
      go_ret
      exact HNO.out HR.out
set_option maxHeartbeats 4000000 in
set_option maxRecDepth 100000 in
theorem valid_3 (S B m : Nat) (t : Tr) (ab op : Int) (s : St) (v : Value) (w : World) (hIH : VdR S B m) (hv : Cn S w B v s.k s.n s.n s.f) (ht : Tat S w t) (hk : s.k + 1 ≤ 8194) (hm : 8194 ≤ s.k + (m + 1)) (hn : s.n ≤ 100) (hS : S ≤ w.heap.size) (ho0 : 0 ≤ op) (hop : opN ab (t []).kind op ≤ 250) (h1 : 1 ≤ (t []).kind) (h13 : (t []).kind ≤ 13) (hbare : bareB (t []) = true) (hkind : (t []).kind = 3) :
    Calls Tryz.prog 42 #[.pointer (some ⟨B, 0, none⟩), ndV (t []), .int .i64 ab, .int .i64 op] w (Vr S B v (vd (m + 1) t (opN ab (t []).kind op) s) w) := by
  obtain ⟨hv2, hc2, hk2, hz2, hg2⟩ := cn_beg (t []) hv
  have ht2 := ht.below (hv.low hS hk2)
  obtain ⟨hnd, hkn⟩ := nd_of hbare h1 h13
  have hnode := ht.node
  obtain ⟨OP, hOP⟩ : ∃ OP, OP = opN ab (t []).kind op := ⟨_, rfl⟩
  rw [← hOP] at hop ⊢
  have HVD : Hid (vd (m + 1) t OP s = if ndB (t []) = false then none else (mid (t []) { s with k := s.k + 1 }).bind fun s1 => vds (vd m) t (if (t []).kind = 7 then OP + 1 else OP) (t []).kn s1) := by
    show (if _ then _ else _) = _
    cases e : ndB (t []) with
    | false => rw [if_pos (.inr (.inr rfl)), if_pos rfl]
    | true => rw [if_neg (fun h => by rcases h with h | h | h; exact absurd h (by omega); exact absurd h (by omega); cases h)]; rfl
  obtain ⟨W, hW⟩ : ∃ W, W = bgW w B (t []) s.k := ⟨_, rfl⟩
  have HW : Hid (W = (w.alloc (ndX (t []))).setCell ⟨B, 0, none⟩ (.int .i64 ((s.k : Int) + 1))) := hW
  rw [← hW] at hv2 hc2 hk2 hz2 ht2
  obtain ⟨G, hG⟩ : ∃ G, G = w.heap.size := ⟨_, rfl⟩
  have HG : Hid (G = w.heap.size) := hG
  rw [← hG] at hc2 hz2 hg2
  have c0 := (hv.below ((Below.refl _ w).alloc (Nat.le_refl _) (ndX (t [])))).c0
  have f0 := (hv.below ((Below.refl _ w).alloc (Nat.le_refl _) (ndX (t [])))).fz 0
  have d0 := hv2.c0
  push_cast at d0
  obtain ⟨W1, hW1⟩ : ∃ W1, W1 = W.alloc (ndX (t [])) := ⟨_, rfl⟩
  have HW1 : Hid (W1 = W.alloc (ndX (t []))) := hW1
  have b1 : Below W.heap.size W W1 := by rw [hW1]; exact (Below.refl _ W).alloc (Nat.le_refl _) _
  have HC1 : Hid (Cs W1 G 0 (t [])) := hc2.kp (M := fun _ => False) (Kp.of b1) id
  have HV1 : Hid (Cn S W1 B v (s.k + 1) s.n s.n s.f) := hv2.below b1
  have hS2 : S ≤ W.heap.size := Nat.le_trans hS hk2.size
  have HT1 : Hid (Tat S W1 t) := ht2.below (b1.mono hS2)
  have HK1 : Hid (Kp (Mv B v) w W1) := hk2.trans (Kp.of b1)
  have HZ1 : Hid (S ≤ W1.heap.size ∧ w.heap.size ≤ W1.heap.size) := ⟨Nat.le_trans hS2 b1.size, Nat.le_trans hk2.size b1.size⟩
  have HM1 : Hid (¬ Mv B v G) := hg2
  have HNO : Hid (vd (m + 1) t OP s = none → Vr S B v (vd (m + 1) t OP s) w (.returned (.bool false)) W1) := fun e => by rw [e]; exact Vr.no (hk2.trans (Kp.of b1))
  obtain ⟨e0, e1, e2, e3, e4, e5, e6, e7, e8⟩ := hc2
  simp only [Nat.zero_add] at e0 e1 e2 e3 e4 e5 e6 e7 e8
  obtain ⟨x0, x1, x2, x3, x4, x5, x6, x7, x8⟩ := HC1.out
  simp only [Nat.zero_add] at x0 x1 x2 x3 x4 x5 x6 x7 x8
  have kB := rBrackets_any ab (t []).kind W
  have kBa := bare_any (t []) W
  rw [hbare] at kBa
  have hki : (s.k : Int) + 1 ≤ 8194 := by omega
  have IH : Hid (VdR S B m) := hIH
  have HN0 : Hid (s.n ≤ 100 ∧ s.k + 1 ≤ 8194 ∧ 8194 ≤ s.k + (m + 1)) := ⟨hn, hk, hm⟩
  have hkn0 : (t []).kn = 0 := hkn (by omega)
  have HR : Hid (vd (m + 1) t OP s = if setB (t []).rf (t []).rn = true then some { s with k := s.k + 1 } else none) := by
    unfold Hid
    have hnd3 : ndB (t []) = setB (t []).rf (t []).rn := by rw [hnd, if_neg (show ¬ (t []).kind = 2 by omega), if_pos hkind]
    rw [HVD.out, hnd3, hkn0]
    rw [mid_plain3 (show ¬ (t []).kind = 7 by omega) (show ¬ (t []).kind = 10 by omega) (show ¬ (t []).kind = 11 by omega)]
    cases setB (t []).rf (t []).rn <;> rfl
  have HY : Hid (∀ w', Below W1.heap.size W1 w' → vd (m + 1) t OP s = some { s with k := s.k + 1 } → Vr S B v (vd (m + 1) t OP s) w (.returned (.bool true)) w') := fun w' b e => by rw [e]; exact Vr.yes (HV1.out.below b) (Sub.refl _ _) (HK1.out.trans (Kp.of b))
  have HNO2 : Hid (∀ w', Below W1.heap.size W1 w' → vd (m + 1) t OP s = none → Vr S B v (vd (m + 1) t OP s) w (.returned (.bool false)) w') := fun w' b e => by rw [e]; exact Vr.no (HK1.out.trans (Kp.of b))
  have kR := rRanges_any (t []).ra (t []).rn (t []).rc (t []).rf W1 HT1.out.ranges.ml (by omega)
  clear hv hW hG hv2 hk2 hz2 hg2 ht ht2 hnd hkn hnode hIH hn hk hm hS hS2 b1 hW1 hbare HVD HT1 HC1 HV1 hkn0 IH HN0 HNO
  have HKD : Hid ((t []).kind = 3) := hkind
  clear hkind
  cases hb : brB ab (t []).kind
  all_goals
    have hOP2 := hOP
    unfold opN at hOP2
    rw [hb] at hOP2 kB
    simp only [Bool.false_eq_true, if_false, if_true] at hOP2
    clear hb hOP
    subst hOP2
    generalize hd : t [] = d at *
    have HD : Hid (t [] = d) := hd
    clear hd
    go_enter Tryz.func42, Tryz.ntmps42
    go_upto_region 2 with fail
    rw [← HW.out, ← HG.out]
    go_wp2_with fail
    go_fit kB
    rintro e w2 ⟨rfl, rfl⟩
    clear kB c0 f0
    go_wp2_with fail
    go_fit kBa
    rintro e w3 ⟨rfl, hw3⟩
    rw [← HW1.out] at hw3
    have hw3' := hw3.symm
    subst hw3'
    clear hw3
    clear kBa d0 e0 e1 e2 e3 e4 e5 e6 e7 e8
    rw [HKD.out] at x0
    cases hT : setB d.rf d.rn
    all_goals
      rw [hT] at HR kR
      simp only [Bool.false_eq_true, if_false, if_true] at HR
      go_wp2_with fail
      go_fit kR
      rintro e w4 ⟨rfl, b4⟩
      have B4 : Hid (Below W1.heap.size W1 w4) := b4
      clear b4 kR
      go_wp2
      go_ret
      first
        | exact HNO2.out _ B4.out HR.out
        | exact HY.out _ B4.out HR.out
end Go.Proofs.YtajaadagejhllaaGreatDoor
/- The reference's validity: valid over kids. -/
namespace Go.Proofs.YtajaadagejhllaaGreatDoor
open Go.RowKit

set_option maxHeartbeats 4000000 in
set_option maxRecDepth 100000 in
theorem valid_4 (S B m : Nat) (t : Tr) (ab op : Int) (s : St) (v : Value) (w : World) (hIH : VdR S B m) (hv : Cn S w B v s.k s.n s.n s.f) (ht : Tat S w t) (hk : s.k + 1 ≤ 8194) (hm : 8194 ≤ s.k + (m + 1)) (hn : s.n ≤ 100) (hS : S ≤ w.heap.size) (ho0 : 0 ≤ op) (hop : opN ab (t []).kind op ≤ 250) (h1 : 1 ≤ (t []).kind) (h13 : (t []).kind ≤ 13) (hbare : bareB (t []) = true) (hkind : (t []).kind = 4) :
    Calls Tryz.prog 42 #[.pointer (some ⟨B, 0, none⟩), ndV (t []), .int .i64 ab, .int .i64 op] w (Vr S B v (vd (m + 1) t (opN ab (t []).kind op) s) w) := by
  obtain ⟨hv2, hc2, hk2, hz2, hg2⟩ := cn_beg (t []) hv
  have ht2 := ht.below (hv.low hS hk2)
  obtain ⟨hnd, hkn⟩ := nd_of hbare h1 h13
  have hnode := ht.node
  obtain ⟨OP, hOP⟩ : ∃ OP, OP = opN ab (t []).kind op := ⟨_, rfl⟩
  rw [← hOP] at hop ⊢
  have HVD : Hid (vd (m + 1) t OP s = if ndB (t []) = false then none else (mid (t []) { s with k := s.k + 1 }).bind fun s1 => vds (vd m) t (if (t []).kind = 7 then OP + 1 else OP) (t []).kn s1) := by
    show (if _ then _ else _) = _
    cases e : ndB (t []) with
    | false => rw [if_pos (.inr (.inr rfl)), if_pos rfl]
    | true => rw [if_neg (fun h => by rcases h with h | h | h; exact absurd h (by omega); exact absurd h (by omega); cases h)]; rfl
  obtain ⟨W, hW⟩ : ∃ W, W = bgW w B (t []) s.k := ⟨_, rfl⟩
  have HW : Hid (W = (w.alloc (ndX (t []))).setCell ⟨B, 0, none⟩ (.int .i64 ((s.k : Int) + 1))) := hW
  rw [← hW] at hv2 hc2 hk2 hz2 ht2
  obtain ⟨G, hG⟩ : ∃ G, G = w.heap.size := ⟨_, rfl⟩
  have HG : Hid (G = w.heap.size) := hG
  rw [← hG] at hc2 hz2 hg2
  have c0 := (hv.below ((Below.refl _ w).alloc (Nat.le_refl _) (ndX (t [])))).c0
  have f0 := (hv.below ((Below.refl _ w).alloc (Nat.le_refl _) (ndX (t [])))).fz 0
  have d0 := hv2.c0
  push_cast at d0
  obtain ⟨W1, hW1⟩ : ∃ W1, W1 = W.alloc (ndX (t [])) := ⟨_, rfl⟩
  have HW1 : Hid (W1 = W.alloc (ndX (t []))) := hW1
  have b1 : Below W.heap.size W W1 := by rw [hW1]; exact (Below.refl _ W).alloc (Nat.le_refl _) _
  have HC1 : Hid (Cs W1 G 0 (t [])) := hc2.kp (M := fun _ => False) (Kp.of b1) id
  have HV1 : Hid (Cn S W1 B v (s.k + 1) s.n s.n s.f) := hv2.below b1
  have hS2 : S ≤ W.heap.size := Nat.le_trans hS hk2.size
  have HT1 : Hid (Tat S W1 t) := ht2.below (b1.mono hS2)
  have HK1 : Hid (Kp (Mv B v) w W1) := hk2.trans (Kp.of b1)
  have HZ1 : Hid (S ≤ W1.heap.size ∧ w.heap.size ≤ W1.heap.size) := ⟨Nat.le_trans hS2 b1.size, Nat.le_trans hk2.size b1.size⟩
  have HM1 : Hid (¬ Mv B v G) := hg2
  have HNO : Hid (vd (m + 1) t OP s = none → Vr S B v (vd (m + 1) t OP s) w (.returned (.bool false)) W1) := fun e => by rw [e]; exact Vr.no (hk2.trans (Kp.of b1))
  obtain ⟨e0, e1, e2, e3, e4, e5, e6, e7, e8⟩ := hc2
  simp only [Nat.zero_add] at e0 e1 e2 e3 e4 e5 e6 e7 e8
  obtain ⟨x0, x1, x2, x3, x4, x5, x6, x7, x8⟩ := HC1.out
  simp only [Nat.zero_add] at x0 x1 x2 x3 x4 x5 x6 x7 x8
  have kB := rBrackets_any ab (t []).kind W
  have kBa := bare_any (t []) W
  rw [hbare] at kBa
  have hki : (s.k : Int) + 1 ≤ 8194 := by omega
  have IH : Hid (VdR S B m) := hIH
  have HN0 : Hid (s.n ≤ 100 ∧ s.k + 1 ≤ 8194 ∧ 8194 ≤ s.k + (m + 1)) := ⟨hn, hk, hm⟩
  have hnd2 : ndB (t []) = (decide (2 ≤ ((t []).kn : Int))) := by rw [hnd, if_neg (show ¬ (t []).kind = 2 by omega), if_neg (show ¬ (t []).kind = 3 by omega), if_pos (show (t []).kind = 4 ∨ (t []).kind = 5 by omega)]
  obtain ⟨N, hN⟩ : ∃ N, (t []).kn = N := ⟨_, rfl⟩
  have HN : Hid ((t []).kn = N) := hN
  have hNb : (N : Int) ≤ 140737488351232 := by rw [← hN]; omega
  obtain ⟨s1, hs1⟩ : ∃ s1 : St, s1 = { s with k := s.k + 1 } := ⟨_, rfl⟩
  have HV : Hid (ndB (t []) = true → vd (m + 1) t OP s = vds (vd m) t OP N s1) := fun e => by
    rw [HVD.out, e, mid_plain3 (show ¬ (t []).kind = 7 by omega) (show ¬ (t []).kind = 10 by omega) (show ¬ (t []).kind = 11 by omega), if_neg (show ¬ (t []).kind = 7 by omega), hN, hs1]
    rfl
  have HVN : Hid (ndB (t []) = false → Vr S B v (vd (m + 1) t OP s) w (.returned (.bool false)) W1) := fun e => HNO.out (by rw [HVD.out, e]; rfl)
  have HS4 : Hid (Cn S W1 B v s1.k s1.n s1.n s1.f) := by rw [hs1]; exact HV1.out
  have HKK : Hid (8194 ≤ s1.k + m ∧ s1.k ≤ 8194 ∧ s1.n ≤ 100) := by rw [hs1]; exact ⟨by show 8194 ≤ s.k + 1 + m; omega, by show s.k + 1 ≤ 8194; omega, hn⟩
  have HGL : Hid (G < W1.heap.size) := Nat.lt_of_lt_of_le hz2 b1.size
  have HSB : Hid (Sub w v v) := Sub.refl _ _
  rw [hN] at x8 hnd2
  have HKD : Hid ((t []).kind = 4) := hkind
  clear hv hW hG hv2 hk2 hz2 hg2 ht ht2 hnd hkn hnode hIH hn hk hm hS hS2 b1 hW1 hbare HVD HC1 HV1 HN0 HNO hs1 hN hkind
  cases hb : brB ab (t []).kind
  all_goals
    have hOP2 := hOP
    unfold opN at hOP2
    rw [hb] at hOP2 kB
    simp only [Bool.false_eq_true, if_false, if_true] at hOP2
    clear hb hOP
    have HOP2 : Hid (OP = _) := hOP2
    have hop2 := hop
    rw [hOP2] at hop2
    have hO0 : 0 ≤ OP := by omega
    clear hOP2
    generalize hd : t [] = d at *
    have HD : Hid (t [] = d) := hd
    clear hd
    go_enter Tryz.func42, Tryz.ntmps42
    go_upto_region 2 with fail
    rw [← HW.out, ← HG.out]
    go_wp2_with fail
    go_fit kB
    rintro e w2 ⟨rfl, rfl⟩
    clear kB c0 f0
    go_wp2_with fail
    go_fit kBa
    rintro e w3 ⟨rfl, hw3⟩
    rw [← HW1.out] at hw3
    have hw3' := hw3.symm
    subst hw3'
    clear hw3
    rw [← HOP2.out]
    clear HOP2 hop2
    clear kBa d0 e0 e1 e2 e3 e4 e5 e6 e7 e8
    rw [HKD.out] at x0
    have HT4 := HT1
    have HKW := HK1
    have HZ4 := HZ1
    have HM4 := HM1
    generalize W1 = Wl at *
    generalize hvl : v = vl at HS4 HM4
    subst hvl
    by_cases hN2 : 2 ≤ (N : Int)
    · have HV : Hid (vd (m + 1) t OP s = vds (vd m) t OP N s1) := HV.out (by rw [hnd2]; exact decide_eq_true hN2)
      clear hnd2 HVN
      go_wp2_with fail
      go_loopw [9] (fun ivv w' => ∃ i : Nat, ivv = .int .i64 (i : Int) ∧ i ≤ N ∧ ∃ v' s', Hid (vds (vd m) t (OP) i s1 = some s' ∧ Cn S w' B v' s'.k s'.n s'.n s'.f ∧ Sub Wl v v' ∧ Kp (Mv B v) Wl w')) (fun ivv _ => N - (RowKit.intOf ivv).toNat)
      case atStart => exact ⟨0, rfl, by omega, v, s1, rfl, HS4.out, Sub.refl _ _, Kp.refl _ _⟩
      case round =>
        obtain ⟨i, rfl, hi, v', s', hI⟩ := hrel
        by_cases hlt : i < N
        · have hii : (i : Int) < N := by omega
          have HI : Hid (i < N) := hlt
          obtain ⟨hvd, hcn, hsub, hkp⟩ := hI.out
          have htr := HT4.out.below (HS4.out.low HZ4.out.1 hkp)
          have hsz : S ≤ wr.heap.size := Nat.le_trans HZ4.out.1 hkp.size
          obtain ⟨g1, o1, hka, hg1, hcs⟩ := htr.kids.at i (by rw [HD.out, HN.out]; exact hlt)
          have y0 := hkp.cell x0 HM4.out
          have y8 := hkp.cell x8 HM4.out
          have hks := vds_k hvd HKK.out.2.1
          have hns := vds_n hvd HKK.out.2.2
          have hk1 := HKK.out.1
          have HSC : Hid (vds (vd m) t (OP) (i + 1) s1 = vd m (kid t i) (opN 4 (t [i]).kind (OP)) s') := by
            have := vds_succ hvd
            rw [HD.out, HKD.out] at this
            exact this
          have kN := fun w2 (b : Below wr.heap.size wr w2) => IH.out (kid t i) 4 (OP) s' v' w2 (hcn.below b) ((htr.kid i (by rw [HD.out, HN.out]; exact hlt)).below (b.mono hsz)) hks.2 (by omega) hns (Nat.le_trans hsz b.size) (by omega) (by omega)
          change ∀ w2, Below wr.heap.size wr w2 → Calls Tryz.prog 42 #[.pointer (some ⟨B, 0, none⟩), ndV (t [i]), .int .i64 4, .int .i64 (OP)] w2 (Vr S B v' (vd m (kid t i) (opN 4 (t [i]).kind (OP)) s') w2) at kN
          have HKN : Hid (∀ w2, Below wr.heap.size wr w2 → Calls Tryz.prog 42 #[.pointer (some ⟨B, 0, none⟩), ndV (t [i]), .int .i64 4, .int .i64 (OP)] w2 fun e w6 => ((vd m (kid t i) (opN 4 (t [i]).kind (OP)) s' = none → e = .returned (.bool false)) ∧ ∀ s2, vd m (kid t i) (opN 4 (t [i]).kind (OP)) s' = some s2 → e = .returned (.bool true) ∧ Hid (∃ v2, Cn S w6 B v2 s2.k s2.n s2.n s2.f ∧ Sub Wl v v2)) ∧ Kp (Mv B v') wr w6) := fun w2 b => (kN w2 b).mono fun e w6 ⟨q1, q2, q3⟩ => ⟨⟨q1, fun s2 e2 => ⟨(q2 s2 e2).1, by
            obtain ⟨_, v2, a1, a2⟩ := q2 s2 e2
            exact ⟨v2, a1, hsub.trans a2 (Nat.le_trans hkp.size b.size)⟩⟩⟩, (Kp.of b).trans q3⟩
          have HUP : Hid (∀ w2, Kp (Mv B v') wr w2 → Kp (Mv B v) Wl w2) := fun w2 q => hkp.next hsub q
          rw [HD.out] at hka
          have HCS : Hid (∀ w2, Kp (Mv B v') wr w2 → Cs w2 g1 (o1 + i * 9) (t [i]) ∧ w2.cell? ⟨G, 0, none⟩ = some (.int .i64 4) ∧ w2.cell? ⟨G, 8, none⟩ = some (.slice d.ka N d.kc)) := fun w2 q => ⟨hcs.kp q (fun e => by have := (hcn.base _ e).1; omega), (by
            have : ¬ Mv B v' G := fun e => by
              rcases e with e | e
              · exact HM4.out (.inl e)
              · exact HM4.out (.inr (hsub G e HGL.out))
            exact ⟨q.cell y0 this, q.cell y8 this⟩)⟩
          rw [hka] at HCS x8
          clear hvd hcn hsub hkp htr hks hns hk1 kN hcs hka y0 y8
          generalize t [i] = dk at *
          have HKS : Hid (∀ w2, Kp (Mv B v') wr w2 → (w2.cell? ⟨G, 0, none⟩ = some (.int .i64 4) ∧ w2.cell? ⟨G, 8, none⟩ = some (.slice (some ⟨g1, o1, none⟩) N d.kc) ∧ w2.cell? ⟨g1, o1 + i * 9, none⟩ = some (.int .i64 dk.kind) ∧ w2.cell? ⟨g1, o1 + i * 9 + 1, none⟩ = some (.int .i32 dk.r) ∧ w2.cell? ⟨g1, o1 + i * 9 + 2, none⟩ = some (.slice dk.ra dk.rn dk.rc) ∧ w2.cell? ⟨g1, o1 + i * 9 + 3, none⟩ = some (.int .i64 dk.mn) ∧ w2.cell? ⟨g1, o1 + i * 9 + 4, none⟩ = some (.int .i64 dk.mx) ∧ w2.cell? ⟨g1, o1 + i * 9 + 5, none⟩ = some (.bool dk.lz) ∧ w2.cell? ⟨g1, o1 + i * 9 + 6, none⟩ = some (.int .i64 dk.cp) ∧ w2.cell? ⟨g1, o1 + i * 9 + 7, none⟩ = some (.string dk.nm) ∧ w2.cell? ⟨g1, o1 + i * 9 + 8, none⟩ = some (.slice dk.ka dk.kn dk.kc)) ∧ Kp (Mv B v') wr w2) := fun w2 q => by
            obtain ⟨⟨p0, p1, p2, p3, p4, p5, p6, p7, p8⟩, a1, a2⟩ := HCS.out w2 q
            exact ⟨⟨a1, a2, p0, p1, p2, p3, p4, p5, p6, p7, p8⟩, q⟩
          have hk0 : Kp (Mv B v') wr wr := Kp.refl _ _
          have hb0 : Below wr.heap.size wr wr := Below.refl _ _
          obtain ⟨⟨y0, y8, p0, p1, p2, p3, p4, p5, p6, p7, p8⟩, _⟩ := HKS.out wr hk0
          clear HCS
          cases hvk : vd m (kid t i) (opN 4 dk.kind (OP)) s' with
          | none =>
            rw [hvk] at HSC HKN
            have HV0 : Hid (vd (m + 1) t OP s = none) := by rw [HV.out]; exact vds_none HSC.out HI.out
            have HKN0 : Hid (∀ w2, Below wr.heap.size wr w2 → Calls Tryz.prog 42 #[.pointer (some ⟨B, 0, none⟩), ndV dk, .int .i64 4, .int .i64 (OP)] w2 fun e w6 => e = .returned (.bool false) ∧ Kp (Mv B v') wr w6) := fun w2 b => (HKN.out w2 b).mono fun e w6 ⟨⟨q1, _⟩, q3⟩ => ⟨q1 rfl, q3⟩
            clear HKN HSC hvk HI
            go_wp2_with fail
            clear y0 y8 p0 p1 p2 p3 p4 p5 p6 p7 p8
            go_region_held3 (fun w2 => (w2.cell? ⟨G, 0, none⟩ = some (.int .i64 4) ∧ w2.cell? ⟨G, 8, none⟩ = some (.slice (some ⟨g1, o1, none⟩) N d.kc) ∧ w2.cell? ⟨g1, o1 + i * 9, none⟩ = some (.int .i64 dk.kind) ∧ w2.cell? ⟨g1, o1 + i * 9 + 1, none⟩ = some (.int .i32 dk.r) ∧ w2.cell? ⟨g1, o1 + i * 9 + 2, none⟩ = some (.slice dk.ra dk.rn dk.rc) ∧ w2.cell? ⟨g1, o1 + i * 9 + 3, none⟩ = some (.int .i64 dk.mn) ∧ w2.cell? ⟨g1, o1 + i * 9 + 4, none⟩ = some (.int .i64 dk.mx) ∧ w2.cell? ⟨g1, o1 + i * 9 + 5, none⟩ = some (.bool dk.lz) ∧ w2.cell? ⟨g1, o1 + i * 9 + 6, none⟩ = some (.int .i64 dk.cp) ∧ w2.cell? ⟨g1, o1 + i * 9 + 7, none⟩ = some (.string dk.nm) ∧ w2.cell? ⟨g1, o1 + i * 9 + 8, none⟩ = some (.slice dk.ka dk.kn dk.kc)) ∧ Kp (Mv B v') wr w2) (first | exact HKS.out _ (by assumption) | exact HKS.out _ (Kp.drew (by assumption))) (first | (go_at_call 42; go_fit (HKN0.out _ (by assumption)); rintro e w6 ⟨rfl, k6⟩) | (go_at_call 42; go_fit (HKN0.out _ (Below.drew (by assumption))); rintro e w6 ⟨rfl, k6⟩))
            have HK6 : Hid (Kp (Mv B v) w w6) := HKW.out.next HSB.out (HUP.out _ k6)
            clear k6
            go_wp2
            go_ret
            rw [HV0.out]
            exact Vr.no HK6.out
          | some s2 =>
            rw [hvk] at HSC HKN
            have HKN0 : Hid (∀ w2, Below wr.heap.size wr w2 → Calls Tryz.prog 42 #[.pointer (some ⟨B, 0, none⟩), ndV dk, .int .i64 4, .int .i64 (OP)] w2 fun e w6 => e = .returned (.bool true) ∧ Hid (∃ v2, Cn S w6 B v2 s2.k s2.n s2.n s2.f ∧ Sub Wl v v2) ∧ Kp (Mv B v') wr w6) := fun w2 b => (HKN.out w2 b).mono fun e w6 ⟨⟨_, q2⟩, q3⟩ => ⟨(q2 s2 rfl).1, (q2 s2 rfl).2, q3⟩
            clear HKN hvk
            go_wp2_with fail
            clear y0 y8 p0 p1 p2 p3 p4 p5 p6 p7 p8
            go_region_held3 (fun w2 => (w2.cell? ⟨G, 0, none⟩ = some (.int .i64 4) ∧ w2.cell? ⟨G, 8, none⟩ = some (.slice (some ⟨g1, o1, none⟩) N d.kc) ∧ w2.cell? ⟨g1, o1 + i * 9, none⟩ = some (.int .i64 dk.kind) ∧ w2.cell? ⟨g1, o1 + i * 9 + 1, none⟩ = some (.int .i32 dk.r) ∧ w2.cell? ⟨g1, o1 + i * 9 + 2, none⟩ = some (.slice dk.ra dk.rn dk.rc) ∧ w2.cell? ⟨g1, o1 + i * 9 + 3, none⟩ = some (.int .i64 dk.mn) ∧ w2.cell? ⟨g1, o1 + i * 9 + 4, none⟩ = some (.int .i64 dk.mx) ∧ w2.cell? ⟨g1, o1 + i * 9 + 5, none⟩ = some (.bool dk.lz) ∧ w2.cell? ⟨g1, o1 + i * 9 + 6, none⟩ = some (.int .i64 dk.cp) ∧ w2.cell? ⟨g1, o1 + i * 9 + 7, none⟩ = some (.string dk.nm) ∧ w2.cell? ⟨g1, o1 + i * 9 + 8, none⟩ = some (.slice dk.ka dk.kn dk.kc)) ∧ Kp (Mv B v') wr w2) (first | exact HKS.out _ (by assumption) | exact HKS.out _ (Kp.drew (by assumption))) (first | (go_at_call 42; go_fit (HKN0.out _ (by assumption)); rintro e w6 ⟨rfl, HC6, k6⟩) | (go_at_call 42; go_fit (HKN0.out _ (Below.drew (by assumption))); rintro e w6 ⟨rfl, HC6, k6⟩))
            have HK6 : Hid (Kp (Mv B v) Wl w6) := HUP.out _ k6
            clear k6
            obtain ⟨v2, a1, a2⟩ := HC6.out
            have HA : Hid _ := And.intro a1 a2
            clear HC6 a1 a2
            go_wp2
            exact ⟨⟨i + 1, by go_num, HI.out, v2, s2, HSC.out, HA.out.1, HA.out.2, HK6.out⟩, by simp [RowKit.intOf]; omega⟩
        · have hii : ¬ (i : Int) < N := by omega
          have hiN : N = i := by omega
          subst hiN
          obtain ⟨hvd, hcn, hsub, hkp⟩ := hI.out
          have y8 := hkp.cell x8 HM4.out
          have HY : Hid (Vr S B v (vd (m + 1) t OP s) w (.returned (.bool true)) wr) := by
            unfold Hid
            rw [HV.out, hvd]
            exact Vr.yes hcn (HSB.out.trans hsub HZ4.out.2) (HKW.out.next HSB.out hkp)
          clear hI hvd hcn hsub hkp
          go_wp2
          go_ret
          exact HY.out
    · have HVN2 : Hid (Vr S B v (vd (m + 1) t OP s) w (.returned (.bool false)) Wl) := HVN.out (by rw [hnd2]; exact decide_eq_false hN2)
      clear hnd2 HV HVN
      go_wp2
      go_ret
      exact HVN2.out
end Go.Proofs.YtajaadagejhllaaGreatDoor
