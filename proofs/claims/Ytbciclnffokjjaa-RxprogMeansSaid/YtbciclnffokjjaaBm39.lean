/- A bundle of texts. -/
import Derived.Test.YtbciclnffokjjaaBm34
import Derived.Test.YtbciclnffokjjaaBm35
import Derived.Test.YtbciclnffokjjaaBm36
import Derived.Test.YtbciclnffokjjaaBm37
import Derived.Test.YtbciclnffokjjaaBm38
import Derived.Test.YtbciclnffokjjaaBm30
/- The reference's validity: valid over kids. -/
namespace Go.Proofs.Ytbciclnffokjjaa
open Go.RowKit

set_option maxHeartbeats 4000000 in
set_option maxRecDepth 100000 in
theorem valid_else (S B m : Nat) (t : Tr) (ab op : Int) (s : St) (v : Value) (w : World) (hIH : VdR S B m) (hv : Cn S w B v s.k s.n s.n s.f) (ht : Tat S w t) (hk : s.k + 1 ≤ 8194) (hm : 8194 ≤ s.k + (m + 1)) (hn : s.n ≤ 100) (hS : S ≤ w.heap.size) (ho0 : 0 ≤ op) (hop : opN ab (t []).kind op ≤ 250) (h1 : 1 ≤ (t []).kind) (h13 : (t []).kind ≤ 13) (hbare : bareB (t []) = true) (k2 : ¬ (t []).kind = 2) (k3 : ¬ (t []).kind = 3) (k4 : ¬ (t []).kind = 4) (k5 : ¬ (t []).kind = 5) (k6 : ¬ (t []).kind = 6) (k7 : ¬ (t []).kind = 7) :
    Calls Try.prog 30 #[.pointer (some ⟨B, 0, none⟩), ndV (t []), .int .i64 ab, .int .i64 op] w (Vr S B v (vd (m + 1) t (opN ab (t []).kind op) s) w) := by
  obtain ⟨hv2, hc2, hk2, hz2, hg2⟩ := cn_beg (t []) hv
  have ht2 := ht.below (hv.low hS hk2)
  obtain ⟨hnd, hkn⟩ := nd_of hbare h1 h13
  have hnode := ht.node
  obtain ⟨OP, hOP⟩ : ∃ OP, OP = opN ab (t []).kind op := ⟨_, rfl⟩
  rw [← hOP] at hop ⊢
  have HVD : Hid (vd (m + 1) t OP s = if ndB (t []) = false then none else (mid (t []) { s with k := s.k + 1 }).bind fun s1 => vds (vd m) t (if (t []).kind = 7 then OP + 1 else OP) (t []).kn s1) := by
    show (if _ then _ else _) = _
    cases e : ndB (t []) with
    | false => rw [if_pos (.inr (.inr rfl)), if_pos rfl]
    | true => rw [if_neg (fun h => by rcases h with h | h | h; exact absurd h (by omega); exact absurd h (by omega); cases h)]; rfl
  obtain ⟨W, hW⟩ : ∃ W, W = bgW w B (t []) s.k := ⟨_, rfl⟩
  have HW : Hid (W = (w.alloc (ndX (t []))).setCell ⟨B, 0, none⟩ (.int .i64 ((s.k : Int) + 1))) := hW
  rw [← hW] at hv2 hc2 hk2 hz2 ht2
  obtain ⟨G, hG⟩ : ∃ G, G = w.heap.size := ⟨_, rfl⟩
  have HG : Hid (G = w.heap.size) := hG
  rw [← hG] at hc2 hz2 hg2
  have c0 := (hv.below ((Below.refl _ w).alloc (Nat.le_refl _) (ndX (t [])))).c0
  have f0 := (hv.below ((Below.refl _ w).alloc (Nat.le_refl _) (ndX (t [])))).fz 0
  have d0 := hv2.c0
  push_cast at d0
  obtain ⟨W1, hW1⟩ : ∃ W1, W1 = W.alloc (ndX (t [])) := ⟨_, rfl⟩
  have HW1 : Hid (W1 = W.alloc (ndX (t []))) := hW1
  have b1 : Below W.heap.size W W1 := by rw [hW1]; exact (Below.refl _ W).alloc (Nat.le_refl _) _
  have HC1 : Hid (Cs W1 G 0 (t [])) := hc2.kp (M := fun _ => False) (Kp.of b1) id
  have HV1 : Hid (Cn S W1 B v (s.k + 1) s.n s.n s.f) := hv2.below b1
  have hS2 : S ≤ W.heap.size := Nat.le_trans hS hk2.size
  have HT1 : Hid (Tat S W1 t) := ht2.below (b1.mono hS2)
  have HK1 : Hid (Kp (Mv B v) w W1) := hk2.trans (Kp.of b1)
  have HZ1 : Hid (S ≤ W1.heap.size ∧ w.heap.size ≤ W1.heap.size) := ⟨Nat.le_trans hS2 b1.size, Nat.le_trans hk2.size b1.size⟩
  have HM1 : Hid (¬ Mv B v G) := hg2
  have HNO : Hid (vd (m + 1) t OP s = none → Vr S B v (vd (m + 1) t OP s) w (.returned (.bool false)) W1) := fun e => by rw [e]; exact Vr.no (hk2.trans (Kp.of b1))
  obtain ⟨e0, e1, e2, e3, e4, e5, e6, e7, e8⟩ := hc2
  simp only [Nat.zero_add] at e0 e1 e2 e3 e4 e5 e6 e7 e8
  obtain ⟨x0, x1, x2, x3, x4, x5, x6, x7, x8⟩ := HC1.out
  simp only [Nat.zero_add] at x0 x1 x2 x3 x4 x5 x6 x7 x8
  have kB := rBrackets_any ab (t []).kind W
  have kBa := bare_any (t []) W
  rw [hbare] at kBa
  have hki : (s.k : Int) + 1 ≤ 8194 := by omega
  have IH : Hid (VdR S B m) := hIH
  have HN0 : Hid (s.n ≤ 100 ∧ s.k + 1 ≤ 8194 ∧ 8194 ≤ s.k + (m + 1)) := ⟨hn, hk, hm⟩
  have hkn0 : (t []).kn = 0 := hkn (by omega)
  have hnT : ndB (t []) = true := by rw [hnd, if_neg k2, if_neg k3, if_neg (by omega), if_neg k6, if_neg k7]
  obtain ⟨l, hmid⟩ := mid_plain (d := t []) (s := { s with k := s.k + 1 }) k7
  have HV0 : Hid (vd (m + 1) t OP s = some { s with k := s.k + 1, l := l }) := by
    unfold Hid
    rw [HVD.out, hnT, hmid, hkn0]
    rfl
  have HY : Hid (Vr S B v (vd (m + 1) t OP s) w (.returned (.bool true)) W1) := by unfold Hid; rw [HV0.out]; exact Vr.yes HV1.out (Sub.refl _ _) HK1.out
  have t2 : ((t []).kind == 2) = false := by simpa using k2
  have t3 : ((t []).kind == 3) = false := by simpa using k3
  have t4 : ((t []).kind == 4) = false := by simpa using k4
  have t5 : ((t []).kind == 5) = false := by simpa using k5
  have t6 : ((t []).kind == 6) = false := by simpa using k6
  have t7 : ((t []).kind == 7) = false := by simpa using k7
  rw [hkn0] at x8
  clear hv hW hG hv2 hk2 hz2 hg2 ht ht2 hnd hkn hnode hIH hn hk hm hS hS2 b1 hW1 hbare HVD HT1 HC1 HV1 hkn0 IH HN0 HNO hnT hmid HV0 k2 k3 k4 k5 k6 k7
  cases hb : brB ab (t []).kind
  all_goals
    have hOP2 := hOP
    unfold opN at hOP2
    rw [hb] at hOP2 kB
    simp only [Bool.false_eq_true, if_false, if_true] at hOP2
    clear hb hOP
    subst hOP2
    generalize hd : t [] = d at *
    have HD : Hid (t [] = d) := hd
    clear hd
    go_enter Try.func30, Try.ntmps30
    go_upto_region 2 with fail
    rw [← HW.out, ← HG.out]
    go_wp2_with fail
    go_fit kB
    rintro e w2 ⟨rfl, rfl⟩
    clear kB c0 f0
    go_wp2_with fail
    go_fit kBa
    rintro e w3 ⟨rfl, hw3⟩
    rw [← HW1.out] at hw3
    have hw3' := hw3.symm
    subst hw3'
    clear hw3
    clear kBa d0 e0 e1 e2 e3 e4 e5 e6 e7 e8
    go_wp2_with fail
    go_loopw [9] (fun ivv w' => ivv = .int .i64 0 ∧ w' = W1) (fun _ _ => 0)
    case atStart => exact ⟨rfl, rfl⟩
    case round =>
      obtain ⟨rfl, hw⟩ := hrel
      have hw' := hw.symm
      subst hw'
      go_wp2
      go_ret
      exact HY.out
end Go.Proofs.Ytbciclnffokjjaa
/- The reference's validity: valid over any tree; Valid, Size. -/
namespace Go.Proofs.Ytbciclnffokjjaa
open Go.RowKit

theorem validR_of (S B m : Nat) (hIH : ∀ m', m = m' + 1 → VdR S B m') : VdR S B m := by
  intro t ab op s v w hv ht hk hm hn hS ho0 ho1
  by_cases hF : 8194 < s.k + 1 ∨ 250 < opN ab (t []).kind op ∨ (t []).kind < 1 ∨ 13 < (t []).kind ∨ bareB (t []) = false
  · exact valid_early S B m t ab op s v w hv hk ho0 ho1 hF
  have f1 : s.k + 1 ≤ 8194 := Nat.le_of_not_lt (fun h => hF (.inl h))
  have f2 : opN ab (t []).kind op ≤ 250 := Int.not_lt.1 (fun h => hF (.inr (.inl h)))
  have f3 : 1 ≤ (t []).kind := Int.not_lt.1 (fun h => hF (.inr (.inr (.inl h))))
  have f4 : (t []).kind ≤ 13 := Int.not_lt.1 (fun h => hF (.inr (.inr (.inr (.inl h)))))
  have f5 : bareB (t []) = true := by
    cases e : bareB (t []) with
    | true => rfl
    | false => exact absurd (.inr (.inr (.inr (.inr e)))) hF
  obtain ⟨m, rfl⟩ : ∃ m', m = m' + 1 := ⟨m - 1, by omega⟩
  have IH := hIH m rfl
  by_cases k2 : (t []).kind = 2
  · exact valid_2 S B m t ab op s v w IH hv ht f1 hm hn hS ho0 f2 f3 f4 f5 k2
  by_cases k3 : (t []).kind = 3
  · exact valid_3 S B m t ab op s v w IH hv ht f1 hm hn hS ho0 f2 f3 f4 f5 k3
  by_cases k4 : (t []).kind = 4
  · exact valid_4 S B m t ab op s v w IH hv ht f1 hm hn hS ho0 f2 f3 f4 f5 k4
  by_cases k5 : (t []).kind = 5
  · exact valid_5 S B m t ab op s v w IH hv ht f1 hm hn hS ho0 f2 f3 f4 f5 k5
  by_cases k6 : (t []).kind = 6
  · exact valid_6 S B m t ab op s v w IH hv ht f1 hm hn hS ho0 f2 f3 f4 f5 k6
  by_cases k7 : (t []).kind = 7
  · exact valid_7 S B m t ab op s v w IH hv ht f1 hm hn hS ho0 f2 f3 f4 f5 k7
  exact valid_else S B m t ab op s v w IH hv ht f1 hm hn hS ho0 f2 f3 f4 f5 k2 k3 k4 k5 k6 k7
theorem validR_any (S B : Nat) : ∀ m, VdR S B m
  | 0 => validR_of S B 0 (fun _ h => by cases h)
  | m + 1 => validR_of S B (m + 1) (fun m' h => by cases h; exact validR_any S B m)
abbrev cX : Obj := .cells #[.int .i64 0, .int .i64 0, .slice none 0 0] 63
theorem cn_new (w : World) : Cn w.heap.size (w.alloc cX) w.heap.size (.slice none 0 0) s0.k s0.n s0.n s0.f := by
  have e : (w.alloc cX).heap[w.heap.size]? = some cX := heap_alloc_new w _
  refine ⟨?_, ?_, ?_, ?_, ⟨rfl, .inl ⟨rfl, rfl⟩⟩, by simp [Value.ownBlock], Nat.le_refl _⟩
  · unfold World.cell?; rw [e]; rfl
  · unfold World.cell?; rw [e]; rfl
  · unfold World.cell?; rw [e]; rfl
  · intro o; unfold World.frozen?; rw [e]; rfl
set_option maxHeartbeats 1000000 in
set_option maxRecDepth 100000 in
theorem rvalid_any (t : Tr) (w : World) (ht : Tat w.heap.size w t) : Calls Try.prog 13 #[ndV (t [])] w fun e w' => e = .returned (.bool (okT t)) ∧ Below w.heap.size w w' := by
  obtain ⟨W, hW⟩ : ∃ W, W = w.alloc (ndX (t [])) := ⟨_, rfl⟩
  have HW : Hid (W = w.alloc (ndX (t []))) := hW
  have hb0 : Below w.heap.size w W := by rw [hW]; exact (Below.refl _ w).alloc (Nat.le_refl _) _
  have hz : W.heap.size = w.heap.size + 1 := by rw [hW]; simp
  have hc0 : Cs W w.heap.size 0 (t []) := ndX_cells (w := w) (t []) (by rw [hW]; exact Below.refl _ _)
  have hb1 : Below W.heap.size W (W.alloc cX) := (Below.refl _ W).alloc (Nat.le_refl _) _
  have hc1 := hc0.below hb1 (by omega)
  have htW : Tat W.heap.size (W.alloc cX) t := ((ht.below hb0).mono hb0.size).below hb1
  have hz1 : (W.alloc cX).heap.size = W.heap.size + 1 := World.size_alloc _ _
  have kV := validR_any W.heap.size W.heap.size 8195 t 0 0 s0 (.slice none 0 0) (W.alloc cX) (cn_new W) htW (by show 0 ≤ 8194; omega) (by show 8194 ≤ 0 + 8195; omega) (by show 0 ≤ 100; omega) hb1.size (by omega) (by omega)
  have hop : opN 0 (t []).kind 0 = 0 := by
    unfold opN
    rw [if_neg]
    intro h
    have : brB 0 (t []).kind = decide _ := rfl
    rw [this] at h
    have := of_decide_eq_true h
    omega
  rw [hop] at kV
  have HE : Hid (∀ e w', Vr W.heap.size W.heap.size (.slice none 0 0) (vd 8195 t 0 s0) (W.alloc cX) e w' → e = .returned (.bool (okT t)) ∧ Below w.heap.size w w') := fun e w' ⟨q1, q2, q3⟩ => by
    refine ⟨?_, hb0.trans ((hb1.trans (q3.below hb1.size (fun b hb e => ?_))).mono hb0.size)⟩
    · unfold okT svd
      cases h : vd 8195 t 0 s0 with
      | none => exact q1 h
      | some s1 => exact (q2 s1 h).1
    · rcases e with e | e
      · omega
      · cases e
  obtain ⟨e0, e1, e2, e3, e4, e5, e6, e7, e8⟩ := hc1
  simp only [Nat.zero_add] at e0 e1 e2 e3 e4 e5 e6 e7 e8
  clear hW hb0 hc0 hb1 htW hz1 hop ht hz
  generalize t [] = d at *
  go_enter Try.func13, Try.ntmps13
  go_upto_region 1 with fail
  rw [← HW.out]
  go_wp2_with fail
  go_fit kV
  rintro e w' hq
  obtain ⟨rfl, hb⟩ := HE.out e w' hq
  have HB : Hid (Below w.heap.size w w') := hb
  clear hb hq kV HE
  go_wp2
  go_ret
  exact ⟨rfl, HB.out⟩

set_option maxHeartbeats 1000000 in
set_option maxRecDepth 100000 in
theorem rSize_any (t : Tr) (w : World) (ht : Tat w.heap.size w t) : Calls Try.prog 14 #[ndV (t [])] w fun e w' => e = .returned (.int .i64 (sizF t)) ∧ Below w.heap.size w w' := by
  have hb : Below w.heap.size w (w.alloc (ndX (t []))) := (Below.refl _ w).alloc (Nat.le_refl _) _
  have ht1 : Tat (w.alloc (ndX (t []))).heap.size (w.alloc (ndX (t []))) t := (ht.below hb).mono hb.size
  have kV := rvalid_any t _ ht1
  have HB : Hid _ := hb
  have hc := ndX_cells (w := w) (t []) (Below.refl _ _)
  cases ho : okT t
  · rw [ho] at kV
    have HE : Hid (sizF t = 0) := by unfold Hid sizF; rw [ho]; rfl
    clear ht ht1 ho hb hc
    generalize t [] = d at *
    go_enter Try.func14, Try.ntmps14
    go_wp2_with fail
    go_fit kV
    rintro e w1 ⟨rfl, b1⟩
    have B1 : Hid _ := HB.out.trans (b1.mono HB.out.size)
    clear b1
    go_wp2
    go_ret
    exact ⟨ret_int HE.out.symm, B1.out⟩
  · rw [ho] at kV
    have hwf := WF_ok ho
    have hl := lenF_bd 8195 t hwf
    have HE : Hid (sizF t = min (lenF 8195 t + 1) 10001) := by unfold Hid sizF; rw [ho]; rfl
    have HL : Hid (∀ w1, Below (w.alloc (ndX (t []))).heap.size (w.alloc (ndX (t []))) w1 → Calls Try.prog 31 #[ndV (t [])] w1 fun e w' => e = .returned (.int .i64 (lenF 8195 t)) ∧ Below w1.heap.size w1 w') := fun w1 b => rsize_any 8195 t w1 hwf ((ht1.below b).mono b.size)
    have HC : Hid (∀ w1, Below (w.alloc (ndX (t []))).heap.size (w.alloc (ndX (t []))) w1 → Cs w1 w.heap.size 0 (t [])) := fun w1 b => ndX_cells (t []) b
    obtain ⟨hl0, hl1⟩ := hl
    generalize lenF 8195 t = L at *
    clear ht ht1 ho hb hc hwf
    generalize t [] = d at *
    go_enter Try.func14, Try.ntmps14
    go_wp2_with fail
    go_fit kV
    rintro e w1 ⟨rfl, b1⟩
    have B1 : Hid _ := HB.out.trans (b1.mono HB.out.size)
    have kL := HL.out w1 b1
    obtain ⟨f0, f1, f2, f3, f4, f5, f6, f7, f8⟩ := HC.out w1 b1
    simp only [Nat.zero_add] at f0 f1 f2 f3 f4 f5 f6 f7 f8
    clear b1 kV
    go_wp2_with fail
    go_fit kL
    rintro e w2 ⟨rfl, b2⟩
    have B2 : Hid _ := B1.out.trans (b2.mono B1.out.size)
    clear b2 f0 f1 f2 f3 f4 f5 f6 f7 f8
    go_wp2
    all_goals go_ret
    all_goals exact ⟨ret_int (by rw [HE.out]), B2.out⟩
end Go.Proofs.Ytbciclnffokjjaa
