/- A bundle of texts. -/
import Derived.Test.YtajaadagejhllaaGreatDoorBs42
import Derived.Test.YtajaadagejhllaaGreatDoorBs43
import Derived.Test.YtajaadagejhllaaGreatDoorBs44
import Derived.Test.YtajaadagejhllaaGreatDoorBs45
import Derived.Test.YtajaadagejhllaaGreatDoorBs40
import Derived.Test.YtajaadagejhllaaGreatDoorBs41
import Derived.Test.YtajaadagejhllaaGreatDoorBs10
import Derived.Shelf.LaysM
import Derived.Shelf.Strconv.Clone
/- The reference's validity: valid over kids. -/
namespace Go.Proofs.YtajaadagejhllaaGreatDoor
open Go.RowKit

set_option maxHeartbeats 4000000 in
set_option maxRecDepth 100000 in
theorem valid_else (S B m : Nat) (t : Tr) (ab op : Int) (s : St) (v : Value) (w : World) (hIH : VdR S B m) (hv : Cn S w B v s.k s.n s.n s.f) (ht : Tat S w t) (hk : s.k + 1 ≤ 8194) (hm : 8194 ≤ s.k + (m + 1)) (hn : s.n ≤ 100) (hS : S ≤ w.heap.size) (ho0 : 0 ≤ op) (hop : opN ab (t []).kind op ≤ 250) (h1 : 1 ≤ (t []).kind) (h13 : (t []).kind ≤ 13) (hbare : bareB (t []) = true) (k2 : ¬ (t []).kind = 2) (k3 : ¬ (t []).kind = 3) (k4 : ¬ (t []).kind = 4) (k5 : ¬ (t []).kind = 5) (k6 : ¬ (t []).kind = 6) (k7 : ¬ (t []).kind = 7) :
    Calls Tryz.prog 42 #[.pointer (some ⟨B, 0, none⟩), ndV (t []), .int .i64 ab, .int .i64 op] w (Vr S B v (vd (m + 1) t (opN ab (t []).kind op) s) w) := by
  obtain ⟨hv2, hc2, hk2, hz2, hg2⟩ := cn_beg (t []) hv
  have ht2 := ht.below (hv.low hS hk2)
  obtain ⟨hnd, hkn⟩ := nd_of hbare h1 h13
  have hnode := ht.node
  obtain ⟨OP, hOP⟩ : ∃ OP, OP = opN ab (t []).kind op := ⟨_, rfl⟩
  rw [← hOP] at hop ⊢
  have HVD : Hid (vd (m + 1) t OP s = if ndB (t []) = false then none else (mid (t []) { s with k := s.k + 1 }).bind fun s1 => vds (vd m) t (if (t []).kind = 7 then OP + 1 else OP) (t []).kn s1) := by
    show (if _ then _ else _) = _
    cases e : ndB (t []) with
    | false => rw [if_pos (.inr (.inr rfl)), if_pos rfl]
    | true => rw [if_neg (fun h => by rcases h with h | h | h; exact absurd h (by omega); exact absurd h (by omega); cases h)]; rfl
  obtain ⟨W, hW⟩ : ∃ W, W = bgW w B (t []) s.k := ⟨_, rfl⟩
  have HW : Hid (W = (w.alloc (ndX (t []))).setCell ⟨B, 0, none⟩ (.int .i64 ((s.k : Int) + 1))) := hW
  rw [← hW] at hv2 hc2 hk2 hz2 ht2
  obtain ⟨G, hG⟩ : ∃ G, G = w.heap.size := ⟨_, rfl⟩
  have HG : Hid (G = w.heap.size) := hG
  rw [← hG] at hc2 hz2 hg2
  have c0 := (hv.below ((Below.refl _ w).alloc (Nat.le_refl _) (ndX (t [])))).c0
  have f0 := (hv.below ((Below.refl _ w).alloc (Nat.le_refl _) (ndX (t [])))).fz 0
  have d0 := hv2.c0
  push_cast at d0
  obtain ⟨W1, hW1⟩ : ∃ W1, W1 = W.alloc (ndX (t [])) := ⟨_, rfl⟩
  have HW1 : Hid (W1 = W.alloc (ndX (t []))) := hW1
  have b1 : Below W.heap.size W W1 := by rw [hW1]; exact (Below.refl _ W).alloc (Nat.le_refl _) _
  have HC1 : Hid (Cs W1 G 0 (t [])) := hc2.kp (M := fun _ => False) (Kp.of b1) id
  have HV1 : Hid (Cn S W1 B v (s.k + 1) s.n s.n s.f) := hv2.below b1
  have hS2 : S ≤ W.heap.size := Nat.le_trans hS hk2.size
  have HT1 : Hid (Tat S W1 t) := ht2.below (b1.mono hS2)
  have HK1 : Hid (Kp (Mv B v) w W1) := hk2.trans (Kp.of b1)
  have HZ1 : Hid (S ≤ W1.heap.size ∧ w.heap.size ≤ W1.heap.size) := ⟨Nat.le_trans hS2 b1.size, Nat.le_trans hk2.size b1.size⟩
  have HM1 : Hid (¬ Mv B v G) := hg2
  have HNO : Hid (vd (m + 1) t OP s = none → Vr S B v (vd (m + 1) t OP s) w (.returned (.bool false)) W1) := fun e => by rw [e]; exact Vr.no (hk2.trans (Kp.of b1))
  obtain ⟨e0, e1, e2, e3, e4, e5, e6, e7, e8⟩ := hc2
  simp only [Nat.zero_add] at e0 e1 e2 e3 e4 e5 e6 e7 e8
  obtain ⟨x0, x1, x2, x3, x4, x5, x6, x7, x8⟩ := HC1.out
  simp only [Nat.zero_add] at x0 x1 x2 x3 x4 x5 x6 x7 x8
  have kB := rBrackets_any ab (t []).kind W
  have kBa := bare_any (t []) W
  rw [hbare] at kBa
  have hki : (s.k : Int) + 1 ≤ 8194 := by omega
  have IH : Hid (VdR S B m) := hIH
  have HN0 : Hid (s.n ≤ 100 ∧ s.k + 1 ≤ 8194 ∧ 8194 ≤ s.k + (m + 1)) := ⟨hn, hk, hm⟩
  have hkn0 : (t []).kn = 0 := hkn (by omega)
  have hnT : ndB (t []) = true := by rw [hnd, if_neg k2, if_neg k3, if_neg (by omega), if_neg k6, if_neg k7]
  obtain ⟨l, hmid⟩ := mid_plain (d := t []) (s := { s with k := s.k + 1 }) k7
  have HV0 : Hid (vd (m + 1) t OP s = some { s with k := s.k + 1, l := l }) := by
    unfold Hid
    rw [HVD.out, hnT, hmid, hkn0]
    rfl
  have HY : Hid (Vr S B v (vd (m + 1) t OP s) w (.returned (.bool true)) W1) := by unfold Hid; rw [HV0.out]; exact Vr.yes HV1.out (Sub.refl _ _) HK1.out
  have t2 : ((t []).kind == 2) = false := by simpa using k2
  have t3 : ((t []).kind == 3) = false := by simpa using k3
  have t4 : ((t []).kind == 4) = false := by simpa using k4
  have t5 : ((t []).kind == 5) = false := by simpa using k5
  have t6 : ((t []).kind == 6) = false := by simpa using k6
  have t7 : ((t []).kind == 7) = false := by simpa using k7
  rw [hkn0] at x8
  clear hv hW hG hv2 hk2 hz2 hg2 ht ht2 hnd hkn hnode hIH hn hk hm hS hS2 b1 hW1 hbare HVD HT1 HC1 HV1 hkn0 IH HN0 HNO hnT hmid HV0 k2 k3 k4 k5 k6 k7
  cases hb : brB ab (t []).kind
  all_goals
    have hOP2 := hOP
    unfold opN at hOP2
    rw [hb] at hOP2 kB
    simp only [Bool.false_eq_true, if_false, if_true] at hOP2
    clear hb hOP
    subst hOP2
    generalize hd : t [] = d at *
    have HD : Hid (t [] = d) := hd
    clear hd
    go_enter Tryz.func42, Tryz.ntmps42
    go_upto_region 2 with fail
    rw [← HW.out, ← HG.out]
    go_wp2_with fail
    go_fit kB
    rintro e w2 ⟨rfl, rfl⟩
    clear kB c0 f0
    go_wp2_with fail
    go_fit kBa
    rintro e w3 ⟨rfl, hw3⟩
    rw [← HW1.out] at hw3
    have hw3' := hw3.symm
    subst hw3'
    clear hw3
    clear kBa d0 e0 e1 e2 e3 e4 e5 e6 e7 e8
    go_wp2_with fail
    go_loopw [9] (fun ivv w' => ivv = .int .i64 0 ∧ w' = W1) (fun _ _ => 0)
    case atStart => exact ⟨rfl, rfl⟩
    case round =>
      obtain ⟨rfl, hw⟩ := hrel
      have hw' := hw.symm
      subst hw'
      go_wp2
      go_ret
      exact HY.out
end Go.Proofs.YtajaadagejhllaaGreatDoor
/- The reference's validity: valid over any tree; Valid, Size. -/
namespace Go.Proofs.YtajaadagejhllaaGreatDoor
open Go.RowKit

theorem validR_of (S B m : Nat) (hIH : ∀ m', m = m' + 1 → VdR S B m') : VdR S B m := by
  intro t ab op s v w hv ht hk hm hn hS ho0 ho1
  by_cases hF : 8194 < s.k + 1 ∨ 250 < opN ab (t []).kind op ∨ (t []).kind < 1 ∨ 13 < (t []).kind ∨ bareB (t []) = false
  · exact valid_early S B m t ab op s v w hv hk ho0 ho1 hF
  have f1 : s.k + 1 ≤ 8194 := Nat.le_of_not_lt (fun h => hF (.inl h))
  have f2 : opN ab (t []).kind op ≤ 250 := Int.not_lt.1 (fun h => hF (.inr (.inl h)))
  have f3 : 1 ≤ (t []).kind := Int.not_lt.1 (fun h => hF (.inr (.inr (.inl h))))
  have f4 : (t []).kind ≤ 13 := Int.not_lt.1 (fun h => hF (.inr (.inr (.inr (.inl h)))))
  have f5 : bareB (t []) = true := by
    cases e : bareB (t []) with
    | true => rfl
    | false => exact absurd (.inr (.inr (.inr (.inr e)))) hF
  obtain ⟨m, rfl⟩ : ∃ m', m = m' + 1 := ⟨m - 1, by omega⟩
  have IH := hIH m rfl
  by_cases k2 : (t []).kind = 2
  · exact valid_2 S B m t ab op s v w IH hv ht f1 hm hn hS ho0 f2 f3 f4 f5 k2
  by_cases k3 : (t []).kind = 3
  · exact valid_3 S B m t ab op s v w IH hv ht f1 hm hn hS ho0 f2 f3 f4 f5 k3
  by_cases k4 : (t []).kind = 4
  · exact valid_4 S B m t ab op s v w IH hv ht f1 hm hn hS ho0 f2 f3 f4 f5 k4
  by_cases k5 : (t []).kind = 5
  · exact valid_5 S B m t ab op s v w IH hv ht f1 hm hn hS ho0 f2 f3 f4 f5 k5
  by_cases k6 : (t []).kind = 6
  · exact valid_6 S B m t ab op s v w IH hv ht f1 hm hn hS ho0 f2 f3 f4 f5 k6
  by_cases k7 : (t []).kind = 7
  · exact valid_7 S B m t ab op s v w IH hv ht f1 hm hn hS ho0 f2 f3 f4 f5 k7
  exact valid_else S B m t ab op s v w IH hv ht f1 hm hn hS ho0 f2 f3 f4 f5 k2 k3 k4 k5 k6 k7
theorem validR_any (S B : Nat) : ∀ m, VdR S B m
  | 0 => validR_of S B 0 (fun _ h => by cases h)
  | m + 1 => validR_of S B (m + 1) (fun m' h => by cases h; exact validR_any S B m)
abbrev cX : Obj := .cells #[.int .i64 0, .int .i64 0, .slice none 0 0] 66
theorem cn_new (w : World) : Cn w.heap.size (w.alloc cX) w.heap.size (.slice none 0 0) s0.k s0.n s0.n s0.f := by
  have e : (w.alloc cX).heap[w.heap.size]? = some cX := heap_alloc_new w _
  refine ⟨?_, ?_, ?_, ?_, ⟨rfl, .inl ⟨rfl, rfl⟩⟩, by simp [Value.ownBlock], Nat.le_refl _⟩
  · unfold World.cell?; rw [e]; rfl
  · unfold World.cell?; rw [e]; rfl
  · unfold World.cell?; rw [e]; rfl
  · intro o; unfold World.frozen?; rw [e]; rfl
set_option maxHeartbeats 1000000 in
set_option maxRecDepth 100000 in
theorem rvalid_any (t : Tr) (w : World) (ht : Tat w.heap.size w t) : Calls Tryz.prog 25 #[ndV (t [])] w fun e w' => e = .returned (.bool (okT t)) ∧ Below w.heap.size w w' := by
  obtain ⟨W, hW⟩ : ∃ W, W = w.alloc (ndX (t [])) := ⟨_, rfl⟩
  have HW : Hid (W = w.alloc (ndX (t []))) := hW
  have hb0 : Below w.heap.size w W := by rw [hW]; exact (Below.refl _ w).alloc (Nat.le_refl _) _
  have hz : W.heap.size = w.heap.size + 1 := by rw [hW]; simp
  have hc0 : Cs W w.heap.size 0 (t []) := ndX_cells (w := w) (t []) (by rw [hW]; exact Below.refl _ _)
  have hb1 : Below W.heap.size W (W.alloc cX) := (Below.refl _ W).alloc (Nat.le_refl _) _
  have hc1 := hc0.below hb1 (by omega)
  have htW : Tat W.heap.size (W.alloc cX) t := ((ht.below hb0).mono hb0.size).below hb1
  have hz1 : (W.alloc cX).heap.size = W.heap.size + 1 := World.size_alloc _ _
  have kV := validR_any W.heap.size W.heap.size 8195 t 0 0 s0 (.slice none 0 0) (W.alloc cX) (cn_new W) htW (by show 0 ≤ 8194; omega) (by show 8194 ≤ 0 + 8195; omega) (by show 0 ≤ 100; omega) hb1.size (by omega) (by omega)
  have hop : opN 0 (t []).kind 0 = 0 := by
    unfold opN
    rw [if_neg]
    intro h
    have : brB 0 (t []).kind = decide _ := rfl
    rw [this] at h
    have := of_decide_eq_true h
    omega
  rw [hop] at kV
  have HE : Hid (∀ e w', Vr W.heap.size W.heap.size (.slice none 0 0) (vd 8195 t 0 s0) (W.alloc cX) e w' → e = .returned (.bool (okT t)) ∧ Below w.heap.size w w') := fun e w' ⟨q1, q2, q3⟩ => by
    refine ⟨?_, hb0.trans ((hb1.trans (q3.below hb1.size (fun b hb e => ?_))).mono hb0.size)⟩
    · unfold okT svd
      cases h : vd 8195 t 0 s0 with
      | none => exact q1 h
      | some s1 => exact (q2 s1 h).1
    · rcases e with e | e
      · omega
      · cases e
  obtain ⟨e0, e1, e2, e3, e4, e5, e6, e7, e8⟩ := hc1
  simp only [Nat.zero_add] at e0 e1 e2 e3 e4 e5 e6 e7 e8
  clear hW hb0 hc0 hb1 htW hz1 hop ht hz
  generalize t [] = d at *
  go_enter Tryz.func25, Tryz.ntmps25
  go_upto_region 1 with fail
  rw [← HW.out]
  go_wp2_with fail
  go_fit kV
  rintro e w' hq
  obtain ⟨rfl, hb⟩ := HE.out e w' hq
  have HB : Hid (Below w.heap.size w w') := hb
  clear hb hq kV HE
  go_wp2
  go_ret
  exact ⟨rfl, HB.out⟩

end Go.Proofs.YtajaadagejhllaaGreatDoor
/- The reference's Show. -/
namespace Go.Proofs.YtajaadagejhllaaGreatDoor
open Go.RowKit Go.Lib

theorem nil_app (T : ByteArray) : (⟨#[]⟩ : ByteArray) ++ T = T := ByteArray.empty_append
theorem br_kinds {a k : Int} (h : brB a k = true) : k = 1 ∨ k = 4 ∨ k = 5 ∨ k = 6 := by
  unfold brB at h
  simp at h
  omega
theorem br_nought (k : Int) : brB 0 k = false := by
  unfold brB
  simp
theorem rwrite_any (S : Nat) : ∀ m, WRC S m
  | 0 => fun _ _ _ _ _ _ _ _ _ h _ => False.elim h
  | m + 1 => fun t T v w ab hv hS ht hA hwf hsz => by
    have ih := rwrite_any S m
    have hk := ndB_kind hwf.1.1
    cases hbr : brB ab (t []).kind with
    | false =>
      have e : txA ab (m + 1) t = tx (m + 1) t := by unfold txA; rw [hbr, if_neg Bool.false_ne_true]
      rw [e]
      by_cases k2 : (t []).kind = 2
      · exact rw_2 S m v w T t ab hv hS ht hA hwf hsz hbr k2
      by_cases k3 : (t []).kind = 3
      · exact rw_3 S m v w T t ab hv hS ht hA hwf hsz hbr k3
      by_cases k8 : (t []).kind = 8
      · exact rw_m8 S m v w T t ab hv hS ht hA hwf hsz hbr k8
      by_cases k9 : (t []).kind = 9
      · exact rw_m9 S m v w T t ab hv hS ht hA hwf hsz hbr k9
      by_cases k10 : (t []).kind = 10
      · exact rw_m10 S m v w T t ab hv hS ht hA hwf hsz hbr k10
      by_cases k11 : (t []).kind = 11
      · exact rw_m11 S m v w T t ab hv hS ht hA hwf hsz hbr k11
      by_cases k12 : (t []).kind = 12
      · exact rw_m12 S m v w T t ab hv hS ht hA hwf hsz hbr k12
      by_cases k13 : (t []).kind = 13
      · exact rw_m13 S m v w T t ab hv hS ht hA hwf hsz hbr k13
      by_cases k1 : (t []).kind = 1
      · exact rw_en S m v w T t ab hv hS ht hA hwf hsz hbr k1
      by_cases k4 : (t []).kind = 4
      · exact rw_4n S m v w T t ab ih hv hS ht hA hwf hsz hbr k4
      by_cases k5 : (t []).kind = 5
      · exact rw_5n S m v w T t ab ih hv hS ht hA hwf hsz hbr k5
      by_cases k6 : (t []).kind = 6
      · exact rw_6n S m v w T t ab ih hv hS ht hA hwf hsz hbr k6
      have k7 : (t []).kind = 7 := by omega
      cases hn : (t []).nm.toList.isEmpty with
      | true => exact rw_7e S m v w T t ab ih hv hS ht hA hwf hsz hbr k7 hn
      | false => exact rw_7n S m v w T t ab ih hv hS ht hA hwf hsz hbr k7 hn
    | true =>
      have e : txA ab (m + 1) t = ((⟨#[40, 63, 58]⟩ : ByteArray) ++ tx (m + 1) t) ++ ⟨#[41]⟩ := by unfold txA; rw [hbr, if_pos rfl]
      rw [e]
      rcases br_kinds hbr with k1 | k4 | k5 | k6
      · exact rw_eb S m v w T t ab hv hS ht hA hwf hsz hbr k1
      · exact rw_4b S m v w T t ab ih hv hS ht hA hwf hsz hbr k4
      · exact rw_5b S m v w T t ab ih hv hS ht hA hwf hsz hbr k5
      · exact rw_6b S m v w T t ab ih hv hS ht hA hwf hsz hbr k6

set_option maxHeartbeats 4000000 in
set_option maxRecDepth 100000 in
theorem rshow_any (t : Tr) (w : World) (ht : Tat w.heap.size w t) (hA : TbA w.heap.size w) (hbk : Bk 1048576 8195 t) :
    Calls Tryz.prog 26 #[ndV (t [])] w fun e w' => e = .returned (.tuple #[.string (shV t).1, .int .i64 (shV t).2]) ∧ Below w.heap.size w w' := by
  have hb0 : Below w.heap.size w (w.alloc (ndX (t []))) := (Below.refl _ w).alloc (Nat.le_refl _) _
  obtain ⟨W0, hW0⟩ : ∃ W0, W0 = w.alloc (ndX (t [])) := ⟨_, rfl⟩
  have HCS : Hid (∀ w1, Below W0.heap.size W0 w1 → Cs w1 w.heap.size 0 (t [])) := fun w1 b1 => by rw [hW0] at b1; exact ndX_cells (w := w) (t []) b1
  have HW0 : Hid (W0 = w.alloc (ndX (t []))) := hW0
  rw [← hW0] at hb0
  have HT : Hid (∀ w1, Below W0.heap.size W0 w1 → Tat w1.heap.size w1 t) := fun w1 b1 => ((ht.below hb0).below (b1.mono hb0.size)).mono (Nat.le_trans hb0.size b1.size)
  have HA : Hid (∀ w1, Below W0.heap.size W0 w1 → TbA w1.heap.size w1) := fun w1 b1 => fun w' b => hA w' ((hb0.trans (b1.mono hb0.size)).trans (b.mono (Nat.le_trans hb0.size b1.size)))
  have HL : Hid (∀ w1, Below W0.heap.size W0 w1 → Below w.heap.size w w1) := fun w1 b1 => hb0.trans (b1.mono hb0.size)
  have kV := rvalid_any t W0 (HT.out W0 (Below.refl _ _))
  obtain ⟨e0, e1, e2, e3, e4, e5, e6, e7, e8⟩ := HCS.out W0 (Below.refl _ _)
  simp only [Nat.zero_add] at e0 e1 e2 e3 e4 e5 e6 e7 e8
  cases hs : svd t with
  | none =>
    have ho : okT t = false := by unfold okT; rw [hs]; rfl
    have HR : Hid (shV t = (⟨#[]⟩, 2)) := by unfold Hid shV; rw [hs]
    rw [HR.out]
    rw [ho] at kV
    generalize t [] = d at *
    clear ht hA hb0 hW0 hs ho hbk
    go_enter Tryz.func26, Tryz.ntmps26
    go_upto_region 1 with fail
    rw [← HW0.out]
    go_wp2_with (go_at_call 25; go_fit kV; rintro e w1 ⟨rfl, b1⟩)
    go_ret2
    exact ⟨rfl, HL.out _ b1⟩
  | some s1 =>
    have ho : okT t = true := by unfold okT; rw [hs]; rfl
    rw [ho] at kV
    have hwf := WF_ok ho
    have hsm := tx_small hs hbk
    have HSV : Hid (shV t = if (shB (liF 8195 t) t).size ≤ 4096 then (shB (liF 8195 t) t, 0) else (⟨#[]⟩, 1)) := by unfold Hid shV; rw [hs, ← svd_l hs]
    have HWR : Hid (∀ w1, Below W0.heap.size W0 w1 → Calls Tryz.prog 43 #[.slice none 0 0, ndV (t []), .int .i64 0] w1 fun e w' => ∃ v', e = .returned v' ∧ Rq w1.heap.size (.slice none 0 0) w1 (⟨#[]⟩ ++ tx 8195 t) v' w') := fun w1 b1 => by
      have := rwrite_any w1.heap.size 8195 t ⟨#[]⟩ (.slice none 0 0) w1 0 ⟨rfl, .inl ⟨rfl, rfl⟩⟩ (Nat.le_refl _) (HT.out w1 b1) (HA.out w1 b1) hwf (by have := nil_size; omega)
      have e : txA 0 8195 t = tx 8195 t := by unfold txA; rw [br_nought, if_neg Bool.false_ne_true]
      rw [e] at this
      exact this
    have HLN : Hid (∀ w1, Below W0.heap.size W0 w1 → Calls Tryz.prog 44 #[ndV (t [])] w1 fun e w' => e = .returned (.bool (liF 8195 t)) ∧ Below w1.heap.size w1 w') := fun w1 b1 => lines_any 8195 t w1 (HT.out w1 b1) hwf
    have HSB : Hid (∀ l, shB l t = (if l = true then (⟨#[40, 63, 109, 41]⟩ : ByteArray) else ⟨#[]⟩) ++ tx 8195 t) := fun _ => rfl
    generalize tx 8195 t = X at *
    generalize liF 8195 t = l at *
    generalize t [] = d at *
    clear ht hA hb0 hW0 hs ho hbk hwf
    go_enter Tryz.func26, Tryz.ntmps26
    go_upto_region 1 with fail
    rw [← HW0.out]
    go_wp2_with fail
    go_fit kV
    rintro e w1 ⟨rfl, b1⟩
    have k2 := HWR.out w1 b1
    clear e0 e1 e2 e3 e4 e5 e6 e7 e8 kV
    obtain ⟨e0, e1, e2, e3, e4, e5, e6, e7, e8⟩ := HCS.out w1 b1
    simp only [Nat.zero_add] at e0 e1 e2 e3 e4 e5 e6 e7 e8
    go_wp2_with fail
    go_fit k2
    rintro e w2 ⟨v2, rfl, h2⟩
    have b2 : Below W0.heap.size W0 w2 := b1.trans ((h2.2.2.below (Nat.le_refl _) (fun k hk e => by cases e)).mono b1.size)
    have hcv := conv_row h2.1
    have hX : (⟨#[]⟩ : ByteArray) ++ X = X := nil_app X
    rw [hX] at hcv
    have k3 := HLN.out w2 b2
    clear e0 e1 e2 e3 e4 e5 e6 e7 e8 k2 h2 b1 hX
    obtain ⟨e0, e1, e2, e3, e4, e5, e6, e7, e8⟩ := HCS.out w2 b2
    simp only [Nat.zero_add] at e0 e1 e2 e3 e4 e5 e6 e7 e8
    go_wp2_with fail
    go_fit k3
    rintro e w3 ⟨rfl, b3⟩
    have HB3 : Hid (Below w.heap.size w w3) := HL.out _ (b2.trans (b3.mono b2.size))
    clear b3 b2 k3 hcv e0 e1 e2 e3 e4 e5 e6 e7 e8
    have n1 : ¬ 9223372036854775807 < 4 + X.size := by omega
    have c4 : (⟨#[40, 63, 109, 41]⟩ : ByteArray).size = 4 := rfl
    cases l
    · have HE : Hid (shB false t = X) := by unfold Hid; rw [HSB.out, if_neg Bool.false_ne_true, nil_app]
      by_cases hz : X.size ≤ 4096
      · have hgt : ¬ (4096 : Int) < (X.size : Int) := by omega
        have HR : Hid (shV t = (X, 0)) := by unfold Hid; rw [HSV.out, HE.out, if_pos hz]
        clear hz c4
        go_wp2
        go_ret2
        exact ⟨by rw [HR.out]; rfl, HB3.out⟩
      · have hgt : (4096 : Int) < (X.size : Int) := by omega
        have HR : Hid (shV t = (⟨#[]⟩, 1)) := by unfold Hid; rw [HSV.out, HE.out, if_neg hz]
        clear hz c4
        go_wp2
        go_ret2
        exact ⟨by rw [HR.out]; rfl, HB3.out⟩
    · have HE : Hid (shB true t = (⟨#[40, 63, 109, 41]⟩ : ByteArray) ++ X) := by unfold Hid; rw [HSB.out, if_pos rfl]
      have hsz : ((⟨#[40, 63, 109, 41]⟩ : ByteArray) ++ X).size = 4 + X.size := by rw [ByteArray.size_append, c4]
      by_cases hz : 4 + X.size ≤ 4096
      · have hgt : ¬ (4096 : Int) < 4 + (X.size : Int) := by omega
        have HR : Hid (shV t = ((⟨#[40, 63, 109, 41]⟩ : ByteArray) ++ X, 0)) := by unfold Hid; rw [HSV.out, HE.out, if_pos (by rw [hsz]; exact hz)]
        clear hz c4 hsz
        go_wp2
        go_ret2
        exact ⟨by rw [HR.out]; rfl, HB3.out⟩
      · have hgt : (4096 : Int) < 4 + (X.size : Int) := by omega
        have HR : Hid (shV t = (⟨#[]⟩, 1)) := by unfold Hid; rw [HSV.out, HE.out, if_neg (by rw [hsz]; exact hz)]
        clear hz c4 hsz
        go_wp2
        go_ret2
        exact ⟨by rw [HR.out]; rfl, HB3.out⟩
end Go.Proofs.YtajaadagejhllaaGreatDoor
/- Trees: Clone; Groups. -/
namespace Go.Proofs
open Go.Shelf Go.RowKit Go.Lib
def YtajaadagejhllaaGreatDoor.laysM316_ren : Go.Shelf.Ren := ⟨fun | 316 => 49 | n => n, fun | 9 => 9 | 3 => 3 | 4 => 4 | 37 => 53 | 0 => 0 | 127 => 93 | 5 => 5 | n => n, fun | n => n⟩
theorem YtajaadagejhllaaGreatDoor.laysM316 : Go.Proofs.LaysM.n316 Tryz.prog YtajaadagejhllaaGreatDoor.laysM316_ren := {
  mixed := by kernel_rfl
  f316 := Tryz.func49.trans (congrArg some (by kernel_rfl))
  t0 := Tryz.underlying0
  a0 := Tryz.isAgg0
  z0 := Tryz.sizeOf0
  v0 := Tryz.zeroValue0
  t3 := Tryz.underlying3
  a3 := Tryz.isAgg3
  z3 := Tryz.sizeOf3
  v3 := Tryz.zeroValue3
  t4 := Tryz.underlying4
  a4 := Tryz.isAgg4
  z4 := Tryz.sizeOf4
  v4 := Tryz.zeroValue4
  t9 := Tryz.underlying9
  a9 := Tryz.isAgg9
  z9 := Tryz.sizeOf9
  v9 := Tryz.zeroValue9
  t37 := Tryz.underlying53
  a37 := Tryz.isAgg53
  z37 := Tryz.sizeOf53
  v37 := Tryz.zeroValue53
  t127 := Tryz.underlying93
  a127 := Tryz.isAgg93
  z127 := Tryz.sizeOf93
  v127 := Tryz.zeroValue93
  t5 := Tryz.underlying5
  a5 := Tryz.isAgg5
  z5 := Tryz.sizeOf5
  v5 := Tryz.zeroValue5
  i0 := by kernel_rfl
  i3 := by kernel_rfl
  i4 := by kernel_rfl
  i5 := by kernel_rfl
  i9 := by kernel_rfl
  i37 := by kernel_rfl
  i127 := by kernel_rfl }
namespace YtajaadagejhllaaGreatDoor
theorem strings_clone (s : ByteArray) (w : World) (hs : s.size ≤ 281474976710656) : Calls Tryz.prog 35 #[.string s] w fun e w' => e = .returned (.string s) ∧ Below w.heap.size w w' := by
  have k : Calls Tryz.prog 49 #[.string s] w fun e w' => e = .returned (.string s) ∧ Below w.heap.size w w' := Any.stringslite_Clone YtajaadagejhllaaGreatDoor.laysM316 s w hs
  go_enter Tryz.func35, Tryz.ntmps35
  go_wp2_with fail
  go_fit k
  rintro e w1 ⟨rfl, b⟩
  go_wp2
  go_ret
  exact ⟨rfl, b⟩

theorem up_self (f : Nat → ByteArray) (i : Nat) : up f i (f i) = f := by
  funext j
  by_cases h : j = i
  · subst h; rw [up_same]
  · rw [up_other _ _ _ _ h]
theorem row_mono {w : World} {S S' e s n : Nat} {v : Value} {xs : List Value} (h : w.ownsRow S e s v n xs) (hs : S' ≤ S) : w.ownsRow S' e s v n xs := by
  refine ⟨h.1, ?_⟩
  rcases h.2 with h0 | ⟨g, cap, cur, hv, hB, r⟩
  · exact .inl h0
  · exact .inr ⟨g, cap, cur, hv, by omega, r⟩
theorem groups_idle (w : World) : CallsD Tryz.prog 34 #[] .returning w fun e u' w' => e = .returned (.tuple #[]) ∧ u' = .returning ∧ w' = w := by
  refine callsD_of_wpS Tryz.func34 rfl fun c₀ cs hu => ?_
  apply wpS_region
  simp [wpOpsS, go_sem, recoverD, hu, Tryz.ntmps34]
  refine (reason_nil w).mono ?_
  rintro e w' ⟨rfl, rfl⟩
  cases c₀
  simp_all [bodyPostS, results, Tryz.results34]

set_option maxHeartbeats 1000000 in
set_option maxRecDepth 100000 in
/-- Groups of a valid tree: its names, in a row of one's own. -/
theorem groups_any (t : Tr) (w : World) (s1 : St) (ht : Tat w.heap.size w t) (h : svd t = some s1) (hsz : ∀ j, j < s1.n → (s1.f j).size ≤ 140737488351232) (hn : s1.n ≤ 100) :
    Calls Tryz.prog 16 #[ndV (t [])] w fun e w' => (∃ v, e = .returned v ∧ w'.ownsRow w.heap.size 9 1 v s1.n (sc s1.f s1.n)) ∧ Below w.heap.size w w' := by
  have hb : Below w.heap.size w (w.alloc (ndX (t []))) := (Below.refl _ w).alloc (Nat.le_refl _) _
  have ht' : Tat (w.alloc (ndX (t []))).heap.size (w.alloc (ndX (t []))) t := (ht.below hb).mono hb.size
  have k := surveyed_yes t _ s1 ht' h
  have HB : Hid (Below w.heap.size w (w.alloc (ndX (t [])))) := hb
  have HSZ : Hid (∀ j, j < s1.n → (s1.f j).size ≤ 140737488351232) := hsz
  clear ht ht' h hb hsz
  generalize t [] = d at *
  go_enter_defers Tryz.func16, Tryz.ntmps16
  go_wp2_with fail
  go_fit k
  rintro e w1 ⟨⟨a, c, rfl, hm⟩, b1⟩
  have HM : Hid (Sml w1 a s1.f s1.n) := hm
  have B1 : Hid (Below w.heap.size w w1) := HB.out.trans (b1.mono HB.out.size)
  have hnI : (s1.n : Int) ≤ 100 := by omega
  clear b1 k hm
  have hfl : ∀ W : World, Sem.run Tryz.prog (Instr.field 55 (svV (s1.k : Int) (Value.slice a s1.n c) s1.l) 1) W = .ok (.slice a s1.n c) W := fun _ => by kernel_rfl
  go_wp2_with fail
  go_loopw [2, 9] (fun nv ivv w' => ∃ i : Nat, ivv = .int .i64 (i : Int) ∧ i ≤ s1.n ∧ Hid (w'.ownsRow w1.heap.size 9 1 nv i (sc s1.f i) ∧ Below w1.heap.size w1 w')) (fun _ ivv _ => s1.n - (RowKit.intOf ivv).toNat)
  case atStart => exact ⟨0, rfl, by omega, ⟨rfl, .inl ⟨rfl, rfl⟩⟩, Below.refl _ _⟩
  case round =>
    obtain ⟨i, rfl, hi, hI⟩ := hrel
    obtain ⟨hrow, hbw⟩ := hI.out
    obtain ⟨na, ncc, hnv⟩ : ∃ na ncc, u2 = .slice na i ncc := by
      rcases hrow.2 with ⟨e, e2⟩ | ⟨g, cc, cur, e, _⟩
      · exact ⟨none, 0, by rw [e, e2]⟩
      · exact ⟨_, cc, e⟩
    by_cases hlt : i < s1.n
    · have hii : (i : Int) < s1.n := by omega
      obtain ⟨g1, o1, rfl, hg1, x0⟩ := (HM.out.below hbw).at i hlt
      have kC := strings_clone (s1.f i) wr (by have := HSZ.out i hlt; omega)
      have HROW : Hid (wr.ownsRow w1.heap.size 9 1 u2 i (sc s1.f i)) := hrow
      have HBW : Hid (Below w1.heap.size w1 wr) := hbw
      have hi100 : i ≤ 100 := by omega
      subst hnv
      clear hrow hbw hI
      go_wp2_with fail
      go_fit kC
      rintro e w2 ⟨rfl, b2⟩
      have h2 := (Kp.of (M := fun _ => False) b2).row HROW.out (fun _ _ => id)
      have hb2 := HBW.out.trans (b2.mono HBW.out.size)
      obtain ⟨g, cc, w3, r3, o3, k3, hg3⟩ := append_t w2 w1.heap.size (.slice na i ncc) i s1.f (s1.f i) hb2.size (by omega) h2
      rw [up_self] at o3
      have hb3 : Below w1.heap.size w1 w3 := hb2.trans (k3.below hb2.size (fun j hj e => by
        rcases h2.2 with ⟨e', _⟩ | ⟨G, _, _, e', hG, _⟩
        · rw [e'] at e; cases e
        · rw [e'] at e
          have : G = j := Option.some.inj e
          omega))
      have HO : Hid (w3.ownsRow w1.heap.size 9 1 (.slice (some ⟨g, 0, none⟩) (i + 1) cc) (i + 1) (sc s1.f (i + 1)) ∧ Below w1.heap.size w1 w3) := ⟨o3, hb3⟩
      clear o3 k3 hg3 h2 hb2 hb3 b2 kC x0
      go_wp2_with (at_builtin; refine wpList_append_run rfl (.tmp 13) (.tmp 16) 36 36 rfl _ _ rfl rfl r3 ?_)
      exact ⟨⟨i + 1, by go_num, by omega, HO⟩, by simp [RowKit.intOf]; omega⟩
    · have hii : ¬ (i : Int) < s1.n := by omega
      have hin : i = s1.n := by omega
      have HF : Hid (wr.ownsRow w.heap.size 9 1 u2 s1.n (sc s1.f s1.n) ∧ Below w.heap.size w wr) := by
        subst hin
        exact ⟨row_mono hrow B1.out.size, B1.out.trans (hbw.mono B1.out.size)⟩
      subst hnv
      clear hrow hbw hI hin
      go_wp2
      refine leaves_cons (f := 34) (args := #[]) (by simp) (by simp [go_sem]) ?_
      refine (groups_idle _).mono ?_
      rintro e u' w'' ⟨rfl, rfl, rfl⟩
      simp [Leaves, settle, results, Tryz.results16, go_sem]
      exact HF.out
end YtajaadagejhllaaGreatDoor
end Go.Proofs
