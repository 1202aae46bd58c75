/- A bundle of texts. -/
import Derived.Test.YtbciclnffokjjaaGreatDoorBt40
import Derived.Test.YtbciclnffokjjaaGreatDoorBt41
import Derived.Test.YtbciclnffokjjaaGreatDoorBt42
import Derived.Test.YtbciclnffokjjaaGreatDoorBt43
import Derived.Test.YtbciclnffokjjaaGreatDoorBt37
import Derived.Test.YtbciclnffokjjaaGreatDoorBt36
import Derived.Test.YtbciclnffokjjaaGreatDoorBt25
import Derived.Deep.Upon
/- The reference's validity: valid over kids. -/
namespace Go.Proofs.YtbciclnffokjjaaGreatDoor
open Go.RowKit

set_option maxHeartbeats 4000000 in
set_option maxRecDepth 100000 in
theorem valid_else (S B m : Nat) (t : Tr) (ab op : Int) (s : St) (v : Value) (w : World) (hIH : VdR S B m) (hv : Cn S w B v s.k s.n s.n s.f) (ht : Tat S w t) (hk : s.k + 1 ≤ 8194) (hm : 8194 ≤ s.k + (m + 1)) (hn : s.n ≤ 100) (hS : S ≤ w.heap.size) (ho0 : 0 ≤ op) (hop : opN ab (t []).kind op ≤ 250) (h1 : 1 ≤ (t []).kind) (h13 : (t []).kind ≤ 13) (hbare : bareB (t []) = true) (k2 : ¬ (t []).kind = 2) (k3 : ¬ (t []).kind = 3) (k4 : ¬ (t []).kind = 4) (k5 : ¬ (t []).kind = 5) (k6 : ¬ (t []).kind = 6) (k7 : ¬ (t []).kind = 7) :
    Calls Tryz.prog 39 #[.pointer (some ⟨B, 0, none⟩), ndV (t []), .int .i64 ab, .int .i64 op] w (Vr S B v (vd (m + 1) t (opN ab (t []).kind op) s) w) := by
  obtain ⟨hv2, hc2, hk2, hz2, hg2⟩ := cn_beg (t []) hv
  have ht2 := ht.below (hv.low hS hk2)
  obtain ⟨hnd, hkn⟩ := nd_of hbare h1 h13
  have hnode := ht.node
  obtain ⟨OP, hOP⟩ : ∃ OP, OP = opN ab (t []).kind op := ⟨_, rfl⟩
  rw [← hOP] at hop ⊢
  have HVD : Hid (vd (m + 1) t OP s = if ndB (t []) = false then none else (mid (t []) { s with k := s.k + 1 }).bind fun s1 => vds (vd m) t (if (t []).kind = 7 then OP + 1 else OP) (t []).kn s1) := by
    show (if _ then _ else _) = _
    cases e : ndB (t []) with
    | false => rw [if_pos (.inr (.inr rfl)), if_pos rfl]
    | true => rw [if_neg (fun h => by rcases h with h | h | h; exact absurd h (by omega); exact absurd h (by omega); cases h)]; rfl
  obtain ⟨W, hW⟩ : ∃ W, W = bgW w B (t []) s.k := ⟨_, rfl⟩
  have HW : Hid (W = (w.alloc (ndX (t []))).setCell ⟨B, 0, none⟩ (.int .i64 ((s.k : Int) + 1))) := hW
  rw [← hW] at hv2 hc2 hk2 hz2 ht2
  obtain ⟨G, hG⟩ : ∃ G, G = w.heap.size := ⟨_, rfl⟩
  have HG : Hid (G = w.heap.size) := hG
  rw [← hG] at hc2 hz2 hg2
  have c0 := (hv.below ((Below.refl _ w).alloc (Nat.le_refl _) (ndX (t [])))).c0
  have f0 := (hv.below ((Below.refl _ w).alloc (Nat.le_refl _) (ndX (t [])))).fz 0
  have d0 := hv2.c0
  push_cast at d0
  obtain ⟨W1, hW1⟩ : ∃ W1, W1 = W.alloc (ndX (t [])) := ⟨_, rfl⟩
  have HW1 : Hid (W1 = W.alloc (ndX (t []))) := hW1
  have b1 : Below W.heap.size W W1 := by rw [hW1]; exact (Below.refl _ W).alloc (Nat.le_refl _) _
  have HC1 : Hid (Cs W1 G 0 (t [])) := hc2.kp (M := fun _ => False) (Kp.of b1) id
  have HV1 : Hid (Cn S W1 B v (s.k + 1) s.n s.n s.f) := hv2.below b1
  have hS2 : S ≤ W.heap.size := Nat.le_trans hS hk2.size
  have HT1 : Hid (Tat S W1 t) := ht2.below (b1.mono hS2)
  have HK1 : Hid (Kp (Mv B v) w W1) := hk2.trans (Kp.of b1)
  have HZ1 : Hid (S ≤ W1.heap.size ∧ w.heap.size ≤ W1.heap.size) := ⟨Nat.le_trans hS2 b1.size, Nat.le_trans hk2.size b1.size⟩
  have HM1 : Hid (¬ Mv B v G) := hg2
  have HNO : Hid (vd (m + 1) t OP s = none → Vr S B v (vd (m + 1) t OP s) w (.returned (.bool false)) W1) := fun e => by rw [e]; exact Vr.no (hk2.trans (Kp.of b1))
  obtain ⟨e0, e1, e2, e3, e4, e5, e6, e7, e8⟩ := hc2
  simp only [Nat.zero_add] at e0 e1 e2 e3 e4 e5 e6 e7 e8
  obtain ⟨x0, x1, x2, x3, x4, x5, x6, x7, x8⟩ := HC1.out
  simp only [Nat.zero_add] at x0 x1 x2 x3 x4 x5 x6 x7 x8
  have kB := rBrackets_any ab (t []).kind W
  have kBa := bare_any (t []) W
  rw [hbare] at kBa
  have hki : (s.k : Int) + 1 ≤ 8194 := by omega
  have IH : Hid (VdR S B m) := hIH
  have HN0 : Hid (s.n ≤ 100 ∧ s.k + 1 ≤ 8194 ∧ 8194 ≤ s.k + (m + 1)) := ⟨hn, hk, hm⟩
  have hkn0 : (t []).kn = 0 := hkn (by omega)
  have hnT : ndB (t []) = true := by rw [hnd, if_neg k2, if_neg k3, if_neg (by omega), if_neg k6, if_neg k7]
  obtain ⟨l, hmid⟩ := mid_plain (d := t []) (s := { s with k := s.k + 1 }) k7
  have HV0 : Hid (vd (m + 1) t OP s = some { s with k := s.k + 1, l := l }) := by
    unfold Hid
    rw [HVD.out, hnT, hmid, hkn0]
    rfl
  have HY : Hid (Vr S B v (vd (m + 1) t OP s) w (.returned (.bool true)) W1) := by unfold Hid; rw [HV0.out]; exact Vr.yes HV1.out (Sub.refl _ _) HK1.out
  have t2 : ((t []).kind == 2) = false := by simpa using k2
  have t3 : ((t []).kind == 3) = false := by simpa using k3
  have t4 : ((t []).kind == 4) = false := by simpa using k4
  have t5 : ((t []).kind == 5) = false := by simpa using k5
  have t6 : ((t []).kind == 6) = false := by simpa using k6
  have t7 : ((t []).kind == 7) = false := by simpa using k7
  rw [hkn0] at x8
  clear hv hW hG hv2 hk2 hz2 hg2 ht ht2 hnd hkn hnode hIH hn hk hm hS hS2 b1 hW1 hbare HVD HT1 HC1 HV1 hkn0 IH HN0 HNO hnT hmid HV0 k2 k3 k4 k5 k6 k7
  cases hb : brB ab (t []).kind
  all_goals
    have hOP2 := hOP
    unfold opN at hOP2
    rw [hb] at hOP2 kB
    simp only [Bool.false_eq_true, if_false, if_true] at hOP2
    clear hb hOP
    subst hOP2
    generalize hd : t [] = d at *
    have HD : Hid (t [] = d) := hd
    clear hd
    go_enter Tryz.func39, Tryz.ntmps39
    go_upto_region 2 with fail
    rw [← HW.out, ← HG.out]
    go_wp2_with fail
    go_fit kB
    rintro e w2 ⟨rfl, rfl⟩
    clear kB c0 f0
    go_wp2_with fail
    go_fit kBa
    rintro e w3 ⟨rfl, hw3⟩
    rw [← HW1.out] at hw3
    have hw3' := hw3.symm
    subst hw3'
    clear hw3
    clear kBa d0 e0 e1 e2 e3 e4 e5 e6 e7 e8
    go_wp2_with fail
    go_loopw [9] (fun ivv w' => ivv = .int .i64 0 ∧ w' = W1) (fun _ _ => 0)
    case atStart => exact ⟨rfl, rfl⟩
    case round =>
      obtain ⟨rfl, hw⟩ := hrel
      have hw' := hw.symm
      subst hw'
      go_wp2
      go_ret
      exact HY.out
end Go.Proofs.YtbciclnffokjjaaGreatDoor
/- The reference's validity: valid over any tree; Valid, Size. -/
namespace Go.Proofs.YtbciclnffokjjaaGreatDoor
open Go.RowKit

theorem validR_of (S B m : Nat) (hIH : ∀ m', m = m' + 1 → VdR S B m') : VdR S B m := by
  intro t ab op s v w hv ht hk hm hn hS ho0 ho1
  by_cases hF : 8194 < s.k + 1 ∨ 250 < opN ab (t []).kind op ∨ (t []).kind < 1 ∨ 13 < (t []).kind ∨ bareB (t []) = false
  · exact valid_early S B m t ab op s v w hv hk ho0 ho1 hF
  have f1 : s.k + 1 ≤ 8194 := Nat.le_of_not_lt (fun h => hF (.inl h))
  have f2 : opN ab (t []).kind op ≤ 250 := Int.not_lt.1 (fun h => hF (.inr (.inl h)))
  have f3 : 1 ≤ (t []).kind := Int.not_lt.1 (fun h => hF (.inr (.inr (.inl h))))
  have f4 : (t []).kind ≤ 13 := Int.not_lt.1 (fun h => hF (.inr (.inr (.inr (.inl h)))))
  have f5 : bareB (t []) = true := by
    cases e : bareB (t []) with
    | true => rfl
    | false => exact absurd (.inr (.inr (.inr (.inr e)))) hF
  obtain ⟨m, rfl⟩ : ∃ m', m = m' + 1 := ⟨m - 1, by omega⟩
  have IH := hIH m rfl
  by_cases k2 : (t []).kind = 2
  · exact valid_2 S B m t ab op s v w IH hv ht f1 hm hn hS ho0 f2 f3 f4 f5 k2
  by_cases k3 : (t []).kind = 3
  · exact valid_3 S B m t ab op s v w IH hv ht f1 hm hn hS ho0 f2 f3 f4 f5 k3
  by_cases k4 : (t []).kind = 4
  · exact valid_4 S B m t ab op s v w IH hv ht f1 hm hn hS ho0 f2 f3 f4 f5 k4
  by_cases k5 : (t []).kind = 5
  · exact valid_5 S B m t ab op s v w IH hv ht f1 hm hn hS ho0 f2 f3 f4 f5 k5
  by_cases k6 : (t []).kind = 6
  · exact valid_6 S B m t ab op s v w IH hv ht f1 hm hn hS ho0 f2 f3 f4 f5 k6
  by_cases k7 : (t []).kind = 7
  · exact valid_7 S B m t ab op s v w IH hv ht f1 hm hn hS ho0 f2 f3 f4 f5 k7
  exact valid_else S B m t ab op s v w IH hv ht f1 hm hn hS ho0 f2 f3 f4 f5 k2 k3 k4 k5 k6 k7
theorem validR_any (S B : Nat) : ∀ m, VdR S B m
  | 0 => validR_of S B 0 (fun _ h => by cases h)
  | m + 1 => validR_of S B (m + 1) (fun m' h => by cases h; exact validR_any S B m)
abbrev cX : Obj := .cells #[.int .i64 0, .int .i64 0, .slice none 0 0] 63
theorem cn_new (w : World) : Cn w.heap.size (w.alloc cX) w.heap.size (.slice none 0 0) s0.k s0.n s0.n s0.f := by
  have e : (w.alloc cX).heap[w.heap.size]? = some cX := heap_alloc_new w _
  refine ⟨?_, ?_, ?_, ?_, ⟨rfl, .inl ⟨rfl, rfl⟩⟩, by simp [Value.ownBlock], Nat.le_refl _⟩
  · unfold World.cell?; rw [e]; rfl
  · unfold World.cell?; rw [e]; rfl
  · unfold World.cell?; rw [e]; rfl
  · intro o; unfold World.frozen?; rw [e]; rfl
set_option maxHeartbeats 1000000 in
set_option maxRecDepth 100000 in
theorem rvalid_any (t : Tr) (w : World) (ht : Tat w.heap.size w t) : Calls Tryz.prog 18 #[ndV (t [])] w fun e w' => e = .returned (.bool (okT t)) ∧ Below w.heap.size w w' := by
  obtain ⟨W, hW⟩ : ∃ W, W = w.alloc (ndX (t [])) := ⟨_, rfl⟩
  have HW : Hid (W = w.alloc (ndX (t []))) := hW
  have hb0 : Below w.heap.size w W := by rw [hW]; exact (Below.refl _ w).alloc (Nat.le_refl _) _
  have hz : W.heap.size = w.heap.size + 1 := by rw [hW]; simp
  have hc0 : Cs W w.heap.size 0 (t []) := ndX_cells (w := w) (t []) (by rw [hW]; exact Below.refl _ _)
  have hb1 : Below W.heap.size W (W.alloc cX) := (Below.refl _ W).alloc (Nat.le_refl _) _
  have hc1 := hc0.below hb1 (by omega)
  have htW : Tat W.heap.size (W.alloc cX) t := ((ht.below hb0).mono hb0.size).below hb1
  have hz1 : (W.alloc cX).heap.size = W.heap.size + 1 := World.size_alloc _ _
  have kV := validR_any W.heap.size W.heap.size 8195 t 0 0 s0 (.slice none 0 0) (W.alloc cX) (cn_new W) htW (by show 0 ≤ 8194; omega) (by show 8194 ≤ 0 + 8195; omega) (by show 0 ≤ 100; omega) hb1.size (by omega) (by omega)
  have hop : opN 0 (t []).kind 0 = 0 := by
    unfold opN
    rw [if_neg]
    intro h
    have : brB 0 (t []).kind = decide _ := rfl
    rw [this] at h
    have := of_decide_eq_true h
    omega
  rw [hop] at kV
  have HE : Hid (∀ e w', Vr W.heap.size W.heap.size (.slice none 0 0) (vd 8195 t 0 s0) (W.alloc cX) e w' → e = .returned (.bool (okT t)) ∧ Below w.heap.size w w') := fun e w' ⟨q1, q2, q3⟩ => by
    refine ⟨?_, hb0.trans ((hb1.trans (q3.below hb1.size (fun b hb e => ?_))).mono hb0.size)⟩
    · unfold okT svd
      cases h : vd 8195 t 0 s0 with
      | none => exact q1 h
      | some s1 => exact (q2 s1 h).1
    · rcases e with e | e
      · omega
      · cases e
  obtain ⟨e0, e1, e2, e3, e4, e5, e6, e7, e8⟩ := hc1
  simp only [Nat.zero_add] at e0 e1 e2 e3 e4 e5 e6 e7 e8
  clear hW hb0 hc0 hb1 htW hz1 hop ht hz
  generalize t [] = d at *
  go_enter Tryz.func18, Tryz.ntmps18
  go_upto_region 1 with fail
  rw [← HW.out]
  go_wp2_with fail
  go_fit kV
  rintro e w' hq
  obtain ⟨rfl, hb⟩ := HE.out e w' hq
  have HB : Hid (Below w.heap.size w w') := hb
  clear hb hq kV HE
  go_wp2
  go_ret
  exact ⟨rfl, HB.out⟩

set_option maxHeartbeats 1000000 in
set_option maxRecDepth 100000 in
theorem rSize_any (t : Tr) (w : World) (ht : Tat w.heap.size w t) : Calls Tryz.prog 20 #[ndV (t [])] w fun e w' => e = .returned (.int .i64 (sizF t)) ∧ Below w.heap.size w w' := by
  have hb : Below w.heap.size w (w.alloc (ndX (t []))) := (Below.refl _ w).alloc (Nat.le_refl _) _
  have ht1 : Tat (w.alloc (ndX (t []))).heap.size (w.alloc (ndX (t []))) t := (ht.below hb).mono hb.size
  have kV := rvalid_any t _ ht1
  have HB : Hid _ := hb
  have hc := ndX_cells (w := w) (t []) (Below.refl _ _)
  cases ho : okT t
  · rw [ho] at kV
    have HE : Hid (sizF t = 0) := by unfold Hid sizF; rw [ho]; rfl
    clear ht ht1 ho hb hc
    generalize t [] = d at *
    go_enter Tryz.func20, Tryz.ntmps20
    go_wp2_with fail
    go_fit kV
    rintro e w1 ⟨rfl, b1⟩
    have B1 : Hid _ := HB.out.trans (b1.mono HB.out.size)
    clear b1
    go_wp2
    go_ret
    exact ⟨ret_int HE.out.symm, B1.out⟩
  · rw [ho] at kV
    have hwf := WF_ok ho
    have hl := lenF_bd 8195 t hwf
    have HE : Hid (sizF t = min (lenF 8195 t + 1) 10001) := by unfold Hid sizF; rw [ho]; rfl
    have HL : Hid (∀ w1, Below (w.alloc (ndX (t []))).heap.size (w.alloc (ndX (t []))) w1 → Calls Tryz.prog 40 #[ndV (t [])] w1 fun e w' => e = .returned (.int .i64 (lenF 8195 t)) ∧ Below w1.heap.size w1 w') := fun w1 b => rsize_any 8195 t w1 hwf ((ht1.below b).mono b.size)
    have HC : Hid (∀ w1, Below (w.alloc (ndX (t []))).heap.size (w.alloc (ndX (t []))) w1 → Cs w1 w.heap.size 0 (t [])) := fun w1 b => ndX_cells (t []) b
    obtain ⟨hl0, hl1⟩ := hl
    generalize lenF 8195 t = L at *
    clear ht ht1 ho hb hc hwf
    generalize t [] = d at *
    go_enter Tryz.func20, Tryz.ntmps20
    go_wp2_with fail
    go_fit kV
    rintro e w1 ⟨rfl, b1⟩
    have B1 : Hid _ := HB.out.trans (b1.mono HB.out.size)
    have kL := HL.out w1 b1
    obtain ⟨f0, f1, f2, f3, f4, f5, f6, f7, f8⟩ := HC.out w1 b1
    simp only [Nat.zero_add] at f0 f1 f2 f3 f4 f5 f6 f7 f8
    clear b1 kV
    go_wp2_with fail
    go_fit kL
    rintro e w2 ⟨rfl, b2⟩
    have B2 : Hid _ := B1.out.trans (b2.mono B1.out.size)
    clear b2 f0 f1 f2 f3 f4 f5 f6 f7 f8
    go_wp2
    all_goals go_ret
    all_goals exact ⟨ret_int (by have := HE.out; omega), B2.out⟩
end Go.Proofs.YtbciclnffokjjaaGreatDoor
/- The reference's Words. -/
namespace Go.Proofs.YtbciclnffokjjaaGreatDoor
open Go.RowKit Go.Lib

/-- What the reference's Words answers. -/
def RwP (w : World) (r : Sto) (e : Ending) (w' : World) : Prop := (∃ v m, e = .returned (.tuple #[v, .bool (!m)]) ∧ RlV w' v m r) ∧ Below w.heap.size w w'
/-- A copy of a list. -/
theorem append_copy (w : World) (v : Value) (L : List ByteArray) (hL : L.length ≤ 64) (hv : RlV w v false (some L)) : ∃ a n c w', (Builtin.append_ #[26, 26] 26 #[.slice (some ⟨w.heap.size, 0, none⟩) 0 0, v]).run Tryz.prog (w.alloc (.cells #[] 9)) = .ok (.slice a n c) w' ∧ RlV w' (.slice a n c) false (some L) ∧ Below w.heap.size w w' := by
  have bA : Below w.heap.size w (w.alloc (.cells #[] 9)) := (Below.refl _ w).alloc (Nat.le_refl _) _
  rcases hv with ⟨h, _⟩ | ⟨L', a, c, e, _, rfl, hc⟩
  · cases h
  cases e
  obtain ⟨i0, hi, hz0, hz1, hz2⟩ := info_parts infS
  cases a with
  | none =>
    have h0 : L.length = 0 := by
      rcases hc with h | ⟨g, o, h, _⟩
      · exact h
      · cases h
    rw [h0]
    refine ⟨_, _, _, _, run_append_nothing (P := Tryz.prog) (w.alloc (.cells #[] 9)) 26 26 26 9 i0 Tryz.underlying26 hi _ 0 0 (Nat.le_refl _) _ (Src.ofNil _ Tryz.underlying26 c), ?_, bA⟩
    exact .inr ⟨L, _, _, rfl, rfl, by rw [h0], .inl h0⟩
  | some p =>
    have o0 : (w.alloc (.cells #[] 9)).ownsRow w.heap.size 9 1 (.slice (some ⟨w.heap.size, 0, none⟩) 0 0) 0 [] := ⟨rfl, .inr ⟨w.heap.size, 0, #[], rfl, Nat.le_refl _, heap_alloc_new w _, Nat.le_refl _, by decide, rfl, rfl⟩⟩
    obtain ⟨v', w', r, o', g, _, _⟩ := run_append_own_at (P := Tryz.prog) (w.alloc (.cells #[] 9)) w.heap.size 26 26 9 i0 (.string ⟨#[]⟩) 1 16 Tryz.underlying26 hi hz0 hz1 hz2 rfl (by decide) _ 0 [] o0 p L.length c (sv L) (by simp [sv])
      (fun j u hj => by
        rcases hc with h | ⟨g, o, e, hg, hcc⟩
        · have : L = [] := List.length_eq_zero_iff.1 h
          rw [this] at hj
          cases hj
        · cases e
          rw [Go.WideShapes.add_plain]
          simp only [sv, List.getElem?_map] at hj
          cases hx : L[j]? with
          | none => rw [hx] at hj; cases hj
          | some x =>
            rw [hx] at hj
            cases hj
            exact (bA.cell (p := ⟨g, o + j, none⟩) hg).trans (hcc j x hx)) (by intro u hu; simp [sv] at hu; obtain ⟨x, _, rfl⟩ := hu; rfl) (by unfold maxLen; omega) (by omega) (by simp)
    rw [Nat.zero_add, List.nil_append] at o'
    obtain ⟨a', c', rfl⟩ := row_form o'
    refine ⟨_, _, _, w', r, RlV.row o', ?_⟩
    have k : Kp (fun k => k = w.heap.size) w w' := ((Kp.refl _ w).alloc _).grown g (fun k hk _ => (Option.some.inj hk).symm)
    exact k.below (Nat.le_refl _) (fun q hq e => by omega)
set_option maxHeartbeats 1000000 in
set_option maxRecDepth 100000 in
theorem rwords_any (t : Tr) (w : World) (ht : Tat w.heap.size w t) : Calls Tryz.prog 9 #[ndV (t [])] w (RwP w (wdsF t)) := by
  have hb : Below w.heap.size w (w.alloc (ndX (t []))) := (Below.refl _ w).alloc (Nat.le_refl _) _
  have ht1 := (ht.below hb).mono hb.size
  have kV := rvalid_any t _ ht1
  have HB : Hid _ := hb
  have HF : Hid (∀ w1, Below (w.alloc (ndX (t []))).heap.size (w.alloc (ndX (t []))) w1 → (okT t = true → Calls Tryz.prog 19 #[ndV (t [])] w1 fun e w' => e = .returned (.bool (askF 8195 t)) ∧ Below w1.heap.size w1 w') ∧ (Calls Tryz.prog 20 #[ndV (t [])] w1 fun e w' => e = .returned (.int .i64 (sizF t)) ∧ Below w1.heap.size w1 w') ∧ (0 < sizF t → sizF t ≤ 10000 → askF 8195 t = false → Calls Tryz.prog 21 #[ndV (t [])] w1 (LsP w1 (wrdF 8195 t))) ∧ Cs w1 w.heap.size 0 (t []) ∧ Below w.heap.size w w1) := fun w1 b => by
    have htb := (ht1.below b).mono b.size
    refine ⟨fun hok => rplaces_any 8195 t w1 (WF_ok hok) htb, rSize_any t w1 htb, fun h0 h1 ha => ?_, ndX_cells (w := w) (t []) b, hb.trans (b.mono hb.size)⟩
    obtain ⟨hok, hlen, _⟩ := sizF_ok (t := t) (by omega) h1
    exact wwords_any 8195 t w1 (WF_ok hok) ha (by omega) htb
  have HD : Hid (wdsF t = if 0 < sizF t ∧ sizF t ≤ 10000 then (if askF 8195 t = true then none else wrdF 8195 t) else none) := rfl
  have HS : Hid ((okT t = false → sizF t = 0) ∧ (okT t = true → 0 < sizF t)) := by
    unfold Hid sizF
    refine ⟨fun h => (by rw [if_neg (by rw [h]; simp)]), fun h => ?_⟩
    rw [if_pos h]
    have := (lenF_bd 8195 t (WF_ok h)).1
    omega
  have HOK : Hid (wrdF 8195 t).ok := wrdF_ok _ _
  clear ht ht1 hb
  generalize wdsF t = R at *
  generalize wrdF 8195 t = R1 at *
  generalize askF 8195 t = A at *
  generalize sizF t = z at *
  generalize okT t = ok at *
  generalize t [] = d at *
  cases ok
  · have HD2 : Hid (R = none) := by
      have := HS.out.1 rfl
      unfold Hid
      rw [HD.out, if_neg (by omega)]
    clear HD HS HF
    go_enter Tryz.func9, Tryz.ntmps9
    go_wp2_with fail
    go_fit kV
    rintro e w1 ⟨rfl, b1⟩
    have B1 : Hid _ := HB.out.trans (b1.mono HB.out.size)
    clear b1 kV
    go_wp2
    go_ret2
    exact ⟨⟨_, true, rfl, .inl ⟨HD2.out, rfl, rfl⟩⟩, B1.out⟩
  · have hz := HS.out.2 rfl
    cases A
    · by_cases hz2 : z ≤ 10000
      · have HD2 : Hid (R = R1) := by unfold Hid; rw [HD.out, if_pos ⟨hz, hz2⟩]; rfl
        clear HD HS
        go_enter Tryz.func9, Tryz.ntmps9
        go_wp2_with fail
        go_fit kV
        rintro e w1 ⟨rfl, b1⟩
        obtain ⟨kA, _, _, hc1, _⟩ := HF.out w1 b1
        have kA' := kA (by first | rfl | trivial)
        obtain ⟨q0, q1, q2, q3, q4, q5, q6, q7, q8⟩ := hc1
        simp only [Nat.zero_add] at q0 q1 q2 q3 q4 q5 q6 q7 q8
        have HB1 : Hid _ := b1
        clear b1 kV kA
        go_wp2_with fail
        go_fit kA'
        rintro e w2 ⟨rfl, b2⟩
        have b12 := btr2 HB1.out b2
        obtain ⟨_, kS, _, hc2, _⟩ := HF.out w2 b12
        obtain ⟨p0, p1, p2, p3, p4, p5, p6, p7, p8⟩ := hc2
        simp only [Nat.zero_add] at p0 p1 p2 p3 p4 p5 p6 p7 p8
        have HB2 : Hid _ := b12
        clear b2 b12 kA' q0 q1 q2 q3 q4 q5 q6 q7 q8
        go_wp2_with fail
        go_fit kS
        rintro e w3 ⟨rfl, b3⟩
        have b13 := btr2 HB2.out b3
        have h3 := HF.out w3 b13
        have kW := h3.2.2.1 hz hz2 (by first | rfl | trivial)
        have HB3 : Hid _ := h3.2.2.2.2
        obtain ⟨q0, q1, q2, q3, q4, q5, q6, q7, q8⟩ := h3.2.2.2.1
        simp only [Nat.zero_add] at q0 q1 q2 q3 q4 q5 q6 q7 q8
        clear b3 kS HF p0 p1 p2 p3 p4 p5 p6 p7 p8 h3 b13 hz
        go_wp2_with fail
        go_fit kW
        rintro e w4 ⟨⟨v, mm, rfl, hv⟩, b4⟩
        obtain ⟨a, n, c, rfl⟩ := hv.form
        have HB4 : Hid (Below w.heap.size w w4) := btr2 HB3.out b4
        have HV : Hid _ := hv
        clear kW q0 q1 q2 q3 q4 q5 q6 q7 q8 hv b4 HB3
        cases mm
        · obtain ⟨L, hL⟩ : ∃ L, R1 = some L := by
            rcases HV.out with ⟨_, h, _⟩ | ⟨L, _, _, h, _⟩
            · cases h
            · exact ⟨L, h⟩
          have b5 : Below w4.heap.size w4 (w4.alloc (lX (.slice a n c) false)) := (Below.refl _ w4).alloc (Nat.le_refl _) _
          have HAP : Hid (∀ V, Below (w4.alloc (lX (.slice a n c) false)).heap.size (w4.alloc (lX (.slice a n c) false)) V → ∃ a' n' c' w', (Builtin.append_ #[26, 26] 26 #[.slice (some ⟨V.heap.size, 0, none⟩) 0 0, .slice a n c]).run Tryz.prog (V.alloc (.cells #[] 9)) = .ok (.slice a' n' c') w' ∧ ∀ q : Nat, RwP w R (.returned (.tuple #[.slice a' n' c', .bool true])) (w'.drewN q)) := fun V bV => by
            have hb5 : Below w4.heap.size w4 V := b5.trans (bV.mono b5.size)
            have hv : RlV w4 (.slice a n c) false R1 := HV.out
            rw [hL] at hv
            obtain ⟨a', n', c', w', r, hr, b⟩ := append_copy V (.slice a n c) L (by have := (HOK.out L hL).2; omega) (hv.below hb5)
            refine ⟨a', n', c', w', r, fun q => ?_⟩
            have bq : Below w'.heap.size w' (w'.drewN q) := Below.drewN (Below.refl _ _) q
            refine ⟨⟨_, false, rfl, ?_⟩, ?_⟩
            · rw [HD2.out, hL]
              exact hr.below bq
            · exact btr2 (btr2 (btr2 HB4.out hb5) b) bq
          obtain ⟨a', n', c', w', hrun, hP⟩ := HAP.out _ (Below.refl _ _)
          have HP : Hid _ := hP
          rw [World.size_alloc] at hrun
          have HR : Hid _ := hrun
          clear b5 hP HAP hrun
          go_wp2_with (at_builtin; refine wpList_append_run rfl (.tmp 21) (.tmp 23) 26 26 rfl _ _ rfl rfl HR.out ?_)
          go_ret2
          exact HP.out 0
        · have HN : Hid (R = none) := by
            unfold Hid
            rw [HD2.out]
            rcases HV.out with ⟨h, _⟩ | ⟨L, _, _, _, h, _⟩
            · exact h
            · cases h
          go_wp2
          go_ret2
          exact ⟨⟨_, true, rfl, .inl ⟨HN.out, rfl, rfl⟩⟩, HB4.out.alloc HB4.out.size _⟩
      · have HD2 : Hid (R = none) := by unfold Hid; rw [HD.out, if_neg (by omega)]
        have hzg : 10000 < z := by omega
        clear HD HS
        go_enter Tryz.func9, Tryz.ntmps9
        go_wp2_with fail
        go_fit kV
        rintro e w1 ⟨rfl, b1⟩
        obtain ⟨kA, _, _, hc1, _⟩ := HF.out w1 b1
        have kA' := kA (by first | rfl | trivial)
        obtain ⟨q0, q1, q2, q3, q4, q5, q6, q7, q8⟩ := hc1
        simp only [Nat.zero_add] at q0 q1 q2 q3 q4 q5 q6 q7 q8
        have HB1 : Hid _ := b1
        clear b1 kV kA
        go_wp2_with fail
        go_fit kA'
        rintro e w2 ⟨rfl, b2⟩
        have b12 := btr2 HB1.out b2
        obtain ⟨_, kS, _, hc2, _⟩ := HF.out w2 b12
        obtain ⟨p0, p1, p2, p3, p4, p5, p6, p7, p8⟩ := hc2
        simp only [Nat.zero_add] at p0 p1 p2 p3 p4 p5 p6 p7 p8
        have HB2 : Hid _ := b12
        clear b2 b12 kA' q0 q1 q2 q3 q4 q5 q6 q7 q8
        go_wp2_with fail
        go_fit kS
        rintro e w3 ⟨rfl, b3⟩
        have HB3 : Hid _ := (HF.out w3 (btr2 HB2.out b3)).2.2.2.2
        clear b3 kS HF p0 p1 p2 p3 p4 p5 p6 p7 p8
        go_wp2
        go_ret2
        exact ⟨⟨_, true, rfl, .inl ⟨HD2.out, rfl, rfl⟩⟩, HB3.out⟩
    · have HD2 : Hid (R = none) := by unfold Hid; rw [HD.out]; split <;> rfl
      clear HD HS
      go_enter Tryz.func9, Tryz.ntmps9
      go_wp2_with fail
      go_fit kV
      rintro e w1 ⟨rfl, b1⟩
      obtain ⟨kA, _, _, hc1, _⟩ := HF.out w1 b1
      have kA' := kA (by first | rfl | trivial)
      obtain ⟨q0, q1, q2, q3, q4, q5, q6, q7, q8⟩ := hc1
      simp only [Nat.zero_add] at q0 q1 q2 q3 q4 q5 q6 q7 q8
      have HB1 : Hid _ := b1
      clear b1 kV kA
      go_wp2_with fail
      go_fit kA'
      rintro e w2 ⟨rfl, b2⟩
      have HB2 : Hid _ := (HF.out w2 (btr2 HB1.out b2)).2.2.2.2
      clear b2 kA' q0 q1 q2 q3 q4 q5 q6 q7 q8 HF
      go_wp2
      go_ret2
      exact ⟨⟨_, true, rfl, .inl ⟨HD2.out, rfl, rfl⟩⟩, HB2.out⟩
end Go.Proofs.YtbciclnffokjjaaGreatDoor
/- Two lists of texts alike. -/
namespace Go.Proofs.YtbciclnffokjjaaGreatDoor
open Go.RowKit Go.Lib

/-- A row of texts, as it stands in a world. -/
def TxV (w : World) (a : Option Addr) (L : List ByteArray) : Prop := L.length = 0 ∨ ∃ g o, a = some ⟨g, o, none⟩ ∧ g < w.heap.size ∧ ∀ j x, L[j]? = some x → w.cell? ⟨g, o + j, none⟩ = some (.string x)
set_option maxHeartbeats 4000000 in
set_option maxRecDepth 100000 in
theorem sameTexts_any (a b : Option Addr) (c e : Nat) (L : List ByteArray) (w : World) (hL : L.length ≤ 64) (ha : TxV w a L) (hb : TxV w b L) : Calls Tryz.prog 6 #[.slice a L.length c, .slice b L.length e] w fun e w' => e = .returned (.bool true) ∧ Below w.heap.size w w' := by
  have hLI : (L.length : Int) ≤ 64 := by omega
  have HA : Hid (TxV w a L) := ha
  have HB : Hid (TxV w b L) := hb
  clear ha hb hL
  go_enter Tryz.func6, Tryz.ntmps6
  go_wp2_with fail
  go_loopw [5] (fun ivv w' => ∃ i : Nat, ivv = .int .i64 (i : Int) ∧ i ≤ L.length ∧ Hid (Below w.heap.size w w')) (fun ivv _ => L.length - (RowKit.intOf ivv).toNat)
  case atStart => exact ⟨0, rfl, Nat.zero_le _, Below.refl _ _⟩
  case round =>
    obtain ⟨i, rfl, hi, hbw⟩ := hrel
    by_cases hlt : i < L.length
    · have hii : (i : Int) < L.length := by omega
      obtain ⟨x, hx⟩ : ∃ x, L[i]? = some x := ⟨_, List.getElem?_eq_getElem hlt⟩
      rcases HA.out with h | ⟨g, o, rfl, hg, hc⟩
      · omega
      rcases HB.out with h | ⟨g', o', rfl, hg', hc'⟩
      · omega
      have c1 := (hbw.out.cell (p := ⟨g, o + i, none⟩) hg).trans (hc i x hx)
      have c2 := (hbw.out.cell (p := ⟨g', o' + i, none⟩) hg').trans (hc' i x hx)
      have hxx : (x.toList == x.toList) = true := by simp
      clear hc hc' HA HB hx hg hg'
      go_wp2_with fail
      go_big_quiet (fail)
      go_wp2
      exact ⟨⟨i + 1, by go_num, by omega, Below.drewN hbw.out _⟩, by simp [RowKit.intOf]; omega⟩
    · have hii : ¬ (i : Int) < L.length := by omega
      obtain hq : i = L.length := by omega
      clear HA HB
      go_wp2
      go_ret
      exact ⟨rfl, hbw.out⟩
end Go.Proofs.YtbciclnffokjjaaGreatDoor
