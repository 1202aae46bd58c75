/- A bundle of texts. -/
import Derived.Test.YtbciclnffokjjaaGreatDoorBt11
/- The reference's validity: brackets, ranges. -/
namespace Go.Proofs.YtbciclnffokjjaaGreatDoor
open Go.RowKit

set_option maxHeartbeats 4000000 in
theorem rBrackets_any (a k : Int) (w : World) : Calls Tryz.prog 60 #[.int .i64 a, .int .i64 k] w fun e w' => e = .returned (.bool (brB a k)) ∧ w' = w := by
  have HE : Hid (brB a k = decide (k = 5 ∧ (a = 5 ∨ a = 4 ∨ a = 6) ∨ (k = 4 ∨ k = 1) ∧ (a = 4 ∨ a = 6) ∨ k = 6 ∧ a = 6)) := rfl
  by_cases a5 : a = 5
  · subst a5
    by_cases k5 : k = 5
    · subst k5
      go_enter Tryz.func60, Tryz.ntmps60
      go_wp2
      go_ret
      exact ⟨ret_bool (by rw [HE.out]; simp <;> omega), rfl⟩
    have f5 : (k == 5) = false := by simpa using k5
    by_cases k4 : k = 4
    · subst k4
      go_enter Tryz.func60, Tryz.ntmps60
      go_wp2
      go_ret
      exact ⟨ret_bool (by rw [HE.out]; simp <;> omega), rfl⟩
    have f4 : (k == 4) = false := by simpa using k4
    by_cases k1 : k = 1
    · subst k1
      go_enter Tryz.func60, Tryz.ntmps60
      go_wp2
      go_ret
      exact ⟨ret_bool (by rw [HE.out]; simp <;> omega), rfl⟩
    have f1 : (k == 1) = false := by simpa using k1
    by_cases k6 : k = 6
    · subst k6
      go_enter Tryz.func60, Tryz.ntmps60
      go_wp2
      go_ret
      exact ⟨ret_bool (by rw [HE.out]; simp <;> omega), rfl⟩
    have f6 : (k == 6) = false := by simpa using k6
    go_enter Tryz.func60, Tryz.ntmps60
    go_wp2
    go_ret
    exact ⟨ret_bool (by rw [HE.out]; simp <;> omega), rfl⟩
  have e5 : (a == 5) = false := by simpa using a5
  by_cases a4 : a = 4
  · subst a4
    by_cases k5 : k = 5
    · subst k5
      go_enter Tryz.func60, Tryz.ntmps60
      go_wp2
      go_ret
      exact ⟨ret_bool (by rw [HE.out]; simp <;> omega), rfl⟩
    have f5 : (k == 5) = false := by simpa using k5
    by_cases k4 : k = 4
    · subst k4
      go_enter Tryz.func60, Tryz.ntmps60
      go_wp2
      go_ret
      exact ⟨ret_bool (by rw [HE.out]; simp <;> omega), rfl⟩
    have f4 : (k == 4) = false := by simpa using k4
    by_cases k1 : k = 1
    · subst k1
      go_enter Tryz.func60, Tryz.ntmps60
      go_wp2
      go_ret
      exact ⟨ret_bool (by rw [HE.out]; simp <;> omega), rfl⟩
    have f1 : (k == 1) = false := by simpa using k1
    by_cases k6 : k = 6
    · subst k6
      go_enter Tryz.func60, Tryz.ntmps60
      go_wp2
      go_ret
      exact ⟨ret_bool (by rw [HE.out]; simp <;> omega), rfl⟩
    have f6 : (k == 6) = false := by simpa using k6
    go_enter Tryz.func60, Tryz.ntmps60
    go_wp2
    go_ret
    exact ⟨ret_bool (by rw [HE.out]; simp <;> omega), rfl⟩
  have e4 : (a == 4) = false := by simpa using a4
  by_cases a6 : a = 6
  · subst a6
    by_cases k5 : k = 5
    · subst k5
      go_enter Tryz.func60, Tryz.ntmps60
      go_wp2
      go_ret
      exact ⟨ret_bool (by rw [HE.out]; simp <;> omega), rfl⟩
    have f5 : (k == 5) = false := by simpa using k5
    by_cases k4 : k = 4
    · subst k4
      go_enter Tryz.func60, Tryz.ntmps60
      go_wp2
      go_ret
      exact ⟨ret_bool (by rw [HE.out]; simp <;> omega), rfl⟩
    have f4 : (k == 4) = false := by simpa using k4
    by_cases k1 : k = 1
    · subst k1
      go_enter Tryz.func60, Tryz.ntmps60
      go_wp2
      go_ret
      exact ⟨ret_bool (by rw [HE.out]; simp <;> omega), rfl⟩
    have f1 : (k == 1) = false := by simpa using k1
    by_cases k6 : k = 6
    · subst k6
      go_enter Tryz.func60, Tryz.ntmps60
      go_wp2
      go_ret
      exact ⟨ret_bool (by rw [HE.out]; simp <;> omega), rfl⟩
    have f6 : (k == 6) = false := by simpa using k6
    go_enter Tryz.func60, Tryz.ntmps60
    go_wp2
    go_ret
    exact ⟨ret_bool (by rw [HE.out]; simp <;> omega), rfl⟩
  have e6 : (a == 6) = false := by simpa using a6
  go_enter Tryz.func60, Tryz.ntmps60
  go_wp2
  go_ret
  exact ⟨ret_bool (by rw [HE.out]; simp <;> omega), rfl⟩
end Go.Proofs.YtbciclnffokjjaaGreatDoor
/- The reference's validity: ranges. -/
namespace Go.Proofs.YtbciclnffokjjaaGreatDoor
open Go.RowKit

/-- What the next range may begin with. -/
def nxL (f : Nat → Rg) (i : Nat) : Int := if i = 0 then 0 else (f (i - 1)).2 + 2
theorem ssW_at {f : Nat → Rg} {j : Nat} : ∀ {n : Nat}, ssB f n = true → j < n → esB f j = true
  | 0, _, h => by omega
  | n + 1, h, hj => by
    unfold ssB at h
    rw [Bool.and_eq_true] at h
    by_cases e : j = n
    · subst e; exact h.2
    · exact ssW_at h.1 (by omega)
/-- What both say of one range. -/
theorem esB_nx {f : Nat → Rg} {i : Nat} (h : ssB f i = true) : esB f i = true ↔ (nxL f i ≤ (f i).1 ∧ (f i).1 ≤ (f i).2 ∧ (f i).2 ≤ 1114111) := by
  have hO : esB f i = true ↔ _ := decide_eq_true_iff
  rw [hO]
  unfold nxL
  by_cases e : i = 0
  · subst e
    simp
    omega
  · rw [if_neg e]
    have hO' : esB f (i - 1) = true ↔ _ := decide_eq_true_iff
    have := hO'.1 (ssW_at h (by omega))
    omega
set_option maxHeartbeats 4000000 in
set_option maxRecDepth 100000 in
theorem rRanges_any (a : Option Addr) (n c : Nat) (f : Nat → Rg) (w : World) (hR : Rml w a f n) (hn : n ≤ 1152921504606846976) :
    Calls Tryz.prog 62 #[.slice a n c] w fun r w' => r = .returned (.bool (setB f n)) ∧ Below w.heap.size w w' := by
  have HR : Hid (Rml w a f n) := hR
  clear hR
  go_enter Tryz.func62, Tryz.ntmps62
  go_wp2_with fail
  go_loopw [3, 4] (fun nv ivv w' => ∃ i : Nat, ivv = .int .i64 (i : Int) ∧ nv = .int .i32 (nxL f i) ∧ i ≤ n ∧ Hid (ssB f i = true ∧ Below w.heap.size w w')) (fun _ ivv _ => n - (RowKit.intOf ivv).toNat)
  case atStart => exact ⟨0, rfl, rfl, by omega, rfl, Below.refl _ _⟩
  case round =>
    obtain ⟨i, rfl, rfl, hi, hH⟩ := hrel
    obtain ⟨hss, hb⟩ := hH.out
    by_cases hlt : i < n
    · have hii : (i : Int) < n := by omega
      have HLT : Hid (i < n) := hlt
      have HO : Hid (esB f i = true ↔ (nxL f i ≤ (f i).1 ∧ (f i).1 ≤ (f i).2 ∧ (f i).2 ≤ 1114111)) := esB_nx hss
      obtain ⟨g1, o1, rfl, hg1, x0, x1⟩ := HR.out.at i hlt
      have e0 := bcell2 hb x0
      have e1 := bcell2 hb x1
      have HB : Hid (∀ q, Below w.heap.size w (wr.drewN q)) := fun q => Below.drewN hb q
      have HBad : Hid (esB f i = false → setB f n = false) := fun h => by unfold setB; rw [ssB_bad h HLT.out]; rfl
      have HSS : Hid (esB f i = true → ssB f (i + 1) = true) := fun h => by show (_ && _) = true; rw [hss, h]; rfl
      have HNX : Hid (nxL f (i + 1) = (f i).2 + 2) := by
        unfold Hid nxL
        rw [if_neg (by omega), Nat.add_sub_cancel]
      have hlo0 : 0 ≤ nxL f i := by
        unfold nxL
        split
        · omega
        · have hO' : esB f (i - 1) = true ↔ _ := decide_eq_true_iff
          have := hO'.1 (ssW_at hss (by omega))
          omega
      generalize nxL f i = nx at *
      obtain ⟨⟨lo, hh⟩, hx⟩ : ∃ x, f i = x := ⟨_, rfl⟩
      rw [hx] at e0 e1 HO HNX
      dsimp only at e0 e1 HO HNX
      clear hx x0 x1 hss hb hH
      by_cases h1 : lo < nx
      · have HF : Hid (setB f n = false) := HBad.out (by cases h : esB f i with | false => rfl | true => have := HO.out.1 h; omega)
        go_wp2_with fail
        go_quiet (fail)
        go_wp2
        go_ret
        exact ⟨ret_bool HF.out.symm, HB.out _⟩
      · by_cases h2 : hh < lo
        · have HF : Hid (setB f n = false) := HBad.out (by cases h : esB f i with | false => rfl | true => have := HO.out.1 h; omega)
          go_wp2_with fail
          go_quiet (fail)
          go_wp2
          go_ret
          exact ⟨ret_bool HF.out.symm, HB.out _⟩
        · by_cases h3 : 1114111 < hh
          · have HF : Hid (setB f n = false) := HBad.out (by cases h : esB f i with | false => rfl | true => have := HO.out.1 h; omega)
            go_wp2_with fail
            go_quiet (fail)
            go_wp2
            go_ret
            exact ⟨ret_bool HF.out.symm, HB.out _⟩
          · have hh0 : 0 ≤ hh := by omega
            have HF : Hid (ssB f (i + 1) = true) := HSS.out (HO.out.2 (by omega))
            go_wp2_with fail
            go_quiet (fail)
            go_wp2
            exact ⟨⟨i + 1, by go_num, by rw [HNX.out], HLT.out, HF.out, HB.out _⟩, by simp [RowKit.intOf]; omega⟩
    · have hii : ¬ (i : Int) < n := by omega
      obtain rfl : i = n := by omega
      by_cases h1 : i = 1
      · subst h1
        have HLS : Hid (setB f 1 = decide ((f 0).1 < (f 0).2)) := by
          unfold Hid setB
          rw [hss]
          simp
        have HES : Hid ((f 0).1 ≤ (f 0).2) := by
          have hO' : esB f 0 = true ↔ _ := decide_eq_true_iff
          exact (hO'.1 (ssW_at hss (by omega))).2.2.2.2.1
        obtain ⟨g1, o1, rfl, hg1, x0, x1⟩ := HR.out.at 0 (by omega)
        have e0 := bcell2 hb x0
        have e1 := bcell2 hb x1
        have HB : Hid (∀ q, Below w.heap.size w (wr.drewN q)) := fun q => Below.drewN hb q
        obtain ⟨⟨lo, hh⟩, hx⟩ : ∃ x, f 0 = x := ⟨_, rfl⟩
        rw [hx] at e0 e1 HLS HES
        dsimp only at e0 e1 HLS HES
        rw [Nat.zero_mul, Nat.add_zero] at e0 e1
        clear hx x0 x1 hss hb hH
        by_cases h4 : lo = hh
        · subst h4
          go_wp2_with fail
          go_quiet (fail)
          go_wp2
          go_ret
          exact ⟨ret_bool (by rw [HLS.out]; simp), HB.out _⟩
        · have h5 : (lo == hh) = false := by simpa using h4
          have H4 : Hid (lo < hh) := by have := HES.out; show lo < hh; omega
          go_wp2_with fail
          go_quiet (fail)
          go_wp2
          go_ret
          exact ⟨ret_bool (by rw [HLS.out]; simp [H4.out]; exact Int.ne_of_lt H4.out), HB.out _⟩
      · have h2 : ((i : Int) != 1) = true := by simp; omega
        have HF : Hid (setB f i = true) := by
          unfold Hid setB
          rw [hss]
          simp [h1]
        have HB : Hid (∀ q, Below w.heap.size w (wr.drewN q)) := fun q => Below.drewN hb q
        clear hss hb hH h1
        go_wp2_with fail
        go_quiet (fail)
        go_wp2
        go_ret
        exact ⟨ret_bool HF.out.symm, HB.out _⟩
end Go.Proofs.YtbciclnffokjjaaGreatDoor
/- The reference's size. -/
namespace Go.Proofs.YtbciclnffokjjaaGreatDoor
open Go.RowKit

def RszOk (m : Nat) : Prop := ∀ (t : Tr) (w : World), WF m t → Tat w.heap.size w t → Calls Tryz.prog 40 #[ndV (t [])] w fun e w' => e = .returned (.int .i64 (lenF m t)) ∧ Below w.heap.size w w'
set_option maxHeartbeats 8000000 in
set_option maxRecDepth 100000 in
theorem rsize_step (m : Nat) (hIH : RszOk m) : RszOk (m + 1) := by
  intro t w hw ht
  obtain ⟨⟨hnd, _⟩, hkn, hkids⟩ := hw
  have hb : Below w.heap.size w (w.alloc (ndX (t []))) := (Below.refl _ w).alloc (Nat.le_refl _) _
  have hc := ndX_cells (w := w) (t []) (Below.refl _ _)
  have HF : Hid (∀ j, j < (t []).kn → 0 ≤ lenF m (kid t j) ∧ lenF m (kid t j) ≤ 10001) := fun j hj => lenF_bd m _ (hkids j hj)
  have HE : Hid (lenF (m + 1) t = _) := lenF_succ m t
  have IH : Hid (RszOk m) := hIH
  have HKD : Hid (∀ j, j < (t []).kn → WF m (kid t j)) := hkids
  have HND : Hid (ndB (t []) = true) := hnd
  obtain ⟨W, hW⟩ : ∃ W, W = w.alloc (ndX (t [])) := ⟨_, rfl⟩
  have HW : Hid (W = w.alloc (ndX (t []))) := hW
  rw [← hW] at hb hc
  have HB : Hid (Below w.heap.size w W) := hb
  have HT : Hid (Tat w.heap.size W t) := ht.below hb
  have HSZ : Hid (w.heap.size ≤ W.heap.size) := hb.size
  have HC : Hid (Cs W w.heap.size 0 (t [])) := hc
  obtain ⟨G, hG⟩ : ∃ G, G = w.heap.size := ⟨_, rfl⟩
  have HG : Hid (G = w.heap.size) := hG
  have HGL : Hid (G < W.heap.size) := by rw [hG]; exact World.block_lt_of_cell? W _ hc.c0
  rw [← hG] at HC HT HB HSZ
  obtain ⟨d, hd⟩ : ∃ d, t [] = d := ⟨_, rfl⟩
  have HD : Hid (t [] = d) := hd
  rw [hd] at HC HW HF HND HE hkn HKD
  rw [hd]
  have e8 := HC.out.c8
  simp only [Nat.zero_add] at e8
  have hknI : (d.kn : Int) ≤ 8194 := by omega
  have e0 := HC.out.c0
  have e3 := HC.out.c3
  have e4 := HC.out.c4
  simp only [Nat.zero_add] at e0 e3 e4
  clear hnd hkids hb hc hW ht hIH hd hG
  obtain ⟨F, hF⟩ : ∃ F : Nat → Int, F = fun j => lenF m (kid t j) := ⟨_, rfl⟩
  have HFJ : Hid (∀ j, lenF m (kid t j) = F j) := fun j => by rw [hF]
  rw [← hF] at HE
  have HFB : Hid (∀ i, i ≤ d.kn → 0 ≤ sumN F i ∧ sumN F i ≤ 100000000) := fun i hi => by
    have := sumN_bd (f := F) (b := 10001) (by omega) i (fun j hj => by rw [← HFJ.out]; exact HF.out j (by omega))
    have h2 : (i : Int) * 10001 ≤ 8194 * 10001 := Int.mul_le_mul_of_nonneg_right (by omega) (by omega)
    omega
  clear hF
  have KID : Hid (∀ (w1 : World) (i : Nat), Below W.heap.size W w1 → i < d.kn → ∃ g1 o1, d.ka = some ⟨g1, o1, none⟩ ∧ Cs w1 g1 (o1 + i * 9) (t [i]) ∧ Calls Tryz.prog 40 #[ndV (t [i])] w1 fun e w' => e = .returned (.int .i64 (F i)) ∧ Below w1.heap.size w1 w') := fun w1 i b hi => by
    have htr := HT.out.below (b.mono HSZ.out)
    have hlt' : i < (t []).kn := by rw [HD.out]; exact hi
    obtain ⟨g1, o1, hka, hg1, hcs⟩ := htr.kids.at i hlt'
    rw [HD.out] at hka
    have kN := IH.out (kid t i) w1 (HKD.out i hi) ((htr.kid i hlt').mono (Nat.le_trans HSZ.out b.size))
    rw [HFJ.out] at kN
    exact ⟨g1, o1, hka, hcs, kN⟩
  have kb := ndB_kind HND.out
  have HBW0 : Hid (Below w.heap.size w W) := by rw [← HG.out]; exact HB.out
  by_cases h1 : d.kind = 1
  · have t1 : (d.kind == 1) = true := by simpa using h1
    have h0 := ndB_leaf HND.out (.inl (by omega))
    have HL : Hid (lenF (m + 1) t = 0) := by
      refine HE.out.trans ?_
      unfold lenK
      rw [if_pos (.inl h1), h0]
      rfl
    clear h1 kb h0
    go_enter Tryz.func40, Tryz.ntmps40
    go_upto_region 1 with fail
    rw [← HW.out, ← HG.out]
    go_wp2
    all_goals go_ret
    all_goals exact ⟨ret_int (by have h := HL.out; omega), HBW0.out⟩
  have t1 : (d.kind == 1) = false := by simpa using h1
  by_cases h4 : d.kind = 4
  · have t4 : (d.kind == 4) = true := by simpa using h4
    have t5 : (d.kind == 5) = false := by rw [h4]; rfl
    have HL : Hid (∀ Y, lenK d Y = Y) := fun Y => by unfold lenK; rw [if_pos (.inr h4)]
    clear h1 h4 kb
    go_enter Tryz.func40, Tryz.ntmps40
    go_upto_region 1 with fail
    rw [← HW.out, ← HG.out]
    go_wp2_with fail
    go_loopw [3, 4] (fun nv ivv w' => ∃ i : Nat, ivv = .int .i64 (i : Int) ∧ i ≤ d.kn ∧ nv = .int .i64 (min (sumN F i) 10001) ∧ Hid (Below W.heap.size W w')) (fun _ ivv _ => d.kn - (RowKit.intOf ivv).toNat)
    case atStart => exact ⟨0, rfl, by omega, rfl, Below.refl _ _⟩
    case round =>
      obtain ⟨i, rfl, hi, rfl, hbw⟩ := hrel
      obtain ⟨sb0, sb1⟩ := HFB.out i hi
      have hcs := HC.out.kp (M := fun _ => False) (Kp.of hbw.out) id
      obtain ⟨f0, f1, f2, f3, f4, f5, f6, f7, f8⟩ := hcs
      simp only [Nat.zero_add] at f0 f1 f2 f3 f4 f5 f6 f7 f8
      by_cases hlt : i < d.kn
      · have hii : (i : Int) < d.kn := by omega
        obtain ⟨g1, o1, hka, hcs, kN⟩ := KID.out wr i hbw.out hlt
        have fb := HF.out i hlt
        rw [HFJ.out] at fb
        obtain ⟨fb0, fb1⟩ := fb
        have HSS : Hid (sumN F (i + 1) = sumN F i + F i) := rfl
        have HR : Hid (∀ w2, Below wr.heap.size wr w2 → Below W.heap.size W w2) := fun w2 b => hbw.out.trans (b.mono hbw.out.size)
        obtain ⟨p0, p1, p2, p3, p4, p5, p6, p7, p8⟩ := hcs
        rw [hka] at f8
        have HKA : Hid (d.ka = some ⟨g1, o1, none⟩) := hka
        generalize t [i] = dk at *
        generalize F i = X at *
        generalize sumN F i = Y at *
        obtain ⟨M, hM⟩ : ∃ M, min Y 10001 = M := ⟨_, rfl⟩
        rw [hM]
        have HM : Hid (min Y 10001 = M) := hM
        have m0 : 0 ≤ M := by omega
        have m1 : M ≤ 10001 := by omega
        clear hka hM
        go_wp2_with fail
        go_fit kN
        rintro e w5 ⟨rfl, b5⟩
        have B5 : Hid _ := HR.out _ b5
        clear b5
        go_wp2
        all_goals exact ⟨⟨i + 1, by go_num, by omega, by rw [HSS.out]; have := HM.out; congr 1; omega, B5.out⟩, by simp [RowKit.intOf]; omega⟩
      · have hii : ¬ (i : Int) < d.kn := by omega
        obtain rfl : i = d.kn := by omega
        have HBW : Hid (Below w.heap.size w wr) := by rw [← HG.out]; exact HB.out.trans (hbw.out.mono HSZ.out)
        generalize sumN F d.kn = Y at *
        obtain ⟨M, hM⟩ : ∃ M, min Y 10001 = M := ⟨_, rfl⟩
        rw [hM]
        have HM : Hid (min Y 10001 = M) := hM
        have m0 : 0 ≤ M := by omega
        have m1 : M ≤ 10001 := by omega
        clear hM hlt hii hi
        go_wp2
        all_goals go_ret
        all_goals exact ⟨ret_int (by rw [HE.out, HL.out]; have := HM.out; omega), HBW.out⟩
  have t4 : (d.kind == 4) = false := by simpa using h4
  by_cases h5 : d.kind = 5
  · have t5 : (d.kind == 5) = true := by simpa using h5
    have HL : Hid (∀ Y, lenK d Y = Y + 2 * ((d.kn : Int) - 1)) := fun Y => by unfold lenK; rw [if_neg (by omega), if_pos h5]
    have h2 := ndB_row HND.out (.inr h5)
    have h2' : 2 ≤ (d.kn : Int) := by omega
    clear h1 h4 h5 kb h2
    go_enter Tryz.func40, Tryz.ntmps40
    go_upto_region 1 with fail
    rw [← HW.out, ← HG.out]
    go_wp2_with fail
    go_loopw [3, 4] (fun nv ivv w' => ∃ i : Nat, ivv = .int .i64 (i : Int) ∧ i ≤ d.kn ∧ nv = .int .i64 (min (sumN F i) 10001) ∧ Hid (Below W.heap.size W w')) (fun _ ivv _ => d.kn - (RowKit.intOf ivv).toNat)
    case atStart => exact ⟨0, rfl, by omega, rfl, Below.refl _ _⟩
    case round =>
      obtain ⟨i, rfl, hi, rfl, hbw⟩ := hrel
      obtain ⟨sb0, sb1⟩ := HFB.out i hi
      have hcs := HC.out.kp (M := fun _ => False) (Kp.of hbw.out) id
      obtain ⟨f0, f1, f2, f3, f4, f5, f6, f7, f8⟩ := hcs
      simp only [Nat.zero_add] at f0 f1 f2 f3 f4 f5 f6 f7 f8
      by_cases hlt : i < d.kn
      · have hii : (i : Int) < d.kn := by omega
        obtain ⟨g1, o1, hka, hcs, kN⟩ := KID.out wr i hbw.out hlt
        have fb := HF.out i hlt
        rw [HFJ.out] at fb
        obtain ⟨fb0, fb1⟩ := fb
        have HSS : Hid (sumN F (i + 1) = sumN F i + F i) := rfl
        have HR : Hid (∀ w2, Below wr.heap.size wr w2 → Below W.heap.size W w2) := fun w2 b => hbw.out.trans (b.mono hbw.out.size)
        obtain ⟨p0, p1, p2, p3, p4, p5, p6, p7, p8⟩ := hcs
        rw [hka] at f8
        have HKA : Hid (d.ka = some ⟨g1, o1, none⟩) := hka
        generalize t [i] = dk at *
        generalize F i = X at *
        generalize sumN F i = Y at *
        obtain ⟨M, hM⟩ : ∃ M, min Y 10001 = M := ⟨_, rfl⟩
        rw [hM]
        have HM : Hid (min Y 10001 = M) := hM
        have m0 : 0 ≤ M := by omega
        have m1 : M ≤ 10001 := by omega
        clear hka hM
        go_wp2_with fail
        go_fit kN
        rintro e w5 ⟨rfl, b5⟩
        have B5 : Hid _ := HR.out _ b5
        clear b5
        go_wp2
        all_goals exact ⟨⟨i + 1, by go_num, by omega, by rw [HSS.out]; have := HM.out; congr 1; omega, B5.out⟩, by simp [RowKit.intOf]; omega⟩
      · have hii : ¬ (i : Int) < d.kn := by omega
        obtain rfl : i = d.kn := by omega
        have HBW : Hid (Below w.heap.size w wr) := by rw [← HG.out]; exact HB.out.trans (hbw.out.mono HSZ.out)
        generalize sumN F d.kn = Y at *
        obtain ⟨M, hM⟩ : ∃ M, min Y 10001 = M := ⟨_, rfl⟩
        rw [hM]
        have HM : Hid (min Y 10001 = M) := hM
        have m0 : 0 ≤ M := by omega
        have m1 : M ≤ 10001 := by omega
        clear hM hlt hii hi
        go_wp2
        all_goals go_ret
        all_goals exact ⟨ret_int (by rw [HE.out, HL.out]; have := HM.out; omega), HBW.out⟩
  have t5 : (d.kind == 5) = false := by simpa using h5
  by_cases h7 : d.kind = 7
  · have t7 : (d.kind == 7) = true := by simpa using h7
    have hk1 := ndB_grp HND.out h7
    have HL : Hid (lenF (m + 1) t = min (F 0 + 2) 10001) := by
      refine HE.out.trans ?_
      unfold lenK
      rw [if_neg (by omega), if_neg h5, if_pos h7, hk1, sumN_one]
    obtain ⟨fb0, fb1⟩ := HF.out 0 (by omega)
    rw [HFJ.out] at fb0 fb1
    obtain ⟨g1, o1, hka, hcs, kN⟩ := KID.out W 0 (Below.refl _ _) (by omega)
    obtain ⟨p0, p1, p2, p3, p4, p5, p6, p7, p8⟩ := hcs
    simp only [Nat.zero_mul, Nat.add_zero] at p0 p1 p2 p3 p4 p5 p6 p7 p8
    rw [hka, hk1] at e8
    generalize t [0] = dk at *
    generalize F 0 = X at *
    clear h1 h4 h5 h7 kb hka hk1
    go_enter Tryz.func40, Tryz.ntmps40
    go_upto_region 1 with fail
    rw [← HW.out, ← HG.out]
    go_wp2_with fail
    go_fit kN
    rintro e w5 ⟨rfl, b5⟩
    have B5 : Hid (Below w.heap.size w w5) := HBW0.out.trans (b5.mono HBW0.out.size)
    clear b5
    go_wp2
    all_goals go_ret
    all_goals exact ⟨ret_int (by have h := HL.out; omega), B5.out⟩
  have t7 : (d.kind == 7) = false := by simpa using h7
  by_cases h6 : d.kind = 6
  · have t6 : (d.kind == 6) = true := by simpa using h6
    obtain ⟨hk1, hr1, hr2, hr3⟩ := ndB_rep HND.out h6
    have HL : Hid (lenF (m + 1) t = min (if d.mx = -1 then d.mn * F 0 + F 0 + 2 else d.mn * F 0 + (d.mx - d.mn) * (F 0 + 1)) 10001) := by
      refine HE.out.trans ?_
      unfold lenK
      rw [if_neg (by omega), if_neg h5, if_neg h7, if_pos h6, hk1, sumN_one]
    obtain ⟨fb0, fb1⟩ := HF.out 0 (by omega)
    rw [HFJ.out] at fb0 fb1
    obtain ⟨g1, o1, hka, hcs, kN⟩ := KID.out W 0 (Below.refl _ _) (by omega)
    obtain ⟨p0, p1, p2, p3, p4, p5, p6, p7, p8⟩ := hcs
    simp only [Nat.zero_mul, Nat.add_zero] at p0 p1 p2 p3 p4 p5 p6 p7 p8
    rw [hka, hk1] at e8
    have H6 : Hid (∀ w1, Below W.heap.size W w1 → Cs w1 G 0 d) := fun w1 b => HC.out.kp (M := fun _ => False) (Kp.of b) id
    have HX : Hid (∀ Y, Y = F 0 → True) := fun _ _ => trivial
    generalize t [0] = dk at *
    generalize F 0 = X at *
    have m1 := mul_bd hr1 hr2 fb0 fb1
    obtain ⟨m1a, m1b⟩ := m1
    clear h1 h4 h5 h7 h6 kb hk1 hka HX
    go_enter Tryz.func40, Tryz.ntmps40
    go_upto_region 1 with fail
    rw [← HW.out, ← HG.out]
    go_wp2_with fail
    go_fit kN
    rintro e w5 ⟨rfl, b5⟩
    have B5 : Hid (Below w.heap.size w w5) := HBW0.out.trans (b5.mono HBW0.out.size)
    obtain ⟨f0, f1, f2, f3, f4, f5, f6, f7, f8⟩ := H6.out w5 b5
    simp only [Nat.zero_add] at f0 f1 f2 f3 f4 f5 f6 f7 f8
    clear b5
    by_cases hm : d.mx = -1
    · have tm : (d.mx == -1) = true := by simpa using hm
      have HL' : Hid (lenF (m + 1) t = min (d.mn * X + X + 2) 10001) := HL.out.trans (by rw [if_pos hm])
      clear HL hm hr3
      go_wp2
      all_goals go_ret
      all_goals exact ⟨ret_int (by have h := HL'.out; omega), B5.out⟩
    · have tm : (d.mx == -1) = false := by simpa using hm
      obtain ⟨x0, x1⟩ : 0 ≤ d.mx - d.mn ∧ d.mx - d.mn ≤ 1000 := by omega
      obtain ⟨m2a, m2b⟩ := mul_bd x0 x1 (show 0 ≤ X + 1 by omega) (show X + 1 ≤ 10002 by omega)
      have HL' : Hid (lenF (m + 1) t = min (d.mn * X + (d.mx - d.mn) * (X + 1)) 10001) := HL.out.trans (by rw [if_neg hm])
      have y0 : 0 ≤ d.mx := by omega
      have y1 : d.mx ≤ 1000 := by omega
      clear HL hm hr3
      go_wp2
      all_goals go_ret
      all_goals exact ⟨ret_int (by have h := HL'.out; omega), B5.out⟩
  have t6 : (d.kind == 6) = false := by simpa using h6
  have HL : Hid (lenF (m + 1) t = 1) := by
    refine HE.out.trans ?_
    unfold lenK
    rw [if_neg (by omega), if_neg h5, if_neg h7, if_neg h6]
    rfl
  clear h1 h4 h5 h7 h6 kb
  go_enter Tryz.func40, Tryz.ntmps40
  go_upto_region 1 with fail
  rw [← HW.out, ← HG.out]
  go_wp2
  all_goals go_ret
  all_goals exact ⟨ret_int (by have h := HL.out; omega), HBW0.out⟩
theorem rsize_any : ∀ m, RszOk m
  | 0 => fun _ _ h => by cases h
  | m + 1 => rsize_step m (rsize_any m)
end Go.Proofs.YtbciclnffokjjaaGreatDoor
/- The reference's validity: bare. -/
namespace Go.Proofs.YtbciclnffokjjaaGreatDoor
open Go.RowKit

def bareB (d : Nd) : Bool := ((d.kind == 3 || (d.rn : Int) == 0) && ((d.kind == 4 || d.kind == 5 || d.kind == 6 || d.kind == 7) || (d.kn : Int) == 0)) && ((d.kind == 2 || d.r == 0) && (d.kind == 6 || (d.mn == 0 && d.mx == 0 && !d.lz)) && (d.kind == 7 || (d.cp == 0 && d.nm.toList.isEmpty)))
set_option maxHeartbeats 20000000 in
set_option maxRecDepth 100000 in
theorem bare_3 (r : Int) (ra : Option Addr) (rn rc : Nat) (rf : Nat → Rg) (mn mx : Int) (lz : Bool) (cp : Int) (nm : ByteArray) (ka : Option Addr) (kn kc : Nat) (w : World) :
    Calls Tryz.prog 61 #[rxV 3 r ra rn rc mn mx lz cp nm ka kn kc] w fun e w' => e = .returned (.bool (bareB ⟨3, r, ra, rn, rc, rf, mn, mx, lz, cp, nm, ka, kn, kc⟩)) ∧ w' = w.alloc (rxX 3 r ra rn rc mn mx lz cp nm ka kn kc) := by
  have HE : Hid (∀ lz, bareB ⟨3, r, ra, rn, rc, rf, mn, mx, lz, cp, nm, ka, kn, kc⟩ = ((((3 : Int) == 3 || (rn : Int) == 0) && (((3 : Int) == 4 || (3 : Int) == 5 || (3 : Int) == 6 || (3 : Int) == 7) || (kn : Int) == 0)) && (((3 : Int) == 2 || r == 0) && ((3 : Int) == 6 || (mn == 0 && mx == 0 && !lz)) && ((3 : Int) == 7 || (cp == 0 && nm.toList.isEmpty))))) := fun _ => rfl
  cases hkn : ((kn : Int) == 0)
  · cases hr : (r == 0)
    · go_enter Tryz.func61, Tryz.ntmps61
      go_wp2
      go_ret
      exact ⟨ret_bool (by rw [HE.out]; simp [hkn, hr]), rfl⟩
    cases hmn : (mn == 0)
    · go_enter Tryz.func61, Tryz.ntmps61
      go_wp2
      go_ret
      exact ⟨ret_bool (by rw [HE.out]; simp [hkn, hr, hmn]), rfl⟩
    cases hmx : (mx == 0)
    · go_enter Tryz.func61, Tryz.ntmps61
      go_wp2
      go_ret
      exact ⟨ret_bool (by rw [HE.out]; simp [hkn, hr, hmn, hmx]), rfl⟩
    cases lz
    rotate_left
    · go_enter Tryz.func61, Tryz.ntmps61
      go_wp2
      go_ret
      exact ⟨ret_bool (by rw [HE.out]; simp [hkn, hr, hmn, hmx]), rfl⟩
    cases hcp : (cp == 0)
    · go_enter Tryz.func61, Tryz.ntmps61
      go_wp2
      go_ret
      exact ⟨ret_bool (by rw [HE.out]; simp [hkn, hr, hmn, hmx, hcp]), rfl⟩
    cases hnm : nm.toList.isEmpty
    · go_enter Tryz.func61, Tryz.ntmps61
      go_wp2
      go_ret
      exact ⟨ret_bool (by rw [HE.out]; simp [hkn, hr, hmn, hmx, hcp, hnm]), rfl⟩
    go_enter Tryz.func61, Tryz.ntmps61
    go_wp2
    go_ret
    exact ⟨ret_bool (by rw [HE.out]; simp [hkn, hr, hmn, hmx, hcp, hnm]), rfl⟩
  cases hr : (r == 0)
  · go_enter Tryz.func61, Tryz.ntmps61
    go_wp2
    go_ret
    exact ⟨ret_bool (by rw [HE.out]; simp [hkn, hr]), rfl⟩
  cases hmn : (mn == 0)
  · go_enter Tryz.func61, Tryz.ntmps61
    go_wp2
    go_ret
    exact ⟨ret_bool (by rw [HE.out]; simp [hkn, hr, hmn]), rfl⟩
  cases hmx : (mx == 0)
  · go_enter Tryz.func61, Tryz.ntmps61
    go_wp2
    go_ret
    exact ⟨ret_bool (by rw [HE.out]; simp [hkn, hr, hmn, hmx]), rfl⟩
  cases lz
  rotate_left
  · go_enter Tryz.func61, Tryz.ntmps61
    go_wp2
    go_ret
    exact ⟨ret_bool (by rw [HE.out]; simp [hkn, hr, hmn, hmx]), rfl⟩
  cases hcp : (cp == 0)
  · go_enter Tryz.func61, Tryz.ntmps61
    go_wp2
    go_ret
    exact ⟨ret_bool (by rw [HE.out]; simp [hkn, hr, hmn, hmx, hcp]), rfl⟩
  cases hnm : nm.toList.isEmpty
  · go_enter Tryz.func61, Tryz.ntmps61
    go_wp2
    go_ret
    exact ⟨ret_bool (by rw [HE.out]; simp [hkn, hr, hmn, hmx, hcp, hnm]), rfl⟩
  go_enter Tryz.func61, Tryz.ntmps61
  go_wp2
  go_ret
  exact ⟨ret_bool (by rw [HE.out]; simp [hkn, hr, hmn, hmx, hcp, hnm]), rfl⟩
end Go.Proofs.YtbciclnffokjjaaGreatDoor
