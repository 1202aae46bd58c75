/- A bundle of texts. -/
import Derived.Test.YtajaadagejhllaaGreatDoorBs10
/- The reference's validity: brackets, ranges. -/
namespace Go.Proofs.YtajaadagejhllaaGreatDoor
open Go.RowKit

set_option maxHeartbeats 4000000 in
theorem rBrackets_any (a k : Int) (w : World) : Calls Tryz.prog 54 #[.int .i64 a, .int .i64 k] w fun e w' => e = .returned (.bool (brB a k)) ∧ w' = w := by
  have HE : Hid (brB a k = decide (k = 5 ∧ (a = 5 ∨ a = 4 ∨ a = 6) ∨ (k = 4 ∨ k = 1) ∧ (a = 4 ∨ a = 6) ∨ k = 6 ∧ a = 6)) := rfl
  by_cases a5 : a = 5
  · subst a5
    by_cases k5 : k = 5
    · subst k5
      go_enter Tryz.func54, Tryz.ntmps54
      go_wp2
      go_ret
      exact ⟨ret_bool (by rw [HE.out]; simp <;> omega), rfl⟩
    have f5 : (k == 5) = false := by simpa using k5
    by_cases k4 : k = 4
    · subst k4
      go_enter Tryz.func54, Tryz.ntmps54
      go_wp2
      go_ret
      exact ⟨ret_bool (by rw [HE.out]; simp <;> omega), rfl⟩
    have f4 : (k == 4) = false := by simpa using k4
    by_cases k1 : k = 1
    · subst k1
      go_enter Tryz.func54, Tryz.ntmps54
      go_wp2
      go_ret
      exact ⟨ret_bool (by rw [HE.out]; simp <;> omega), rfl⟩
    have f1 : (k == 1) = false := by simpa using k1
    by_cases k6 : k = 6
    · subst k6
      go_enter Tryz.func54, Tryz.ntmps54
      go_wp2
      go_ret
      exact ⟨ret_bool (by rw [HE.out]; simp <;> omega), rfl⟩
    have f6 : (k == 6) = false := by simpa using k6
    go_enter Tryz.func54, Tryz.ntmps54
    go_wp2
    go_ret
    exact ⟨ret_bool (by rw [HE.out]; simp <;> omega), rfl⟩
  have e5 : (a == 5) = false := by simpa using a5
  by_cases a4 : a = 4
  · subst a4
    by_cases k5 : k = 5
    · subst k5
      go_enter Tryz.func54, Tryz.ntmps54
      go_wp2
      go_ret
      exact ⟨ret_bool (by rw [HE.out]; simp <;> omega), rfl⟩
    have f5 : (k == 5) = false := by simpa using k5
    by_cases k4 : k = 4
    · subst k4
      go_enter Tryz.func54, Tryz.ntmps54
      go_wp2
      go_ret
      exact ⟨ret_bool (by rw [HE.out]; simp <;> omega), rfl⟩
    have f4 : (k == 4) = false := by simpa using k4
    by_cases k1 : k = 1
    · subst k1
      go_enter Tryz.func54, Tryz.ntmps54
      go_wp2
      go_ret
      exact ⟨ret_bool (by rw [HE.out]; simp <;> omega), rfl⟩
    have f1 : (k == 1) = false := by simpa using k1
    by_cases k6 : k = 6
    · subst k6
      go_enter Tryz.func54, Tryz.ntmps54
      go_wp2
      go_ret
      exact ⟨ret_bool (by rw [HE.out]; simp <;> omega), rfl⟩
    have f6 : (k == 6) = false := by simpa using k6
    go_enter Tryz.func54, Tryz.ntmps54
    go_wp2
    go_ret
    exact ⟨ret_bool (by rw [HE.out]; simp <;> omega), rfl⟩
  have e4 : (a == 4) = false := by simpa using a4
  by_cases a6 : a = 6
  · subst a6
    by_cases k5 : k = 5
    · subst k5
      go_enter Tryz.func54, Tryz.ntmps54
      go_wp2
      go_ret
      exact ⟨ret_bool (by rw [HE.out]; simp <;> omega), rfl⟩
    have f5 : (k == 5) = false := by simpa using k5
    by_cases k4 : k = 4
    · subst k4
      go_enter Tryz.func54, Tryz.ntmps54
      go_wp2
      go_ret
      exact ⟨ret_bool (by rw [HE.out]; simp <;> omega), rfl⟩
    have f4 : (k == 4) = false := by simpa using k4
    by_cases k1 : k = 1
    · subst k1
      go_enter Tryz.func54, Tryz.ntmps54
      go_wp2
      go_ret
      exact ⟨ret_bool (by rw [HE.out]; simp <;> omega), rfl⟩
    have f1 : (k == 1) = false := by simpa using k1
    by_cases k6 : k = 6
    · subst k6
      go_enter Tryz.func54, Tryz.ntmps54
      go_wp2
      go_ret
      exact ⟨ret_bool (by rw [HE.out]; simp <;> omega), rfl⟩
    have f6 : (k == 6) = false := by simpa using k6
    go_enter Tryz.func54, Tryz.ntmps54
    go_wp2
    go_ret
    exact ⟨ret_bool (by rw [HE.out]; simp <;> omega), rfl⟩
  have e6 : (a == 6) = false := by simpa using a6
  go_enter Tryz.func54, Tryz.ntmps54
  go_wp2
  go_ret
  exact ⟨ret_bool (by rw [HE.out]; simp <;> omega), rfl⟩
end Go.Proofs.YtajaadagejhllaaGreatDoor
/- The reference's validity: ranges. -/
namespace Go.Proofs.YtajaadagejhllaaGreatDoor
open Go.RowKit

/-- What the next range may begin with. -/
def nxL (f : Nat → Rg) (i : Nat) : Int := if i = 0 then 0 else (f (i - 1)).2 + 2
theorem ssW_at {f : Nat → Rg} {j : Nat} : ∀ {n : Nat}, ssB f n = true → j < n → esB f j = true
  | 0, _, h => by omega
  | n + 1, h, hj => by
    unfold ssB at h
    rw [Bool.and_eq_true] at h
    by_cases e : j = n
    · subst e; exact h.2
    · exact ssW_at h.1 (by omega)
/-- What both say of one range. -/
theorem esB_nx {f : Nat → Rg} {i : Nat} (h : ssB f i = true) : esB f i = true ↔ (nxL f i ≤ (f i).1 ∧ (f i).1 ≤ (f i).2 ∧ (f i).2 ≤ 1114111) := by
  have hO : esB f i = true ↔ _ := decide_eq_true_iff
  rw [hO]
  unfold nxL
  by_cases e : i = 0
  · subst e
    simp
    omega
  · rw [if_neg e]
    have hO' : esB f (i - 1) = true ↔ _ := decide_eq_true_iff
    have := hO'.1 (ssW_at h (by omega))
    omega
set_option maxHeartbeats 4000000 in
set_option maxRecDepth 100000 in
theorem rRanges_any (a : Option Addr) (n c : Nat) (f : Nat → Rg) (w : World) (hR : Rml w a f n) (hn : n ≤ 1152921504606846976) :
    Calls Tryz.prog 56 #[.slice a n c] w fun r w' => r = .returned (.bool (setB f n)) ∧ Below w.heap.size w w' := by
  have HR : Hid (Rml w a f n) := hR
  clear hR
  go_enter Tryz.func56, Tryz.ntmps56
  go_wp2_with fail
  go_loopw [3, 4] (fun nv ivv w' => ∃ i : Nat, ivv = .int .i64 (i : Int) ∧ nv = .int .i32 (nxL f i) ∧ i ≤ n ∧ Hid (ssB f i = true ∧ Below w.heap.size w w')) (fun _ ivv _ => n - (RowKit.intOf ivv).toNat)
  case atStart => exact ⟨0, rfl, rfl, by omega, rfl, Below.refl _ _⟩
  case round =>
    obtain ⟨i, rfl, rfl, hi, hH⟩ := hrel
    obtain ⟨hss, hb⟩ := hH.out
    by_cases hlt : i < n
    · have hii : (i : Int) < n := by omega
      have HLT : Hid (i < n) := hlt
      have HO : Hid (esB f i = true ↔ (nxL f i ≤ (f i).1 ∧ (f i).1 ≤ (f i).2 ∧ (f i).2 ≤ 1114111)) := esB_nx hss
      obtain ⟨g1, o1, rfl, hg1, x0, x1⟩ := HR.out.at i hlt
      have e0 := bcell2 hb x0
      have e1 := bcell2 hb x1
      have HB : Hid (∀ q, Below w.heap.size w (wr.drewN q)) := fun q => Below.drewN hb q
      have HBad : Hid (esB f i = false → setB f n = false) := fun h => by unfold setB; rw [ssB_bad h HLT.out]; rfl
      have HSS : Hid (esB f i = true → ssB f (i + 1) = true) := fun h => by show (_ && _) = true; rw [hss, h]; rfl
      have HNX : Hid (nxL f (i + 1) = (f i).2 + 2) := by
        unfold Hid nxL
        rw [if_neg (by omega), Nat.add_sub_cancel]
      have hlo0 : 0 ≤ nxL f i := by
        unfold nxL
        split
        · omega
        · have hO' : esB f (i - 1) = true ↔ _ := decide_eq_true_iff
          have := hO'.1 (ssW_at hss (by omega))
          omega
      generalize nxL f i = nx at *
      obtain ⟨⟨lo, hh⟩, hx⟩ : ∃ x, f i = x := ⟨_, rfl⟩
      rw [hx] at e0 e1 HO HNX
      dsimp only at e0 e1 HO HNX
      clear hx x0 x1 hss hb hH
      by_cases h1 : lo < nx
      · have HF : Hid (setB f n = false) := HBad.out (by cases h : esB f i with | false => rfl | true => have := HO.out.1 h; omega)
        go_wp2_with fail
        go_quiet (fail)
        go_wp2
        go_ret
        exact ⟨ret_bool HF.out.symm, HB.out _⟩
      · by_cases h2 : hh < lo
        · have HF : Hid (setB f n = false) := HBad.out (by cases h : esB f i with | false => rfl | true => have := HO.out.1 h; omega)
          go_wp2_with fail
          go_quiet (fail)
          go_wp2
          go_ret
          exact ⟨ret_bool HF.out.symm, HB.out _⟩
        · by_cases h3 : 1114111 < hh
          · have HF : Hid (setB f n = false) := HBad.out (by cases h : esB f i with | false => rfl | true => have := HO.out.1 h; omega)
            go_wp2_with fail
            go_quiet (fail)
            go_wp2
            go_ret
            exact ⟨ret_bool HF.out.symm, HB.out _⟩
          · have hh0 : 0 ≤ hh := by omega
            have HF : Hid (ssB f (i + 1) = true) := HSS.out (HO.out.2 (by omega))
            go_wp2_with fail
            go_quiet (fail)
            go_wp2
            exact ⟨⟨i + 1, by go_num, by rw [HNX.out], HLT.out, HF.out, HB.out _⟩, by simp [RowKit.intOf]; omega⟩
    · have hii : ¬ (i : Int) < n := by omega
      obtain rfl : i = n := by omega
      by_cases h1 : i = 1
      · subst h1
        have HLS : Hid (setB f 1 = decide ((f 0).1 < (f 0).2)) := by
          unfold Hid setB
          rw [hss]
          simp
        have HES : Hid ((f 0).1 ≤ (f 0).2) := by
          have hO' : esB f 0 = true ↔ _ := decide_eq_true_iff
          exact (hO'.1 (ssW_at hss (by omega))).2.2.2.2.1
        obtain ⟨g1, o1, rfl, hg1, x0, x1⟩ := HR.out.at 0 (by omega)
        have e0 := bcell2 hb x0
        have e1 := bcell2 hb x1
        have HB : Hid (∀ q, Below w.heap.size w (wr.drewN q)) := fun q => Below.drewN hb q
        obtain ⟨⟨lo, hh⟩, hx⟩ : ∃ x, f 0 = x := ⟨_, rfl⟩
        rw [hx] at e0 e1 HLS HES
        dsimp only at e0 e1 HLS HES
        rw [Nat.zero_mul, Nat.add_zero] at e0 e1
        clear hx x0 x1 hss hb hH
        by_cases h4 : lo = hh
        · subst h4
          go_wp2_with fail
          go_quiet (fail)
          go_wp2
          go_ret
          exact ⟨ret_bool (by rw [HLS.out]; simp), HB.out _⟩
        · have h5 : (lo == hh) = false := by simpa using h4
          have H4 : Hid (lo < hh) := by have := HES.out; show lo < hh; omega
          go_wp2_with fail
          go_quiet (fail)
          go_wp2
          go_ret
          exact ⟨ret_bool (by rw [HLS.out]; simp [H4.out]; exact Int.ne_of_lt H4.out), HB.out _⟩
      · have h2 : ((i : Int) != 1) = true := by simp; omega
        have HF : Hid (setB f i = true) := by
          unfold Hid setB
          rw [hss]
          simp [h1]
        have HB : Hid (∀ q, Below w.heap.size w (wr.drewN q)) := fun q => Below.drewN hb q
        clear hss hb hH h1
        go_wp2_with fail
        go_quiet (fail)
        go_wp2
        go_ret
        exact ⟨ret_bool HF.out.symm, HB.out _⟩
end Go.Proofs.YtajaadagejhllaaGreatDoor
/- The reference's validity: bare. -/
namespace Go.Proofs.YtajaadagejhllaaGreatDoor
open Go.RowKit

def bareB (d : Nd) : Bool := ((d.kind == 3 || (d.rn : Int) == 0) && ((d.kind == 4 || d.kind == 5 || d.kind == 6 || d.kind == 7) || (d.kn : Int) == 0)) && ((d.kind == 2 || d.r == 0) && (d.kind == 6 || (d.mn == 0 && d.mx == 0 && !d.lz)) && (d.kind == 7 || (d.cp == 0 && d.nm.toList.isEmpty)))
set_option maxHeartbeats 20000000 in
set_option maxRecDepth 100000 in
theorem bare_3 (r : Int) (ra : Option Addr) (rn rc : Nat) (rf : Nat → Rg) (mn mx : Int) (lz : Bool) (cp : Int) (nm : ByteArray) (ka : Option Addr) (kn kc : Nat) (w : World) :
    Calls Tryz.prog 55 #[rxV 3 r ra rn rc mn mx lz cp nm ka kn kc] w fun e w' => e = .returned (.bool (bareB ⟨3, r, ra, rn, rc, rf, mn, mx, lz, cp, nm, ka, kn, kc⟩)) ∧ w' = w.alloc (rxX 3 r ra rn rc mn mx lz cp nm ka kn kc) := by
  have HE : Hid (∀ lz, bareB ⟨3, r, ra, rn, rc, rf, mn, mx, lz, cp, nm, ka, kn, kc⟩ = ((((3 : Int) == 3 || (rn : Int) == 0) && (((3 : Int) == 4 || (3 : Int) == 5 || (3 : Int) == 6 || (3 : Int) == 7) || (kn : Int) == 0)) && (((3 : Int) == 2 || r == 0) && ((3 : Int) == 6 || (mn == 0 && mx == 0 && !lz)) && ((3 : Int) == 7 || (cp == 0 && nm.toList.isEmpty))))) := fun _ => rfl
  cases hkn : ((kn : Int) == 0)
  · cases hr : (r == 0)
    · go_enter Tryz.func55, Tryz.ntmps55
      go_wp2
      go_ret
      exact ⟨ret_bool (by rw [HE.out]; simp [hkn, hr]), rfl⟩
    cases hmn : (mn == 0)
    · go_enter Tryz.func55, Tryz.ntmps55
      go_wp2
      go_ret
      exact ⟨ret_bool (by rw [HE.out]; simp [hkn, hr, hmn]), rfl⟩
    cases hmx : (mx == 0)
    · go_enter Tryz.func55, Tryz.ntmps55
      go_wp2
      go_ret
      exact ⟨ret_bool (by rw [HE.out]; simp [hkn, hr, hmn, hmx]), rfl⟩
    cases lz
    rotate_left
    · go_enter Tryz.func55, Tryz.ntmps55
      go_wp2
      go_ret
      exact ⟨ret_bool (by rw [HE.out]; simp [hkn, hr, hmn, hmx]), rfl⟩
    cases hcp : (cp == 0)
    · go_enter Tryz.func55, Tryz.ntmps55
      go_wp2
      go_ret
      exact ⟨ret_bool (by rw [HE.out]; simp [hkn, hr, hmn, hmx, hcp]), rfl⟩
    cases hnm : nm.toList.isEmpty
    · go_enter Tryz.func55, Tryz.ntmps55
      go_wp2
      go_ret
      exact ⟨ret_bool (by rw [HE.out]; simp [hkn, hr, hmn, hmx, hcp, hnm]), rfl⟩
    go_enter Tryz.func55, Tryz.ntmps55
    go_wp2
    go_ret
    exact ⟨ret_bool (by rw [HE.out]; simp [hkn, hr, hmn, hmx, hcp, hnm]), rfl⟩
  cases hr : (r == 0)
  · go_enter Tryz.func55, Tryz.ntmps55
    go_wp2
    go_ret
    exact ⟨ret_bool (by rw [HE.out]; simp [hkn, hr]), rfl⟩
  cases hmn : (mn == 0)
  · go_enter Tryz.func55, Tryz.ntmps55
    go_wp2
    go_ret
    exact ⟨ret_bool (by rw [HE.out]; simp [hkn, hr, hmn]), rfl⟩
  cases hmx : (mx == 0)
  · go_enter Tryz.func55, Tryz.ntmps55
    go_wp2
    go_ret
    exact ⟨ret_bool (by rw [HE.out]; simp [hkn, hr, hmn, hmx]), rfl⟩
  cases lz
  rotate_left
  · go_enter Tryz.func55, Tryz.ntmps55
    go_wp2
    go_ret
    exact ⟨ret_bool (by rw [HE.out]; simp [hkn, hr, hmn, hmx]), rfl⟩
  cases hcp : (cp == 0)
  · go_enter Tryz.func55, Tryz.ntmps55
    go_wp2
    go_ret
    exact ⟨ret_bool (by rw [HE.out]; simp [hkn, hr, hmn, hmx, hcp]), rfl⟩
  cases hnm : nm.toList.isEmpty
  · go_enter Tryz.func55, Tryz.ntmps55
    go_wp2
    go_ret
    exact ⟨ret_bool (by rw [HE.out]; simp [hkn, hr, hmn, hmx, hcp, hnm]), rfl⟩
  go_enter Tryz.func55, Tryz.ntmps55
  go_wp2
  go_ret
  exact ⟨ret_bool (by rw [HE.out]; simp [hkn, hr, hmn, hmx, hcp, hnm]), rfl⟩
end Go.Proofs.YtajaadagejhllaaGreatDoor
/- The reference's validity: bare. -/
namespace Go.Proofs.YtajaadagejhllaaGreatDoor
open Go.RowKit

set_option maxHeartbeats 20000000 in
set_option maxRecDepth 100000 in
theorem bare_2 (r : Int) (ra : Option Addr) (rn rc : Nat) (rf : Nat → Rg) (mn mx : Int) (lz : Bool) (cp : Int) (nm : ByteArray) (ka : Option Addr) (kn kc : Nat) (w : World) :
    Calls Tryz.prog 55 #[rxV 2 r ra rn rc mn mx lz cp nm ka kn kc] w fun e w' => e = .returned (.bool (bareB ⟨2, r, ra, rn, rc, rf, mn, mx, lz, cp, nm, ka, kn, kc⟩)) ∧ w' = w.alloc (rxX 2 r ra rn rc mn mx lz cp nm ka kn kc) := by
  have HE : Hid (∀ lz, bareB ⟨2, r, ra, rn, rc, rf, mn, mx, lz, cp, nm, ka, kn, kc⟩ = ((((2 : Int) == 3 || (rn : Int) == 0) && (((2 : Int) == 4 || (2 : Int) == 5 || (2 : Int) == 6 || (2 : Int) == 7) || (kn : Int) == 0)) && (((2 : Int) == 2 || r == 0) && ((2 : Int) == 6 || (mn == 0 && mx == 0 && !lz)) && ((2 : Int) == 7 || (cp == 0 && nm.toList.isEmpty))))) := fun _ => rfl
  cases hrn : ((rn : Int) == 0)
  · cases hmn : (mn == 0)
    · go_enter Tryz.func55, Tryz.ntmps55
      go_wp2
      go_ret
      exact ⟨ret_bool (by rw [HE.out]; simp [hrn, hmn]), rfl⟩
    cases hmx : (mx == 0)
    · go_enter Tryz.func55, Tryz.ntmps55
      go_wp2
      go_ret
      exact ⟨ret_bool (by rw [HE.out]; simp [hrn, hmn, hmx]), rfl⟩
    cases lz
    rotate_left
    · go_enter Tryz.func55, Tryz.ntmps55
      go_wp2
      go_ret
      exact ⟨ret_bool (by rw [HE.out]; simp [hrn, hmn, hmx]), rfl⟩
    cases hcp : (cp == 0)
    · go_enter Tryz.func55, Tryz.ntmps55
      go_wp2
      go_ret
      exact ⟨ret_bool (by rw [HE.out]; simp [hrn, hmn, hmx, hcp]), rfl⟩
    cases hnm : nm.toList.isEmpty
    · go_enter Tryz.func55, Tryz.ntmps55
      go_wp2
      go_ret
      exact ⟨ret_bool (by rw [HE.out]; simp [hrn, hmn, hmx, hcp, hnm]), rfl⟩
    go_enter Tryz.func55, Tryz.ntmps55
    go_wp2
    go_ret
    exact ⟨ret_bool (by rw [HE.out]; simp [hrn, hmn, hmx, hcp, hnm]), rfl⟩
  cases hkn : ((kn : Int) == 0)
  · cases hmn : (mn == 0)
    · go_enter Tryz.func55, Tryz.ntmps55
      go_wp2
      go_ret
      exact ⟨ret_bool (by rw [HE.out]; simp [hrn, hkn, hmn]), rfl⟩
    cases hmx : (mx == 0)
    · go_enter Tryz.func55, Tryz.ntmps55
      go_wp2
      go_ret
      exact ⟨ret_bool (by rw [HE.out]; simp [hrn, hkn, hmn, hmx]), rfl⟩
    cases lz
    rotate_left
    · go_enter Tryz.func55, Tryz.ntmps55
      go_wp2
      go_ret
      exact ⟨ret_bool (by rw [HE.out]; simp [hrn, hkn, hmn, hmx]), rfl⟩
    cases hcp : (cp == 0)
    · go_enter Tryz.func55, Tryz.ntmps55
      go_wp2
      go_ret
      exact ⟨ret_bool (by rw [HE.out]; simp [hrn, hkn, hmn, hmx, hcp]), rfl⟩
    cases hnm : nm.toList.isEmpty
    · go_enter Tryz.func55, Tryz.ntmps55
      go_wp2
      go_ret
      exact ⟨ret_bool (by rw [HE.out]; simp [hrn, hkn, hmn, hmx, hcp, hnm]), rfl⟩
    go_enter Tryz.func55, Tryz.ntmps55
    go_wp2
    go_ret
    exact ⟨ret_bool (by rw [HE.out]; simp [hrn, hkn, hmn, hmx, hcp, hnm]), rfl⟩
  cases hmn : (mn == 0)
  · go_enter Tryz.func55, Tryz.ntmps55
    go_wp2
    go_ret
    exact ⟨ret_bool (by rw [HE.out]; simp [hrn, hkn, hmn]), rfl⟩
  cases hmx : (mx == 0)
  · go_enter Tryz.func55, Tryz.ntmps55
    go_wp2
    go_ret
    exact ⟨ret_bool (by rw [HE.out]; simp [hrn, hkn, hmn, hmx]), rfl⟩
  cases lz
  rotate_left
  · go_enter Tryz.func55, Tryz.ntmps55
    go_wp2
    go_ret
    exact ⟨ret_bool (by rw [HE.out]; simp [hrn, hkn, hmn, hmx]), rfl⟩
  cases hcp : (cp == 0)
  · go_enter Tryz.func55, Tryz.ntmps55
    go_wp2
    go_ret
    exact ⟨ret_bool (by rw [HE.out]; simp [hrn, hkn, hmn, hmx, hcp]), rfl⟩
  cases hnm : nm.toList.isEmpty
  · go_enter Tryz.func55, Tryz.ntmps55
    go_wp2
    go_ret
    exact ⟨ret_bool (by rw [HE.out]; simp [hrn, hkn, hmn, hmx, hcp, hnm]), rfl⟩
  go_enter Tryz.func55, Tryz.ntmps55
  go_wp2
  go_ret
  exact ⟨ret_bool (by rw [HE.out]; simp [hrn, hkn, hmn, hmx, hcp, hnm]), rfl⟩
end Go.Proofs.YtajaadagejhllaaGreatDoor
/- The reference's validity: bare. -/
namespace Go.Proofs.YtajaadagejhllaaGreatDoor
open Go.RowKit

set_option maxHeartbeats 20000000 in
set_option maxRecDepth 100000 in
theorem bare_4 (r : Int) (ra : Option Addr) (rn rc : Nat) (rf : Nat → Rg) (mn mx : Int) (lz : Bool) (cp : Int) (nm : ByteArray) (ka : Option Addr) (kn kc : Nat) (w : World) :
    Calls Tryz.prog 55 #[rxV 4 r ra rn rc mn mx lz cp nm ka kn kc] w fun e w' => e = .returned (.bool (bareB ⟨4, r, ra, rn, rc, rf, mn, mx, lz, cp, nm, ka, kn, kc⟩)) ∧ w' = w.alloc (rxX 4 r ra rn rc mn mx lz cp nm ka kn kc) := by
  have HE : Hid (∀ lz, bareB ⟨4, r, ra, rn, rc, rf, mn, mx, lz, cp, nm, ka, kn, kc⟩ = ((((4 : Int) == 3 || (rn : Int) == 0) && (((4 : Int) == 4 || (4 : Int) == 5 || (4 : Int) == 6 || (4 : Int) == 7) || (kn : Int) == 0)) && (((4 : Int) == 2 || r == 0) && ((4 : Int) == 6 || (mn == 0 && mx == 0 && !lz)) && ((4 : Int) == 7 || (cp == 0 && nm.toList.isEmpty))))) := fun _ => rfl
  cases hrn : ((rn : Int) == 0)
  · cases hr : (r == 0)
    · go_enter Tryz.func55, Tryz.ntmps55
      go_wp2
      go_ret
      exact ⟨ret_bool (by rw [HE.out]; simp [hrn, hr]), rfl⟩
    cases hmn : (mn == 0)
    · go_enter Tryz.func55, Tryz.ntmps55
      go_wp2
      go_ret
      exact ⟨ret_bool (by rw [HE.out]; simp [hrn, hr, hmn]), rfl⟩
    cases hmx : (mx == 0)
    · go_enter Tryz.func55, Tryz.ntmps55
      go_wp2
      go_ret
      exact ⟨ret_bool (by rw [HE.out]; simp [hrn, hr, hmn, hmx]), rfl⟩
    cases lz
    rotate_left
    · go_enter Tryz.func55, Tryz.ntmps55
      go_wp2
      go_ret
      exact ⟨ret_bool (by rw [HE.out]; simp [hrn, hr, hmn, hmx]), rfl⟩
    cases hcp : (cp == 0)
    · go_enter Tryz.func55, Tryz.ntmps55
      go_wp2
      go_ret
      exact ⟨ret_bool (by rw [HE.out]; simp [hrn, hr, hmn, hmx, hcp]), rfl⟩
    cases hnm : nm.toList.isEmpty
    · go_enter Tryz.func55, Tryz.ntmps55
      go_wp2
      go_ret
      exact ⟨ret_bool (by rw [HE.out]; simp [hrn, hr, hmn, hmx, hcp, hnm]), rfl⟩
    go_enter Tryz.func55, Tryz.ntmps55
    go_wp2
    go_ret
    exact ⟨ret_bool (by rw [HE.out]; simp [hrn, hr, hmn, hmx, hcp, hnm]), rfl⟩
  cases hr : (r == 0)
  · go_enter Tryz.func55, Tryz.ntmps55
    go_wp2
    go_ret
    exact ⟨ret_bool (by rw [HE.out]; simp [hrn, hr]), rfl⟩
  cases hmn : (mn == 0)
  · go_enter Tryz.func55, Tryz.ntmps55
    go_wp2
    go_ret
    exact ⟨ret_bool (by rw [HE.out]; simp [hrn, hr, hmn]), rfl⟩
  cases hmx : (mx == 0)
  · go_enter Tryz.func55, Tryz.ntmps55
    go_wp2
    go_ret
    exact ⟨ret_bool (by rw [HE.out]; simp [hrn, hr, hmn, hmx]), rfl⟩
  cases lz
  rotate_left
  · go_enter Tryz.func55, Tryz.ntmps55
    go_wp2
    go_ret
    exact ⟨ret_bool (by rw [HE.out]; simp [hrn, hr, hmn, hmx]), rfl⟩
  cases hcp : (cp == 0)
  · go_enter Tryz.func55, Tryz.ntmps55
    go_wp2
    go_ret
    exact ⟨ret_bool (by rw [HE.out]; simp [hrn, hr, hmn, hmx, hcp]), rfl⟩
  cases hnm : nm.toList.isEmpty
  · go_enter Tryz.func55, Tryz.ntmps55
    go_wp2
    go_ret
    exact ⟨ret_bool (by rw [HE.out]; simp [hrn, hr, hmn, hmx, hcp, hnm]), rfl⟩
  go_enter Tryz.func55, Tryz.ntmps55
  go_wp2
  go_ret
  exact ⟨ret_bool (by rw [HE.out]; simp [hrn, hr, hmn, hmx, hcp, hnm]), rfl⟩
set_option maxHeartbeats 20000000 in
set_option maxRecDepth 100000 in
theorem bare_5 (r : Int) (ra : Option Addr) (rn rc : Nat) (rf : Nat → Rg) (mn mx : Int) (lz : Bool) (cp : Int) (nm : ByteArray) (ka : Option Addr) (kn kc : Nat) (w : World) :
    Calls Tryz.prog 55 #[rxV 5 r ra rn rc mn mx lz cp nm ka kn kc] w fun e w' => e = .returned (.bool (bareB ⟨5, r, ra, rn, rc, rf, mn, mx, lz, cp, nm, ka, kn, kc⟩)) ∧ w' = w.alloc (rxX 5 r ra rn rc mn mx lz cp nm ka kn kc) := by
  have HE : Hid (∀ lz, bareB ⟨5, r, ra, rn, rc, rf, mn, mx, lz, cp, nm, ka, kn, kc⟩ = ((((5 : Int) == 3 || (rn : Int) == 0) && (((5 : Int) == 4 || (5 : Int) == 5 || (5 : Int) == 6 || (5 : Int) == 7) || (kn : Int) == 0)) && (((5 : Int) == 2 || r == 0) && ((5 : Int) == 6 || (mn == 0 && mx == 0 && !lz)) && ((5 : Int) == 7 || (cp == 0 && nm.toList.isEmpty))))) := fun _ => rfl
  cases hrn : ((rn : Int) == 0)
  · cases hr : (r == 0)
    · go_enter Tryz.func55, Tryz.ntmps55
      go_wp2
      go_ret
      exact ⟨ret_bool (by rw [HE.out]; simp [hrn, hr]), rfl⟩
    cases hmn : (mn == 0)
    · go_enter Tryz.func55, Tryz.ntmps55
      go_wp2
      go_ret
      exact ⟨ret_bool (by rw [HE.out]; simp [hrn, hr, hmn]), rfl⟩
    cases hmx : (mx == 0)
    · go_enter Tryz.func55, Tryz.ntmps55
      go_wp2
      go_ret
      exact ⟨ret_bool (by rw [HE.out]; simp [hrn, hr, hmn, hmx]), rfl⟩
    cases lz
    rotate_left
    · go_enter Tryz.func55, Tryz.ntmps55
      go_wp2
      go_ret
      exact ⟨ret_bool (by rw [HE.out]; simp [hrn, hr, hmn, hmx]), rfl⟩
    cases hcp : (cp == 0)
    · go_enter Tryz.func55, Tryz.ntmps55
      go_wp2
      go_ret
      exact ⟨ret_bool (by rw [HE.out]; simp [hrn, hr, hmn, hmx, hcp]), rfl⟩
    cases hnm : nm.toList.isEmpty
    · go_enter Tryz.func55, Tryz.ntmps55
      go_wp2
      go_ret
      exact ⟨ret_bool (by rw [HE.out]; simp [hrn, hr, hmn, hmx, hcp, hnm]), rfl⟩
    go_enter Tryz.func55, Tryz.ntmps55
    go_wp2
    go_ret
    exact ⟨ret_bool (by rw [HE.out]; simp [hrn, hr, hmn, hmx, hcp, hnm]), rfl⟩
  cases hr : (r == 0)
  · go_enter Tryz.func55, Tryz.ntmps55
    go_wp2
    go_ret
    exact ⟨ret_bool (by rw [HE.out]; simp [hrn, hr]), rfl⟩
  cases hmn : (mn == 0)
  · go_enter Tryz.func55, Tryz.ntmps55
    go_wp2
    go_ret
    exact ⟨ret_bool (by rw [HE.out]; simp [hrn, hr, hmn]), rfl⟩
  cases hmx : (mx == 0)
  · go_enter Tryz.func55, Tryz.ntmps55
    go_wp2
    go_ret
    exact ⟨ret_bool (by rw [HE.out]; simp [hrn, hr, hmn, hmx]), rfl⟩
  cases lz
  rotate_left
  · go_enter Tryz.func55, Tryz.ntmps55
    go_wp2
    go_ret
    exact ⟨ret_bool (by rw [HE.out]; simp [hrn, hr, hmn, hmx]), rfl⟩
  cases hcp : (cp == 0)
  · go_enter Tryz.func55, Tryz.ntmps55
    go_wp2
    go_ret
    exact ⟨ret_bool (by rw [HE.out]; simp [hrn, hr, hmn, hmx, hcp]), rfl⟩
  cases hnm : nm.toList.isEmpty
  · go_enter Tryz.func55, Tryz.ntmps55
    go_wp2
    go_ret
    exact ⟨ret_bool (by rw [HE.out]; simp [hrn, hr, hmn, hmx, hcp, hnm]), rfl⟩
  go_enter Tryz.func55, Tryz.ntmps55
  go_wp2
  go_ret
  exact ⟨ret_bool (by rw [HE.out]; simp [hrn, hr, hmn, hmx, hcp, hnm]), rfl⟩
end Go.Proofs.YtajaadagejhllaaGreatDoor
