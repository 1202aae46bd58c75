/- raise; the first bucket of a rank. -/
import Derived.Test.YtfjfpplemgjcmaaCg
namespace Go.Proofs.Ytfjfpplemgjcmaa
open Go.RowKit

/-- The greatest count ahead. -/
def tpI (A : Nat → Ab) : Nat → Option Nat
  | 0 => (A 0).2
  | i + 1 => if fo (A i).2 (tpI A i) = some .gt then (A i).2 else tpI A i
/-- The counts that don't fall. -/
def rzI (A : Nat → Ab) (i : Nat) : Ab := ((A i).1, if fo (A i).2 (tpI A i) = some .lt then tpI A i else (A i).2)
/-- What raise leaves. -/
def Rz (S g c m : Nat) (A : Nat → Ab) (w : World) (r : Ending) (w' : World) : Prop := r = .returned (.tuple #[]) ∧ (∃ f', Rb w' S g c m f' ∧ BW f' m ∧ ∀ j, j < m → ab' (f' j) = rzI A j) ∧ Below S w w'
set_option maxHeartbeats 2000000 in
set_option maxRecDepth 100000 in
theorem raise_any (S g c m : Nat) (f : Nat → Bk) (w : World) (h : Rb w S g c m f) (hw : BW f m) (hm : 0 < m) (hl : m ≤ 2305843009213693952) :
    Calls Try.prog 39 #[.slice (some ⟨g, 0, none⟩) m c] w (Rz S g c m (fun j => ab' (f j)) w) := by
  have hsf := @run_store_float Try.prog
  have H0 : Hid (Rb w S g c m f) := h
  have HW : Hid (BW f m) := hw
  have c0 := h.cellC 0 hm
  rw [Nat.zero_mul, Nat.zero_add] at c0
  obtain ⟨A, hA⟩ : ∃ A, A = fun j => ab' (f j) := ⟨_, rfl⟩
  rw [← hA]
  have HA : Hid (∀ j, A j = ab' (f j)) := fun j => by rw [hA]
  have HT0 : Hid (cl (f 0).2 = tpI A 0) := by show _ = _; rw [hA]; rfl
  have HL0 : Hid ((f 0).2 < 18446744073709551616) := (hw 0 hm).2
  clear h hw hA
  generalize (f 0).2 = t0 at *
  go_enter Try.func39, Try.ntmps39
  go_wp2
  go_loopw [2, 10] (fun tv iv w' => ∃ (i t : Nat) (f' : Nat → Bk), tv = .float .f64 t ∧ iv = .int .i64 (i : Int) ∧ i ≤ m ∧ t < 18446744073709551616 ∧ Hid (cl t = tpI A i) ∧ Hid (Rb w' S g c m f') ∧ Hid (BW f' m) ∧ Hid ((∀ j, j < i → ab' (f' j) = rzI A j) ∧ ∀ j, i ≤ j → f' j = f j) ∧ Below S w w') (fun _ iv _ => m - (RowKit.intOf iv).toNat)
  case atStart => exact ⟨0, t0, f, rfl, rfl, by omega, HL0, HT0, H0, HW, ⟨fun j hj => absurd hj (by omega), fun j _ => rfl⟩, Below.refl _ _⟩
  case round =>
    obtain ⟨i, t, f', rfl, rfl, hi, htl, ht, o, hbw, hf, hb⟩ := hrel
    by_cases hlt : i < m
    · have hii : (i : Int) < m := by omega
      have HI : Hid (i + 1 ≤ m) := hlt
      have c1 := o.out.cellC i hlt
      have z1 := o.out.froz (i * 2 + 1)
      have hfi : f' i = f i := hf.out.2 i (Nat.le_refl _)
      have hAi : A i = ab' (f' i) := by rw [hfi]; exact HA.out i
      obtain ⟨⟨xu, xc⟩, hx⟩ : ∃ x, f' i = x := ⟨_, rfl⟩
      rw [hx] at c1 hAi
      have hxl := hbw.out i hlt
      rw [hx] at hxl
      dsimp only at c1 hxl
      have hoc : FloatKind.f64.format.order xc t = fo (A i).2 (tpI A i) := by rw [fo_cl, ht.out, hAi]; rfl
      by_cases h1 : FloatKind.f64.format.order xc t = some .lt
      · have o4 := o.out.setC i hlt t
        have b4 := hb.setCell (p := ⟨g, i * 2 + 1, none⟩) o.out.ge (.float .f64 t)
        have F4 : Hid ((∀ j, j < i + 1 → ab' (up f' i ((f' i).1, t) j) = rzI A j) ∧ ∀ j, i + 1 ≤ j → up f' i ((f' i).1, t) j = f j) := by
          refine ⟨fun j hj => ?_, fun j hj => ?_⟩
          · by_cases e : j = i
            · subst e
              rw [show up f' j ((f' j).1, t) j = ((f' j).1, t) from if_pos rfl]
              unfold rzI
              rw [← hoc, if_pos h1, hAi, hx, ← ht.out]
              rfl
            · rw [show up f' i ((f' i).1, t) j = f' j from if_neg e]
              exact hf.out.1 j (by omega)
          · rw [show up f' i ((f' i).1, t) j = f' j from if_neg (by omega)]
            exact hf.out.2 j (by omega)
        have T4 : Hid (cl t = tpI A (i + 1)) := by
          show _ = _
          rw [tpI, ← hoc, h1, if_neg (by decide)]
          exact ht.out
        have W4 : Hid (BW (up f' i ((f' i).1, t)) m) := BW.up hbw.out i _ (hbw.out i hlt).1 htl
        have O4 : Hid _ := o4
        clear o4 o hf hoc hx hAi
        go_wp2
        exact ⟨⟨i + 1, t, _, rfl, by go_num, HI, htl, T4, O4, W4, F4, b4⟩, by simp [RowKit.intOf]; omega⟩
      · have h1' : (FloatKind.f64.format.order xc t == some .lt) = false := beq_eq_false_iff_ne.2 h1
        have F4 : Hid ((∀ j, j < i + 1 → ab' (f' j) = rzI A j) ∧ ∀ j, i + 1 ≤ j → f' j = f j) := by
          refine ⟨fun j hj => ?_, fun j hj => hf.out.2 j (by omega)⟩
          by_cases e : j = i
          · subst e
            unfold rzI
            rw [← hoc, if_neg h1, hAi, hx]
          · exact hf.out.1 j (by omega)
        by_cases h2 : FloatKind.f64.format.order xc t = some .gt
        · have T4 : Hid (cl xc = tpI A (i + 1)) := by
            show _ = _
            rw [tpI, ← hoc, if_pos h2, hAi]; rfl
          clear hf hoc hx hAi h1
          go_wp2
          exact ⟨⟨i + 1, xc, f', rfl, by go_num, HI, hxl.2, T4, o, hbw, F4, hb⟩, by simp [RowKit.intOf]; omega⟩
        · have h2' : (FloatKind.f64.format.order xc t == some .gt) = false := beq_eq_false_iff_ne.2 h2
          have T4 : Hid (cl t = tpI A (i + 1)) := by
            show _ = _
            rw [tpI, ← hoc, if_neg h2]
            exact ht.out
          clear hf hoc hx hAi h1 h2
          go_wp2
          exact ⟨⟨i + 1, t, f', rfl, by go_num, HI, htl, T4, o, hbw, F4, hb⟩, by simp [RowKit.intOf]; omega⟩
    · have hii : ¬ (i : Int) < m := by omega
      have F4 : Hid (∀ j, j < m → ab' (f' j) = rzI A j) := fun j hj => hf.out.1 j (by omega)
      clear hf
      go_wp2
      go_end0
      exact ⟨rfl, ⟨f', o.out, hbw.out, F4.out⟩, hb⟩
/-- Not below. -/
def nbB (c r : Option Nat) : Bool := (fo c r == some .gt) || (fo c r == some .eq)
abbrev cvR (B : Nat) : Value := .func (.func 58) #[] #[.pointer (some ⟨B, 0, none⟩)]
set_option maxHeartbeats 1000000 in
set_option maxRecDepth 100000 in
theorem at1_any (u : Bk) (B r : Nat) (w : World) (hB : w.cell? ⟨B, 0, none⟩ = some (.float .f64 r)) (hlt : B < w.heap.size) : Calls Try.prog 58 #[bv u, .pointer (some ⟨B, 0, none⟩)] w fun e w' => e = .returned (.bool (nbB (cl u.2) (cl r))) ∧ Below w.heap.size w w' := by
  have e : nbB (cl u.2) (cl r) = ((FloatKind.f64.format.order u.2 r == some .gt) || (FloatKind.f64.format.order u.2 r == some .eq)) := by
    unfold nbB
    rw [← fo_cl]
  rw [e]
  obtain ⟨xu, xc⟩ := u
  have n0 := bk_cell w (xu, xc) 0 (.float .f64 xu) rfl
  have n1 := bk_cell w (xu, xc) 1 (.float .f64 xc) rfl
  have hb : Below w.heap.size w (w.alloc (.cells #[.float .f64 xu, .float .f64 xc] 34)) := (Below.refl _ _).alloc (Nat.le_refl _) _
  have n2 := (hb.cell (p := ⟨B, 0, none⟩) hlt).trans hB
  dsimp only at n0 n1
  show Calls Try.prog 58 #[.agg #[.float .f64 xu, .float .f64 xc], .pointer (some ⟨B, 0, none⟩)] w _
  dsimp only
  have HB : Hid _ := hb
  obtain ⟨X, hX⟩ : ∃ X, ((FloatKind.f64.format.order xc r == some .gt) || (FloatKind.f64.format.order xc r == some .eq)) = X := ⟨_, rfl⟩
  rw [hX]
  go_enter Try.func58, Try.ntmps58
  go_wp2
  go_ret
  exact ⟨rfl, HB.out⟩

/-- The first place of a kind, or -1. -/
def fstI (P : Nat → Bool) : Nat → Nat → Int
  | 0, _ => -1
  | k + 1, i => if P i = true then (i : Int) else fstI P k (i + 1)
set_option maxHeartbeats 1000000 in
set_option maxRecDepth 100000 in
theorem idx_any (a : Option Addr) (c L : Nat) (f : Nat → Bk) (B r : Nat) (w : World) (hf : Bml w a f L) (hB : w.cell? ⟨B, 0, none⟩ = some (.float .f64 r)) (hlt : B < w.heap.size) (hl : L ≤ 2305843009213693952) :
    Calls Try.prog 57 #[.slice a L c, cvR B] w fun e w' => e = .returned (.int .i64 (fstI (fun j => nbB (cl (f j).2) (cl r)) L 0)) ∧ Below w.heap.size w w' := by
  have HF : Hid (Bml w a f L) := hf
  have HB : Hid (w.cell? ⟨B, 0, none⟩ = some (.float .f64 r)) := hB
  obtain ⟨G, hG⟩ : ∃ G, G = w.heap.size := ⟨_, rfl⟩
  rw [← hG] at hlt ⊢
  have HG : Hid (G = w.heap.size) := hG
  obtain ⟨P, hP⟩ : ∃ P, P = fun j => nbB (cl (f j).2) (cl r) := ⟨_, rfl⟩
  rw [← hP]
  have HP : Hid (∀ j, P j = nbB (cl (f j).2) (cl r)) := fun j => by rw [hP]
  generalize hR : fstI P L 0 = R
  have HR : Hid (fstI P L 0 = R) := hR
  clear hf hB hG hP hR
  go_enter Try.func57, Try.ntmps57
  go_wp2
  go_loopw [8] (fun iv w' => ∃ (i : Nat), iv = .int .i64 (i : Int) ∧ i ≤ L ∧ Hid (fstI P (L - i) i = R) ∧ Below G w w') (fun iv _ => L - (RowKit.intOf iv).toNat)
  case atStart => exact ⟨0, rfl, by omega, HR, by rw [HG.out]; exact Below.refl _ _⟩
  case round =>
    obtain ⟨i, rfl, hi, hr, hb⟩ := hrel
    by_cases hlt2 : i < L
    · have hii : (i : Int) < L := by omega
      rcases HF.out with h0 | ⟨g, of_, rfl, hg, hat⟩
      · omega
      rw [← HG.out] at hg
      obtain ⟨f1, f2⟩ := hat i hlt2
      have q1 := (hb.cell (p := ⟨g, of_ + i * 2, none⟩) hg).trans f1
      have q2 := (hb.cell (p := ⟨g, of_ + i * 2 + 1, none⟩) hg).trans f2
      have HI : Hid (i + 1 ≤ L) := hlt2
      have hGw : G ≤ wr.heap.size := by rw [HG.out]; rw [HG.out] at hb; exact hb.size
      have q3 := (hb.cell (p := ⟨B, 0, none⟩) hlt).trans HB.out
      have k1 := at1_any (f i) B r wr q3 (Nat.lt_of_lt_of_le hlt hGw)
      rw [← HP.out i] at k1
      have hst : fstI P (L - i) i = if P i = true then (i : Int) else fstI P (L - (i + 1)) (i + 1) := by
        rw [show L - i = (L - (i + 1)) + 1 by omega]; rfl
      rw [hr.out] at hst
      obtain ⟨⟨xu, xc⟩, hx⟩ : ∃ x, f i = x := ⟨_, rfl⟩
      rw [hx] at q1 q2 k1
      dsimp only at q1 q2 k1
      clear f1 f2 hat hx hr
      cases hp : P i
      · rw [hp] at k1 hst
        have HR2 : Hid (fstI P (L - (i + 1)) (i + 1) = R) := by show _ = _; rw [hst]; rfl
        clear hst
        go_wp2_with fail
        go_fit k1
        rintro e w2 ⟨rfl, hb2⟩
        have B2 := hb.trans (hb2.mono hGw)
        clear hb2
        go_wp2
        exact ⟨⟨i + 1, by go_num, HI, HR2, B2⟩, by simp [RowKit.intOf]; omega⟩
      · rw [hp] at k1 hst
        have HR2 : R = (i : Int) := by rw [hst]; rfl
        subst HR2
        clear hst
        go_wp2_with fail
        go_fit k1
        rintro e w2 ⟨rfl, hb2⟩
        have B2 := hb.trans (hb2.mono hGw)
        clear hb2
        go_wp2
        go_ret
        exact ⟨rfl, B2⟩
    · have hii : ¬ (i : Int) < L := by omega
      have HR2 : R = -1 := by
        rw [← hr.out, show L - i = 0 by omega]; rfl
      subst HR2
      go_wp2
      go_ret
      exact ⟨rfl, hb⟩
end Go.Proofs.Ytfjfpplemgjcmaa
