/- Both sides' date, and Stamp. -/
import Derived.Test.YtmfeckpcnofkhaaDoorStR
import Derived.Test.YtmfeckpcnofkhaaDoorStQ
import Derived.Test.YtmfeckpcnofkhaaDoorStM
import Derived.Test.YtmfeckpcnofkhaaDoorStO
import Derived.Test.YtmfeckpcnofkhaaDoorStW
import Derived.Test.YtmfeckpcnofkhaaDoorMomLaw
namespace Go.Proofs.YtmfeckpcnofkhaaDoor
open Go.RowKit

theorem momV_bd (Y M D h mi s ml : Int) (g : 0 ≤ Y ∧ Y ≤ 9999) (b1 : 1 ≤ M ∧ M ≤ 12) (b2 : 1 ≤ D ∧ D ≤ md Y M) (b3 : 0 ≤ h ∧ h ≤ 23) (b4 : 0 ≤ mi ∧ mi ≤ 59) (b5 : 0 ≤ s ∧ s ≤ 59) (b6 : 0 ≤ ml ∧ ml ≤ 999) : -400000000000000 ≤ momV Y M D h mi s ml ∧ momV Y M D h mi s ml ≤ 400000000000000 := by
  have hmd := md_bd Y M
  have hB0 := dB_ge Y g.1
  have hB1 := dB_le Y g.1
  have hc := cum_bd Y M b1.1 (by omega)
  unfold momV
  omega
theorem mom_bd (Y M D h mi s ml x1 x2 x3 : Int) : ∃ n e : Int, ((e = 0 ∨ e = 2 ∨ e = 33) ∧ -400000000000000 ≤ n ∧ n ≤ 400000000000000) ∧
    (∀ w, Units w → Calls Tryd.prog 9 #[ag Y M D h mi s ml x1 x2 x3] w fun r w' => r = .returned (.tuple #[.int .i64 n, .int .i64 e]) ∧ Below w.heap.size w w') ∧
    (∀ w, Calls Tryd.prog 10 #[ag Y M D h mi s ml x1 x2 x3] w fun r w' => r = .returned (.tuple #[.int .i64 n, .int .i64 e]) ∧ Below w.heap.size w w') := by
  by_cases g : 0 ≤ Y ∧ Y ≤ 9999
  case neg => exact ⟨0, 33, ⟨by simp, by omega, by omega⟩, fun w _ => moment_year Y M D h mi s ml x1 x2 x3 w g, fun w => rmoment_year Y M D h mi s ml x1 x2 x3 w g⟩
  have bad : (∀ w, Calls Tryd.prog 27 #[ag Y M D h mi s ml x1 x2 x3] w fun e w' => e = .returned (.bool false) ∧ Below w.heap.size w w') →
      (∀ w, Calls Tryd.prog 10 #[ag Y M D h mi s ml x1 x2 x3] w fun r w' => r = .returned (.tuple #[.int .i64 0, .int .i64 2]) ∧ Below w.heap.size w w') → ∃ n e : Int, ((e = 0 ∨ e = 2 ∨ e = 33) ∧ -400000000000000 ≤ n ∧ n ≤ 400000000000000) ∧
    (∀ w, Units w → Calls Tryd.prog 9 #[ag Y M D h mi s ml x1 x2 x3] w fun r w' => r = .returned (.tuple #[.int .i64 n, .int .i64 e]) ∧ Below w.heap.size w w') ∧
    (∀ w, Calls Tryd.prog 10 #[ag Y M D h mi s ml x1 x2 x3] w fun r w' => r = .returned (.tuple #[.int .i64 n, .int .i64 e]) ∧ Below w.heap.size w w') :=
    fun a b => ⟨0, 2, ⟨by simp, by omega, by omega⟩, fun w _ => moment_no Y M D h mi s ml x1 x2 x3 w g a, b⟩
  by_cases a1 : M < 1
  · exact bad (fun w => inRange_no1 Y M D h mi s ml x1 x2 x3 w (by omega)) (fun w => rmoment_no1 Y M D h mi s ml x1 x2 x3 w g.1 g.2 a1)
  by_cases a2 : 12 < M
  · exact bad (fun w => inRange_no1 Y M D h mi s ml x1 x2 x3 w (by omega)) (fun w => rmoment_no2 Y M D h mi s ml x1 x2 x3 w g.1 g.2 a1 a2)
  have b1 : 1 ≤ M ∧ M ≤ 12 := by omega
  by_cases a3 : D < 1
  · exact bad (fun w => inRange_no2 Y M D h mi s ml x1 x2 x3 w g.1 g.2 b1 (by omega)) (fun w => rmoment_no3 Y M D h mi s ml x1 x2 x3 w g.1 g.2 a1 a2 a3)
  by_cases a4 : md Y M < D
  · exact bad (fun w => inRange_no2 Y M D h mi s ml x1 x2 x3 w g.1 g.2 b1 (by omega)) (fun w => rmoment_no4 Y M D h mi s ml x1 x2 x3 w g.1 g.2 a1 a2 a3 a4)
  have b2 : 1 ≤ D ∧ D ≤ md Y M := by omega
  by_cases a5 : h < 0
  · exact bad (fun w => inRange_no3 Y M D h mi s ml x1 x2 x3 w g.1 g.2 b1 b2 (by omega)) (fun w => rmoment_no5 Y M D h mi s ml x1 x2 x3 w g.1 g.2 a1 a2 a3 a4 a5)
  by_cases a6 : 23 < h
  · exact bad (fun w => inRange_no3 Y M D h mi s ml x1 x2 x3 w g.1 g.2 b1 b2 (by omega)) (fun w => rmoment_no6 Y M D h mi s ml x1 x2 x3 w g.1 g.2 a1 a2 a3 a4 a5 a6)
  have b3 : 0 ≤ h ∧ h ≤ 23 := by omega
  by_cases a7 : mi < 0
  · exact bad (fun w => inRange_no4 Y M D h mi s ml x1 x2 x3 w g.1 g.2 b1 b2 b3 (by omega)) (fun w => rmoment_no7 Y M D h mi s ml x1 x2 x3 w g.1 g.2 a1 a2 a3 a4 a5 a6 a7)
  by_cases a8 : 59 < mi
  · exact bad (fun w => inRange_no4 Y M D h mi s ml x1 x2 x3 w g.1 g.2 b1 b2 b3 (by omega)) (fun w => rmoment_no8 Y M D h mi s ml x1 x2 x3 w g.1 g.2 a1 a2 a3 a4 a5 a6 a7 a8)
  have b4 : 0 ≤ mi ∧ mi ≤ 59 := by omega
  by_cases a9 : s < 0
  · exact bad (fun w => inRange_no5 Y M D h mi s ml x1 x2 x3 w g.1 g.2 b1 b2 b3 b4 (by omega)) (fun w => rmoment_no9 Y M D h mi s ml x1 x2 x3 w g.1 g.2 a1 a2 a3 a4 a5 a6 a7 a8 a9)
  by_cases a10 : 59 < s
  · exact bad (fun w => inRange_no5 Y M D h mi s ml x1 x2 x3 w g.1 g.2 b1 b2 b3 b4 (by omega)) (fun w => rmoment_no10 Y M D h mi s ml x1 x2 x3 w g.1 g.2 a1 a2 a3 a4 a5 a6 a7 a8 a9 a10)
  have b5 : 0 ≤ s ∧ s ≤ 59 := by omega
  by_cases a11 : ml < 0
  · exact bad (fun w => inRange_no6 Y M D h mi s ml x1 x2 x3 w g.1 g.2 b1 b2 b3 b4 b5 (by omega)) (fun w => rmoment_no11 Y M D h mi s ml x1 x2 x3 w g.1 g.2 a1 a2 a3 a4 a5 a6 a7 a8 a9 a10 a11)
  by_cases a12 : 999 < ml
  · exact bad (fun w => inRange_no6 Y M D h mi s ml x1 x2 x3 w g.1 g.2 b1 b2 b3 b4 b5 (by omega)) (fun w => rmoment_no12 Y M D h mi s ml x1 x2 x3 w g.1 g.2 a1 a2 a3 a4 a5 a6 a7 a8 a9 a10 a11 a12)
  have b6 : 0 ≤ ml ∧ ml ≤ 999 := by omega
  exact ⟨momV Y M D h mi s ml, 0, ⟨.inl rfl, momV_bd Y M D h mi s ml g b1 b2 b3 b4 b5 b6⟩, fun w hU => moment_ok Y M D h mi s ml x1 x2 x3 w hU g b1 b2 b3 b4 b5 b6 (fun w => inRange_ok Y M D h mi s ml x1 x2 x3 w g.1 g.2 b1 b2 b3 b4 b5 b6),
    fun w => rmoment_ok Y M D h mi s ml x1 x2 x3 w g.1 g.2 a1 a2 a3 a4 a5 a6 a7 a8 a9 a10 a11 a12⟩

/-- The program's form of a date. -/
abbrev SF : ByteArray := ⟨#[48, 48, 48, 48, 45, 48, 48, 45, 48, 48, 84, 48, 48, 58, 48, 48, 58, 48, 48]⟩
theorem forms : ∀ j : Fin 19, (bt SF j.val = 48 ↔ bt RF j.val = 100) ∧ (bt SF j.val ≠ 48 → bt SF j.val = bt RF j.val) := by decide +kernel
theorem shape19 (s : ByteArray) (h : ¬ s.size < 19) : shp (s.extract 0 19) SF = decide (gdF s) := by
  have hz : (s.extract 0 19).size = 19 := by rw [ByteArray.size_extract]; omega
  have hb : ∀ j, j < 19 → bt (s.extract 0 19) j = bt s j := fun j hj => by rw [bt_ext s 0 19 j (by omega) (by omega), Nat.zero_add]
  have hd : ∀ j, j < 19 → (isD (s.extract 0 19) j ↔ isD s j) := fun j hj => by
    unfold isD
    rw [hb j hj, hz]
    constructor
    · rintro ⟨_, b⟩; exact ⟨by omega, b⟩
    · rintro ⟨_, b⟩; exact ⟨hj, b⟩
  have hj : ∀ j, j < 19 → (shB (s.extract 0 19) SF j ↔ rB s j) := fun j hj => by
    obtain ⟨f1, f2⟩ := forms ⟨j, hj⟩
    simp only at f1 f2
    unfold shB rB
    by_cases c : bt SF j = 48
    · rw [if_pos c, if_pos (f1.1 c)]
      exact hd j hj
    · rw [if_neg c, if_neg (fun c' => c (f1.2 c')), hb j hj, f2 c]
  unfold shp gdF
  congr 1
  rw [hz]
  refine propext ⟨fun h' j hj' => (hj j hj').1 (h'.2 j hj'), fun h' => ⟨rfl, fun j hj' => (hj j hj').2 (h' j hj')⟩⟩
theorem shape5 (C : ByteArray) : shp C ⟨#[48, 48, 58, 48, 48]⟩ = decide (form5 C) := by
  unfold shp form5
  congr 1
  have hz : (⟨#[48, 48, 58, 48, 48]⟩ : ByteArray).size = 5 := rfl
  rw [hz]
  have b0 : bt ⟨#[48, 48, 58, 48, 48]⟩ 0 = 48 := by decide +kernel
  have b1 : bt ⟨#[48, 48, 58, 48, 48]⟩ 1 = 48 := by decide +kernel
  have b2 : bt ⟨#[48, 48, 58, 48, 48]⟩ 2 = 58 := by decide +kernel
  have b3 : bt ⟨#[48, 48, 58, 48, 48]⟩ 3 = 48 := by decide +kernel
  have b4 : bt ⟨#[48, 48, 58, 48, 48]⟩ 4 = 48 := by decide +kernel
  refine propext ⟨fun ⟨h5, h⟩ => ?_, fun ⟨h5, h0, h1, h2, h3, h4⟩ => ⟨h5, fun j hj => ?_⟩⟩
  · have k0 := h 0 (by omega)
    have k1 := h 1 (by omega)
    have k2 := h 2 (by omega)
    have k3 := h 3 (by omega)
    have k4 := h 4 (by omega)
    unfold shB at k0 k1 k2 k3 k4
    rw [if_pos b0] at k0
    rw [if_pos b1] at k1
    rw [b2, if_neg (by decide)] at k2
    rw [if_pos b3] at k3
    rw [if_pos b4] at k4
    exact ⟨h5, k0, k1, k2, k3, k4⟩
  · rw [h5] at hj
    unfold shB
    match j, hj with
    | 0, _ => rw [if_pos b0]; exact h0
    | 1, _ => rw [if_pos b1]; exact h1
    | 2, _ => rw [b2, if_neg (by decide)]; exact h2
    | 3, _ => rw [if_pos b3]; exact h3
    | 4, _ => rw [if_pos b4]; exact h4
theorem kH5 (C : ByteArray) (h : C.size ≤ 64) (w : World) : Calls Tryd.prog 50 #[.string C, .string ⟨#[48, 48, 58, 48, 48]⟩] w fun e w' => e = .returned (.bool (decide (form5 C))) ∧ Below w.heap.size w w' := by
  rw [← shape5]
  exact hasShape_any C _ w (by omega)

theorem digit_at (s : ByteArray) (h : gdF s) (j : Nat) (hj : j < 19) (hf : bt RF j = 100) : isD s j := by
  have := h j hj
  unfold rB at this
  rwa [if_pos hf] at this
theorem fr_digits (s : ByteArray) : ∀ i, i < (s.extract 20 (rn s 20)).size → isD (s.extract 20 (rn s 20)) i := fun i hi => by
  have hz : (s.extract 20 (rn s 20)).size = min (rn s 20) s.size - 20 := by rw [ByteArray.size_extract]
  by_cases h20 : 20 ≤ s.size
  · have hb := rn_bd s 20 h20
    have hd := runF_digits s (s.size - 20) 20 (20 + i) (by omega) (by show 20 + i < rn s 20; omega)
    refine ⟨hi, ?_⟩
    rw [bt_ext s 20 (rn s 20) i (by omega) hb.2]
    exact hd.2
  · omega

/-- Both sides' date. -/
theorem date_both (s : ByteArray) (hs : s.size ≤ 64) : ∃ (v v' : Int) (b : Bool), (b = true → v' = v) ∧ (b = false → v = 0) ∧
    (∀ w, Units w → Calls Tryd.prog 36 #[.string s] w fun r w' => r = .returned (.tuple #[.int .i64 v, .bool b]) ∧ Below w.heap.size w w') ∧
    (∀ w, Calls Tryd.prog 40 #[.string s] w fun r w' => r = .returned (.tuple #[.int .i64 v', .bool b]) ∧ Below w.heap.size w w') := by
  by_cases hl : s.size < 19
  · exact ⟨0, 0, false, (fun h => by cases h), fun _ => rfl, fun w _ => date_short s w hl, fun w => rdate_short s w hl⟩
  have kS := fun w => hasShape_any (s.extract 0 19) SF w (by rw [ByteArray.size_extract]; omega)
  rw [shape19 s hl] at kS
  have hO : ∀ p : Nat, ∃ q : Int × Bool, (-100000000 ≤ q.1 ∧ q.1 ≤ 100000000) ∧ (∀ w, Units w → Calls Tryd.prog 52 #[.string (s.extract p s.size)] w fun r w' => r = .returned (.tuple #[.int .i64 q.1, .bool q.2]) ∧ Below w.heap.size w w') ∧ (∀ w, Calls Tryd.prog 57 #[.string (s.extract p s.size)] w fun r w' => r = .returned (.tuple #[.int .i64 q.1, .bool q.2]) ∧ Below w.heap.size w w') := fun p => by
    obtain ⟨n, b, h1, h2, h3⟩ := offset_both (s.extract p s.size) (by rw [ByteArray.size_extract]; omega) kH5
    exact ⟨(n, b), h1, h2, h3⟩
  obtain ⟨q, hq⟩ := Classical.axiomOfChoice hO
  obtain ⟨n, e, ⟨he, n0', n1'⟩, kP, kR⟩ := mom_bd (d2 s 0 * 100 + d2 s 2) (d2 s 5) (d2 s 8) (d2 s 11) (d2 s 14) (d2 s 17) 0 0 0 0
  have hth := thV_bd (s.extract 20 (rn s 20)) (fr_digits s)
  have hfz : (s.extract 20 (rn s 20)).size ≤ 64 := by rw [ByteArray.size_extract]; omega
  have kRd := fun w => rdate_any s n e (fun p => (q p).1) (fun p => (q p).2) w hl hs n0' n1' (fun p => (hq p).1)
    (fun hg i hi => by
      have d1 : isD s i := digit_at s hg i (by omega) (by rcases hi with rfl | rfl | rfl | rfl | rfl | rfl | rfl <;> decide +kernel)
      have d2' : isD s (i + 1) := digit_at s hg (i + 1) (by omega) (by rcases hi with rfl | rfl | rfl | rfl | rfl | rfl | rfl <;> decide +kernel)
      exact ⟨d2_bd s i d1 d2', fun w => rtwo_ok s i w hs d1 d2'⟩)
    hth (fun w => rthousandths_any _ w hfz (fr_digits s)) kR (fun p _ w => (hq p).2.2 w)
  by_cases hg : gdF s
  case neg =>
    refine ⟨0, (rdV s n e (fun p => (q p).1) (fun p => (q p).2)).1, false, (fun h => by cases h), fun _ => rfl, fun w _ => date_shape s w hl (fun w => ?_), fun w => ?_⟩
    · have := kS w
      rwa [decide_eq_false hg] at this
    · have := kRd w
      have e2 : (rdV s n e (fun p => (q p).1) (fun p => (q p).2)).2 = false := by unfold rdV; rw [if_pos hg]
      rw [e2] at this
      exact this
  case pos =>
    have k1 : ∀ w, Calls Tryd.prog 50 #[.string (s.extract 0 19), .string SF] w fun e w' => e = .returned (.bool true) ∧ Below w.heap.size w w' := fun w => by
      have := kS w
      rwa [decide_eq_true hg] at this
    have dd : ∀ j, j < 19 → bt RF j = 100 → isD s j := digit_at s hg
    have m0 := num4 s 0 (by omega) (dd 0 (by omega) (by decide +kernel)) (dd 1 (by omega) (by decide +kernel)) (dd 2 (by omega) (by decide +kernel)) (dd 3 (by omega) (by decide +kernel))
    have m1 := num2 s 5 (by omega) (dd 5 (by omega) (by decide +kernel)) (dd 6 (by omega) (by decide +kernel))
    have m2 := num2 s 8 (by omega) (dd 8 (by omega) (by decide +kernel)) (dd 9 (by omega) (by decide +kernel))
    have m3 := num2 s 11 (by omega) (dd 11 (by omega) (by decide +kernel)) (dd 12 (by omega) (by decide +kernel))
    have m4 := num2 s 14 (by omega) (dd 14 (by omega) (by decide +kernel)) (dd 15 (by omega) (by decide +kernel))
    have m5 := num2 s 17 (by omega) (dd 17 (by omega) (by decide +kernel)) (dd 18 (by omega) (by decide +kernel))
    -- the parts behind the date, and what the reference says of them
    obtain ⟨part, zone, ok, p, hp1, kF, hV⟩ : ∃ (part zone : ByteArray) (ok : Bool) (p : Nat), zone = s.extract p s.size ∧ (∀ w, Calls Tryd.prog 48 #[.string (s.extract 19 s.size)] w fun r w' => r = .returned (.tuple #[.string part, .string zone, .bool ok]) ∧ Below w.heap.size w w') ∧
        ((∀ i, i < part.size → isD part i) ∧ part.size ≤ 64 ∧ rdV s n e (fun p => (q p).1) (fun p => (q p).2) = if e ≠ 0 then (0, false) else if ok = false then (0, false) else (n + thV part + upV (hfV part) - (q p).1, (q p).2)) := by
      have hzr : (s.extract 19 s.size).size = s.size - 19 := by rw [ByteArray.size_extract]; omega
      have hb19 : bt (s.extract 19 s.size) 0 = bt s 19 := by rw [bt_extract]
      by_cases hh : 19 < s.size ∧ bt s 19 = 46
      · have hhp : hp (s.extract 19 s.size) 46 := ⟨by omega, by rw [hb19]; exact hh.2⟩
        have kt := cutFraction_t (s.extract 19 s.size) hhp (by omega)
        have hbd := rn_bd s 20 (by omega)
        have hrn := rn_ext s 20
        rw [ext_ext s 19 1 (by omega)] at kt
        rw [show (19 + 1 : Nat) = 20 from rfl] at kt
        have e1 : (s.extract 20 s.size).extract 0 (rn (s.extract 20 s.size) 0) = s.extract 20 (rn s 20) := by
          rw [ext_pre s 20 _ (by omega), ← hrn, Nat.add_comm]
        have e2 : (s.extract 20 s.size).extract (rn (s.extract 20 s.size) 0) (s.extract 20 s.size).size = s.extract (rn s 20) s.size := by
          rw [ext_ext s 20 _ (by omega), ← hrn, Nat.add_comm]
        rw [e1, e2] at kt
        refine ⟨_, _, _, rn s 20, rfl, kt, fr_digits s, hfz, ?_⟩
        unfold rdV
        rw [if_neg (by simpa using hg)]
        by_cases c : e ≠ 0
        · rw [if_pos c, if_pos c]
        · rw [if_neg c, if_neg c, if_pos hh]
          by_cases r : rn s 20 = 20
          · rw [if_pos r, if_pos (decide_eq_false (by omega))]
          · rw [if_neg r, if_neg (by rw [decide_eq_true (by omega)]; simp)]
      · have hhp : ¬ hp (s.extract 19 s.size) 46 := fun h' => hh ⟨by have := h'.1; omega, by have := h'.2; rw [hb19] at this; exact this⟩
        refine ⟨⟨#[]⟩, _, true, 19, rfl, cutFraction_f (s.extract 19 s.size) hhp, fun i hi => absurd hi (by simp [ByteArray.size]), by simp [ByteArray.size], ?_⟩
        unfold rdV
        rw [if_neg (by simpa using hg)]
        by_cases c : e ≠ 0
        · rw [if_pos c, if_pos c]
        · rw [if_neg c, if_neg c, if_neg hh, if_neg (by simp)]
          have e1 : thV ⟨#[]⟩ = 0 := by decide +kernel
          have e2 : upV (hfV ⟨#[]⟩) = 0 := by decide +kernel
          rw [e1, e2, Int.add_zero, Int.add_zero]
    obtain ⟨hpd, hpz, hV⟩ := hV
    subst hp1
    have kO := (hq p).2.1
    by_cases hbad : e ≠ 0 ∨ ok = false ∨ (q p).2 = false
    · refine ⟨0, (rdV s n e (fun p => (q p).1) (fun p => (q p).2)).1, false, (fun h => by cases h), fun _ => rfl, fun w hU => date_bad s part _ _ _ _ _ _ _ n e _ ok _ w hU hl he hbad k1 m0 m1 m2 m3 m4 m5 kP kF kO, fun w => ?_⟩
      have := kRd w
      have e2 : (rdV s n e (fun p => (q p).1) (fun p => (q p).2)).2 = false := by
        rw [hV]
        by_cases c : e ≠ 0
        · rw [if_pos c]
        · rw [if_neg c]
          by_cases c2 : ok = false
          · rw [if_pos c2]
          · rw [if_neg c2]
            rcases hbad with h' | h' | h'
            · exact absurd h' c
            · exact absurd h' c2
            · exact h'
      rw [e2] at this
      exact this
    · have he0 : e = 0 := by
        by_cases c : e = 0
        · exact c
        · exact absurd (Or.inl c) hbad
      have hok : ok = true := by
        cases ok with
        | true => rfl
        | false => exact absurd (Or.inr (Or.inl rfl)) hbad
      have hq2 : (q p).2 = true := by
        cases h' : (q p).2 with
        | true => rfl
        | false => exact absurd (Or.inr (Or.inr h')) hbad
      subst he0 hok
      rw [hq2] at kO
      have tb := thV_bd part hpd
      refine ⟨if 0 ≤ hfV part then n + (thV part + 1) - (q p).1 else n + thV part - (q p).1, (rdV s n 0 (fun p => (q p).1) (fun p => (q p).2)).1, true, fun _ => ?_, (fun h => by cases h), fun w hU => date_ok s part _ _ _ _ _ _ _ n _ (thV part) (hfV part) w hU hl n0' n1' (hq p).1.1 (hq p).1.2 tb.1 tb.2 (hfV_bd part) k1 m0 m1 m2 m3 m4 m5 kP kF kO (fun w => thousandths_any part w hpz hpd), fun w => ?_⟩
      · rw [hV, if_neg (by simp), if_neg (by simp)]
        unfold upV
        split <;> omega
      · have := kRd w
        have e2 : (rdV s n 0 (fun p => (q p).1) (fun p => (q p).2)).2 = true := by rw [hV, if_neg (by simp), if_neg (by simp)]; exact hq2
        rw [e2] at this
        exact this

/-- Both sides' Stamp. -/
theorem stamp_both (s : ByteArray) : ∃ n e : Int, (∀ w, Units w → Calls Tryd.prog 15 #[.string s] w fun r w' => r = .returned (.tuple #[.int .i64 n, .int .i64 e]) ∧ Below w.heap.size w w') ∧
    (∀ w, Calls Tryd.prog 19 #[.string s] w fun r w' => r = .returned (.tuple #[.int .i64 n, .int .i64 e]) ∧ Below w.heap.size w w') := by
  by_cases hl : 64 < s.size
  · exact ⟨0, 1, fun w _ => stamp_long s w hl, fun w => rstamp_long s w hl⟩
  by_cases ho : okS s
  · obtain ⟨W, F, v, h1, h2, hf⟩ := rsec_val s (by omega) ho
    refine ⟨(tmR v).1, (tmR v).2, fun w hU => ?_, fun w => rstamp_sec s W F _ v w hl h1 h2⟩
    rw [← tmR_far _ _ hf]
    exact stamp_sec s _ w hl (fun w hU => seconds_ok s w hU (by omega) ho) hU
  · have k1 := fun w => seconds_no s w (by omega) ho
    have k2 := fun w => rseconds_any s w (by omega)
    rw [if_neg ho] at k2
    obtain ⟨v, v', b, hv, hv0, kP, kR⟩ := date_both s (by omega)
    cases b with
    | true =>
      have e := hv rfl
      subst e
      exact ⟨(tmR v').1, (tmR v').2, fun w hU => stamp_date s v' w hl k1 kP hU, fun w => rstamp_date s v' w hl k2 kR⟩
    | false =>
      have e := hv0 rfl
      subst e
      exact ⟨0, 32, fun w hU => stamp_no s w hl k1 kP hU, fun w => rstamp_no s v' w hl k2 kR⟩
end Go.Proofs.YtmfeckpcnofkhaaDoor
