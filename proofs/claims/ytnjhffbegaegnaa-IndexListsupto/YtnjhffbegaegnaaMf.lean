/- The reference: merge. -/
import Derived.Test.YtnjhffbegaegnaaMe
namespace Go.Proofs.Ytnjhffbegaegnaa
open Go.RowKit Go.Lib Go.Shelf Go.Sort

def slen : Value → Nat
  | .slice _ n _ => n
  | _ => 0
theorem Zm.tl {w : World} {g o : Nat} {x : Int} {us : List Int} (h : Zm w (some ⟨g, o, none⟩) (x :: us)) : Zm w (some ⟨g, o + 1, none⟩) us := by
  rcases h with h | ⟨g', o', ha, hg, hc⟩
  · cases h
  · cases ha
    refine .inr ⟨g, o + 1, rfl, hg, fun j hj => ?_⟩
    have := hc (j + 1) (by simp; omega)
    rw [show o + (j + 1) = o + 1 + j by omega] at this
    simpa using this
theorem mg_nn (p q r : Bool) : mg p q r [] [] = [] := by rw [mg]
theorem mg_xn (p q r : Bool) (x : Int) (a : List Int) : mg p q r (x :: a) [] = (if p then [x] else []) ++ mg p q r a [] := by rw [mg]
theorem mg_ny (p q r : Bool) (y : Int) (b : List Int) : mg p q r [] (y :: b) = (if r then [y] else []) ++ mg p q r [] b := by rw [mg]
theorem mg_lt (p q r : Bool) (x y : Int) (a b : List Int) (h : x < y) : mg p q r (x :: a) (y :: b) = (if p then [x] else []) ++ mg p q r a (y :: b) := by rw [mg, if_pos h]
theorem mg_gt (p q r : Bool) (x y : Int) (a b : List Int) (h : y < x) : mg p q r (x :: a) (y :: b) = (if r then [y] else []) ++ mg p q r (x :: a) b := by rw [mg, if_neg (by omega), if_pos h]
theorem mg_eq (p q r : Bool) (x : Int) (a b : List Int) : mg p q r (x :: a) (x :: b) = (if q then [x] else []) ++ mg p q r a b := by rw [mg, if_neg (by omega), if_neg (by omega)]
theorem mg_lim (p q r : Bool) {L us vs xs ys : List Int} (h : L ++ mg p q r us vs = mg p q r xs ys) (hx : xs.length ≤ 2097152) (hy : ys.length ≤ 2097152) : L.length ≤ 4194304 := by
  have h1 := mg_len p q r xs ys
  rw [← h, List.length_append] at h1
  omega
set_option maxHeartbeats 8000000 in
set_option maxRecDepth 100000 in
theorem merge_any (a b : Option Addr) (c d : Nat) (xs ys : List Int) (p q r : Bool) (w : World) (hx : Zm w a xs) (hy : Zm w b ys) (hc : xs.length ≤ c) (hd : ys.length ≤ d) (hl : xs.length ≤ 2097152) (hl2 : ys.length ≤ 2097152) :
    Calls Try.prog 13 #[.slice a xs.length c, .slice b ys.length d, .bool p, .bool q, .bool r] w (RZ w (mg p q r xs ys)) := by
  have HX : Hid (Zm w a xs) := hx
  have HY : Hid (Zm w b ys) := hy
  have HL : Hid (xs.length ≤ 2097152 ∧ ys.length ≤ 2097152) := ⟨hl, hl2⟩
  have HC : Hid (xs.length ≤ c ∧ ys.length ≤ d) := ⟨hc, hd⟩
  obtain ⟨n, hn⟩ : ∃ n, n = xs.length := ⟨_, rfl⟩
  obtain ⟨m, hm⟩ : ∃ m, m = ys.length := ⟨_, rfl⟩
  rw [← hn, ← hm]
  have HN : Hid (n = xs.length) := hn
  have HM : Hid (m = ys.length) := hm
  obtain ⟨G, hG⟩ : ∃ G, G = w.heap.size := ⟨_, rfl⟩
  have HG : Hid (G = w.heap.size) := hG
  have hb0 : Hid (Below G w w) := Below.refl _ _
  have LIM : Hid (∀ L us vs : List Int, L ++ mg p q r us vs = mg p q r xs ys → L.length ≤ 4194304) := fun L us vs h => mg_lim p q r h HL.out.1 HL.out.2
  clear hx hy hl hl2 hn hm hG hc hd
  go_enter Try.func13, Try.ntmps13
  go_wp2_with fail
  go_loopw [0, 1, 11] (fun av bv ov w' => ∃ (us vs L : List Int) (A B : Option Addr) (k C l D : Nat), av = .slice A k C ∧ bv = .slice B l D ∧ Hid (k = us.length) ∧ Hid (l = vs.length) ∧ k ≤ C ∧ l ≤ D ∧ k ≤ 2097152 ∧ l ≤ 2097152 ∧
    Hid (Zm w A us) ∧ Hid (Zm w B vs) ∧ Hid (Zr w' G ov L) ∧ Hid (L ++ mg p q r us vs = mg p q r xs ys) ∧ Hid (Below G w w')) (fun av bv _ _ => slen av + slen bv)
  case atStart => exact ⟨xs, ys, [], a, b, n, c, m, d, rfl, rfl, HN, HM, by have := HC.out; have := HN.out; omega, by have := HC.out; have := HM.out; omega, by have := HL.out; have := HN.out; omega, by have := HL.out; have := HM.out; omega, HX, HY, Zr.nil _ _, rfl, hb0⟩
  case round =>
    obtain ⟨us, vs, L, A, B, k, C, l, D, rfl, rfl, hk, hl, hkC, hlD, hk2, hl2, hu, hv, hz, he, hb⟩ := hrel
    cases us with
    | nil =>
      obtain rfl : k = 0 := hk.out
      cases vs with
      | nil =>
        obtain rfl : l = 0 := hl.out
        have E : Hid (L = mg p q r xs ys) := (show L = _ by have h := he.out; rw [mg_nn, List.append_nil] at h; exact h)
        clear he
        go_wp2
        go_ret
        exact ⟨_, rfl, by rw [← HG.out, ← E.out]; exact hz.out, by rw [← HG.out]; exact hb.out⟩
      | cons y vs =>
        obtain ⟨g2, o2, rfl, hg2, hcs2⟩ := hv.out.at (i := 0) (by simp)
        have d0 := (hb.out.cell (p := ⟨g2, o2 + 0, none⟩) (by rw [HG.out]; exact hg2)).trans (hcs2 0 (by simp))
        have hl0 : 0 < (l : Int) := by have := hl.out; simp at this; omega
        have hl3 : ¬ l = 0 := by omega
        have hl4 : ((l : Int) == 0) = false := by simp; omega
        have hl5 : decide (0 < l) = true := decide_eq_true (by omega)
        have hlD2 : (l : Int) ≤ D := by omega
        have hDi : (1 : Int) ≤ D := by omega
        have T2 : Hid (Zm w (some ⟨g2, o2 + 1, none⟩) vs) := hv.out.tl
        have HLV : Hid (l - 1 = vs.length) := (show l - 1 = vs.length by have := hl.out; simp at this; omega)
        simp only [Nat.add_zero, List.getD_cons_zero] at d0
        clear hcs2
        by_cases hD1 : D = 1
        · cases r with
          | true =>
            go_wp2_with fail
            go_big_quiet (fail)
            have d02 : (wr.drewN nq).cell? ⟨g2, o2, none⟩ = some (.int .i64 y) := d0
            have hz2 : Hid (Zr (wr.drewN nq) G u11 L) := hz.out.drew nq
            have hb2 : Hid (Below G w (wr.drewN nq)) := bdrew hb.out nq
            clear hz hb d0
            have d0 := d02
            have hz := hz2
            have hb := hb2
            clear hz2 hb2 d02
            generalize wr.drewN nq = W1 at *
            go_wp2_with fail
            go_big_quiet (fail)
            have d02 : (W1.drewN nq).cell? ⟨g2, o2, none⟩ = some (.int .i64 y) := d0
            have hz2 : Hid (Zr (W1.drewN nq) G u11 L) := hz.out.drew nq
            have hb2 : Hid (Below G w (W1.drewN nq)) := bdrew hb.out nq
            clear hz hb d0
            have d0 := d02
            have hz := hz2
            have hb := hb2
            clear hz2 hb2 d02
            generalize W1.drewN nq = W2 at *
            obtain ⟨v1, w2, r1, z1, b1⟩ := append_z W2 G u11 L y (by rw [HG.out]; exact hb.out.size) (by have := LIM.out _ _ _ he.out; omega) hz.out
            have Z1 : Hid (Zr w2 G v1 (L ++ [y])) := z1
            have B1 : Hid (Below G w w2) := hb.out.trans b1
            have E1 : Hid ((L ++ [y]) ++ mg p q true [] vs = mg p q true xs ys) := (show _ = _ by have h := he.out; rw [mg_ny] at h; simpa using h)
            clear z1 b1 hz hb he
            go_wp2_with (at_builtin; refine Ytnjhffbegaegnaa.wpList_append_run rfl (.tmp 72) (.tmp 76) 22 22 rfl _ _ rfl rfl r1 ?_)
            exact ⟨⟨[], vs, _, _, _, _, _, _, _, rfl, rfl, hk, HLV, by omega, by omega, by omega, by omega, hu, (show Zm w _ vs by left; apply List.eq_nil_of_length_eq_zero; have := HLV.out; omega), Z1, E1, B1⟩, by simp only [slen]; omega⟩
          | false =>
            go_wp2_with fail
            go_big_quiet (fail)
            have d02 : (wr.drewN nq).cell? ⟨g2, o2, none⟩ = some (.int .i64 y) := d0
            have hz2 : Hid (Zr (wr.drewN nq) G u11 L) := hz.out.drew nq
            have hb2 : Hid (Below G w (wr.drewN nq)) := bdrew hb.out nq
            clear hz hb d0
            have d0 := d02
            have hz := hz2
            have hb := hb2
            clear hz2 hb2 d02
            generalize wr.drewN nq = W1 at *
            go_wp2_with fail
            go_big_quiet (fail)
            have d02 : (W1.drewN nq).cell? ⟨g2, o2, none⟩ = some (.int .i64 y) := d0
            have hz2 : Hid (Zr (W1.drewN nq) G u11 L) := hz.out.drew nq
            have hb2 : Hid (Below G w (W1.drewN nq)) := bdrew hb.out nq
            clear hz hb d0
            have d0 := d02
            have hz := hz2
            have hb := hb2
            clear hz2 hb2 d02
            generalize W1.drewN nq = W2 at *
            have E1 : Hid (L ++ mg p q false [] vs = mg p q false xs ys) := (show _ = _ by have h := he.out; rw [mg_ny] at h; simpa using h)
            clear he
            go_wp2
            exact ⟨⟨[], vs, L, _, _, _, _, _, _, rfl, rfl, hk, HLV, by omega, by omega, by omega, by omega, hu, (show Zm w _ vs by left; apply List.eq_nil_of_length_eq_zero; have := HLV.out; omega), hz, E1, hb⟩, by simp only [slen]; omega⟩
        · cases r with
          | true =>
            go_wp2_with fail
            go_big_quiet (fail)
            have d02 : (wr.drewN nq).cell? ⟨g2, o2, none⟩ = some (.int .i64 y) := d0
            have hz2 : Hid (Zr (wr.drewN nq) G u11 L) := hz.out.drew nq
            have hb2 : Hid (Below G w (wr.drewN nq)) := bdrew hb.out nq
            clear hz hb d0
            have d0 := d02
            have hz := hz2
            have hb := hb2
            clear hz2 hb2 d02
            generalize wr.drewN nq = W1 at *
            go_wp2_with fail
            go_big_quiet (fail)
            have d02 : (W1.drewN nq).cell? ⟨g2, o2, none⟩ = some (.int .i64 y) := d0
            have hz2 : Hid (Zr (W1.drewN nq) G u11 L) := hz.out.drew nq
            have hb2 : Hid (Below G w (W1.drewN nq)) := bdrew hb.out nq
            clear hz hb d0
            have d0 := d02
            have hz := hz2
            have hb := hb2
            clear hz2 hb2 d02
            generalize W1.drewN nq = W2 at *
            obtain ⟨v1, w2, r1, z1, b1⟩ := append_z W2 G u11 L y (by rw [HG.out]; exact hb.out.size) (by have := LIM.out _ _ _ he.out; omega) hz.out
            have Z1 : Hid (Zr w2 G v1 (L ++ [y])) := z1
            have B1 : Hid (Below G w w2) := hb.out.trans b1
            have E1 : Hid ((L ++ [y]) ++ mg p q true [] vs = mg p q true xs ys) := (show _ = _ by have h := he.out; rw [mg_ny] at h; simpa using h)
            clear z1 b1 hz hb he
            go_wp2_with (at_builtin; refine Ytnjhffbegaegnaa.wpList_append_run rfl (.tmp 72) (.tmp 76) 22 22 rfl _ _ rfl rfl r1 ?_)
            exact ⟨⟨[], vs, _, _, _, _, _, _, _, rfl, rfl, hk, HLV, by omega, by omega, by omega, by omega, hu, T2, Z1, E1, B1⟩, by simp only [slen]; omega⟩
          | false =>
            go_wp2_with fail
            go_big_quiet (fail)
            have d02 : (wr.drewN nq).cell? ⟨g2, o2, none⟩ = some (.int .i64 y) := d0
            have hz2 : Hid (Zr (wr.drewN nq) G u11 L) := hz.out.drew nq
            have hb2 : Hid (Below G w (wr.drewN nq)) := bdrew hb.out nq
            clear hz hb d0
            have d0 := d02
            have hz := hz2
            have hb := hb2
            clear hz2 hb2 d02
            generalize wr.drewN nq = W1 at *
            go_wp2_with fail
            go_big_quiet (fail)
            have d02 : (W1.drewN nq).cell? ⟨g2, o2, none⟩ = some (.int .i64 y) := d0
            have hz2 : Hid (Zr (W1.drewN nq) G u11 L) := hz.out.drew nq
            have hb2 : Hid (Below G w (W1.drewN nq)) := bdrew hb.out nq
            clear hz hb d0
            have d0 := d02
            have hz := hz2
            have hb := hb2
            clear hz2 hb2 d02
            generalize W1.drewN nq = W2 at *
            have E1 : Hid (L ++ mg p q false [] vs = mg p q false xs ys) := (show _ = _ by have h := he.out; rw [mg_ny] at h; simpa using h)
            clear he
            go_wp2
            exact ⟨⟨[], vs, L, _, _, _, _, _, _, rfl, rfl, hk, HLV, by omega, by omega, by omega, by omega, hu, T2, hz, E1, hb⟩, by simp only [slen]; omega⟩
    | cons x us =>
      obtain ⟨g, o, rfl, hg, hcs⟩ := hu.out.at (i := 0) (by simp)
      have c0 := (hb.out.cell (p := ⟨g, o + 0, none⟩) (by rw [HG.out]; exact hg)).trans (hcs 0 (by simp))
      have hk0 : 0 < (k : Int) := by have := hk.out; simp at this; omega
      have hk3 : ¬ k = 0 := by omega
      have hk4 : ((k : Int) == 0) = false := by simp; omega
      have hk5 : decide (0 < k) = true := decide_eq_true (by omega)
      have hkC2 : (k : Int) ≤ C := by omega
      have hCi : (1 : Int) ≤ C := by omega
      have T1 : Hid (Zm w (some ⟨g, o + 1, none⟩) us) := hu.out.tl
      have HKU : Hid (k - 1 = us.length) := (show k - 1 = us.length by have := hk.out; simp at this; omega)
      simp only [Nat.add_zero, List.getD_cons_zero] at c0
      clear hcs
      cases vs with
      | nil =>
        obtain rfl : l = 0 := hl.out
        by_cases hC1 : C = 1
        · cases p with
          | true =>
            go_wp2_with fail
            go_big_quiet (fail)
            have c02 : (wr.drewN nq).cell? ⟨g, o, none⟩ = some (.int .i64 x) := c0
            have hz2 : Hid (Zr (wr.drewN nq) G u11 L) := hz.out.drew nq
            have hb2 : Hid (Below G w (wr.drewN nq)) := bdrew hb.out nq
            clear hz hb c0
            have c0 := c02
            have hz := hz2
            have hb := hb2
            clear hz2 hb2 c02
            generalize wr.drewN nq = W1 at *
            obtain ⟨v1, w2, r1, z1, b1⟩ := append_z W1 G u11 L x (by rw [HG.out]; exact hb.out.size) (by have := LIM.out _ _ _ he.out; omega) hz.out
            have Z1 : Hid (Zr w2 G v1 (L ++ [x])) := z1
            have B1 : Hid (Below G w w2) := hb.out.trans b1
            have E1 : Hid ((L ++ [x]) ++ mg true q r us [] = mg true q r xs ys) := (show _ = _ by have h := he.out; rw [mg_xn] at h; simpa using h)
            clear z1 b1 hz hb he
            go_wp2_with (at_builtin; refine Ytnjhffbegaegnaa.wpList_append_run rfl (.tmp 50) (.tmp 54) 22 22 rfl _ _ rfl rfl r1 ?_)
            exact ⟨⟨us, [], _, _, _, _, _, _, _, rfl, rfl, HKU, hl, by omega, by omega, by omega, by omega, (show Zm w _ us by left; apply List.eq_nil_of_length_eq_zero; have := HKU.out; omega), hv, Z1, E1, B1⟩, by simp only [slen]; omega⟩
          | false =>
            go_wp2_with fail
            go_big_quiet (fail)
            have c02 : (wr.drewN nq).cell? ⟨g, o, none⟩ = some (.int .i64 x) := c0
            have hz2 : Hid (Zr (wr.drewN nq) G u11 L) := hz.out.drew nq
            have hb2 : Hid (Below G w (wr.drewN nq)) := bdrew hb.out nq
            clear hz hb c0
            have c0 := c02
            have hz := hz2
            have hb := hb2
            clear hz2 hb2 c02
            generalize wr.drewN nq = W1 at *
            have E1 : Hid (L ++ mg false q r us [] = mg false q r xs ys) := (show _ = _ by have h := he.out; rw [mg_xn] at h; simpa using h)
            clear he
            go_wp2
            exact ⟨⟨us, [], L, _, _, _, _, _, _, rfl, rfl, HKU, hl, by omega, by omega, by omega, by omega, (show Zm w _ us by left; apply List.eq_nil_of_length_eq_zero; have := HKU.out; omega), hv, hz, E1, hb⟩, by simp only [slen]; omega⟩
        · cases p with
          | true =>
            go_wp2_with fail
            go_big_quiet (fail)
            have c02 : (wr.drewN nq).cell? ⟨g, o, none⟩ = some (.int .i64 x) := c0
            have hz2 : Hid (Zr (wr.drewN nq) G u11 L) := hz.out.drew nq
            have hb2 : Hid (Below G w (wr.drewN nq)) := bdrew hb.out nq
            clear hz hb c0
            have c0 := c02
            have hz := hz2
            have hb := hb2
            clear hz2 hb2 c02
            generalize wr.drewN nq = W1 at *
            obtain ⟨v1, w2, r1, z1, b1⟩ := append_z W1 G u11 L x (by rw [HG.out]; exact hb.out.size) (by have := LIM.out _ _ _ he.out; omega) hz.out
            have Z1 : Hid (Zr w2 G v1 (L ++ [x])) := z1
            have B1 : Hid (Below G w w2) := hb.out.trans b1
            have E1 : Hid ((L ++ [x]) ++ mg true q r us [] = mg true q r xs ys) := (show _ = _ by have h := he.out; rw [mg_xn] at h; simpa using h)
            clear z1 b1 hz hb he
            go_wp2_with (at_builtin; refine Ytnjhffbegaegnaa.wpList_append_run rfl (.tmp 50) (.tmp 54) 22 22 rfl _ _ rfl rfl r1 ?_)
            exact ⟨⟨us, [], _, _, _, _, _, _, _, rfl, rfl, HKU, hl, by omega, by omega, by omega, by omega, T1, hv, Z1, E1, B1⟩, by simp only [slen]; omega⟩
          | false =>
            go_wp2_with fail
            go_big_quiet (fail)
            have c02 : (wr.drewN nq).cell? ⟨g, o, none⟩ = some (.int .i64 x) := c0
            have hz2 : Hid (Zr (wr.drewN nq) G u11 L) := hz.out.drew nq
            have hb2 : Hid (Below G w (wr.drewN nq)) := bdrew hb.out nq
            clear hz hb c0
            have c0 := c02
            have hz := hz2
            have hb := hb2
            clear hz2 hb2 c02
            generalize wr.drewN nq = W1 at *
            have E1 : Hid (L ++ mg false q r us [] = mg false q r xs ys) := (show _ = _ by have h := he.out; rw [mg_xn] at h; simpa using h)
            clear he
            go_wp2
            exact ⟨⟨us, [], L, _, _, _, _, _, _, rfl, rfl, HKU, hl, by omega, by omega, by omega, by omega, T1, hv, hz, E1, hb⟩, by simp only [slen]; omega⟩
      | cons y vs =>
        obtain ⟨g2, o2, rfl, hg2, hcs2⟩ := hv.out.at (i := 0) (by simp)
        have d0 := (hb.out.cell (p := ⟨g2, o2 + 0, none⟩) (by rw [HG.out]; exact hg2)).trans (hcs2 0 (by simp))
        have hl0 : 0 < (l : Int) := by have := hl.out; simp at this; omega
        have hl3 : ¬ l = 0 := by omega
        have hl4 : ((l : Int) == 0) = false := by simp; omega
        have hl5 : decide (0 < l) = true := decide_eq_true (by omega)
        have hlD2 : (l : Int) ≤ D := by omega
        have hDi : (1 : Int) ≤ D := by omega
        have T2 : Hid (Zm w (some ⟨g2, o2 + 1, none⟩) vs) := hv.out.tl
        have HLV : Hid (l - 1 = vs.length) := (show l - 1 = vs.length by have := hl.out; simp at this; omega)
        simp only [Nat.add_zero, List.getD_cons_zero] at d0
        clear hcs2
        by_cases hxy : x < y
        · have HXY : Hid (x < y) := hxy
          have hq1 : decide (x < y) = true := decide_eq_true hxy
          by_cases hC1 : C = 1
          · cases p with
            | true =>
              go_wp2_with fail
              go_big_quiet (fail)
              have c02 : (wr.drewN nq).cell? ⟨g, o, none⟩ = some (.int .i64 x) := c0
              have d02 : (wr.drewN nq).cell? ⟨g2, o2, none⟩ = some (.int .i64 y) := d0
              have hz2 : Hid (Zr (wr.drewN nq) G u11 L) := hz.out.drew nq
              have hb2 : Hid (Below G w (wr.drewN nq)) := bdrew hb.out nq
              clear hz hb c0 d0
              have c0 := c02
              have d0 := d02
              have hz := hz2
              have hb := hb2
              clear hz2 hb2 c02 d02
              generalize wr.drewN nq = W1 at *
              obtain ⟨v1, w2, r1, z1, b1⟩ := append_z W1 G u11 L x (by rw [HG.out]; exact hb.out.size) (by have := LIM.out _ _ _ he.out; omega) hz.out
              have Z1 : Hid (Zr w2 G v1 (L ++ [x])) := z1
              have B1 : Hid (Below G w w2) := hb.out.trans b1
              have E1 : Hid ((L ++ [x]) ++ mg true q r us (y :: vs) = mg true q r xs ys) := (show _ = _ by have h := he.out; rw [mg_lt _ _ _ _ _ _ _ HXY.out] at h; simpa using h)
              clear z1 b1 hz hb he
              go_wp2_with (at_builtin; refine Ytnjhffbegaegnaa.wpList_append_run rfl (.tmp 50) (.tmp 54) 22 22 rfl _ _ rfl rfl r1 ?_)
              exact ⟨⟨us, (y :: vs), _, _, _, _, _, _, _, rfl, rfl, HKU, hl, by omega, by omega, by omega, by omega, (show Zm w _ us by left; apply List.eq_nil_of_length_eq_zero; have := HKU.out; omega), hv, Z1, E1, B1⟩, by simp only [slen]; omega⟩
            | false =>
              go_wp2_with fail
              go_big_quiet (fail)
              have c02 : (wr.drewN nq).cell? ⟨g, o, none⟩ = some (.int .i64 x) := c0
              have d02 : (wr.drewN nq).cell? ⟨g2, o2, none⟩ = some (.int .i64 y) := d0
              have hz2 : Hid (Zr (wr.drewN nq) G u11 L) := hz.out.drew nq
              have hb2 : Hid (Below G w (wr.drewN nq)) := bdrew hb.out nq
              clear hz hb c0 d0
              have c0 := c02
              have d0 := d02
              have hz := hz2
              have hb := hb2
              clear hz2 hb2 c02 d02
              generalize wr.drewN nq = W1 at *
              have E1 : Hid (L ++ mg false q r us (y :: vs) = mg false q r xs ys) := (show _ = _ by have h := he.out; rw [mg_lt _ _ _ _ _ _ _ HXY.out] at h; simpa using h)
              clear he
              go_wp2
              exact ⟨⟨us, (y :: vs), L, _, _, _, _, _, _, rfl, rfl, HKU, hl, by omega, by omega, by omega, by omega, (show Zm w _ us by left; apply List.eq_nil_of_length_eq_zero; have := HKU.out; omega), hv, hz, E1, hb⟩, by simp only [slen]; omega⟩
          · cases p with
            | true =>
              go_wp2_with fail
              go_big_quiet (fail)
              have c02 : (wr.drewN nq).cell? ⟨g, o, none⟩ = some (.int .i64 x) := c0
              have d02 : (wr.drewN nq).cell? ⟨g2, o2, none⟩ = some (.int .i64 y) := d0
              have hz2 : Hid (Zr (wr.drewN nq) G u11 L) := hz.out.drew nq
              have hb2 : Hid (Below G w (wr.drewN nq)) := bdrew hb.out nq
              clear hz hb c0 d0
              have c0 := c02
              have d0 := d02
              have hz := hz2
              have hb := hb2
              clear hz2 hb2 c02 d02
              generalize wr.drewN nq = W1 at *
              obtain ⟨v1, w2, r1, z1, b1⟩ := append_z W1 G u11 L x (by rw [HG.out]; exact hb.out.size) (by have := LIM.out _ _ _ he.out; omega) hz.out
              have Z1 : Hid (Zr w2 G v1 (L ++ [x])) := z1
              have B1 : Hid (Below G w w2) := hb.out.trans b1
              have E1 : Hid ((L ++ [x]) ++ mg true q r us (y :: vs) = mg true q r xs ys) := (show _ = _ by have h := he.out; rw [mg_lt _ _ _ _ _ _ _ HXY.out] at h; simpa using h)
              clear z1 b1 hz hb he
              go_wp2_with (at_builtin; refine Ytnjhffbegaegnaa.wpList_append_run rfl (.tmp 50) (.tmp 54) 22 22 rfl _ _ rfl rfl r1 ?_)
              exact ⟨⟨us, (y :: vs), _, _, _, _, _, _, _, rfl, rfl, HKU, hl, by omega, by omega, by omega, by omega, T1, hv, Z1, E1, B1⟩, by simp only [slen]; omega⟩
            | false =>
              go_wp2_with fail
              go_big_quiet (fail)
              have c02 : (wr.drewN nq).cell? ⟨g, o, none⟩ = some (.int .i64 x) := c0
              have d02 : (wr.drewN nq).cell? ⟨g2, o2, none⟩ = some (.int .i64 y) := d0
              have hz2 : Hid (Zr (wr.drewN nq) G u11 L) := hz.out.drew nq
              have hb2 : Hid (Below G w (wr.drewN nq)) := bdrew hb.out nq
              clear hz hb c0 d0
              have c0 := c02
              have d0 := d02
              have hz := hz2
              have hb := hb2
              clear hz2 hb2 c02 d02
              generalize wr.drewN nq = W1 at *
              have E1 : Hid (L ++ mg false q r us (y :: vs) = mg false q r xs ys) := (show _ = _ by have h := he.out; rw [mg_lt _ _ _ _ _ _ _ HXY.out] at h; simpa using h)
              clear he
              go_wp2
              exact ⟨⟨us, (y :: vs), L, _, _, _, _, _, _, rfl, rfl, HKU, hl, by omega, by omega, by omega, by omega, T1, hv, hz, E1, hb⟩, by simp only [slen]; omega⟩
        · have hq1 : decide (x < y) = false := decide_eq_false hxy
          by_cases hyx : y < x
          · have HXY : Hid (y < x) := hyx
            have hq2 : decide (y < x) = true := decide_eq_true hyx
            by_cases hD1 : D = 1
            · cases r with
              | true =>
                go_wp2_with fail
                go_big_quiet (fail)
                have c02 : (wr.drewN nq).cell? ⟨g, o, none⟩ = some (.int .i64 x) := c0
                have d02 : (wr.drewN nq).cell? ⟨g2, o2, none⟩ = some (.int .i64 y) := d0
                have hz2 : Hid (Zr (wr.drewN nq) G u11 L) := hz.out.drew nq
                have hb2 : Hid (Below G w (wr.drewN nq)) := bdrew hb.out nq
                clear hz hb c0 d0
                have c0 := c02
                have d0 := d02
                have hz := hz2
                have hb := hb2
                clear hz2 hb2 c02 d02
                generalize wr.drewN nq = W1 at *
                go_wp2_with fail
                go_big_quiet (fail)
                have c02 : (W1.drewN nq).cell? ⟨g, o, none⟩ = some (.int .i64 x) := c0
                have d02 : (W1.drewN nq).cell? ⟨g2, o2, none⟩ = some (.int .i64 y) := d0
                have hz2 : Hid (Zr (W1.drewN nq) G u11 L) := hz.out.drew nq
                have hb2 : Hid (Below G w (W1.drewN nq)) := bdrew hb.out nq
                clear hz hb c0 d0
                have c0 := c02
                have d0 := d02
                have hz := hz2
                have hb := hb2
                clear hz2 hb2 c02 d02
                generalize W1.drewN nq = W2 at *
                obtain ⟨v1, w2, r1, z1, b1⟩ := append_z W2 G u11 L y (by rw [HG.out]; exact hb.out.size) (by have := LIM.out _ _ _ he.out; omega) hz.out
                have Z1 : Hid (Zr w2 G v1 (L ++ [y])) := z1
                have B1 : Hid (Below G w w2) := hb.out.trans b1
                have E1 : Hid ((L ++ [y]) ++ mg p q true (x :: us) vs = mg p q true xs ys) := (show _ = _ by have h := he.out; rw [mg_gt _ _ _ _ _ _ _ HXY.out] at h; simpa using h)
                clear z1 b1 hz hb he
                go_wp2_with (at_builtin; refine Ytnjhffbegaegnaa.wpList_append_run rfl (.tmp 72) (.tmp 76) 22 22 rfl _ _ rfl rfl r1 ?_)
                exact ⟨⟨(x :: us), vs, _, _, _, _, _, _, _, rfl, rfl, hk, HLV, by omega, by omega, by omega, by omega, hu, (show Zm w _ vs by left; apply List.eq_nil_of_length_eq_zero; have := HLV.out; omega), Z1, E1, B1⟩, by simp only [slen]; omega⟩
              | false =>
                go_wp2_with fail
                go_big_quiet (fail)
                have c02 : (wr.drewN nq).cell? ⟨g, o, none⟩ = some (.int .i64 x) := c0
                have d02 : (wr.drewN nq).cell? ⟨g2, o2, none⟩ = some (.int .i64 y) := d0
                have hz2 : Hid (Zr (wr.drewN nq) G u11 L) := hz.out.drew nq
                have hb2 : Hid (Below G w (wr.drewN nq)) := bdrew hb.out nq
                clear hz hb c0 d0
                have c0 := c02
                have d0 := d02
                have hz := hz2
                have hb := hb2
                clear hz2 hb2 c02 d02
                generalize wr.drewN nq = W1 at *
                go_wp2_with fail
                go_big_quiet (fail)
                have c02 : (W1.drewN nq).cell? ⟨g, o, none⟩ = some (.int .i64 x) := c0
                have d02 : (W1.drewN nq).cell? ⟨g2, o2, none⟩ = some (.int .i64 y) := d0
                have hz2 : Hid (Zr (W1.drewN nq) G u11 L) := hz.out.drew nq
                have hb2 : Hid (Below G w (W1.drewN nq)) := bdrew hb.out nq
                clear hz hb c0 d0
                have c0 := c02
                have d0 := d02
                have hz := hz2
                have hb := hb2
                clear hz2 hb2 c02 d02
                generalize W1.drewN nq = W2 at *
                have E1 : Hid (L ++ mg p q false (x :: us) vs = mg p q false xs ys) := (show _ = _ by have h := he.out; rw [mg_gt _ _ _ _ _ _ _ HXY.out] at h; simpa using h)
                clear he
                go_wp2
                exact ⟨⟨(x :: us), vs, L, _, _, _, _, _, _, rfl, rfl, hk, HLV, by omega, by omega, by omega, by omega, hu, (show Zm w _ vs by left; apply List.eq_nil_of_length_eq_zero; have := HLV.out; omega), hz, E1, hb⟩, by simp only [slen]; omega⟩
            · cases r with
              | true =>
                go_wp2_with fail
                go_big_quiet (fail)
                have c02 : (wr.drewN nq).cell? ⟨g, o, none⟩ = some (.int .i64 x) := c0
                have d02 : (wr.drewN nq).cell? ⟨g2, o2, none⟩ = some (.int .i64 y) := d0
                have hz2 : Hid (Zr (wr.drewN nq) G u11 L) := hz.out.drew nq
                have hb2 : Hid (Below G w (wr.drewN nq)) := bdrew hb.out nq
                clear hz hb c0 d0
                have c0 := c02
                have d0 := d02
                have hz := hz2
                have hb := hb2
                clear hz2 hb2 c02 d02
                generalize wr.drewN nq = W1 at *
                go_wp2_with fail
                go_big_quiet (fail)
                have c02 : (W1.drewN nq).cell? ⟨g, o, none⟩ = some (.int .i64 x) := c0
                have d02 : (W1.drewN nq).cell? ⟨g2, o2, none⟩ = some (.int .i64 y) := d0
                have hz2 : Hid (Zr (W1.drewN nq) G u11 L) := hz.out.drew nq
                have hb2 : Hid (Below G w (W1.drewN nq)) := bdrew hb.out nq
                clear hz hb c0 d0
                have c0 := c02
                have d0 := d02
                have hz := hz2
                have hb := hb2
                clear hz2 hb2 c02 d02
                generalize W1.drewN nq = W2 at *
                obtain ⟨v1, w2, r1, z1, b1⟩ := append_z W2 G u11 L y (by rw [HG.out]; exact hb.out.size) (by have := LIM.out _ _ _ he.out; omega) hz.out
                have Z1 : Hid (Zr w2 G v1 (L ++ [y])) := z1
                have B1 : Hid (Below G w w2) := hb.out.trans b1
                have E1 : Hid ((L ++ [y]) ++ mg p q true (x :: us) vs = mg p q true xs ys) := (show _ = _ by have h := he.out; rw [mg_gt _ _ _ _ _ _ _ HXY.out] at h; simpa using h)
                clear z1 b1 hz hb he
                go_wp2_with (at_builtin; refine Ytnjhffbegaegnaa.wpList_append_run rfl (.tmp 72) (.tmp 76) 22 22 rfl _ _ rfl rfl r1 ?_)
                exact ⟨⟨(x :: us), vs, _, _, _, _, _, _, _, rfl, rfl, hk, HLV, by omega, by omega, by omega, by omega, hu, T2, Z1, E1, B1⟩, by simp only [slen]; omega⟩
              | false =>
                go_wp2_with fail
                go_big_quiet (fail)
                have c02 : (wr.drewN nq).cell? ⟨g, o, none⟩ = some (.int .i64 x) := c0
                have d02 : (wr.drewN nq).cell? ⟨g2, o2, none⟩ = some (.int .i64 y) := d0
                have hz2 : Hid (Zr (wr.drewN nq) G u11 L) := hz.out.drew nq
                have hb2 : Hid (Below G w (wr.drewN nq)) := bdrew hb.out nq
                clear hz hb c0 d0
                have c0 := c02
                have d0 := d02
                have hz := hz2
                have hb := hb2
                clear hz2 hb2 c02 d02
                generalize wr.drewN nq = W1 at *
                go_wp2_with fail
                go_big_quiet (fail)
                have c02 : (W1.drewN nq).cell? ⟨g, o, none⟩ = some (.int .i64 x) := c0
                have d02 : (W1.drewN nq).cell? ⟨g2, o2, none⟩ = some (.int .i64 y) := d0
                have hz2 : Hid (Zr (W1.drewN nq) G u11 L) := hz.out.drew nq
                have hb2 : Hid (Below G w (W1.drewN nq)) := bdrew hb.out nq
                clear hz hb c0 d0
                have c0 := c02
                have d0 := d02
                have hz := hz2
                have hb := hb2
                clear hz2 hb2 c02 d02
                generalize W1.drewN nq = W2 at *
                have E1 : Hid (L ++ mg p q false (x :: us) vs = mg p q false xs ys) := (show _ = _ by have h := he.out; rw [mg_gt _ _ _ _ _ _ _ HXY.out] at h; simpa using h)
                clear he
                go_wp2
                exact ⟨⟨(x :: us), vs, L, _, _, _, _, _, _, rfl, rfl, hk, HLV, by omega, by omega, by omega, by omega, hu, T2, hz, E1, hb⟩, by simp only [slen]; omega⟩
          · obtain rfl : x = y := by omega
            by_cases hC1 : C = 1
            · by_cases hD1 : D = 1
              · cases q with
                | true =>
                  go_wp2_with fail
                  go_big_quiet (fail)
                  have c02 : (wr.drewN nq).cell? ⟨g, o, none⟩ = some (.int .i64 x) := c0
                  have d02 : (wr.drewN nq).cell? ⟨g2, o2, none⟩ = some (.int .i64 x) := d0
                  have hz2 : Hid (Zr (wr.drewN nq) G u11 L) := hz.out.drew nq
                  have hb2 : Hid (Below G w (wr.drewN nq)) := bdrew hb.out nq
                  clear hz hb c0 d0
                  have c0 := c02
                  have d0 := d02
                  have hz := hz2
                  have hb := hb2
                  clear hz2 hb2 c02 d02
                  generalize wr.drewN nq = W1 at *
                  go_wp2_with fail
                  go_big_quiet (fail)
                  have c02 : (W1.drewN nq).cell? ⟨g, o, none⟩ = some (.int .i64 x) := c0
                  have d02 : (W1.drewN nq).cell? ⟨g2, o2, none⟩ = some (.int .i64 x) := d0
                  have hz2 : Hid (Zr (W1.drewN nq) G u11 L) := hz.out.drew nq
                  have hb2 : Hid (Below G w (W1.drewN nq)) := bdrew hb.out nq
                  clear hz hb c0 d0
                  have c0 := c02
                  have d0 := d02
                  have hz := hz2
                  have hb := hb2
                  clear hz2 hb2 c02 d02
                  generalize W1.drewN nq = W2 at *
                  obtain ⟨v1, w2, r1, z1, b1⟩ := append_z W2 G u11 L x (by rw [HG.out]; exact hb.out.size) (by have := LIM.out _ _ _ he.out; omega) hz.out
                  have Z1 : Hid (Zr w2 G v1 (L ++ [x])) := z1
                  have B1 : Hid (Below G w w2) := hb.out.trans b1
                  have E1 : Hid ((L ++ [x]) ++ mg p true r us vs = mg p true r xs ys) := (show _ = _ by have h := he.out; rw [mg_eq] at h; simpa using h)
                  clear z1 b1 hz hb he
                  go_wp2_with (at_builtin; refine Ytnjhffbegaegnaa.wpList_append_run rfl (.tmp 21) (.tmp 25) 22 22 rfl _ _ rfl rfl r1 ?_)
                  go_big_quiet (fail)
                  have Z2 : Hid (Zr (w2.drewN nq) G v1 (L ++ [x])) := Z1.out.drew nq
                  have B2 : Hid (Below G w (w2.drewN nq)) := bdrew B1.out nq
                  clear Z1 B1
                  go_wp2
                  exact ⟨⟨us, vs, _, _, _, _, _, _, _, rfl, rfl, HKU, HLV, by omega, by omega, by omega, by omega, (show Zm w _ us by left; apply List.eq_nil_of_length_eq_zero; have := HKU.out; omega), (show Zm w _ vs by left; apply List.eq_nil_of_length_eq_zero; have := HLV.out; omega), Z2, E1, B2⟩, by simp only [slen]; omega⟩
                | false =>
                  go_wp2_with fail
                  go_big_quiet (fail)
                  have c02 : (wr.drewN nq).cell? ⟨g, o, none⟩ = some (.int .i64 x) := c0
                  have d02 : (wr.drewN nq).cell? ⟨g2, o2, none⟩ = some (.int .i64 x) := d0
                  have hz2 : Hid (Zr (wr.drewN nq) G u11 L) := hz.out.drew nq
                  have hb2 : Hid (Below G w (wr.drewN nq)) := bdrew hb.out nq
                  clear hz hb c0 d0
                  have c0 := c02
                  have d0 := d02
                  have hz := hz2
                  have hb := hb2
                  clear hz2 hb2 c02 d02
                  generalize wr.drewN nq = W1 at *
                  go_wp2_with fail
                  go_big_quiet (fail)
                  have c02 : (W1.drewN nq).cell? ⟨g, o, none⟩ = some (.int .i64 x) := c0
                  have d02 : (W1.drewN nq).cell? ⟨g2, o2, none⟩ = some (.int .i64 x) := d0
                  have hz2 : Hid (Zr (W1.drewN nq) G u11 L) := hz.out.drew nq
                  have hb2 : Hid (Below G w (W1.drewN nq)) := bdrew hb.out nq
                  clear hz hb c0 d0
                  have c0 := c02
                  have d0 := d02
                  have hz := hz2
                  have hb := hb2
                  clear hz2 hb2 c02 d02
                  generalize W1.drewN nq = W2 at *
                  have E1 : Hid (L ++ mg p false r us vs = mg p false r xs ys) := (show _ = _ by have h := he.out; rw [mg_eq] at h; simpa using h)
                  clear he
                  go_wp2_with fail
                  go_big_quiet (fail)
                  have c02 : (W2.drewN nq).cell? ⟨g, o, none⟩ = some (.int .i64 x) := c0
                  have d02 : (W2.drewN nq).cell? ⟨g2, o2, none⟩ = some (.int .i64 x) := d0
                  have hz2 : Hid (Zr (W2.drewN nq) G u11 L) := hz.out.drew nq
                  have hb2 : Hid (Below G w (W2.drewN nq)) := bdrew hb.out nq
                  clear hz hb c0 d0
                  have c0 := c02
                  have d0 := d02
                  have hz := hz2
                  have hb := hb2
                  clear hz2 hb2 c02 d02
                  generalize W2.drewN nq = W3 at *
                  go_wp2
                  exact ⟨⟨us, vs, L, _, _, _, _, _, _, rfl, rfl, HKU, HLV, by omega, by omega, by omega, by omega, (show Zm w _ us by left; apply List.eq_nil_of_length_eq_zero; have := HKU.out; omega), (show Zm w _ vs by left; apply List.eq_nil_of_length_eq_zero; have := HLV.out; omega), hz, E1, hb⟩, by simp only [slen]; omega⟩
              · cases q with
                | true =>
                  go_wp2_with fail
                  go_big_quiet (fail)
                  have c02 : (wr.drewN nq).cell? ⟨g, o, none⟩ = some (.int .i64 x) := c0
                  have d02 : (wr.drewN nq).cell? ⟨g2, o2, none⟩ = some (.int .i64 x) := d0
                  have hz2 : Hid (Zr (wr.drewN nq) G u11 L) := hz.out.drew nq
                  have hb2 : Hid (Below G w (wr.drewN nq)) := bdrew hb.out nq
                  clear hz hb c0 d0
                  have c0 := c02
                  have d0 := d02
                  have hz := hz2
                  have hb := hb2
                  clear hz2 hb2 c02 d02
                  generalize wr.drewN nq = W1 at *
                  go_wp2_with fail
                  go_big_quiet (fail)
                  have c02 : (W1.drewN nq).cell? ⟨g, o, none⟩ = some (.int .i64 x) := c0
                  have d02 : (W1.drewN nq).cell? ⟨g2, o2, none⟩ = some (.int .i64 x) := d0
                  have hz2 : Hid (Zr (W1.drewN nq) G u11 L) := hz.out.drew nq
                  have hb2 : Hid (Below G w (W1.drewN nq)) := bdrew hb.out nq
                  clear hz hb c0 d0
                  have c0 := c02
                  have d0 := d02
                  have hz := hz2
                  have hb := hb2
                  clear hz2 hb2 c02 d02
                  generalize W1.drewN nq = W2 at *
                  obtain ⟨v1, w2, r1, z1, b1⟩ := append_z W2 G u11 L x (by rw [HG.out]; exact hb.out.size) (by have := LIM.out _ _ _ he.out; omega) hz.out
                  have Z1 : Hid (Zr w2 G v1 (L ++ [x])) := z1
                  have B1 : Hid (Below G w w2) := hb.out.trans b1
                  have E1 : Hid ((L ++ [x]) ++ mg p true r us vs = mg p true r xs ys) := (show _ = _ by have h := he.out; rw [mg_eq] at h; simpa using h)
                  clear z1 b1 hz hb he
                  go_wp2_with (at_builtin; refine Ytnjhffbegaegnaa.wpList_append_run rfl (.tmp 21) (.tmp 25) 22 22 rfl _ _ rfl rfl r1 ?_)
                  go_big_quiet (fail)
                  have Z2 : Hid (Zr (w2.drewN nq) G v1 (L ++ [x])) := Z1.out.drew nq
                  have B2 : Hid (Below G w (w2.drewN nq)) := bdrew B1.out nq
                  clear Z1 B1
                  go_wp2
                  exact ⟨⟨us, vs, _, _, _, _, _, _, _, rfl, rfl, HKU, HLV, by omega, by omega, by omega, by omega, (show Zm w _ us by left; apply List.eq_nil_of_length_eq_zero; have := HKU.out; omega), T2, Z2, E1, B2⟩, by simp only [slen]; omega⟩
                | false =>
                  go_wp2_with fail
                  go_big_quiet (fail)
                  have c02 : (wr.drewN nq).cell? ⟨g, o, none⟩ = some (.int .i64 x) := c0
                  have d02 : (wr.drewN nq).cell? ⟨g2, o2, none⟩ = some (.int .i64 x) := d0
                  have hz2 : Hid (Zr (wr.drewN nq) G u11 L) := hz.out.drew nq
                  have hb2 : Hid (Below G w (wr.drewN nq)) := bdrew hb.out nq
                  clear hz hb c0 d0
                  have c0 := c02
                  have d0 := d02
                  have hz := hz2
                  have hb := hb2
                  clear hz2 hb2 c02 d02
                  generalize wr.drewN nq = W1 at *
                  go_wp2_with fail
                  go_big_quiet (fail)
                  have c02 : (W1.drewN nq).cell? ⟨g, o, none⟩ = some (.int .i64 x) := c0
                  have d02 : (W1.drewN nq).cell? ⟨g2, o2, none⟩ = some (.int .i64 x) := d0
                  have hz2 : Hid (Zr (W1.drewN nq) G u11 L) := hz.out.drew nq
                  have hb2 : Hid (Below G w (W1.drewN nq)) := bdrew hb.out nq
                  clear hz hb c0 d0
                  have c0 := c02
                  have d0 := d02
                  have hz := hz2
                  have hb := hb2
                  clear hz2 hb2 c02 d02
                  generalize W1.drewN nq = W2 at *
                  have E1 : Hid (L ++ mg p false r us vs = mg p false r xs ys) := (show _ = _ by have h := he.out; rw [mg_eq] at h; simpa using h)
                  clear he
                  go_wp2_with fail
                  go_big_quiet (fail)
                  have c02 : (W2.drewN nq).cell? ⟨g, o, none⟩ = some (.int .i64 x) := c0
                  have d02 : (W2.drewN nq).cell? ⟨g2, o2, none⟩ = some (.int .i64 x) := d0
                  have hz2 : Hid (Zr (W2.drewN nq) G u11 L) := hz.out.drew nq
                  have hb2 : Hid (Below G w (W2.drewN nq)) := bdrew hb.out nq
                  clear hz hb c0 d0
                  have c0 := c02
                  have d0 := d02
                  have hz := hz2
                  have hb := hb2
                  clear hz2 hb2 c02 d02
                  generalize W2.drewN nq = W3 at *
                  go_wp2
                  exact ⟨⟨us, vs, L, _, _, _, _, _, _, rfl, rfl, HKU, HLV, by omega, by omega, by omega, by omega, (show Zm w _ us by left; apply List.eq_nil_of_length_eq_zero; have := HKU.out; omega), T2, hz, E1, hb⟩, by simp only [slen]; omega⟩
            · by_cases hD1 : D = 1
              · cases q with
                | true =>
                  go_wp2_with fail
                  go_big_quiet (fail)
                  have c02 : (wr.drewN nq).cell? ⟨g, o, none⟩ = some (.int .i64 x) := c0
                  have d02 : (wr.drewN nq).cell? ⟨g2, o2, none⟩ = some (.int .i64 x) := d0
                  have hz2 : Hid (Zr (wr.drewN nq) G u11 L) := hz.out.drew nq
                  have hb2 : Hid (Below G w (wr.drewN nq)) := bdrew hb.out nq
                  clear hz hb c0 d0
                  have c0 := c02
                  have d0 := d02
                  have hz := hz2
                  have hb := hb2
                  clear hz2 hb2 c02 d02
                  generalize wr.drewN nq = W1 at *
                  go_wp2_with fail
                  go_big_quiet (fail)
                  have c02 : (W1.drewN nq).cell? ⟨g, o, none⟩ = some (.int .i64 x) := c0
                  have d02 : (W1.drewN nq).cell? ⟨g2, o2, none⟩ = some (.int .i64 x) := d0
                  have hz2 : Hid (Zr (W1.drewN nq) G u11 L) := hz.out.drew nq
                  have hb2 : Hid (Below G w (W1.drewN nq)) := bdrew hb.out nq
                  clear hz hb c0 d0
                  have c0 := c02
                  have d0 := d02
                  have hz := hz2
                  have hb := hb2
                  clear hz2 hb2 c02 d02
                  generalize W1.drewN nq = W2 at *
                  obtain ⟨v1, w2, r1, z1, b1⟩ := append_z W2 G u11 L x (by rw [HG.out]; exact hb.out.size) (by have := LIM.out _ _ _ he.out; omega) hz.out
                  have Z1 : Hid (Zr w2 G v1 (L ++ [x])) := z1
                  have B1 : Hid (Below G w w2) := hb.out.trans b1
                  have E1 : Hid ((L ++ [x]) ++ mg p true r us vs = mg p true r xs ys) := (show _ = _ by have h := he.out; rw [mg_eq] at h; simpa using h)
                  clear z1 b1 hz hb he
                  go_wp2_with (at_builtin; refine Ytnjhffbegaegnaa.wpList_append_run rfl (.tmp 21) (.tmp 25) 22 22 rfl _ _ rfl rfl r1 ?_)
                  go_big_quiet (fail)
                  have Z2 : Hid (Zr (w2.drewN nq) G v1 (L ++ [x])) := Z1.out.drew nq
                  have B2 : Hid (Below G w (w2.drewN nq)) := bdrew B1.out nq
                  clear Z1 B1
                  go_wp2
                  exact ⟨⟨us, vs, _, _, _, _, _, _, _, rfl, rfl, HKU, HLV, by omega, by omega, by omega, by omega, T1, (show Zm w _ vs by left; apply List.eq_nil_of_length_eq_zero; have := HLV.out; omega), Z2, E1, B2⟩, by simp only [slen]; omega⟩
                | false =>
                  go_wp2_with fail
                  go_big_quiet (fail)
                  have c02 : (wr.drewN nq).cell? ⟨g, o, none⟩ = some (.int .i64 x) := c0
                  have d02 : (wr.drewN nq).cell? ⟨g2, o2, none⟩ = some (.int .i64 x) := d0
                  have hz2 : Hid (Zr (wr.drewN nq) G u11 L) := hz.out.drew nq
                  have hb2 : Hid (Below G w (wr.drewN nq)) := bdrew hb.out nq
                  clear hz hb c0 d0
                  have c0 := c02
                  have d0 := d02
                  have hz := hz2
                  have hb := hb2
                  clear hz2 hb2 c02 d02
                  generalize wr.drewN nq = W1 at *
                  go_wp2_with fail
                  go_big_quiet (fail)
                  have c02 : (W1.drewN nq).cell? ⟨g, o, none⟩ = some (.int .i64 x) := c0
                  have d02 : (W1.drewN nq).cell? ⟨g2, o2, none⟩ = some (.int .i64 x) := d0
                  have hz2 : Hid (Zr (W1.drewN nq) G u11 L) := hz.out.drew nq
                  have hb2 : Hid (Below G w (W1.drewN nq)) := bdrew hb.out nq
                  clear hz hb c0 d0
                  have c0 := c02
                  have d0 := d02
                  have hz := hz2
                  have hb := hb2
                  clear hz2 hb2 c02 d02
                  generalize W1.drewN nq = W2 at *
                  have E1 : Hid (L ++ mg p false r us vs = mg p false r xs ys) := (show _ = _ by have h := he.out; rw [mg_eq] at h; simpa using h)
                  clear he
                  go_wp2_with fail
                  go_big_quiet (fail)
                  have c02 : (W2.drewN nq).cell? ⟨g, o, none⟩ = some (.int .i64 x) := c0
                  have d02 : (W2.drewN nq).cell? ⟨g2, o2, none⟩ = some (.int .i64 x) := d0
                  have hz2 : Hid (Zr (W2.drewN nq) G u11 L) := hz.out.drew nq
                  have hb2 : Hid (Below G w (W2.drewN nq)) := bdrew hb.out nq
                  clear hz hb c0 d0
                  have c0 := c02
                  have d0 := d02
                  have hz := hz2
                  have hb := hb2
                  clear hz2 hb2 c02 d02
                  generalize W2.drewN nq = W3 at *
                  go_wp2
                  exact ⟨⟨us, vs, L, _, _, _, _, _, _, rfl, rfl, HKU, HLV, by omega, by omega, by omega, by omega, T1, (show Zm w _ vs by left; apply List.eq_nil_of_length_eq_zero; have := HLV.out; omega), hz, E1, hb⟩, by simp only [slen]; omega⟩
              · cases q with
                | true =>
                  go_wp2_with fail
                  go_big_quiet (fail)
                  have c02 : (wr.drewN nq).cell? ⟨g, o, none⟩ = some (.int .i64 x) := c0
                  have d02 : (wr.drewN nq).cell? ⟨g2, o2, none⟩ = some (.int .i64 x) := d0
                  have hz2 : Hid (Zr (wr.drewN nq) G u11 L) := hz.out.drew nq
                  have hb2 : Hid (Below G w (wr.drewN nq)) := bdrew hb.out nq
                  clear hz hb c0 d0
                  have c0 := c02
                  have d0 := d02
                  have hz := hz2
                  have hb := hb2
                  clear hz2 hb2 c02 d02
                  generalize wr.drewN nq = W1 at *
                  go_wp2_with fail
                  go_big_quiet (fail)
                  have c02 : (W1.drewN nq).cell? ⟨g, o, none⟩ = some (.int .i64 x) := c0
                  have d02 : (W1.drewN nq).cell? ⟨g2, o2, none⟩ = some (.int .i64 x) := d0
                  have hz2 : Hid (Zr (W1.drewN nq) G u11 L) := hz.out.drew nq
                  have hb2 : Hid (Below G w (W1.drewN nq)) := bdrew hb.out nq
                  clear hz hb c0 d0
                  have c0 := c02
                  have d0 := d02
                  have hz := hz2
                  have hb := hb2
                  clear hz2 hb2 c02 d02
                  generalize W1.drewN nq = W2 at *
                  obtain ⟨v1, w2, r1, z1, b1⟩ := append_z W2 G u11 L x (by rw [HG.out]; exact hb.out.size) (by have := LIM.out _ _ _ he.out; omega) hz.out
                  have Z1 : Hid (Zr w2 G v1 (L ++ [x])) := z1
                  have B1 : Hid (Below G w w2) := hb.out.trans b1
                  have E1 : Hid ((L ++ [x]) ++ mg p true r us vs = mg p true r xs ys) := (show _ = _ by have h := he.out; rw [mg_eq] at h; simpa using h)
                  clear z1 b1 hz hb he
                  go_wp2_with (at_builtin; refine Ytnjhffbegaegnaa.wpList_append_run rfl (.tmp 21) (.tmp 25) 22 22 rfl _ _ rfl rfl r1 ?_)
                  go_big_quiet (fail)
                  have Z2 : Hid (Zr (w2.drewN nq) G v1 (L ++ [x])) := Z1.out.drew nq
                  have B2 : Hid (Below G w (w2.drewN nq)) := bdrew B1.out nq
                  clear Z1 B1
                  go_wp2
                  exact ⟨⟨us, vs, _, _, _, _, _, _, _, rfl, rfl, HKU, HLV, by omega, by omega, by omega, by omega, T1, T2, Z2, E1, B2⟩, by simp only [slen]; omega⟩
                | false =>
                  go_wp2_with fail
                  go_big_quiet (fail)
                  have c02 : (wr.drewN nq).cell? ⟨g, o, none⟩ = some (.int .i64 x) := c0
                  have d02 : (wr.drewN nq).cell? ⟨g2, o2, none⟩ = some (.int .i64 x) := d0
                  have hz2 : Hid (Zr (wr.drewN nq) G u11 L) := hz.out.drew nq
                  have hb2 : Hid (Below G w (wr.drewN nq)) := bdrew hb.out nq
                  clear hz hb c0 d0
                  have c0 := c02
                  have d0 := d02
                  have hz := hz2
                  have hb := hb2
                  clear hz2 hb2 c02 d02
                  generalize wr.drewN nq = W1 at *
                  go_wp2_with fail
                  go_big_quiet (fail)
                  have c02 : (W1.drewN nq).cell? ⟨g, o, none⟩ = some (.int .i64 x) := c0
                  have d02 : (W1.drewN nq).cell? ⟨g2, o2, none⟩ = some (.int .i64 x) := d0
                  have hz2 : Hid (Zr (W1.drewN nq) G u11 L) := hz.out.drew nq
                  have hb2 : Hid (Below G w (W1.drewN nq)) := bdrew hb.out nq
                  clear hz hb c0 d0
                  have c0 := c02
                  have d0 := d02
                  have hz := hz2
                  have hb := hb2
                  clear hz2 hb2 c02 d02
                  generalize W1.drewN nq = W2 at *
                  have E1 : Hid (L ++ mg p false r us vs = mg p false r xs ys) := (show _ = _ by have h := he.out; rw [mg_eq] at h; simpa using h)
                  clear he
                  go_wp2_with fail
                  go_big_quiet (fail)
                  have c02 : (W2.drewN nq).cell? ⟨g, o, none⟩ = some (.int .i64 x) := c0
                  have d02 : (W2.drewN nq).cell? ⟨g2, o2, none⟩ = some (.int .i64 x) := d0
                  have hz2 : Hid (Zr (W2.drewN nq) G u11 L) := hz.out.drew nq
                  have hb2 : Hid (Below G w (W2.drewN nq)) := bdrew hb.out nq
                  clear hz hb c0 d0
                  have c0 := c02
                  have d0 := d02
                  have hz := hz2
                  have hb := hb2
                  clear hz2 hb2 c02 d02
                  generalize W2.drewN nq = W3 at *
                  go_wp2
                  exact ⟨⟨us, vs, L, _, _, _, _, _, _, rfl, rfl, HKU, HLV, by omega, by omega, by omega, by omega, T1, T2, hz, E1, hb⟩, by simp only [slen]; omega⟩
end Go.Proofs.Ytnjhffbegaegnaa
