/- same, those, And, Without. -/
import Derived.Test.YtnjhffbegaegnaaMc
namespace Go.Proofs.Ytnjhffbegaegnaa
open Go.RowKit Go.Lib Go.Shelf Go.Sort

theorem bdrew {B : Nat} {w w' : World} (h : Below B w w') (k : Nat) : Below B w (w'.drewN k) := ⟨h.1, h.2, h.3, h.4, h.5⟩
theorem take_snoc (xs : List Int) (i : Nat) (h : i < xs.length) : xs.take (i + 1) = xs.take i ++ [xs.getD i 0] := by
  rw [List.take_add_one, List.getElem?_eq_getElem h]
  simp [List.getD, h]
theorem take_ne {xs ys : List Int} {i : Nat} (h : xs.getD i 0 ≠ ys.getD i 0) : xs ≠ ys := by
  intro e
  rw [e] at h
  exact h rfl
set_option maxHeartbeats 2000000 in
set_option maxRecDepth 100000 in
theorem same_any (a b : Option Addr) (c d : Nat) (xs ys : List Int) (w : World) (hx : Zm w a xs) (hy : Zm w b ys) (hl : xs.length ≤ 4194304) :
    Calls Try.prog 4 #[.slice a xs.length c, .slice b ys.length d] w fun e w' => e = .returned (.bool (decide (xs = ys))) ∧ Below w.heap.size w w' := by
  by_cases hne : xs.length = ys.length
  · have HX : Hid (Zm w a xs) := hx
    have HY : Hid (Zm w b ys) := hy
    obtain ⟨n, hn⟩ : ∃ n, n = xs.length := ⟨_, rfl⟩
    rw [← hne, ← hn]
    have HN : Hid (n = xs.length) := hn
    have HM : Hid (n = ys.length) := hn.trans hne
    have hni : (n : Int) ≤ 4194304 := by omega
    obtain ⟨R, hR⟩ : ∃ R, R = decide (xs = ys) := ⟨_, rfl⟩
    have HR : Hid (R = decide (xs = ys)) := hR
    rw [← hR]
    clear hR hx hy hl hne hn
    go_enter Try.func4, Try.ntmps4
    go_wp2_with fail
    go_loopw [5] (fun iv w' => ∃ i : Nat, iv = .int .i64 (i : Nat) ∧ i ≤ n ∧ Hid (xs.take i = ys.take i) ∧ Hid (Below w.heap.size w w')) (fun iv _ => n - (RowKit.intOf iv).toNat)
    case atStart => exact ⟨0, rfl, Nat.zero_le _, rfl, Below.refl _ _⟩
    case round =>
      obtain ⟨i, rfl, hi, ht, hbw⟩ := hrel
      by_cases hlt : i < n
      · have hii : (i : Int) < (n : Int) := by omega
        obtain ⟨g1, o1, rfl, hg1, hc1⟩ := HX.out.at (i := i) (by have := HN.out; omega)
        obtain ⟨g2, o2, rfl, hg2, hc2⟩ := HY.out.at (i := i) (by have := HM.out; omega)
        have x0 := (hbw.out.cell (p := ⟨g1, o1 + i, none⟩) hg1).trans (hc1 i (by have := HN.out; omega))
        have y0 := (hbw.out.cell (p := ⟨g2, o2 + i, none⟩) hg2).trans (hc2 i (by have := HM.out; omega))
        have T1 := take_snoc xs i (by have := HN.out; omega)
        have T2 := take_snoc ys i (by have := HM.out; omega)
        by_cases he : xs.getD i 0 = ys.getD i 0
        · have HT : Hid (xs.take (i + 1) = ys.take (i + 1)) := by
            show _ = _
            rw [T1, T2, ht.out, he]
          rw [← he] at y0
          generalize xs.getD i 0 = X at *
          clear T1 T2 he hc1 hc2
          go_wp2_with fail
          go_big_quiet (fail)
          have hbD : Hid (Below w.heap.size w (wr.drewN nq)) := bdrew hbw.out nq
          go_wp2
          exact ⟨⟨i + 1, by go_num, by omega, HT, hbD⟩, by simp [RowKit.intOf]; omega⟩
        · have HF : Hid (R = false) := HR.out.trans (decide_eq_false (take_ne he))
          have hb1 : (xs.getD i 0 == ys.getD i 0) = false := by simpa using he
          generalize xs.getD i 0 = X at *
          generalize ys.getD i 0 = Y at *
          clear T1 T2 hc1 hc2
          go_wp2_with fail
          go_big_quiet (fail)
          go_wp2
          go_ret
          exact ⟨by rw [HF.out]; rfl, bdrew hbw.out _⟩
      · have hii : ¬ (i : Int) < (n : Int) := by omega
        have HT : Hid (R = true) := by
          show _ = _
          rw [HR.out]
          have := ht.out
          rw [List.take_of_length_le (by have := HN.out; omega), List.take_of_length_le (by have := HM.out; omega)] at this
          exact decide_eq_true this
        clear ht
        go_wp2
        go_ret
        exact ⟨by rw [HT.out]; rfl, hbw.out⟩
  · have hd : decide (xs = ys) = false := decide_eq_false (fun e => hne (by rw [e]))
    rw [hd]
    have hni : ¬ (xs.length : Int) = ys.length := by omega
    have hb1 : ((xs.length : Int) == ys.length) = false := by simpa using hni
    have hb0 : Hid (Below w.heap.size w w) := Below.refl _ _
    generalize xs.length = n at *
    generalize ys.length = m at *
    clear hx hy hd hne
    go_enter Try.func4, Try.ntmps4
    go_wp2
    go_ret
    exact ⟨rfl, hb0.out⟩

/-- slices.BinarySearch of numbers that rise. -/
theorem search_any (a : Option Addr) (c : Nat) (xs : List Int) (x : Int) (w : World) (hx : Zm w a xs) (hr : Rs xs) (hl : xs.length ≤ 4194304) :
    Calls Try.prog 16 #[.slice a xs.length c, .int .i64 x] w fun e w' => ∃ k : Int, e = .returned (.tuple #[.int .i64 k, .bool (xs.contains x)]) ∧ ∃ q, w' = w.drewN q := by
  by_cases h0 : xs = []
  · subst h0
    refine (Try.slices_BinarySearch_int_empty a c x w).mono ?_
    rintro e w' ⟨rfl, rfl⟩
    exact ⟨0, rfl, 0, rfl⟩
  · obtain ⟨g, o, rfl, hg, hc⟩ := hx.resolve_left h0
    refine (Try.slices_BinarySearch_int g o xs.length c xs x w (Nat.le_refl _) (by omega) hc (by rw [List.take_length]; exact hr.imp (fun h => Int.le_of_lt h))).mono ?_
    rintro e w' ⟨rfl, q, rfl⟩
    rw [List.take_length]
    exact ⟨_, rfl, q, rfl⟩
theorem flt_snoc (st : Bool) (xs ys : List Int) (i : Nat) (h : i < xs.length) (e : (ys.contains (xs.getD i 0) == st) = true) : flt st (xs.take (i + 1)) ys = flt st (xs.take i) ys ++ [xs.getD i 0] := by
  rw [take_snoc xs i h]
  unfold flt
  rw [List.filter_append, List.filter_cons_of_pos (by exact e), List.filter_nil]
theorem flt_skip (st : Bool) (xs ys : List Int) (i : Nat) (h : i < xs.length) (e : (ys.contains (xs.getD i 0) == st) = false) : flt st (xs.take (i + 1)) ys = flt st (xs.take i) ys := by
  rw [take_snoc xs i h]
  unfold flt
  rw [List.filter_append, List.filter_cons_of_neg (by rw [e]; decide), List.filter_nil, List.append_nil]
theorem flt_len (st : Bool) (xs ys : List Int) : (flt st xs ys).length ≤ xs.length := List.length_filter_le _ _
set_option maxHeartbeats 4000000 in
set_option maxRecDepth 100000 in
theorem those_1 (a b : Option Addr) (c d : Nat) (xs ys : List Int) (w : World) (hx : Zm w a xs) (hy : Zm w b ys) (hrx : Rs xs) (hry : Rs ys) (hl : xs.length ≤ 4194304) (hl2 : ys.length ≤ 4194304) (hsw : ys.length < xs.length) :
    Calls Try.prog 11 #[.slice a xs.length c, .slice b ys.length d, .bool true] w fun e w' => ∃ v, e = .returned v ∧ Zr w' w.heap.size v (flt true ys xs) ∧ Below w.heap.size w w' := by
  have HX : Hid (Zm w a xs) := hx
  have HY : Hid (Zm w b ys) := hy
  have HRX : Hid (Rs xs) := hrx
  have HRY : Hid (Rs ys) := hry
  have HL1 : Hid (xs.length ≤ 4194304) := hl
  have HL2 : Hid (ys.length ≤ 4194304) := hl2
  have hs : (ys.length : Int) < xs.length := by first | trivial | omega
  obtain ⟨n, hn⟩ : ∃ n, n = xs.length := ⟨_, rfl⟩
  obtain ⟨m, hm⟩ : ∃ m, m = ys.length := ⟨_, rfl⟩
  rw [← hn, ← hm]
  (try rw [← hn, ← hm] at hs)
  have HN : Hid (n = xs.length) := hn
  have HM : Hid (m = ys.length) := hm
  have hnn : (n : Int) ≤ 4194304 := by omega
  have hmm : (m : Int) ≤ 4194304 := by omega
  obtain ⟨G, hG⟩ : ∃ G, G = w.heap.size := ⟨_, rfl⟩
  have HG : Hid (G = w.heap.size) := hG
  rw [← hG]
  have SR : Hid (∀ w1 x, Below G w w1 → Calls Try.prog 16 #[.slice a n c, .int .i64 x] w1 fun e w' => ∃ k : Int, e = .returned (.tuple #[.int .i64 k, .bool (xs.contains x)]) ∧ ∃ q, w' = w1.drewN q) := fun w1 x hb => by
    have := search_any a c xs x w1 (HX.out.below (by rw [← HG.out]; exact hb)) HRX.out HL1.out
    rw [← HN.out] at this
    exact this
  have hb0 : Hid (Below G w w) := Below.refl _ _
  clear hx hy hrx hry hl hl2 hsw hn hm hG
  go_enter Try.func11, Try.ntmps11
  go_wp2_with fail
  go_loopw [7, 24] (fun mv iv w' => ∃ i : Nat, iv = .int .i64 (i : Nat) ∧ i ≤ m ∧ Hid (Zr w' G mv (flt true (ys.take i) xs)) ∧ Hid (Below G w w')) (fun _ iv _ => m - (RowKit.intOf iv).toNat)
  case atStart => exact ⟨0, rfl, Nat.zero_le _, Zr.nil _ _, hb0⟩
  case round =>
    obtain ⟨i, rfl, hi, hz, hbw⟩ := hrel
    by_cases hlt : i < m
    · have hii : (i : Int) < (m : Int) := by omega
      have hil : i < ys.length := by have := HM.out; omega
      obtain ⟨g1, o1, rfl, hg1, hc1⟩ := HY.out.at hil
      have hg2 : g1 < G := by rw [HG.out]; exact hg1
      have x0 := (hbw.out.cell (p := ⟨g1, o1 + i, none⟩) hg2).trans (hc1 i hil)
      have k1 := SR.out _ (ys.getD i 0) hbw.out
      have HGS : Hid (G ≤ wr.heap.size) := by have h1 := HG.out; have h2 := hbw.out.size; exact Nat.le_trans (Nat.le_of_eq h1) h2
      by_cases hp : xs.contains (ys.getD i 0) = true
      · have E1 := flt_snoc true ys xs i hil (by rw [hp]; rfl)
        have HE : Hid _ := E1
        rw [hp] at k1
        generalize ys.getD i 0 = x at *
        clear E1 hp hc1
        go_wp2_with fail
        go_fit k1
        rintro e w1 ⟨k, rfl, q, rfl⟩
        clear k1
        obtain ⟨v1, w2, r1, z1, b1⟩ := append_z (wr.drewN q) G _ _ x HGS.out (by have := flt_len true (ys.take i) xs; have := List.length_take_le i ys; have := HL1.out; have := HL2.out; omega) (hz.out.drew q)
        have Z1 : Hid (Zr w2 G v1 (flt true (ys.take (i + 1)) xs)) := by show Zr _ _ _ _; rw [HE.out]; exact z1
        have B1 : Hid (Below G w w2) := (bdrew hbw.out q).trans b1
        clear z1 b1 hz
        go_wp2_with (at_builtin; refine wpList_append_run rfl (.tmp 37) (.tmp 39) 22 22 rfl _ _ rfl rfl r1 ?_)
        exact ⟨⟨i + 1, by go_num, by omega, Z1, B1⟩, by simp [RowKit.intOf]; omega⟩
      · have hp : xs.contains (ys.getD i 0) = false := by simpa using hp
        have E1 := flt_skip true ys xs i hil (by rw [hp]; rfl)
        have HE : Hid _ := E1
        rw [hp] at k1
        generalize ys.getD i 0 = x at *
        clear E1 hp hc1
        go_wp2_with fail
        go_fit k1
        rintro e w1 ⟨k, rfl, q, rfl⟩
        clear k1
        have Z1 : Hid (Zr (wr.drewN q) G u7 (flt true (ys.take (i + 1)) xs)) := by show Zr _ _ _ _; rw [HE.out]; exact hz.out.drew q
        have B1 : Hid (Below G w (wr.drewN q)) := bdrew hbw.out q
        clear hz
        go_wp2
        exact ⟨⟨i + 1, by go_num, by omega, Z1, B1⟩, by simp [RowKit.intOf]; omega⟩
    · have hii : ¬ (i : Int) < (m : Int) := by omega
      have hz2 := hz.out
      rw [List.take_of_length_le (by have := HM.out; omega)] at hz2
      have HZ : Hid _ := hz2
      clear hz hz2
      go_wp2
      go_ret
      exact ⟨_, rfl, HZ.out, hbw.out⟩
set_option maxHeartbeats 4000000 in
set_option maxRecDepth 100000 in
theorem those_2 (a b : Option Addr) (c d : Nat) (xs ys : List Int) (w : World) (hx : Zm w a xs) (hy : Zm w b ys) (hrx : Rs xs) (hry : Rs ys) (hl : xs.length ≤ 4194304) (hl2 : ys.length ≤ 4194304) (hsw : ¬ ys.length < xs.length) :
    Calls Try.prog 11 #[.slice a xs.length c, .slice b ys.length d, .bool true] w fun e w' => ∃ v, e = .returned v ∧ Zr w' w.heap.size v (flt true xs ys) ∧ Below w.heap.size w w' := by
  have HX : Hid (Zm w a xs) := hx
  have HY : Hid (Zm w b ys) := hy
  have HRX : Hid (Rs xs) := hrx
  have HRY : Hid (Rs ys) := hry
  have HL1 : Hid (xs.length ≤ 4194304) := hl
  have HL2 : Hid (ys.length ≤ 4194304) := hl2
  have hs : ¬ (ys.length : Int) < xs.length := by first | trivial | omega
  obtain ⟨n, hn⟩ : ∃ n, n = xs.length := ⟨_, rfl⟩
  obtain ⟨m, hm⟩ : ∃ m, m = ys.length := ⟨_, rfl⟩
  rw [← hn, ← hm]
  (try rw [← hn, ← hm] at hs)
  have HN : Hid (n = xs.length) := hn
  have HM : Hid (m = ys.length) := hm
  have hnn : (n : Int) ≤ 4194304 := by omega
  have hmm : (m : Int) ≤ 4194304 := by omega
  obtain ⟨G, hG⟩ : ∃ G, G = w.heap.size := ⟨_, rfl⟩
  have HG : Hid (G = w.heap.size) := hG
  rw [← hG]
  have SR : Hid (∀ w1 x, Below G w w1 → Calls Try.prog 16 #[.slice b m d, .int .i64 x] w1 fun e w' => ∃ k : Int, e = .returned (.tuple #[.int .i64 k, .bool (ys.contains x)]) ∧ ∃ q, w' = w1.drewN q) := fun w1 x hb => by
    have := search_any b d ys x w1 (HY.out.below (by rw [← HG.out]; exact hb)) HRY.out HL2.out
    rw [← HM.out] at this
    exact this
  have hb0 : Hid (Below G w w) := Below.refl _ _
  clear hx hy hrx hry hl hl2 hsw hn hm hG
  go_enter Try.func11, Try.ntmps11
  go_wp2_with fail
  go_loopw [7, 24] (fun mv iv w' => ∃ i : Nat, iv = .int .i64 (i : Nat) ∧ i ≤ n ∧ Hid (Zr w' G mv (flt true (xs.take i) ys)) ∧ Hid (Below G w w')) (fun _ iv _ => n - (RowKit.intOf iv).toNat)
  case atStart => exact ⟨0, rfl, Nat.zero_le _, Zr.nil _ _, hb0⟩
  case round =>
    obtain ⟨i, rfl, hi, hz, hbw⟩ := hrel
    by_cases hlt : i < n
    · have hii : (i : Int) < (n : Int) := by omega
      have hil : i < xs.length := by have := HN.out; omega
      obtain ⟨g1, o1, rfl, hg1, hc1⟩ := HX.out.at hil
      have hg2 : g1 < G := by rw [HG.out]; exact hg1
      have x0 := (hbw.out.cell (p := ⟨g1, o1 + i, none⟩) hg2).trans (hc1 i hil)
      have k1 := SR.out _ (xs.getD i 0) hbw.out
      have HGS : Hid (G ≤ wr.heap.size) := by have h1 := HG.out; have h2 := hbw.out.size; exact Nat.le_trans (Nat.le_of_eq h1) h2
      by_cases hp : ys.contains (xs.getD i 0) = true
      · have E1 := flt_snoc true xs ys i hil (by rw [hp]; rfl)
        have HE : Hid _ := E1
        rw [hp] at k1
        generalize xs.getD i 0 = x at *
        clear E1 hp hc1
        go_wp2_with fail
        go_fit k1
        rintro e w1 ⟨k, rfl, q, rfl⟩
        clear k1
        obtain ⟨v1, w2, r1, z1, b1⟩ := append_z (wr.drewN q) G _ _ x HGS.out (by have := flt_len true (xs.take i) ys; have := List.length_take_le i xs; have := HL1.out; have := HL2.out; omega) (hz.out.drew q)
        have Z1 : Hid (Zr w2 G v1 (flt true (xs.take (i + 1)) ys)) := by show Zr _ _ _ _; rw [HE.out]; exact z1
        have B1 : Hid (Below G w w2) := (bdrew hbw.out q).trans b1
        clear z1 b1 hz
        go_wp2_with (at_builtin; refine wpList_append_run rfl (.tmp 37) (.tmp 39) 22 22 rfl _ _ rfl rfl r1 ?_)
        exact ⟨⟨i + 1, by go_num, by omega, Z1, B1⟩, by simp [RowKit.intOf]; omega⟩
      · have hp : ys.contains (xs.getD i 0) = false := by simpa using hp
        have E1 := flt_skip true xs ys i hil (by rw [hp]; rfl)
        have HE : Hid _ := E1
        rw [hp] at k1
        generalize xs.getD i 0 = x at *
        clear E1 hp hc1
        go_wp2_with fail
        go_fit k1
        rintro e w1 ⟨k, rfl, q, rfl⟩
        clear k1
        have Z1 : Hid (Zr (wr.drewN q) G u7 (flt true (xs.take (i + 1)) ys)) := by show Zr _ _ _ _; rw [HE.out]; exact hz.out.drew q
        have B1 : Hid (Below G w (wr.drewN q)) := bdrew hbw.out q
        clear hz
        go_wp2
        exact ⟨⟨i + 1, by go_num, by omega, Z1, B1⟩, by simp [RowKit.intOf]; omega⟩
    · have hii : ¬ (i : Int) < (n : Int) := by omega
      have hz2 := hz.out
      rw [List.take_of_length_le (by have := HN.out; omega)] at hz2
      have HZ : Hid _ := hz2
      clear hz hz2
      go_wp2
      go_ret
      exact ⟨_, rfl, HZ.out, hbw.out⟩
set_option maxHeartbeats 4000000 in
set_option maxRecDepth 100000 in
theorem those_3 (a b : Option Addr) (c d : Nat) (xs ys : List Int) (w : World) (hx : Zm w a xs) (hy : Zm w b ys) (hrx : Rs xs) (hry : Rs ys) (hl : xs.length ≤ 4194304) (hl2 : ys.length ≤ 4194304) (_ : True) :
    Calls Try.prog 11 #[.slice a xs.length c, .slice b ys.length d, .bool false] w fun e w' => ∃ v, e = .returned v ∧ Zr w' w.heap.size v (flt false xs ys) ∧ Below w.heap.size w w' := by
  have HX : Hid (Zm w a xs) := hx
  have HY : Hid (Zm w b ys) := hy
  have HRX : Hid (Rs xs) := hrx
  have HRY : Hid (Rs ys) := hry
  have HL1 : Hid (xs.length ≤ 4194304) := hl
  have HL2 : Hid (ys.length ≤ 4194304) := hl2
  have hs : True := by first | trivial | omega
  obtain ⟨n, hn⟩ : ∃ n, n = xs.length := ⟨_, rfl⟩
  obtain ⟨m, hm⟩ : ∃ m, m = ys.length := ⟨_, rfl⟩
  rw [← hn, ← hm]
  (try rw [← hn, ← hm] at hs)
  have HN : Hid (n = xs.length) := hn
  have HM : Hid (m = ys.length) := hm
  have hnn : (n : Int) ≤ 4194304 := by omega
  have hmm : (m : Int) ≤ 4194304 := by omega
  obtain ⟨G, hG⟩ : ∃ G, G = w.heap.size := ⟨_, rfl⟩
  have HG : Hid (G = w.heap.size) := hG
  rw [← hG]
  have SR : Hid (∀ w1 x, Below G w w1 → Calls Try.prog 16 #[.slice b m d, .int .i64 x] w1 fun e w' => ∃ k : Int, e = .returned (.tuple #[.int .i64 k, .bool (ys.contains x)]) ∧ ∃ q, w' = w1.drewN q) := fun w1 x hb => by
    have := search_any b d ys x w1 (HY.out.below (by rw [← HG.out]; exact hb)) HRY.out HL2.out
    rw [← HM.out] at this
    exact this
  have hb0 : Hid (Below G w w) := Below.refl _ _
  clear hx hy hrx hry hl hl2 hn hm hG
  go_enter Try.func11, Try.ntmps11
  go_wp2_with fail
  go_loopw [7, 24] (fun mv iv w' => ∃ i : Nat, iv = .int .i64 (i : Nat) ∧ i ≤ n ∧ Hid (Zr w' G mv (flt false (xs.take i) ys)) ∧ Hid (Below G w w')) (fun _ iv _ => n - (RowKit.intOf iv).toNat)
  case atStart => exact ⟨0, rfl, Nat.zero_le _, Zr.nil _ _, hb0⟩
  case round =>
    obtain ⟨i, rfl, hi, hz, hbw⟩ := hrel
    by_cases hlt : i < n
    · have hii : (i : Int) < (n : Int) := by omega
      have hil : i < xs.length := by have := HN.out; omega
      obtain ⟨g1, o1, rfl, hg1, hc1⟩ := HX.out.at hil
      have hg2 : g1 < G := by rw [HG.out]; exact hg1
      have x0 := (hbw.out.cell (p := ⟨g1, o1 + i, none⟩) hg2).trans (hc1 i hil)
      have k1 := SR.out _ (xs.getD i 0) hbw.out
      have HGS : Hid (G ≤ wr.heap.size) := by have h1 := HG.out; have h2 := hbw.out.size; exact Nat.le_trans (Nat.le_of_eq h1) h2
      by_cases hp : ys.contains (xs.getD i 0) = true
      · have E1 := flt_skip false xs ys i hil (by rw [hp]; rfl)
        have HE : Hid _ := E1
        rw [hp] at k1
        generalize xs.getD i 0 = x at *
        clear E1 hp hc1
        go_wp2_with fail
        go_fit k1
        rintro e w1 ⟨k, rfl, q, rfl⟩
        clear k1
        have Z1 : Hid (Zr (wr.drewN q) G u7 (flt false (xs.take (i + 1)) ys)) := by show Zr _ _ _ _; rw [HE.out]; exact hz.out.drew q
        have B1 : Hid (Below G w (wr.drewN q)) := bdrew hbw.out q
        clear hz
        go_wp2
        exact ⟨⟨i + 1, by go_num, by omega, Z1, B1⟩, by simp [RowKit.intOf]; omega⟩
      · have hp : ys.contains (xs.getD i 0) = false := by simpa using hp
        have E1 := flt_snoc false xs ys i hil (by rw [hp]; rfl)
        have HE : Hid _ := E1
        rw [hp] at k1
        generalize xs.getD i 0 = x at *
        clear E1 hp hc1
        go_wp2_with fail
        go_fit k1
        rintro e w1 ⟨k, rfl, q, rfl⟩
        clear k1
        obtain ⟨v1, w2, r1, z1, b1⟩ := append_z (wr.drewN q) G _ _ x HGS.out (by have := flt_len false (xs.take i) ys; have := List.length_take_le i xs; have := HL1.out; have := HL2.out; omega) (hz.out.drew q)
        have Z1 : Hid (Zr w2 G v1 (flt false (xs.take (i + 1)) ys)) := by show Zr _ _ _ _; rw [HE.out]; exact z1
        have B1 : Hid (Below G w w2) := (bdrew hbw.out q).trans b1
        clear z1 b1 hz
        go_wp2_with (at_builtin; refine wpList_append_run rfl (.tmp 37) (.tmp 39) 22 22 rfl _ _ rfl rfl r1 ?_)
        exact ⟨⟨i + 1, by go_num, by omega, Z1, B1⟩, by simp [RowKit.intOf]; omega⟩
    · have hii : ¬ (i : Int) < (n : Int) := by omega
      have hz2 := hz.out
      rw [List.take_of_length_le (by have := HN.out; omega)] at hz2
      have HZ : Hid _ := hz2
      clear hz hz2
      go_wp2
      go_ret
      exact ⟨_, rfl, HZ.out, hbw.out⟩
/-- index.those. -/
theorem those_any (a b : Option Addr) (c d : Nat) (xs ys : List Int) (st : Bool) (w : World) (hx : Zm w a xs) (hy : Zm w b ys) (hrx : Rs xs) (hry : Rs ys) (hl : xs.length ≤ 4194304) (hl2 : ys.length ≤ 4194304) :
    Calls Try.prog 11 #[.slice a xs.length c, .slice b ys.length d, .bool st] w fun e w' => ∃ v, e = .returned v ∧ Zr w' w.heap.size v (thF st xs ys) ∧ Below w.heap.size w w' := by
  cases st with
  | false => exact those_3 a b c d xs ys w hx hy hrx hry hl hl2 trivial
  | true =>
    by_cases h : ys.length < xs.length
    · have := those_1 a b c d xs ys w hx hy hrx hry hl hl2 h
      simpa [thF, h] using this
    · have := those_2 a b c d xs ys w hx hy hrx hry hl hl2 h
      simpa [thF, h] using this
end Go.Proofs.Ytnjhffbegaegnaa
