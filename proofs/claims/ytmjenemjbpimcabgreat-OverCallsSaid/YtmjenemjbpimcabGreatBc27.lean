/- A bundle of texts. -/
import Derived.Test.YtmjenemjbpimcabGreatBc23
import Derived.Test.YtmjenemjbpimcabGreatBc24
import Derived.Test.YtmjenemjbpimcabGreatBc20
import Derived.Test.YtmjenemjbpimcabGreatBc26
import Derived.Test.YtmjenemjbpimcabGreatBc15
import Derived.Laws.Bits64b
/- Quantiles on both sides; the reference's distance from the middle. -/
namespace Go.Proofs.YtmjenemjbpimcabGreat
open Go.RowKit

theorem quantile_cs2 (q : Nat) (L : List (Option Nat)) (hl : L.length * 8 ≤ 140737488355328) : ∃ C, (∀ xs, Wd xs → cs xs = L → ∀ W a c, Fm W a xs → Calls Tryz.prog 68 #[.float .f64 q, .slice a xs.length c] W (RB W C)) ∧ (∀ xs, Wd xs → cs xs = L → ∀ W a c, Fm W a xs → xs.length ≤ c → c ≤ 9223372036854775807 → Calls Tryz.prog 40 #[.float .f64 q, .slice a xs.length c] W (RB W C)) := by
  by_cases h0 : L.length = 0
  · refine ⟨none, fun xs _ he W a c _ => ?_, fun xs _ he W a c _ _ _ => ?_⟩
    all_goals
      have : xs.length = 0 := by rw [← cs_len, he]; exact h0
      rw [this]
    · exact quantile_nil q a c W
    · exact rquantile_nil q a c W
  · rcases part_or q with hp | ⟨cc, h⟩
    · obtain ⟨y, z, K, M, hq⟩ := qp_ex q (L.length - 1) hp (by omega)
      refine ⟨quC (isrtC L) K M z, fun xs hw he W a c hf => ?_, fun xs hw he W a c hf hc hc2 => ?_⟩
      · have hlen : xs.length = L.length := by rw [← cs_len, he]
        rcases hf with rfl | ⟨g, o, rfl, hg, hat⟩
        · simp at hlen; omega
        have k := quantile_part q g o c xs W (L.length - 1) y z K M hp hg hat hw (by omega) (by omega) hq
        rw [quV_cs, isrt_cs, he] at k
        exact k
      · have hlen : xs.length = L.length := by rw [← cs_len, he]
        rcases hf with rfl | ⟨g, o, rfl, hg, hat⟩
        · simp at hlen; omega
        have k := rquantile_part q g o c xs W (L.length - 1) y z K M hp hg hat hw (by omega) hc hc2 (by omega) hq
        rw [quV_cs, isrt_cs, he] at k
        exact k
    · refine ⟨cc, fun xs _ he W a c _ => quantile_no q cc h _ xs.length a c rfl ?_ W, fun xs _ he W a c _ _ _ => rquantile_no q cc h _ xs.length a c rfl ?_ W⟩
      all_goals
        rw [← cs_len, he]
        exact h0

theorem neg_eq (x : Nat) : Op.negFloat .f64 x = x ^^^ 2 ^ 63 := rfl
theorem neg_pos (x : Nat) (h : x < 2 ^ 63) : Op.negFloat .f64 x = x + 2 ^ 63 := by
  rw [neg_eq]
  have := Nat.two_pow_add_eq_or_of_lt (i := 63) (b := x) h 1
  rw [Nat.mul_one] at this
  rw [Nat.add_comm, this]
  apply Nat.eq_of_testBit_eq
  intro i
  rw [Nat.testBit_xor, Nat.testBit_or, Nat.testBit_two_pow]
  by_cases hi : 63 = i
  · subst hi
    rw [Nat.testBit_lt_two_pow h]; rfl
  · simp [hi]
theorem neg_neg (x : Nat) : Op.negFloat .f64 (Op.negFloat .f64 x) = x := by
  rw [neg_eq, neg_eq, Nat.xor_assoc, Nat.xor_self, Nat.xor_zero]
theorem neg_hi (x : Nat) (h : 2 ^ 63 ≤ x) (h2 : x < 2 ^ 64) : Op.negFloat .f64 x = x % 9223372036854775808 := by
  have e := neg_pos (x - 2 ^ 63) (by omega)
  rw [show x - 2 ^ 63 + 2 ^ 63 = x by omega] at e
  rw [← e, neg_neg, e]
  omega
theorem run_neg {P : Program} (x : Nat) (w : World) : (Op.unary .neg (.float .f64 x)).run P w = .ok (.float .f64 (Op.negFloat .f64 x)) w := rfl
theorem ordz (x : Nat) (h : nanB x = false) : fo (cl x) (some 0) = some (compare (ky x) 0) := by
  have k := key_order x 0 h (by decide)
  rw [show ky 0 = 0 by decide] at k
  rw [← k, fo_cl, cl_lit 0 (by decide)]
theorem fo_num {x : Nat} {o : Ordering} (h : (fo (cl x) (some 0) == some o) = true) : nanB x = false := by
  cases hn : nanB x
  · rfl
  · rw [cl_nan hn] at h
    cases o <;> cases h
theorem key_is (x : Nat) (h : nanB x = false) : ky x = sv (sgn x) (x % 2 ^ 63) := if_neg (by rw [h]; decide)
/-- The sign struck. -/
theorem ab_lt (x : Nat) (h : x < 18446744073709551616) (hl : (fo (cl x) (some 0) == some .lt) = true) : Op.negFloat .f64 x = x % 9223372036854775808 := by
  have hn := fo_num hl
  rw [ordz x hn] at hl
  have hk : ky x < 0 := Int.compare_eq_lt.1 (by simpa using hl)
  rw [key_is x hn] at hk
  cases hs : sgn x
  · rw [hs] at hk
    have e : sv false (x % 2 ^ 63) = ((x % 2 ^ 63 : Nat) : Int) := rfl
    omega
  · unfold sgn at hs
    have h1 : x / 2 ^ 63 % 2 = 1 := by simpa using hs
    exact neg_hi x (by omega) (by omega)
theorem ab_eq (x : Nat) (hl : (fo (cl x) (some 0) == some .eq) = true) : x % 9223372036854775808 = 0 := by
  have hn := fo_num hl
  rw [ordz x hn] at hl
  have hk : ky x = 0 := Int.compare_eq_eq.1 (by simpa using hl)
  rw [key_is x hn] at hk
  cases hs : sgn x
  · rw [hs] at hk
    have e : sv false (x % 2 ^ 63) = ((x % 2 ^ 63 : Nat) : Int) := rfl
    omega
  · rw [hs] at hk
    have e : sv true (x % 2 ^ 63) = -((x % 2 ^ 63 : Nat) : Int) := rfl
    omega
theorem ab_gt (x : Nat) (h : x < 18446744073709551616) (hl : (fo (cl x) (some 0) == some .lt) = false) (he : (fo (cl x) (some 0) == some .eq) = false) : cl x = ab (cl x) := by
  cases hn : nanB x
  · rw [ordz x hn] at hl he
    have hk : 0 < ky x := by
      rcases Int.lt_trichotomy (ky x) 0 with g | g | g
      · rw [Int.compare_eq_lt.2 g] at hl; cases hl
      · rw [Int.compare_eq_eq.2 g] at he; cases he
      · exact g
    rw [key_is x hn] at hk
    cases hs : sgn x
    · unfold sgn at hs
      have h1 : ¬ x / 2 ^ 63 % 2 = 1 := by simpa using hs
      rw [← cl_ab, Nat.mod_eq_of_lt (by omega)]
    · rw [hs] at hk
      have e : sv true (x % 2 ^ 63) = -((x % 2 ^ 63 : Nat) : Int) := rfl
      omega
  · rw [cl_nan hn]
    rfl
theorem Fr.cap {w : World} {S : Nat} {v : Value} {ys : List Nat} (h : Fr w S v ys) : ∃ a c, v = .slice a ys.length c ∧ Fm w a ys ∧ ys.length ≤ c ∧ c ≤ 9223372036854775807 := by
  obtain ⟨a, c, rfl, hm⟩ := h.fm
  refine ⟨a, c, rfl, hm, ?_⟩
  rcases h.2 with ⟨e, h0⟩ | ⟨g, c2, cur, e, hB, hg, hnc, hcm, _⟩
  · obtain ⟨_, h1, rfl⟩ := Value.slice.inj e
    omega
  · obtain ⟨_, _, rfl⟩ := Value.slice.inj e
    exact ⟨hnc, hcm⟩
theorem order_cl (x : Nat) (o : Ordering) : (FloatKind.f64.format.order x 0 == some o) = (fo (cl x) (some 0) == some o) := by
  rw [fo_cl, cl_lit 0 (by decide)]
end Go.Proofs.YtmjenemjbpimcabGreat
/- The reference's distance from the middle: the walk. -/
namespace Go.Proofs.YtmjenemjbpimcabGreat
open Go.RowKit

set_option maxHeartbeats 8000000 in
set_option maxRecDepth 100000 in
theorem roff_any (a : Option Addr) (c : Nat) (xs : List Nat) (C1 C2 : Option Nat) (w : World) (hf : Fm w a xs) (hw : Wd xs) (hc : xs.length ≤ c) (hc2 : c ≤ 9223372036854775807) (hl : xs.length * 8 ≤ 140737488355328)
    (h1 : ∀ ys, Wd ys → cs ys = cs xs → ∀ W a c, Fm W a ys → ys.length ≤ c → c ≤ 9223372036854775807 → Calls Tryz.prog 40 #[.float .f64 4602678819172646912, .slice a ys.length c] W (RB W C1))
    (h2 : ∀ ys, Wd ys → cs ys = (List.range xs.length).map (dsF xs C1) → ∀ W a c, Fm W a ys → ys.length ≤ c → c ≤ 9223372036854775807 → Calls Tryz.prog 40 #[.float .f64 4602678819172646912, .slice a ys.length c] W (RB W C2)) :
    Calls Tryz.prog 41 #[.slice a xs.length c] w (RB w C2) := by
  have hs := @run_fsub Tryz.prog
  have hng := @run_neg Tryz.prog
  have k1 := h1 xs hw rfl w a c hf hc hc2
  obtain ⟨n, hnn⟩ : ∃ n, n = xs.length := ⟨_, rfl⟩
  have H2 : Hid (∀ ys, ys.length = n → Ls ys n (dsF xs C1) → ∀ W v S, Fr W S v ys → Calls Tryz.prog 40 #[.float .f64 4602678819172646912, v] W (RB W C2)) := (show ∀ ys, _ → _ → _ from fun ys hy hls W v S hf => by
    obtain ⟨a2, c2, rfl, hm, hc3, hc4⟩ := hf.cap
    exact h2 ys (by rw [← hy] at hls; exact hls.wd) (by rw [← hy] at hls; rw [hls.cs, hy, hnn]) W a2 c2 hm hc3 hc4)
  have HW : Hid (∀ j, j < n → xs.getD j 0 < 18446744073709551616) := (show ∀ j, _ → _ from fun j hj => hw j (by omega))
  have HF : Hid (∀ W, Below w.heap.size w W → ∀ j, j < n → ∃ g o, a = some ⟨g, o, none⟩ ∧ W.cell? ⟨g, o + j, none⟩ = some (.float .f64 (xs.getD j 0))) := (show ∀ W, _ → ∀ j, _ → _ from fun W b j hj => by
    rcases hf with rfl | ⟨g, o, rfl, hg, hat⟩
    · simp at hnn; omega
    · exact ⟨g, o, rfl, bcell b (hat j (by omega)) hg⟩)
  have HD : Hid (∀ j, dsF xs C1 j = ab (fb .sub (cl (xs.getD j 0)) C1)) := fun j => rfl
  have HL : Hid (n * 8 ≤ 140737488355328 ∧ n ≤ c) := (show _ ∧ _ by omega)
  rw [← hnn] at k1
  rw [← hnn]
  generalize dsF xs C1 = D at *
  clear hf h1 h2 hw hnn hc hc2 hl
  go_enter Tryz.func41, Tryz.ntmps41
  go_wp2_with fail
  go_fit k1
  rintro e w1 ⟨zm, rfl, b1, hlm, hzm⟩
  obtain ⟨w2, r2, o2, b2, s2⟩ := make_f0 w1 n (by have := HL.out.1; omega)
  have HM : Hid (cl zm = C1) := hzm
  obtain ⟨S, hS⟩ : ∃ S, S = w1.heap.size := ⟨_, rfl⟩
  rw [← hS] at r2 o2 b2 s2
  have HB : Hid (∀ W, Below S w2 W → Below w.heap.size w W ∧ S ≤ W.heap.size) := (show ∀ W, _ → _ from fun W b => ⟨b1.trans ((b2.trans b).mono (by rw [hS]; exact b1.size)), Nat.le_trans (by omega) b.size⟩)
  have O2 : Hid (Fr w2 S (.slice (some ⟨S, 0, none⟩) 0 n) []) := o2
  clear b1 k1 hzm hS o2 b2 s2
  go_wp2_with fail
  go_loopw [4, 5] (fun dv iv w' => ∃ (i : Nat) (ys : List Nat), iv = .int .i64 (i : Int) ∧ i ≤ n ∧ Hid (ys.length = i) ∧ Hid (Fr w' S dv ys) ∧ Hid (Ls ys i D) ∧ Hid (Below S w2 w')) (fun _ iv _ => n - (RowKit.intOf iv).toNat)
  case atStart => exact ⟨0, [], rfl, by omega, rfl, O2, Ls.nil _ _, Below.refl _ _⟩
  case round =>
    obtain ⟨i, ys, rfl, hi, hyl, o, hls, hb⟩ := hrel
    have n9 : (n : Int) ≤ 9223372036854775807 := by have := HL.out.1; omega
    by_cases hlt : i < n
    · have hii : (i : Int) < (n : Int) := by omega
      obtain ⟨g, og, rfl, q1⟩ := HF.out wr (HB.out wr hb.out).1 i hlt
      have lx := HW.out i hlt
      have hd := HD.out i
      have HI : Hid (i + 1 ≤ n) := hlt
      obtain ⟨x, hx⟩ : ∃ x, x = xs.getD i 0 := ⟨_, rfl⟩
      rw [← hx] at q1 lx hd
      clear hx
      have hcl : cl (fz .sub x zm wr) = fb .sub (cl x) C1 := by rw [cl_fz, HM.out]
      have hfl : fz .sub x zm wr < 18446744073709551616 := fz_lt _ _ _ _
      rw [← hcl] at hd
      have HAP : Hid (∀ z, cl z = D i → z < 18446744073709551616 → ∃ v3 w3, (Builtin.append_ #[33, 33] 33 #[u4, .slice (some ⟨wr.heap.size, 0, none⟩) 1 1]).run Tryz.prog ((wr.drewN (fk .sub x zm)).alloc (.cells #[.float .f64 z] 25)) = .ok v3 w3 ∧ Hid ((ys ++ [z]).length = i + 1) ∧ Hid (Fr w3 S v3 (ys ++ [z])) ∧ Hid (Ls (ys ++ [z]) (i + 1) D) ∧ Hid (Below S w2 w3)) := (show ∀ z, _ → _ → _ from fun z hz hzl => by
        obtain ⟨v3, w3, r3, o3, b3⟩ := append_f (wr.drewN (fk .sub x zm)) S u4 ys z (HB.out wr hb.out).2 (by rw [hyl.out]; have := HL.out.1; omega) (o.out.drew _)
        refine ⟨v3, w3, r3, ?_, o3, ?_, ?_⟩
        · show _ = _
          rw [List.length_append, hyl.out]; rfl
        · have h9 := hls.out
          rw [← hyl.out] at h9
          have h8 := h9.push z (by rw [hyl.out]; exact hz) hzl
          rw [hyl.out] at h8
          exact h8
        · exact (below_drewN hb.out _).trans b3)
      have d0 := order_cl (fz .sub x zm wr) .lt
      have d1 := order_cl (fz .sub x zm wr) .eq
      have HD2 : Hid (D i = ab (cl (fz .sub x zm wr))) := hd
      clear hd
      cases e0 : (fo (cl (fz .sub x zm wr)) (some 0) == some .lt)
      · rw [e0] at d0
        cases e1 : (fo (cl (fz .sub x zm wr)) (some 0) == some .eq)
        · rw [e1] at d1
          have hz : cl (fz .sub x zm wr) = D i := by rw [HD2.out]; exact ab_gt _ hfl e0 e1
          clear e0 e1
          obtain ⟨v3, w3, r3, h3, h4, h5, h6⟩ := HAP.out _ hz hfl
          clear HAP o hls hb hcl
          go_wp2_with (at_builtin; refine wpList_append_run rfl (.tmp 30) (.tmp 32) 33 33 rfl _ _ rfl rfl r3 ?_)
          exact ⟨⟨i + 1, _, by go_num, HI.out, h3, h4, h5, h6⟩, by simp [RowKit.intOf]; omega⟩
        · rw [e1] at d1
          have hz : cl 0 = D i := by rw [HD2.out, ← cl_ab, ab_eq _ e1]
          clear e0 e1
          obtain ⟨v3, w3, r3, h3, h4, h5, h6⟩ := HAP.out 0 hz (by decide)
          clear HAP o hls hb hcl
          go_wp2_with (at_builtin; refine wpList_append_run rfl (.tmp 30) (.tmp 32) 33 33 rfl _ _ rfl rfl r3 ?_)
          exact ⟨⟨i + 1, _, by go_num, HI.out, h3, h4, h5, h6⟩, by simp [RowKit.intOf]; omega⟩
      · rw [e0] at d0
        have hz1 := ab_lt _ hfl e0
        have hD3 : cl (Op.negFloat .f64 (fz .sub x zm wr)) = D i := by rw [HD2.out, hz1, cl_ab]
        have hl3 : Op.negFloat .f64 (fz .sub x zm wr) < 18446744073709551616 := by rw [hz1]; omega
        have d2 := order_cl (Op.negFloat .f64 (fz .sub x zm wr)) .eq
        have HE2 : Hid ((fo (cl (Op.negFloat .f64 (fz .sub x zm wr))) (some 0) == some .eq) = true → cl 0 = D i) := (show _ → _ from fun h => by
          have h9 := ab_eq _ h
          rw [hz1, Nat.mod_mod] at h9
          rw [HD2.out, ← cl_ab, h9])
        clear e0 d1 hz1
        cases e2 : (fo (cl (Op.negFloat .f64 (fz .sub x zm wr))) (some 0) == some .eq)
        · rw [e2] at d2
          clear e2 HE2
          obtain ⟨v3, w3, r3, h3, h4, h5, h6⟩ := HAP.out _ hD3 hl3
          clear HAP o hls hb hcl
          go_wp2_with (at_builtin; refine wpList_append_run rfl (.tmp 30) (.tmp 32) 33 33 rfl _ _ rfl rfl r3 ?_)
          exact ⟨⟨i + 1, _, by go_num, HI.out, h3, h4, h5, h6⟩, by simp [RowKit.intOf]; omega⟩
        · rw [e2] at d2
          have hz := HE2.out e2
          clear e2 HE2
          obtain ⟨v3, w3, r3, h3, h4, h5, h6⟩ := HAP.out 0 hz (by decide)
          clear HAP o hls hb hcl
          go_wp2_with (at_builtin; refine wpList_append_run rfl (.tmp 30) (.tmp 32) 33 33 rfl _ _ rfl rfl r3 ?_)
          exact ⟨⟨i + 1, _, by go_num, HI.out, h3, h4, h5, h6⟩, by simp [RowKit.intOf]; omega⟩
    · have hii : ¬ (i : Int) < (n : Int) := by omega
      obtain rfl : i = n := by omega
      have k2 := H2.out ys hyl.out hls.out wr _ S o.out
      have BW : Hid (Below w.heap.size w wr ∧ w.heap.size ≤ wr.heap.size) := ⟨(HB.out wr hb.out).1, (HB.out wr hb.out).1.size⟩
      clear o hls hb H2 HD HW O2 HF
      go_wp2_with fail
      go_fit k2
      rintro e w6 ⟨z, rfl, b6, hzl, hz⟩
      have B6 : Hid (Below w.heap.size w w6) := BW.out.1.trans (b6.mono BW.out.2)
      have HZ : Hid (cl z = C2) := hz
      clear b6 hz k2
      go_wp2
      go_ret
      exact ⟨z, rfl, B6.out, hzl, HZ.out⟩
end Go.Proofs.YtmjenemjbpimcabGreat
/- The reference's whole part of a float. -/
namespace Go.Proofs.YtmjenemjbpimcabGreat
open Go.RowKit Ieee

def mant (r : Nat) : Nat := if r / 4503599627370496 = 0 then r else r % 4503599627370496 + 4503599627370496
def expo (r : Nat) : Int := if r / 4503599627370496 = 0 then -1074 else ((r / 4503599627370496 : Nat) : Int) - 1075
theorem mant_lt (r : Nat) : mant r < 9007199254740992 := by
  unfold mant
  split <;> omega
theorem or_top (m : Nat) (h : m < 4503599627370496) : m ||| 4503599627370496 = m + 4503599627370496 := by
  have k := Nat.two_pow_add_eq_or_of_lt (i := 52) (b := m) h 1
  rw [Nat.mul_one] at k
  have k2 : 4503599627370496 + m = 4503599627370496 ||| m := k
  rw [Nat.or_comm]
  omega
set_option maxHeartbeats 4000000 in
set_option maxRecDepth 100000 in
theorem parts02_any (r : Nat) (hr : r < 9223372036854775808) (w : World) : Calls Tryz.prog 97 #[.int .u64 (r : Int)] w fun rr w' => rr = .returned (.tuple #[.int .u64 (mant r : Int), .int .i64 (expo r)]) ∧ w' = w := by
  have HM : Hid (mant r = if r / 4503599627370496 = 0 then r else r % 4503599627370496 + 4503599627370496) := rfl
  have HE : Hid (expo r = if r / 4503599627370496 = 0 then -1074 else ((r / 4503599627370496 : Nat) : Int) - 1075) := rfl
  generalize mant r = M at *
  generalize expo r = E at *
  by_cases h0 : r / 4503599627370496 = 0
  · have HR : Hid (M = r ∧ E = -1074) := ⟨by rw [HM.out, if_pos h0], by rw [HE.out, if_pos h0]⟩
    have hq : ((r : Int) / 4503599627370496 == 0) = true := beq_iff_eq.2 (by omega)
    clear HM HE h0
    go_enter Tryz.func97, Tryz.ntmps97
    go_wp2
    go_ret2
    exact ⟨by rw [HR.out.1, HR.out.2]; rfl, rfl⟩
  · have hq : ((r : Int) / 4503599627370496 == 0) = false := beq_eq_false_iff_ne.2 (by omega)
    have ha : bits .and .u64 (r : Int) 4503599627370495 = ((r % 4503599627370496 : Nat) : Int) := by
      have k := bits_and_u64_nat r 4503599627370495 (by omega) (by decide)
      rw [Nat.and_two_pow_sub_one_eq_mod (n := 52)] at k
      exact k
    obtain ⟨m, hm⟩ : ∃ m, m = r % 4503599627370496 := ⟨_, rfl⟩
    obtain ⟨q, hqq⟩ : ∃ q : Nat, (q : Int) = (r : Int) / 4503599627370496 ∧ q = r / 4503599627370496 := ⟨r / 4503599627370496, by omega, rfl⟩
    have ho : bits .or .u64 (m : Int) 4503599627370496 = ((m + 4503599627370496 : Nat) : Int) := by
      have k := bits_or_u64_nat m 4503599627370496 (by omega) (by decide)
      rw [or_top m (by omega)] at k
      exact k
    rw [← hm] at ha
    have HR : Hid (((m + 4503599627370496 : Nat) : Int) = (M : Int) ∧ (r : Int) / 4503599627370496 - 1075 = E) := (show _ ∧ _ by
      rw [HM.out, if_neg h0, HE.out, if_neg h0, hm]
      omega)
    have hw : IntKind.i64.wrap ((r : Int) / 4503599627370496 - 1075) = (r : Int) / 4503599627370496 - 1075 := by rw [IntKind.wrap_i64]; omega
    rw [HR.out.1] at ho
    clear HM HE h0 hm hqq
    go_enter Tryz.func97, Tryz.ntmps97
    go_wp2
    go_ret2
    exact ⟨by rw [← HR.out.2, ← ho]; rfl, rfl⟩

/-- A finite float, read. -/
theorem read_is (x : Nat) (h : x % 2 ^ 63 < 0x7ff0000000000000) : ∃ s, Ieee.double.read x = .number s (mant (x % 2 ^ 63)) (expo (x % 2 ^ 63)) := by
  have hb : Ieee.double.binade = 2 ^ 52 := rfl
  have hl : Ieee.double.leastPlace = -1074 := by decide
  have hi : Ieee.double.infRung = 0x7ff0000000000000 := by decide
  have hsw : Ieee.double.signWeight = 2 ^ 63 := rfl
  obtain ⟨s, m, i, hr⟩ := read_fin x h
  refine ⟨s, ?_⟩
  have hr2 := hr
  unfold Format.read at hr2
  simp only [hb, hl, hi, hsw] at hr2
  have hmi : m = mant (x % 2 ^ 63) ∧ i = expo (x % 2 ^ 63) := by
    unfold mant expo
    generalize x % 2 ^ 63 = r at *
    by_cases hlt : r < 2 ^ 52
    · rw [if_pos hlt] at hr2
      have h2 : r / 4503599627370496 = 0 := Nat.div_eq_of_lt hlt
      rw [if_pos h2, if_pos h2]
      obtain ⟨_, h3, h4⟩ := Datum.number.inj hr2
      exact ⟨h3.symm, h4.symm⟩
    · rw [if_neg hlt, if_pos h] at hr2
      have h2 : ¬ r / 4503599627370496 = 0 := by omega
      rw [if_neg h2, if_neg h2]
      obtain ⟨_, h3, h4⟩ := Datum.number.inj hr2
      omega
  rw [hr, hmi.1, hmi.2]
/-- The whole part's size. -/
def vI (r : Nat) : Nat := if 0 ≤ expo r then mant r * 2 ^ (expo r).toNat else mant r / 2 ^ (-expo r).toNat
theorem cut_vI (s : Bool) (r : Nat) : Toward.zero.cut s (mant r <<< (expo r).toNat) (-expo r).toNat = vI r := by
  rw [zero_form]
  unfold vI
  generalize mant r = m
  generalize expo r = e
  by_cases he : 0 ≤ e
  · rw [if_pos he, show (-e).toNat = 0 by omega, Nat.zero_min, Nat.shiftLeft_eq, Nat.shiftLeft_eq]
    simp
  · rw [if_neg he, show e.toNat = 0 by omega]
    generalize (-e).toNat = d
    rw [Nat.shiftLeft_zero]
    by_cases h : d ≤ m.log2 + 2
    · rw [Nat.min_eq_left h, Nat.shiftLeft_eq, Nat.one_mul]
    · have e1 : (1 : Nat) <<< min d (m.log2 + 2) = 2 ^ (m.log2 + 2) := by rw [Nat.min_eq_right (by omega), Nat.shiftLeft_eq, Nat.one_mul]
      have h1 := Nat.lt_log2_self (n := m)
      have h2 : 2 ^ (m.log2 + 1) ≤ 2 ^ (m.log2 + 2) := pow_le _ _ (by omega)
      have h3 : 2 ^ (m.log2 + 1) ≤ 2 ^ d := pow_le _ _ (by omega)
      rw [e1, Nat.div_eq_of_lt (show m < 2 ^ (m.log2 + 2) by omega), Nat.div_eq_of_lt (show m < 2 ^ d by omega)]
theorem vI_lt (r : Nat) (h : expo r ≤ 10) : vI r < 9223372036854775808 := by
  unfold vI
  have hm := mant_lt r
  split
  · have h1 : 2 ^ (expo r).toNat ≤ 2 ^ 10 := pow_le _ _ (by omega)
    have h2 := Nat.mul_le_mul (Nat.le_of_lt_succ (show mant r < 9007199254740991 + 1 from hm)) h1
    omega
  · exact Nat.lt_of_le_of_lt (Nat.div_le_self _ _) (by omega)
theorem expo_le (r : Nat) : expo r ≤ 10 ↔ r < 4890909195324358656 := by
  unfold expo
  split <;> omega
theorem ti_is (y : Nat) (hr : y % 2 ^ 63 < 4890909195324358656) : tiF (cl y) = if sgn y = true then -((vI (y % 2 ^ 63) : Nat) : Int) else ((vI (y % 2 ^ 63) : Nat) : Int) := by
  have hn : nanB y = false := by
    rw [nanB_eq]
    exact decide_eq_false (by omega)
  have hx : y % 2 ^ 63 < 0x7ff0000000000000 := by omega
  have hk : ky y = sv (sgn y) (y % 2 ^ 63) := if_neg (by rw [hn]; decide)
  have hkb : -4890909195324358656 < ky y ∧ ky y < 4890909195324358656 := by
    rw [hk]
    cases hs : sgn y
    · have e : sv false (y % 2 ^ 63) = ((y % 2 ^ 63 : Nat) : Int) := rfl
      omega
    · have e : sv true (y % 2 ^ 63) = -((y % 2 ^ 63 : Nat) : Int) := rfl
      omega
  have hB : tiB (cl y) = true := by
    have k1 : Ieee.double.order y 14114281232179134464 = some (compare (ky y) (ky 14114281232179134464)) := key_order y _ hn (by decide)
    have k2 : Ieee.double.order y 4890909195324358656 = some (compare (ky y) (ky 4890909195324358656)) := key_order y _ hn (by decide)
    have e1 : ky 14114281232179134464 = -4890909195324358656 := by decide
    have e2 : ky 4890909195324358656 = 4890909195324358656 := by decide
    rw [e1, Int.compare_eq_gt.2 hkb.1] at k1
    rw [e2, Int.compare_eq_lt.2 hkb.2] at k2
    unfold tiB geB ltB fo
    rw [cl_num hn]
    simp only [Option.bind_some]
    rw [k1, k2]
    rfl
  obtain ⟨s, hrd⟩ := read_is y hx
  have hs := ((read_sign y).1 _ _ _ hrd).1
  unfold tiF
  rw [if_pos hB, cl_num hn, Option.bind_some]
  have hc : (FloatKind.f64.decode y).toInt .zero = some (Ieee.signed (sgn y) (vI (y % 2 ^ 63)) 0) := by
    show (Ieee.double.read y).toInt .zero = _
    rw [hrd]
    simp only [Datum.toInt, Datum.integral]
    rw [cut_vI, hs]
  have hv := vI_lt (y % 2 ^ 63) ((expo_le _).2 hr)
  unfold floatToIntVal
  rw [hc]
  have hmn : IntKind.i64.min = -9223372036854775808 := by decide
  have hmx : IntKind.i64.max = 9223372036854775807 := by decide
  simp only [hmn, hmx, signed_eq]
  generalize vI (y % 2 ^ 63) = v at *
  cases sgn y
  · have e : (if false = true then (-1 : Int) else 1) * ((v * 2 ^ 0 : Nat) : Int) = (v : Int) := by simp
    rw [e, if_pos (by omega)]
    rfl
  · have e : (if true = true then (-1 : Int) else 1) * ((v * 2 ^ 0 : Nat) : Int) = -(v : Int) := by simp
    rw [e, if_pos (by omega)]
    rfl
theorem ti_no (y : Nat) (hy : y < 18446744073709551616) (hne : y ≠ 14114281232179134464) (h : nanB y = true ∨ 4890909195324358656 ≤ y % 2 ^ 63) : tiF (cl y) = 0 := by
  unfold tiF
  refine if_neg ?_
  cases hn : nanB y
  · have h1 : 4890909195324358656 ≤ y % 2 ^ 63 := by
      rcases h with h | h
      · rw [hn] at h; cases h
      · exact h
    have hk : ky y = sv (sgn y) (y % 2 ^ 63) := if_neg (by rw [hn]; decide)
    have k1 : Ieee.double.order y 14114281232179134464 = some (compare (ky y) (ky 14114281232179134464)) := key_order y _ hn (by decide)
    have k2 : Ieee.double.order y 4890909195324358656 = some (compare (ky y) (ky 4890909195324358656)) := key_order y _ hn (by decide)
    have e1 : ky 14114281232179134464 = -4890909195324358656 := by decide
    have e2 : ky 4890909195324358656 = 4890909195324358656 := by decide
    rw [e1] at k1
    rw [e2] at k2
    unfold tiB geB ltB fo
    rw [cl_num hn]
    simp only [Option.bind_some]
    rw [k1, k2]
    cases hs : sgn y
    · have g : ¬ ky y < 4890909195324358656 := by
        rw [hk, hs]
        have e : sv false (y % 2 ^ 63) = ((y % 2 ^ 63 : Nat) : Int) := rfl
        omega
      have g2 : compare (ky y) 4890909195324358656 ≠ .lt := fun h => g (Int.compare_eq_lt.1 h)
      cases hcc : compare (ky y) 4890909195324358656
      · exact absurd hcc g2
      · simp
      · simp
    · have g : ky y < -4890909195324358656 := by
        rw [hk, hs]
        have e : sv true (y % 2 ^ 63) = -((y % 2 ^ 63 : Nat) : Int) := rfl
        unfold sgn at hs
        have h9 : y / 2 ^ 63 % 2 = 1 := by simpa using hs
        omega
      rw [Int.compare_eq_lt.2 g]
      simp
  · rw [cl_nan hn]
    unfold tiB geB ltB fo
    simp
end Go.Proofs.YtmjenemjbpimcabGreat
