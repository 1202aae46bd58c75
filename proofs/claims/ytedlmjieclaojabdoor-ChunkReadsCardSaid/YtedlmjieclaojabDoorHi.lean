/- The reference's Unpack: its walk. -/
import Derived.Test.YtedlmjieclaojabDoorHh
namespace Go.Proofs.YtedlmjieclaojabDoor
open Go.RowKit

theorem up_none {xs : List Int} {w w' : World} (b : Below w.heap.size w w') (h : rfU xs = none) : UpR xs w (.returned (.tuple #[.slice none 0 0, .int .i64 171])) w' := UpR.no b ((rf_unp xs).symm.trans h)
theorem up_some {xs : List Int} {l : List Smp} {v : Value} {w w' : World} (b : Below w.heap.size w w') (h : rfU xs = some l) (o : w'.ownsRow w.heap.size 31 3 v l.length (smc l)) : UpR xs w (.returned (.tuple #[v, .int .i64 0])) w' := by
  have hu := (rf_unp xs).symm.trans h
  refine ⟨v, by unfold upE; rw [hu]; rfl, ?_, b⟩
  unfold upL
  rw [hu]
  exact o
theorem rs_parts (p : Nat) (b : Bool) (r : Trl) (x : Int) : (Rs.mk p b { r with tm := x }).p = p ∧ (Rs.mk p b { r with tm := x }).b = b ∧ (Rs.mk p b { r with tm := x }).r.tm = x ∧ (Rs.mk p b { r with tm := x }).r.st = r.st := ⟨rfl, rfl, rfl, rfl⟩
theorem rdT0 (B : Nat → Nat) (N : Nat) (s : Rs) (h : s.r.n = 0) (hb : s.b = false) : (rdT B N s).p = tkP N s.p 64 ∧ (rdT B N s).b = (false || tkX N s.p 64) ∧ (rdT B N s).r.tm = s64 (tkV B N s.p 64 : Nat) ∧ (rdT B N s).r.st = s.r.st := by
  unfold rdT
  rw [if_pos h, hb]
  exact rs_parts _ _ _ _
theorem rdT1 (B : Nat → Nat) (N : Nat) (s : Rs) (h : s.r.n ≠ 0) (hb : s.b = false) : (rdT B N s).p = tmP B N s.p ∧ (rdT B N s).b = tmX B N s.p false ∧ (rdT B N s).r.st = s64 (s.r.st + tmE B N s.p) ∧ (rdT B N s).r.tm = s64 (s.r.tm + (rdT B N s).r.st) := by
  unfold rdT tmP tmX tmE
  rw [if_neg h, hb]
  generalize wyF B N 4 s.p = R
  generalize tkV B N R.2.1 (scW R.1) = TV
  generalize tkP N R.2.1 (scW R.1) = TP
  generalize tkX N R.2.1 (scW R.1) = TX
  exact ⟨rfl, rfl, rfl, rfl⟩
theorem rdT_keep (B : Nat → Nat) (N : Nat) (s : Rs) : (rdT B N s).r.vl = s.r.vl ∧ (rdT B N s).r.fr = s.r.fr ∧ (rdT B N s).r.to = s.r.to := by
  obtain ⟨_, h1, h2, h3⟩ := rdT_kx B N s
  exact ⟨h3, h1, h2⟩
theorem wrapS (x : Int) : IntKind.i64.wrap x = s64 x := by rw [IntKind.wrap_i64]; unfold s64; omega
theorem row_low {w : World} {S S' e s n : Nat} {v : Value} {xs : List Value} (o : w.ownsRow S e s v n xs) (h : S' ≤ S) : w.ownsRow S' e s v n xs :=
  ⟨o.1, o.2.imp id (fun ⟨g', cap, cur, h1, h2, h3⟩ => ⟨g', cap, cur, h1, Nat.le_trans h h2, h3⟩)⟩
set_option maxHeartbeats 8000000 in
set_option maxRecDepth 100000 in
theorem runpack_any (a : Option Addr) (c : Nat) (xs : List Int) (w : World) (hi : Im w a xs) (hx : By xs) (hN : xs.length ≤ 140737488355328) :
    Calls Tryd.prog 13 #[.slice a xs.length c] w (UpR xs w) := by
  obtain ⟨a0, ha0, him, hag⟩ : ∃ a0, (0 < xs.length → a = a0) ∧ Im w a0 xs ∧ ∀ g o, a0 = some ⟨g, o, none⟩ → g < w.heap.size := by
    rcases hi with h | ⟨g, o, h1, h2, h3⟩
    · exact ⟨none, fun h' => by rw [h] at h'; simp at h', .inl h, fun _ _ e => by cases e⟩
    · exact ⟨a, fun _ => rfl, .inr ⟨g, o, h1, h2, h3⟩, fun g' o' e => by rw [h1] at e; cases e; exact h2⟩
  have hb0 : Below w.heap.size w (w.alloc (.cells #[.slice a xs.length c, .int .i64 0, .bool false] 75)) := (Below.refl _ _).alloc (Nat.le_refl _) _
  have hR0 : Rq (w.alloc (.cells #[.slice a xs.length c, .int .i64 0, .bool false] 75)) w.heap.size a0 c xs 0 false :=
    ⟨⟨a, by simp, ha0⟩, by simp, by simp, fun i => by simp, him.below hb0, Nat.zero_le _, fun g o e => by have := hag g o e; omega⟩
  have k1 := rtake_any w.heap.size c a0 xs 0 false 17 _ hR0 hx (by decide) hN
  have HI : Hid (Im w a xs) := hi
  have HX : Hid (By xs) := hx
  have HN : Hid (xs.length ≤ 140737488355328) := hN
  have HAG : Hid (∀ g o, a0 = some ⟨g, o, none⟩ → g < w.heap.size) := hag
  have HB0 : Hid _ := hb0
  have hV := tkV_lt (bt 8 xs) (bt_lt 8 xs) (8 * xs.length) 0 17
  have HRD : Hid ((8 * xs.length < 17 → rfR xs = none ∧ tkV (bt 8 xs) (8 * xs.length) 0 17 = 0 ∧ tkX (8 * xs.length) 0 17 = true) ∧ (¬ 8 * xs.length < 17 → (rfR xs = if 100000 < tkV (bt 8 xs) (8 * xs.length) 0 17 then none else rfF (bt 8 xs) (8 * xs.length) (tkV (bt 8 xs) (8 * xs.length) 0 17) ⟨17, false, t0⟩) ∧ tkP (8 * xs.length) 0 17 = 17 ∧ tkX (8 * xs.length) 0 17 = false)) := by
    refine ⟨fun h => ⟨by unfold rfR; rw [if_pos h], by unfold tkV; rw [if_neg (by omega)], by unfold tkX; exact decide_eq_true (by omega)⟩, fun h => ⟨?_, by unfold tkP; rw [if_pos (by omega)], by unfold tkX; exact decide_eq_false (by omega)⟩⟩
    have e : tkV (bt 8 xs) (8 * xs.length) 0 17 = bv (bt 8 xs) 0 17 := by unfold tkV; rw [if_pos (by omega)]
    unfold rfR
    rw [if_neg h, e]
  obtain ⟨V, hVV⟩ : ∃ V, V = tkV (bt 8 xs) (8 * xs.length) 0 17 := ⟨_, rfl⟩
  rw [← hVV] at k1 hV HRD
  have hVi : (V : Int) < 131072 := by omega
  have eV : IntKind.i64.wrap (V : Int) = (V : Int) := by rw [IntKind.wrap_i64]; omega
  obtain ⟨B, hB⟩ : ∃ B, B = w.heap.size := ⟨_, rfl⟩
  have HBB : Hid (B = w.heap.size) := hB
  rw [← hB] at k1
  have hV0 : (0 : Int) ≤ (V : Int) := by omega
  clear ha0 him hag hb0 hR0 hVV hi hx hN hB hV
  go_enter Tryd.func13, Tryd.ntmps13
  go_upto_region 2 with fail
  rw [← HBB.out]
  generalize w.alloc (.cells #[.slice a xs.length c, .int .i64 0, .bool false] 75) = W0 at *
  go_wp2_with fail
  go_fit k1
  rintro e w1 ⟨rfl, h1, q1⟩
  have HB1 : Hid (Below w.heap.size w w1) := HB0.out.trans (q1.below HB0.out.size (fun i hi e => by have := HBB.out; omega))
  by_cases hbig : 100000 < V
  · have hbi : (100000 : Int) < (V : Int) := by omega
    have hnone : rfR xs = none := by
      by_cases hs : 8 * xs.length < 17
      · exact (HRD.out.1 hs).1
      · rw [(HRD.out.2 hs).1, if_pos hbig]
    have HR : Hid (UpR xs w (.returned (.tuple #[.slice none 0 0, .int .i64 171])) w1) := up_none HB1.out (rfU_none hnone)
    clear k1 h1 q1 HRD hnone HB1 HB0
    go_wp2
    go_ret2
    exact HR.out
  · have hbi : ¬ (100000 : Int) < (V : Int) := by omega
    have hba : Below w1.heap.size w1 (w1.alloc (.cells #[.bool false, .int .i64 0, .int .i64 0] 78)) := (Below.refl _ _).alloc (Nat.le_refl _) _
    have hBl := h1.lt
    have hUn : Un w B w1.heap.size c a0 xs (w1.alloc (.cells #[.bool false, .int .i64 0, .int .i64 0] 78)) (.slice none 0 0) [] 0 0 (tkP (8 * xs.length) 0 17) (false || tkX (8 * xs.length) 0 17) :=
      ⟨h1.below hba, by simp [isF], by simp, by simp [rF], fun i => by simp, World.ownsRow_nil _ _ _ _, HB1.out.trans (hba.mono HB1.out.size), hBl, by rw [HBB.out]; exact Nat.le_refl _, HAG.out⟩
    have HUr : Hid (Ur w B w1.heap.size c a0 xs V 0 (.slice none 0 0) (.int .u64 0) (.int .i64 0) (.int .i64 0) (w1.alloc (.cells #[.bool false, .int .i64 0, .int .i64 0] 78))) := by
      refine ⟨[], 0, 0, _, _, rfl, fun x hx => (by cases hx), hUn, ?_⟩
      by_cases hs : 8 * xs.length < 17
      · obtain ⟨e1, e2, e3⟩ := HRD.out.1 hs
        exact .inl ⟨by rw [e3]; rfl, e1⟩
      · obtain ⟨e1, e2, e3⟩ := HRD.out.2 hs
        refine .inr ⟨by rw [e3]; rfl, ⟨17, false, t0⟩, e2.symm, rfl, rfl, fok0, rfl, rfl, rfl, rfl, rfl, ?_⟩
        rw [e1, if_neg hbig, Nat.sub_zero]
        simp
    obtain ⟨F, hF⟩ : ∃ F, F = w1.heap.size := ⟨_, rfl⟩
    have HF : Hid (F = w1.heap.size) := hF
    rw [← hF] at HUr
    obtain ⟨W1, hW1⟩ : ∃ W1, W1 = w1.alloc (.cells #[.bool false, .int .i64 0, .int .i64 0] 78) := ⟨_, rfl⟩
    have HW1 : Hid (W1 = w1.alloc (.cells #[.bool false, .int .i64 0, .int .i64 0] 78)) := hW1
    rw [← hW1] at HUr
    have HFS : Hid (w.heap.size ≤ F) := by rw [hF]; exact HB1.out.size
    have hVn : V ≤ 100000 := by omega
    clear k1 h1 q1 hba hBl hUn hF hW1 HRD HB0 HB1 hbig
    clear hVi
    go_upto_region 7 with fail
    rw [← HW1.out, ← HF.out]
    clear HW1 HF
    go_wp2_with fail
    go_loopw [6, 8, 9, 10, 11] (fun sv lv dv tv iv w' => ∃ i : Nat, i ≤ V ∧ iv = .int .i64 (i : Nat) ∧ Hid (Ur w B F c a0 xs V i sv lv dv tv w')) (fun _ _ _ _ iv _ => V - (RowKit.intOf iv).toNat)
    case atStart => exact ⟨0, Nat.zero_le _, rfl, HUr⟩
    case round =>
      obtain ⟨i, hi, rfl, hur⟩ := hrel
      clear HUr
      obtain ⟨L, fr, to, p, b, hL, hLok, hun, hmode⟩ := hur.out
      clear hur
      have c2 := hun.rq.c2
      obtain ⟨av, cv, rfl⟩ := row_form hun.row
      have hLl : L.length ≤ 100000 := by omega
      rcases hmode with ⟨rfl, hnone⟩ | ⟨rfl, st, rfl, hstb, hstn, hfok, rfl, rfl, rfl, rfl, rfl, hrf⟩
      · have k9 := rpack_any av cv L wr (Sm.of_row hun.row) hLok (by omega)
        have HBW : Hid (Below w.heap.size w wr) := hun.bl
        have HNO : Hid (rfU xs = none) := rfU_none hnone
        clear hun hLok hnone hL
        unfold PkR at k9
        generalize L.length = ln at *
        by_cases hlt : i < V
        case' pos =>
          have hii : (i : Int) < (V : Int) := by omega
          go_wp2_with fail
        case' neg =>
          have hii : ¬ (i : Int) < (V : Int) := by omega
          go_wp2_with fail
        all_goals
          go_fit k9
          rintro e w9 ⟨v9, rfl, o9, b9⟩
          obtain ⟨a9, c9, rfl⟩ := row_form o9
          have c2' := bcell2 b9 c2
          have HR : Hid (UpR xs w (.returned (.tuple #[.slice none 0 0, .int .i64 171])) w9) := up_none (HBW.out.trans (b9.mono HBW.out.size)) HNO.out
          clear k9 o9 b9 c2 HBW HNO
          generalize (pkB L).length = bl at *
          go_wp2
          go_ret2
          exact HR.out
      · by_cases hlt : i < V
        · have hii : (i : Int) < (V : Int) := by omega
          have HNX : Hid (∀ (x fr to p : Nat) (b : Bool), x < 18446744073709551616 → b = (rfX (bt 8 xs) (8 * xs.length) (rdT (bt 8 xs) (8 * xs.length) st) || (rdV (bt 8 xs) (8 * xs.length) (rdT (bt 8 xs) (8 * xs.length) st)).b) → (b = false → rdV (bt 8 xs) (8 * xs.length) (rdT (bt 8 xs) (8 * xs.length) st) = ⟨p, false, { (rdT (bt 8 xs) (8 * xs.length) st).r with vl := (rdT (bt 8 xs) (8 * xs.length) st).r.vl ^^^ x, fr := fr, to := to }⟩) → ∀ (W : World) (sv : Value), Un w B F c a0 xs W sv (L ++ [smp2 (rdT (bt 8 xs) (8 * xs.length) st) x (rdS (bt 8 xs) (8 * xs.length) (rdT (bt 8 xs) (8 * xs.length) st))]) fr to p b → Ur w B F c a0 xs V (i + 1) sv (.int .u64 (((rdT (bt 8 xs) (8 * xs.length) st).r.vl ^^^ x : Nat) : Int)) (.int .i64 (rdT (bt 8 xs) (8 * xs.length) st).r.st) (.int .i64 (rdT (bt 8 xs) (8 * xs.length) st).r.tm) W) := fun x fr to p b h1 h2 h3 W sv h4 => ur_next hlt hstn hfok hL hLok hrf h1 h2 h3 h4
          have hft := rdT_fok (bt 8 xs) (8 * xs.length) st hfok
          have hkeep := rdT_keep (bt 8 xs) (8 * xs.length) st
          have HUN : Hid (Un w B F c a0 xs wr (.slice av L.length cv) L st.r.fr st.r.to st.p false) := hun
          have hz : st.r.n = 0 → (rdT (bt 8 xs) (8 * xs.length) st).p = tkP (8 * xs.length) st.p 64 ∧ (rdT (bt 8 xs) (8 * xs.length) st).b = (false || tkX (8 * xs.length) st.p 64) ∧ (rdT (bt 8 xs) (8 * xs.length) st).r.tm = s64 (tkV (bt 8 xs) (8 * xs.length) st.p 64 : Nat) ∧ (rdT (bt 8 xs) (8 * xs.length) st).r.st = st.r.st := fun h => rdT0 _ _ st h hstb
          have hm : st.r.n ≠ 0 → (rdT (bt 8 xs) (8 * xs.length) st).p = tmP (bt 8 xs) (8 * xs.length) st.p ∧ (rdT (bt 8 xs) (8 * xs.length) st).b = tmX (bt 8 xs) (8 * xs.length) st.p false ∧ (rdT (bt 8 xs) (8 * xs.length) st).r.st = s64 (st.r.st + tmE (bt 8 xs) (8 * xs.length) st.p) ∧ (rdT (bt 8 xs) (8 * xs.length) st).r.tm = s64 (st.r.tm + (rdT (bt 8 xs) (8 * xs.length) st).r.st) := fun h => rdT1 _ _ st h hstb
          rw [hstn] at hz hm
          obtain ⟨S1, hS1⟩ : ∃ S1, S1 = rdT (bt 8 xs) (8 * xs.length) st := ⟨_, rfl⟩
          rw [← hS1] at HNX hft hkeep hz hm
          have HKE : Hid (S1.r.vl = st.r.vl ∧ S1.r.fr = st.r.fr ∧ S1.r.to = st.r.to) := hkeep
          have HFT : Hid (Fok S1.r) := hft
          have HLL : Hid (L.length ≤ 100000) := hLl
          have HZ : Hid _ := hz
          have HMM : Hid _ := hm
          rw [← hkeep.1]
          have hvt : tkV (bt 8 xs) (8 * xs.length) st.p 64 < 18446744073709551616 := tkV_lt (bt 8 xs) (bt_lt 8 xs) _ _ 64
          have HVT : Hid (tkV (bt 8 xs) (8 * xs.length) st.p 64 < 18446744073709551616) := hvt
          obtain ⟨dd, hdd⟩ : ∃ dd, dd = st.r.st := ⟨_, rfl⟩
          obtain ⟨tt, htt⟩ : ∃ tt, tt = st.r.tm := ⟨_, rfl⟩
          have HDT : Hid (dd = st.r.st ∧ tt = st.r.tm) := ⟨hdd, htt⟩
          rw [← hdd, ← htt]
          obtain ⟨VL, hVL⟩ : ∃ VL : Int, VL = (S1.r.vl : Nat) := ⟨_, rfl⟩
          have HVLE : Hid (VL = (S1.r.vl : Nat)) := hVL
          rw [← hVL]
          clear hun hrf hfok hstn hstb hL hLok hft hkeep hz hm hS1 hvt hdd htt hVL hLl
          by_cases hi0 : i = 0
          case' pos =>
            have c0 : ((i : Int) == 0) = true := by rw [hi0]; rfl
            obtain ⟨z1, z2, z3, z4⟩ := HZ.out hi0
            have k11 := rtake_any B c a0 xs st.p false 64 wr HUN.out.rq HX.out (by decide) HN.out
            obtain ⟨VI, hVI⟩ : ∃ VI : Int, VI = (tkV (bt 8 xs) (8 * xs.length) st.p 64 : Nat) := ⟨_, rfl⟩
            have v0 : 0 ≤ VI := by omega
            have v1 : VI ≤ 18446744073709551615 := by have := HVT.out; omega
            have e1 : IntKind.i64.wrap VI = S1.r.tm := by rw [z3, hVI, wrapS]
            have HSD : Hid (dd = S1.r.st) := HDT.out.1.trans z4.symm
            have HPB2 : Hid (tkP (8 * xs.length) st.p 64 = S1.p ∧ (false || tkX (8 * xs.length) st.p 64) = S1.b) := ⟨z1.symm, z2.symm⟩
            rw [← hVI, HPB2.out.1, HPB2.out.2] at k11
            have HI0 : Hid (i = 0) := hi0
            clear hi0 z1 z2 z3 z4 hVI HPB2
            go_wp2_with fail
            go_fit k11
            rintro e W ⟨rfl, hq, kq⟩
            have HU5 : Hid (Un w B F c a0 xs W (.slice av L.length cv) L st.r.fr st.r.to S1.p S1.b) := HUN.out.reader hq kq
            clear k11 hq kq HUN c2
            go_upto_region 14 with fail
            rw [HSD.out]
            clear c0 v0 v1 e1
          case' neg =>
            have c0 : ((i : Int) == 0) = false := by simp; omega
            obtain ⟨z1, z2, z3, z4⟩ := HMM.out hi0
            have k11 := rtime_any B c a0 xs st.p false wr HUN.out.rq HX.out HN.out
            obtain ⟨E, hE⟩ : ∃ E, E = tmE (bt 8 xs) (8 * xs.length) st.p := ⟨_, rfl⟩
            have e1 : IntKind.i64.wrap (dd + E) = S1.r.st := by rw [z3, hE, HDT.out.1, wrapS]
            have e2 : IntKind.i64.wrap (tt + S1.r.st) = S1.r.tm := by rw [z4, HDT.out.2, wrapS]
            have HPB2 : Hid (tmP (bt 8 xs) (8 * xs.length) st.p = S1.p ∧ tmX (bt 8 xs) (8 * xs.length) st.p false = S1.b) := ⟨z1.symm, z2.symm⟩
            rw [← hE, HPB2.out.1, HPB2.out.2] at k11
            have HI0 : Hid (¬ i = 0) := hi0
            clear hi0 z1 z2 z3 z4 hE HPB2
            go_wp2_with fail
            go_fit k11
            rintro e W ⟨rfl, hq, kq⟩
            have HU5 : Hid (Un w B F c a0 xs W (.slice av L.length cv) L st.r.fr st.r.to S1.p S1.b) := HUN.out.reader hq kq
            clear k11 hq kq HUN c2
            go_upto_region 14 with fail
            clear c0 e1 e2
          all_goals
            have k14 := rvalue_any B c a0 xs S1 W HU5.out.rq (fun g o e => Nat.lt_of_lt_of_le (HAG.out g o e) HU5.out.bl.size) HX.out HN.out HFT.out.1
            have g0 := HU5.out.f0
            have g1 := HU5.out.f1
            have g2 := HU5.out.f2
            rw [← HKE.out.2.2] at g0 g2
            rw [← HKE.out.2.1] at g1
            have HFV : Hid (S1.r.vl < 18446744073709551616) := HFT.out.2
            go_wp2_with fail
            go_fit k14
            rintro e w5 ⟨x, fr2, to2, p2, b2, rfl, rq5, kp5, hx5, hfr5, hb5, hd5⟩
            have hxo := xor_u64 S1.r.vl x HFV.out hx5
            have u5 := HU5.out.reader rq5 kp5
            have hba : Below w5.heap.size w5 (w5.alloc (.cells #[.bool (isF to2), .int .i64 (fr2 : Nat), .int .i64 (rF to2 : Nat)] 78)) := (Below.refl _ _).alloc (Nat.le_refl _) _
            have u6 := (u5.below hba).frame fr2 to2
            have hNX2 := HNX.out x fr2 to2 p2 b2 hx5 hb5 hd5
            have hBn : F < w5.heap.size := u5.lt
            have d0 := bcell2 hba u5.f0
            have d1 := bcell2 hba u5.f1
            have d2 := bcell2 hba u5.f2
            have dz := (u5.below hba).fz
            clear k14 rq5 kp5 hb5 hd5 u5 g0 g1 g2 HNX HU5 hfr5 hba hBn
            obtain ⟨W6, hW6⟩ : ∃ W6, W6 = st3 (w5.alloc (.cells #[.bool (isF to2), .int .i64 (fr2 : Nat), .int .i64 (rF to2 : Nat)] 78)) F (isF to2) (fr2 : Nat) (rF to2 : Nat) := ⟨_, rfl⟩
            have HW6 : Hid (W6 = (((w5.alloc (.cells #[.bool (isF to2), .int .i64 (fr2 : Nat), .int .i64 (rF to2 : Nat)] 78)).setCell ⟨F, 0, none⟩ (.bool (isF to2))).setCell ⟨F, 1, none⟩ (.int .i64 (fr2 : Nat))).setCell ⟨F, 2, none⟩ (.int .i64 (rF to2 : Nat))) := hW6
            rw [← hW6] at u6
            obtain ⟨XV, hXV⟩ : ∃ XV : Int, XV = ((S1.r.vl ^^^ x : Nat) : Int) := ⟨_, rfl⟩
            obtain ⟨XI, hXI⟩ : ∃ XI : Int, XI = (x : Nat) := ⟨_, rfl⟩
            rw [← hXV, ← hXI, ← HVLE.out] at hxo
            obtain ⟨vx, hvx⟩ : ∃ vx, vx = S1.r.vl ^^^ x := ⟨_, rfl⟩
            have k19 := fun W => fromBits2_any vx W
            rw [hvx, ← hXV] at k19
            rw [← hXI]
            rw [← hXV] at hNX2
            obtain ⟨sb, hsb⟩ : ∃ sb, sb = rdS (bt 8 xs) (8 * xs.length) S1 := ⟨_, rfl⟩
            rw [← hsb] at hNX2 ⊢
            obtain ⟨tm1, htm1⟩ : ∃ tm1, tm1 = S1.r.tm := ⟨_, rfl⟩
            obtain ⟨st1, hst1⟩ : ∃ st1, st1 = S1.r.st := ⟨_, rfl⟩
            have hsm : smp2 S1 x sb = if sb = true then ⟨tm1, 0, true⟩ else ⟨tm1, vx, false⟩ := by unfold smp2; rw [htm1, hvx]
            rw [hsm, ← htm1, ← hst1] at hNX2
            rw [← htm1, ← hst1]
            have HNX2 : Hid (∀ (W : World) (sv : Value), Un w B F c a0 xs W sv (L ++ [if sb = true then ⟨tm1, 0, true⟩ else ⟨tm1, vx, false⟩]) fr2 to2 p2 b2 → Ur w B F c a0 xs V (i + 1) sv (.int .u64 XV) (.int .i64 st1) (.int .i64 tm1) W) := hNX2
            have HU6 : Hid (Un w B F c a0 xs W6 (.slice av L.length cv) L fr2 to2 p2 b2) := u6
            rw [← hvx] at k19
            clear hNX2 u6 hW6 hXV hXI hvx hsb htm1 hst1 hsm hx5
            go_upto_region 16 with fail
            rw [← HW6.out]
            clear HW6 d0 d1 d2 dz
            cases sb with
            | true =>
              obtain ⟨v7, w7, r7, u7⟩ := HU6.out.push ⟨tm1, 0, true⟩ (by have := HLL.out; omega)
              have HR7 : Hid (Ur w B F c a0 xs V (i + 1) v7 (.int .u64 XV) (.int .i64 st1) (.int .i64 tm1) w7) := HNX2.out w7 v7 u7
              clear HNX2 HU6 u7 k19
              generalize L.length = ln at *
              go_wp2_with (at_builtin; refine wpList_append_run rfl (.tmp 62) (.tmp 65) 35 35 rfl _ _ rfl rfl r7 ?_)
              exact ⟨⟨i + 1, by omega, by go_num, HR7⟩, by simp [RowKit.intOf]; omega⟩
            | false =>
              obtain ⟨v7, w7, r7, u7⟩ := HU6.out.push ⟨tm1, vx, false⟩ (by have := HLL.out; omega)
              have HR7 : Hid (Ur w B F c a0 xs V (i + 1) v7 (.int .u64 XV) (.int .i64 st1) (.int .i64 tm1) w7) := HNX2.out w7 v7 u7
              clear HNX2 HU6 u7
              generalize L.length = ln at *
              go_wp2_with fail
              go_fit (k19 _)
              rintro e w6' ⟨rfl, rfl⟩
              clear k19
              go_wp2_with (at_builtin; refine wpList_append_run rfl (.tmp 67) (.tmp 72) 35 35 rfl _ _ rfl rfl r7 ?_)
              exact ⟨⟨i + 1, by omega, by go_num, HR7⟩, by simp [RowKit.intOf]; omega⟩
        · have hii : ¬ (i : Int) < (V : Int) := by omega
          have hsome : rfR xs = some L := by
            rw [hrf, show V - i = 0 by omega]
            simp [rfF]
          have k9 := rpack_any av cv L wr (Sm.of_row hun.row) hLok (by omega)
          have HBW : Hid (Below w.heap.size w wr) := hun.bl
          have HO : Hid (wr.ownsRow w.heap.size 31 3 (.slice av L.length cv) L.length (smc L)) := row_low hun.row (by have := hun.wB; have := hun.BF; omega)
          have HSOME : Hid (rfR xs = some L) := hsome
          clear hun hLok hsome hL hrf hfok hstn hstb
          unfold PkR at k9
          have HPB : Hid (pkE L = 0 → pkB L = pk (frm L)) := fun h => by unfold pkB; rw [if_pos h]
          have HPY : Hid (By (pkB L)) := pkB_by L
          have HNO : Hid (∀ w9, Below wr.heap.size wr w9 → ¬ (pkE L = 0 ∧ pk (frm L) = xs) → UpR xs w (.returned (.tuple #[.slice none 0 0, .int .i64 171])) w9) := fun w9 b9 h => up_none (HBW.out.trans (b9.mono HBW.out.size)) (rfU_no HSOME.out h)
          have HYES : Hid (∀ w9, Below wr.heap.size wr w9 → pkE L = 0 ∧ pk (frm L) = xs → UpR xs w (.returned (.tuple #[.slice av L.length cv, .int .i64 0])) w9) := fun w9 b9 h => up_some (HBW.out.trans (b9.mono HBW.out.size)) (rfU_yes HSOME.out h) (Kp.row (M := fun _ => False) (Kp.of b9) HO.out (fun _ _ => id))
          by_cases he : pkE L = 0
          · rw [he] at k9
            have hpb := HPB.out he
            have HHE : Hid (pkE L = 0) := he
            clear he HO HSOME
            go_wp2_with fail
            go_fit k9
            rintro e w9 ⟨v9, rfl, o9, b9⟩
            obtain ⟨a9, c9, rfl⟩ := row_form o9
            have c2' := bcell2 b9 c2
            have s1 := conv_im w9 a9 c9 (pkB L) (Im.of_row o9)
            have s2 := conv_im w9 a c xs (HI.out.below (HBW.out.trans (b9.mono HBW.out.size)))
            have s3 := str_eq (pkB L) xs HPY.out HX.out
            by_cases hq : pkB L = xs
            · rw [decide_eq_true hq] at s3
              have s4 : ((strOfNums (pkB L)).toList != (strOfNums xs).toList) = false := by simp [bne, s3]
              have HR : Hid _ := HYES.out w9 b9 ⟨HHE.out, hpb.symm.trans hq⟩
              clear k9 o9 b9 c2 HBW HNO HYES hpb hq
              generalize strOfNums (pkB L) = sa at *
              generalize strOfNums xs = sb at *
              generalize (pkB L).length = bl at *
              generalize L.length = ln at *
              go_wp2
              go_ret2
              exact HR.out
            · rw [decide_eq_false hq] at s3
              have s4 : ((strOfNums (pkB L)).toList != (strOfNums xs).toList) = true := by simp [bne, s3]
              have HR : Hid _ := HNO.out w9 b9 (fun h => hq (hpb.trans h.2))
              clear k9 o9 b9 c2 HBW HNO HYES hpb hq
              generalize strOfNums (pkB L) = sa at *
              generalize strOfNums xs = sb at *
              generalize (pkB L).length = bl at *
              generalize L.length = ln at *
              go_wp2
              go_ret2
              exact HR.out
          · have h1 : (pkE L != 0) = true := by simpa using he
            have h2 : (pkE L == 0) = false := by simpa using he
            have HNE : Hid (¬ (pkE L = 0 ∧ pk (frm L) = xs)) := fun h => he h.1
            clear he HO HSOME HPB HYES
            go_wp2_with fail
            go_fit k9
            rintro e w9 ⟨v9, rfl, o9, b9⟩
            obtain ⟨a9, c9, rfl⟩ := row_form o9
            have c2' := bcell2 b9 c2
            have HR : Hid _ := HNO.out w9 b9 HNE.out
            clear k9 o9 b9 c2 HBW HNO HNE
            generalize (pkB L).length = bl at *
            generalize L.length = ln at *
            generalize pkE L = pe at *
            go_wp2
            go_ret2
            exact HR.out
end Go.Proofs.YtedlmjieclaojabDoor
