/- RxtreeQuotes: the walk. -/
import Derived.Test.YtajaadagejhllaaGreatDoorZg
import Derived.Test.YtajaadagejhllaaGreatDoorBs34
namespace Go.Proofs.YtajaadagejhllaaGreatDoor
open Go.RowKit Go.Lib

theorem rns_nn (s : ByteArray) : ∀ (f i : Nat), ∀ x ∈ rns s f i, 0 ≤ x
  | 0, _, x, h => by simp [rns] at h
  | f + 1, i, x, h => by
    unfold rns at h
    split at h
    · rcases List.mem_cons.1 h with rfl | h
      · omega
      · exact rns_nn s f _ x h
    · simp at h
theorem quB_ge (s : ByteArray) : ∀ i, i ≤ (quB s i).size
  | 0 => Nat.zero_le _
  | i + 1 => by
    have := quB_ge s i
    rw [quB_step]
    have : 1 ≤ (qtB (s.get! i)).size := by
      unfold qtB
      split
      · show 1 ≤ 2; omega
      · exact Nat.le_refl 1
    omega
abbrev runS (s : ByteArray) : List Int := rns s s.size 0
theorem parse_q (s : ByteArray) (w : World) (hq : (quB s s.size).size ≤ 4096) (hv : vld s s.size 0 = true) (hT : Lib.Utf8Tabs 2 3 w) :
    Calls Tryz.prog 9 #[.string (quB s s.size)] w fun e w' => ∃ t, RwT (fun i => (runS s).getD i 0) (runS s).length t ∧ e = .returned (.tuple #[ndV (t []), .int .i64 0]) ∧ Nw w.heap.size w' t ∧ Below w.heap.size w w' := by
  have hsz := tabs_size hT
  have hb2 : Below w.heap.size w ((w.alloc (ndX zN)).alloc (erX 0)) := two_below _ _
  obtain ⟨qv, qe⟩ := quoted hv
  have hl : ((runS s).flatMap qr).length ≤ 4096 := by
    have := rns_len (quB s s.size) (quB s s.size).size 0
    rw [qe] at this
    show (List.flatMap qr (rns s s.size 0)).length ≤ 4096
    omega
  have hn : (runS s).length ≤ 4096 := by
    have h1 := rns_len s s.size 0
    have h2 := quB_ge s s.size
    show (rns s s.size 0).length ≤ 4096
    omega
  refine parse_gen w (parsed_gen (R := (runS s).flatMap qr) (s' := sP (psQ (runS s) (runS s).length)) _ hq (fun W hb => ?_) (exp_q (runS s) (rns_nn s _ _) hl hn) (ahR_e _) ?_)
  · have := ruc_any (s := quB s s.size) (W := W) (by omega) (tabs_below hT hsz (hb2.trans (hb.mono hb2.size))) qv
    rw [qe] at this
    exact this
  · show psQ (runS s) (runS s).length ≤ 5000
    rw [psQ_end]
    omega
/-- A step of the walk over a text's runes. -/
theorem run_step {s : ByteArray} {pos i : Nat} (hp : pos < s.size) (hv : vld s s.size pos = true) (hr : rns s s.size pos = (runS s).drop i) :
    (nxt s pos).1 = (runS s).getD i 0 ∧ (nxt s pos).2 = (((Utf8.decode s pos).2 : Nat) : Int) ∧ i < (runS s).length ∧ vld s s.size (pos + (Utf8.decode s pos).2) = true ∧ rns s s.size (pos + (Utf8.decode s pos).2) = (runS s).drop (i + 1) ∧ 1 ≤ (Utf8.decode s pos).2 ∧ pos + (Utf8.decode s pos).2 ≤ s.size := by
  have hw := decode_width s pos
  have hd := dec_size s pos hp
  obtain ⟨f, hf⟩ : ∃ f, s.size = f + 1 := ⟨s.size - 1, by omega⟩
  have hv' := hv
  rw [hf] at hv'
  obtain ⟨hg, hv2⟩ := (vld_step s f pos hp).1 hv'
  have hz : (nxt s pos).2 ≠ 0 := (good_iff s pos hp).1 hg
  obtain ⟨e2, e1⟩ := nxt_width s pos hz
  have hr' := hr
  rw [rns_fuel s s.size (f + 1) pos (by omega) (by omega), rns, if_pos hp] at hr'
  have hi : i < (runS s).length := by
    rcases Nat.lt_or_ge i (runS s).length with h | h
    · exact h
    · rw [List.drop_eq_nil_of_le h] at hr'
      cases hr'
  rw [List.drop_eq_getElem_cons hi] at hr'
  obtain ⟨h1, h2⟩ := List.cons.inj hr'
  refine ⟨?_, e2, hi, ?_, ?_, hw.1, hd⟩
  · rw [e1, h1, List.getD_eq_getElem?_getD, List.getElem?_eq_getElem hi]
    rfl
  · rw [vld_fuel s s.size f _ (by omega) (by omega)]
    exact hv2
  · rw [rns_fuel s s.size f _ (by omega) (by omega)]
    exact h2
theorem run_end {s : ByteArray} {pos i : Nat} (hp : ¬ pos < s.size) (hr : rns s s.size pos = (runS s).drop i) (hi : i ≤ (runS s).length) : i = (runS s).length := by
  rw [rns_end s _ _ hp] at hr
  have := congrArg List.length hr
  simp at this
  omega
theorem kids_q {n G c w0 : Nat} {w : World} {x : Nat → Int} (hn : 2 ≤ n) (h : Nw w0 w (topT (jnN 4 G n c) (fun j => ltT (x j)))) : G < w.heap.size ∧ ∀ j, j < n → Cs w G (j * 9) (ltN (x j)) := by
  have h1 := (h 1).2.2.1
  rcases h1 with h0 | ⟨g, o, e, hg, hc⟩
  · have : n = 0 := h0
    omega
  · cases e
    refine ⟨hg.2, fun j hj => ?_⟩
    have := hc j hj
    rw [Nat.zero_add] at this
    exact this
abbrev jnX (G n c : Nat) : Obj := .cells #[.int .i64 4, .int .i32 0, .slice none 0 0, .int .i64 0, .int .i64 0, .bool false, .int .i64 0, .string ⟨#[]⟩, .slice (some ⟨G, 0, none⟩) n c] 25
/-- Where the walk over the runes stands. -/
def RnP (s : ByteArray) (i pos : Nat) : Prop := pos ≤ s.size ∧ i ≤ (runS s).length ∧ vld s s.size pos = true ∧ rns s s.size pos = (runS s).drop i
set_option maxRecDepth 100000 in
set_option maxHeartbeats 8000000 in
theorem quotes_walk (s : ByteArray) (w : World) (hs : s.size ≤ 35184372088832) (hA : TbA w.heap.size w) (hT : Lib.Utf8Tabs 2 3 w) : Calls Tryz.prog 6 #[.string s] w fun e w' => e = .returned (.bool true) ∧ Below w.heap.size w w' := by
  have hsI : (s.size : Int) ≤ 35184372088832 := by omega
  have HTB : Hid (∀ W, Below w.heap.size w W → Lib.Utf8Tabs 2 3 W) := fun W b => tabs_below hT (tabs_size hT) b
  have HSM : Hid (s.size ≤ maxLen) := by unfold Hid maxLen; omega
  have k1 := alive_any w hA
  clear hA hT
  go_enter Tryz.func6, Tryz.ntmps6
  go_wp2_with fail
  go_fit k1
  rintro e w1 ⟨rfl, b1⟩
  have k2 := quote_any s w1 hs
  obtain ⟨q, hq⟩ : ∃ q, q = quB s s.size := ⟨_, rfl⟩
  rw [← hq] at k2
  have HQ : Hid (q = quB s s.size) := hq
  clear hq
  have HB1 : Hid (Below w.heap.size w w1) := b1
  clear k1 b1
  go_wp2_with fail
  go_fit k2
  rintro e w2 ⟨rfl, b2⟩
  have k3 := rquote_any s w2 hs
  rw [← HQ.out] at k3
  have HB2 : Hid (Below w.heap.size w w2) := HB1.out.trans (b2.mono HB1.out.size)
  clear k2 b2 HB1
  go_wp2_with fail
  go_fit k3
  rintro e w3 ⟨rfl, b3⟩
  have HB3 : Hid (Below w.heap.size w w3) := HB2.out.trans (b3.mono HB2.out.size)
  clear k3 b3 HB2
  by_cases hl : q.size ≤ 4096
  · have hlI : ¬ (4096 : Int) < (q.size : Int) := by omega
    have k4 := rvalid1_any s w3 hs
    by_cases hv : vld s s.size 0 = true
    · rw [hv] at k4
      go_wp2_with fail
      go_fit k4
      rintro e w4 ⟨rfl, b4⟩
      have HB4 : Hid (Below w.heap.size w w4) := HB3.out.trans (b4.mono HB3.out.size)
      have k5 := parse_q s w4 (by rw [← HQ.out]; exact hl) hv (HTB.out _ HB4.out)
      rw [← HQ.out] at k5
      have HR0 : Hid (RnP s 0 0) := ⟨Nat.zero_le _, Nat.zero_le _, hv, rfl⟩
      clear k4 b4 HB3 HQ hv
      go_wp2_with fail
      go_fit k5
      rintro e w5 ⟨t, ht, rfl, hn5, b5⟩
      have HB5 : Hid (Below w.heap.size w w5) := HB4.out.trans (b5.mono HB4.out.size)
      clear k5 b5 HB4
      obtain ⟨x, hx⟩ : ∃ x : Nat → Int, x = fun i => (runS s).getD i 0 := ⟨_, rfl⟩
      obtain ⟨N, hN⟩ : ∃ N, N = (runS s).length := ⟨_, rfl⟩
      rw [← hx, ← hN] at ht
      have HX : Hid (∀ i, (runS s).getD i 0 = x i) := fun i => by rw [hx]
      have HN : Hid ((runS s).length = N) := hN.symm
      clear hx hN
      rcases ht with ⟨h0, rfl⟩ | ⟨h1, rfl⟩ | ⟨h2, G, c, rfl⟩
      · have hs0 : s.size = 0 := by
          rcases Nat.eq_zero_or_pos s.size with h | h
          · exact h
          · exfalso
            have := (run_step h HR0.out.2.2.1 HR0.out.2.2.2).2.2.1
            have := HN.out
            omega
        have hs1 : ¬ (0 : Int) < (s.size : Int) := by omega
        have k6 := same_leaf 1 0 (w5.alloc (lfX 1 0))
        have HB6 : Hid (Below w.heap.size w (w5.alloc (lfX 1 0))) := HB5.out.alloc HB5.out.size _
        clear hn5 HB5
        go_wp2_with fail
        go_loopw [6, 7] (fun t u w' => t = .int .i64 0 ∧ u = .int .i64 0 ∧ w' = w5.alloc (lfX 1 0)) (fun _ _ _ => 0)
        case atStart => exact ⟨rfl, rfl, rfl⟩
        case round =>
          obtain ⟨rfl, rfl, rfl⟩ := hrel
          go_wp2_with fail
          go_fit k6
          rintro e w7 ⟨rfl, b7⟩
          have HF : Hid (Below w.heap.size w w7) := HB6.out.trans (b7.mono HB6.out.size)
          clear k6 b7
          go_wp2
          go_ret
          exact ⟨rfl, HF.out⟩
      · subst h1
        have HC0 : Hid (Cs (w5.alloc (lfX 2 (x 0))) w5.heap.size 0 (ltN (x 0))) := cells_ndX (w := w5) (ltN (x 0))
        have HB6 : Hid (Below w.heap.size w (w5.alloc (lfX 2 (x 0)))) := HB5.out.alloc HB5.out.size _
        have HLT : Hid (w5.heap.size < (w5.alloc (lfX 2 (x 0))).heap.size) := by unfold Hid; simp
        clear hn5 HB5
        go_wp2_with fail
        go_loopw [6, 7] (fun t u w' => ∃ i pos : Nat, t = .int .i64 (i : Int) ∧ u = .int .i64 (pos : Int) ∧ i ≤ 1 ∧ pos ≤ s.size ∧ Hid (RnP s i pos) ∧ Hid (Below (w5.alloc (lfX 2 (x 0))).heap.size (w5.alloc (lfX 2 (x 0))) w')) (fun _ u _ => s.size - (RowKit.intOf u).toNat)
        case atStart => exact ⟨0, 0, rfl, rfl, by omega, Nat.zero_le _, HR0, Below.refl _ _⟩
        case round =>
          obtain ⟨i, pos, rfl, rfl, hi, hp, HR, HW⟩ := hrel
          by_cases hlt : pos < s.size
          · have hii : (pos : Int) < (s.size : Int) := by omega
            obtain ⟨s1, s2, s3, s4, s5, s6, s7⟩ := run_step hlt HR.out.2.2.1 HR.out.2.2.2
            rw [HN.out] at s3
            obtain rfl : i = 0 := by omega
            have kN := rnext_any s (pos : Int) wr HSM.out
            rw [nxtZ_nat, s1, s2, HX.out 0] at kN
            have HRN : Hid (RnP s (0 + 1) (pos + (Utf8.decode s pos).2)) := ⟨s7, by have := HN.out; omega, s4, s5⟩
            obtain ⟨K, hK⟩ : ∃ K, K = (Utf8.decode s pos).2 := ⟨_, rfl⟩
            rw [← hK] at kN HRN s6 s7
            have hadd : IntKind.i64.wrap ((pos : Int) + (K : Int)) = ((pos + K : Nat) : Int) := by rw [IntKind.wrap_i64]; omega
            clear hK s1 s2 s3 s4 s5
            go_wp2_with fail
            go_fit kN
            rintro e w7 ⟨rfl, b7⟩
            have b67 : Below (w5.alloc (lfX 2 (x 0))).heap.size (w5.alloc (lfX 2 (x 0))) w7 := HW.out.trans (b7.mono HW.out.size)
            have cB := HC0.out.below b67 HLT.out
            have q0 : w7.cell? ⟨w5.heap.size, 0, none⟩ = some (.int .i64 2) := cB.c0
            have q1 : w7.cell? ⟨w5.heap.size, 1, none⟩ = some (.int .i32 (x 0)) := cB.c1
            have q2 : w7.cell? ⟨w5.heap.size, 2, none⟩ = some (.slice none 0 0) := cB.c2
            have q3 : w7.cell? ⟨w5.heap.size, 3, none⟩ = some (.int .i64 0) := cB.c3
            have q4 : w7.cell? ⟨w5.heap.size, 4, none⟩ = some (.int .i64 0) := cB.c4
            have q5 : w7.cell? ⟨w5.heap.size, 5, none⟩ = some (.bool false) := cB.c5
            have q6 : w7.cell? ⟨w5.heap.size, 6, none⟩ = some (.int .i64 0) := cB.c6
            have q7 : w7.cell? ⟨w5.heap.size, 7, none⟩ = some (.string ⟨#[]⟩) := cB.c7
            have q8 : w7.cell? ⟨w5.heap.size, 8, none⟩ = some (.slice none 0 0) := cB.c8
            have ba : Below w7.heap.size w7 (w7.alloc (lfX 2 (x 0))) := (Below.refl _ _).alloc (Nat.le_refl _) _
            have p0 : (w7.alloc (lfX 2 (x 0))).cell? ⟨w5.heap.size, 0, none⟩ = some (.int .i64 2) := (ba.cell (p := ⟨w5.heap.size, 0, none⟩) (World.block_lt_of_cell? w7 _ q0)).trans q0
            have k8 := same_leaf 2 (x 0) (w7.alloc (lfX 2 (x 0)))
            have HNW : Hid (∀ w8, Below (w7.alloc (lfX 2 (x 0))).heap.size (w7.alloc (lfX 2 (x 0))) w8 → Below (w5.alloc (lfX 2 (x 0))).heap.size (w5.alloc (lfX 2 (x 0))) w8) := fun w8 b8 => by
              have b78 : Below w7.heap.size w7 w8 := ba.trans (b8.mono ba.size)
              exact b67.trans (b78.mono b67.size)
            clear kN b7 b67 cB ba HR HW
            go_wp2_with fail
            go_fit k8
            rintro e w8 ⟨rfl, b8⟩
            have HW8 : Hid _ := HNW.out w8 b8
            clear k8 b8 HNW q0 q1 q2 q3 q4 q5 q6 q7 q8 p0
            go_wp2
            exact ⟨⟨1, pos + K, rfl, rfl, by omega, s7, HRN, HW8⟩, by simp [RowKit.intOf]; omega⟩
          · have hii : ¬ (pos : Int) < (s.size : Int) := by omega
            have hi1 := run_end hlt HR.out.2.2.2 HR.out.2.1
            rw [HN.out] at hi1
            subst hi1
            have cB := HC0.out.below HW.out HLT.out
            have q0 : wr.cell? ⟨w5.heap.size, 0, none⟩ = some (.int .i64 2) := cB.c0
            have q8 : wr.cell? ⟨w5.heap.size, 8, none⟩ = some (.slice none 0 0) := cB.c8
            have HF : Hid (Below w.heap.size w wr) := HB6.out.trans (HW.out.mono HB6.out.size)
            clear HR HW cB
            go_wp2
            go_ret
            exact ⟨rfl, HF.out⟩
      · have HC0 : Hid (Cs (w5.alloc (jnX G N c)) w5.heap.size 0 (jnN 4 G N c)) := cells_ndX (w := w5) (jnN 4 G N c)
        have hNb : N ≤ 35184372088832 := by rw [← HN.out]; exact Nat.le_trans (rns_len s s.size 0) hs
        have HKD : Hid (G < w5.heap.size ∧ ∀ j, j < N → Cs w5 G (j * 9) (ltN (x j))) := kids_q h2 hn5
        have HB6 : Hid (Below w.heap.size w (w5.alloc (jnX G N c))) := HB5.out.alloc HB5.out.size _
        have HLT : Hid (w5.heap.size < (w5.alloc (jnX G N c)).heap.size) := by unfold Hid; simp
        clear hn5 HB5
        go_wp2_with fail
        go_loopw [6, 7] (fun t u w' => ∃ i pos : Nat, t = .int .i64 (i : Int) ∧ u = .int .i64 (pos : Int) ∧ i ≤ N ∧ pos ≤ s.size ∧ Hid (RnP s i pos) ∧ Hid (Below (w5.alloc (jnX G N c)).heap.size (w5.alloc (jnX G N c)) w')) (fun _ u _ => s.size - (RowKit.intOf u).toNat)
        case atStart => exact ⟨0, 0, rfl, rfl, by omega, Nat.zero_le _, HR0, Below.refl _ _⟩
        case round =>
          obtain ⟨i, pos, rfl, rfl, hi, hp, HR, HW⟩ := hrel
          by_cases hlt : pos < s.size
          · have hii : (pos : Int) < (s.size : Int) := by omega
            obtain ⟨s1, s2, s3, s4, s5, s6, s7⟩ := run_step hlt HR.out.2.2.1 HR.out.2.2.2
            rw [HN.out] at s3
            have hiN : (i : Int) < (N : Int) := by omega
            have hbN : 0 ≤ (i : Int) ∧ (i : Int) < (N : Int) := by omega
            have kN := rnext_any s (pos : Int) wr HSM.out
            rw [nxtZ_nat, s1, s2, HX.out i] at kN
            have HRN : Hid (RnP s (i + 1) (pos + (Utf8.decode s pos).2)) := ⟨s7, by have := HN.out; omega, s4, s5⟩
            obtain ⟨K, hK⟩ : ∃ K, K = (Utf8.decode s pos).2 := ⟨_, rfl⟩
            rw [← hK] at kN HRN s6 s7
            have hadd : IntKind.i64.wrap ((pos : Int) + (K : Int)) = ((pos + K : Nat) : Int) := by rw [IntKind.wrap_i64]; omega
            obtain ⟨X, hX⟩ : ∃ X, X = x i := ⟨_, rfl⟩
            rw [← hX] at kN
            have HXX : Hid (x i = X) := hX.symm
            clear hK s1 s2 s4 s5 hX
            go_wp2_with fail
            go_fit kN
            rintro e w7 ⟨rfl, b7⟩
            have b67 : Below (w5.alloc (jnX G N c)).heap.size (w5.alloc (jnX G N c)) w7 := HW.out.trans (b7.mono HW.out.size)
            have cB := HC0.out.below b67 HLT.out
            have q0 : w7.cell? ⟨w5.heap.size, 0, none⟩ = some (.int .i64 4) := cB.c0
            have q1 : w7.cell? ⟨w5.heap.size, 1, none⟩ = some (.int .i32 0) := cB.c1
            have q2 : w7.cell? ⟨w5.heap.size, 2, none⟩ = some (.slice none 0 0) := cB.c2
            have q3 : w7.cell? ⟨w5.heap.size, 3, none⟩ = some (.int .i64 0) := cB.c3
            have q4 : w7.cell? ⟨w5.heap.size, 4, none⟩ = some (.int .i64 0) := cB.c4
            have q5 : w7.cell? ⟨w5.heap.size, 5, none⟩ = some (.bool false) := cB.c5
            have q6 : w7.cell? ⟨w5.heap.size, 6, none⟩ = some (.int .i64 0) := cB.c6
            have q7 : w7.cell? ⟨w5.heap.size, 7, none⟩ = some (.string ⟨#[]⟩) := cB.c7
            have q8 : w7.cell? ⟨w5.heap.size, 8, none⟩ = some (.slice (some ⟨G, 0, none⟩) N c) := cB.c8
            have ba : Below w7.heap.size w7 (w7.alloc (jnX G N c)) := (Below.refl _ _).alloc (Nat.le_refl _) _
            have p0 : (w7.alloc (jnX G N c)).cell? ⟨w5.heap.size, 0, none⟩ = some (.int .i64 4) := (ba.cell (p := ⟨w5.heap.size, 0, none⟩) (World.block_lt_of_cell? w7 _ q0)).trans q0
            have p8 : (w7.alloc (jnX G N c)).cell? ⟨w5.heap.size, 8, none⟩ = some (.slice (some ⟨G, 0, none⟩) N c) := (ba.cell (p := ⟨w5.heap.size, 8, none⟩) (World.block_lt_of_cell? w7 _ q8)).trans q8
            have b57 : Below w5.heap.size w5 (w7.alloc (jnX G N c)) := by
              have b5a : Below w5.heap.size w5 (w5.alloc (jnX G N c)) := (Below.refl _ _).alloc (Nat.le_refl _) _
              have b57' := b5a.trans (b67.mono b5a.size)
              exact b57'.trans (ba.mono b57'.size)
            have cK := (HKD.out.2 i s3).below b57 HKD.out.1
            rw [HXX.out] at cK
            have d0 : (w7.alloc (jnX G N c)).cell? ⟨G, i * 9, none⟩ = some (.int .i64 2) := cK.c0
            have d1 : (w7.alloc (jnX G N c)).cell? ⟨G, i * 9 + 1, none⟩ = some (.int .i32 X) := cK.c1
            have d2 : (w7.alloc (jnX G N c)).cell? ⟨G, i * 9 + 2, none⟩ = some (.slice none 0 0) := cK.c2
            have d3 : (w7.alloc (jnX G N c)).cell? ⟨G, i * 9 + 3, none⟩ = some (.int .i64 0) := cK.c3
            have d4 : (w7.alloc (jnX G N c)).cell? ⟨G, i * 9 + 4, none⟩ = some (.int .i64 0) := cK.c4
            have d5 : (w7.alloc (jnX G N c)).cell? ⟨G, i * 9 + 5, none⟩ = some (.bool false) := cK.c5
            have d6 : (w7.alloc (jnX G N c)).cell? ⟨G, i * 9 + 6, none⟩ = some (.int .i64 0) := cK.c6
            have d7 : (w7.alloc (jnX G N c)).cell? ⟨G, i * 9 + 7, none⟩ = some (.string ⟨#[]⟩) := cK.c7
            have d8 : (w7.alloc (jnX G N c)).cell? ⟨G, i * 9 + 8, none⟩ = some (.slice none 0 0) := cK.c8
            have k8 := same_leaf 2 X (w7.alloc (lfX 2 X))
            have HNW : Hid (∀ w8, Below (w7.alloc (lfX 2 X)).heap.size (w7.alloc (lfX 2 X)) w8 → Below (w5.alloc (jnX G N c)).heap.size (w5.alloc (jnX G N c)) w8) := fun w8 b8 => by
              have bc : Below w7.heap.size w7 (w7.alloc (lfX 2 X)) := (Below.refl _ _).alloc (Nat.le_refl _) _
              have b78 : Below w7.heap.size w7 w8 := bc.trans (b8.mono bc.size)
              exact b67.trans (b78.mono b67.size)
            clear kN b7 b67 b57 cB cK ba HR HW
            go_wp2_with fail
            go_fit k8
            rintro e w8 ⟨rfl, b8⟩
            have HW8 : Hid _ := HNW.out w8 b8
            clear k8 b8 HNW q0 q1 q2 q3 q4 q5 q6 q7 q8 p0 p8 d0 d1 d2 d3 d4 d5 d6 d7 d8
            go_wp2
            exact ⟨⟨i + 1, pos + K, by go_num, rfl, by omega, s7, HRN, HW8⟩, by simp [RowKit.intOf]; omega⟩
          · have hii : ¬ (pos : Int) < (s.size : Int) := by omega
            have hi1 := run_end hlt HR.out.2.2.2 HR.out.2.1
            rw [HN.out] at hi1
            subst hi1
            have e0 : ((i : Int) == 0) = false := by simp; omega
            have e1 : ((i : Int) == 1) = false := by simp; omega
            have cB := HC0.out.below HW.out HLT.out
            have q0 : wr.cell? ⟨w5.heap.size, 0, none⟩ = some (.int .i64 4) := cB.c0
            have q8 : wr.cell? ⟨w5.heap.size, 8, none⟩ = some (.slice (some ⟨G, 0, none⟩) i c) := cB.c8
            have HF : Hid (Below w.heap.size w wr) := HB6.out.trans (HW.out.mono HB6.out.size)
            clear HR HW cB
            go_wp2
            go_ret
            exact ⟨rfl, HF.out⟩
    · have hv' : vld s s.size 0 = false := by simpa using hv
      rw [hv'] at k4
      clear hv hv'
      go_wp2_with fail
      go_fit k4
      rintro e w4 ⟨rfl, b4⟩
      have HB4 : Hid (Below w.heap.size w w4) := HB3.out.trans (b4.mono HB3.out.size)
      clear k4 b4
      go_wp2
      go_ret
      exact ⟨rfl, HB4.out⟩
  · have hlI : (4096 : Int) < (q.size : Int) := by omega
    go_wp2
    go_ret
    exact ⟨rfl, HB3.out⟩
end Go.Proofs.YtajaadagejhllaaGreatDoor
