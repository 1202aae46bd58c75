/- The reference's Run. -/
import Derived.Test.YtnpgkiidpeaapaaDoorRa
import Derived.Test.YtnpgkiidpeaapaaDoorAw
import Derived.Test.YtnpgkiidpeaapaaDoorFd
import Derived.Test.YtnpgkiidpeaapaaDoorRefNext
import Derived.Deep.Cut
import Derived.Deep.RegionHeld3
namespace Go.Proofs.YtnpgkiidpeaapaaDoor
open Go.RowKit

theorem RS.more {w w1 : World} {S sB sC m tB T vB vC N n L : Nat} {φ : Nat → Fr} {tf : Nat → Bool} {sl : Nat → Int} {st : List Fr} (h : RS w S sB sC m tB T vB vC N φ tf sl) (hE : EncF n L m φ N st) (hb : Below S w1 w) (f : Fr) (a0 a1 a2 a3 : Value) (hf : f4 f = [a0, a1, a2, a3]) (hok : okF n L m f) (hN : (st.length + 1) * 32 ≤ 140737488355328) :
    ∃ g c w', (Builtin.append_ #[47, 47] 47 #[.slice (some ⟨vB, 0, none⟩) N vC, .slice (some ⟨w.heap.size, 0, none⟩) 1 1]).run Tryd.prog (w.alloc (.cells #[a0, a1, a2, a3] 46)) = .ok (.slice (some ⟨g, 0, none⟩) (N + 1) c) w' ∧ RS w' S sB sC m tB T g c (N + 1) (up φ N f) tf sl ∧ EncF n L m (up φ N f) (N + 1) (f :: st) ∧ Below S w1 w' ∧ Kp (· = vB) w w' := by
  obtain ⟨g, c, w', r, R, kp⟩ := h.push f a0 a1 a2 a3 hf (by rw [hE.len]; exact hN)
  exact ⟨g, c, w', r, R, hE.push f hok, hb.trans (kp.below h.hS (fun q hq e => by have := h.lts; omega)), kp⟩
theorem mul32 (L M : Nat) (e : M = L + 1) (h : (L + 4) * 32 ≤ 140737488355328) : (M + 1) * 32 ≤ 140737488355328 := by omega
theorem len33 {st : List Fr} (h : (st.length + 4) * 32 ≤ 140737488355328) (f : Fr) : ((f :: st : List Fr).length + 1) * 32 ≤ 140737488355328 := mul32 st.length (f :: st).length List.length_cons h
theorem len31 {st : List Fr} (h : (st.length + 4) * 32 ≤ 140737488355328) : (st.length + 1) * 32 ≤ 140737488355328 := by omega
theorem append_i (w : World) (S : Nat) (v : Value) (k : Nat) (F : Nat → Int) (z : Int) (hS : S ≤ w.heap.size) (hk : (k + 1) * 8 ≤ 140737488355328) (o : w.ownsRow S 3 1 v k (sc (slc F) k)) :
    ∃ g c w', (Builtin.append_ #[31, 31] 31 #[v, .slice (some ⟨w.heap.size, 0, none⟩) 1 1]).run Tryd.prog (w.alloc (.cells #[.int .i64 z] 3)) = .ok (.slice (some ⟨g, 0, none⟩) (k + 1) c) w' ∧ Ri w' S g c (k + 1) (upd F k z) ∧ Kp (fun q => v.ownBlock = some q) w w' := by
  obtain ⟨i0, hi, hz0, hz1, hz2⟩ := info_parts infI
  have o0 := World.ownsRow.alloc o (.cells #[.int .i64 z] 3)
  obtain ⟨v', w', r, o', g, _, h5⟩ := run_append_own_at (P := Tryd.prog) (w.alloc (.cells #[.int .i64 z] 3)) S 31 31 3 i0 (.int .i64 0) 1 8 Tryd.underlying31 hi hz0 hz1 hz2 rfl (by decide) _ k (sc (slc F) k) o0 ⟨w.heap.size, 0, none⟩ 1 1 [.int .i64 z] (by rfl)
    (fun j u hj => by
      rw [Go.WideShapes.add_plain, Nat.zero_add, cell_of_row _ w.heap.size j #[.int .i64 z] 3 (0, 0) (heap_alloc_new w _)]
      simpa using hj) (by intro u hu; simp at hu; subst hu; rfl) (by unfold maxLen; omega) hk (by simp; omega)
  have es : sc (slc F) k ++ [.int .i64 z] = sc (slc (upd F k z)) (k + 1) := by
    have e1 : sc (slc (upd F k z)) k = sc (slc F) k := slc_congr _ _ _ fun i hi => by unfold upd; rw [if_neg (by omega)]
    have e2 : slc (upd F k z) k = .int .i64 z := by unfold slc upd; rw [if_pos rfl]
    rw [sc_succ, e1, e2]
  rw [es] at o'
  rcases o'.2 with ⟨_, h0⟩ | ⟨G, C, cur, rfl, _⟩
  · omega
  · exact ⟨G, C, w', r, o', ((Kp.refl _ w).alloc _).grown g (fun q hq _ => hq)⟩
theorem make_b (w : World) (S T : Nat) (hS : S ≤ w.heap.size) (hT : T ≤ 281474976710656) : ∃ w', (Instr.makeSlice 44 (.int .i64 (T : Int)) (.int .i64 (T : Int))).run Tryd.prog w = .ok (.slice (some ⟨w.heap.size, 0, none⟩) T T) w' ∧ w'.ownsRow S 4 1 (.slice (some ⟨w.heap.size, 0, none⟩) T T) T (sc (fun _ => .bool false) T) ∧ Below w.heap.size w w' := by
  obtain ⟨i0, hi, hz0, hz1, hz2⟩ := info_parts inf4
  obtain ⟨w1, r, o, g⟩ := run_make_full (P := Tryd.prog) w S 44 4 i0 (.bool false) 1 Tryd.underlying44 hi hz0 hz1 .i64 .i64 T (by rw [hz2]; omega) (by unfold maxLen; omega) hS
  refine ⟨w1, r, ?_, (Below.refl _ w).grown g (Nat.le_refl _) (fun k hk => by cases hk)⟩
  rw [← made_sc]
  exact o
set_option maxHeartbeats 6000000 in
set_option maxRecDepth 100000 in
theorem rrun_any (ia : Option Addr) (n ic : Nat) (st gr : Int) (na : Option Addr) (nn nc : Nat) (x : Nat → In) (s : ByteArray) (w : World) (hI : Nml w ia x n) (hn : n ≤ 1152921504606846976) (hnn : nn ≤ 1152921504606846976) (hs : s.size ≤ 2097152) :
    Calls Tryd.prog 7 #[prV ia n ic st gr na nn nc, .string s] w fun e w' => ∃ r v, Fd x n st gr nn s r ∧ e = .returned v ∧ Own w.heap.size w' v (fin s gr r) ∧ Below w.heap.size w w' := by
  obtain ⟨W, hW⟩ : ∃ W, W = w.alloc (prX ia n ic st gr na nn nc) := ⟨_, rfl⟩
  have b0 : Below w.heap.size w W := by rw [hW]; exact (Below.refl _ w).alloc (Nat.le_refl _) _
  have kS := rSound_any ia n ic st gr na nn nc x W (hI.below b0) hn hnn
  have hWs : W.heap.size = w.heap.size + 1 := by rw [hW]; simp
  have HI : Hid (Nml w ia x n) := hI
  obtain ⟨p0, p1, p2, p3⟩ := prX_cells (w := w) (W := W) ia n ic st gr na nn nc (by rw [hW]; exact Below.refl _ _)
  rw [hW] at kS
  clear hI
  cases hsd : SdB x n st gr nn with
  | false =>
    rw [hsd] at kS
    have HF : Hid (Fd x n st gr nn s none) := .inl ⟨hsd, rfl⟩
    clear hsd
    go_enter Tryd.func7, Tryd.ntmps7
    go_wp2_with fail
    go_fit kS
    rintro e w1 ⟨rfl, b1⟩
    rw [← hW] at b1
    go_wp2
    go_ret
    exact ⟨none, _, HF.out, rfl, own_nil _ _, b0.trans (b1.mono b0.size)⟩
  | true =>
    rw [hsd] at kS
    obtain ⟨q1, q2, q3, q4, q5, q6⟩ := SdB_SIn hsd
    have HSD : Hid (SdB x n st gr nn = true) := hsd
    have HQ : Hid (∀ j, j < n → SIn (x j) n gr) := q6
    obtain ⟨s0, hs0⟩ : ∃ s0 : Nat, st = (s0 : Int) := ⟨st.toNat, by omega⟩
    subst hs0
    clear hsd q6
    have hsi : (s.size : Int) ≤ 2097152 := by omega
    obtain ⟨m, hm⟩ : ∃ m : Nat, (m : Int) = 2 * (gr + 1) := ⟨(2 * (gr + 1)).toNat, by omega⟩
    have HM : Hid ((m : Int) = 2 * (gr + 1)) := hm
    have hm1 : 2 ≤ m ∧ m ≤ 202 := by omega
    obtain ⟨T, hT⟩ : ∃ T, T = n * (s.size + 1) := ⟨_, rfl⟩
    have HT : Hid (T = n * (s.size + 1)) := hT
    have hTi : (n : Int) * ((s.size : Int) + 1) = (T : Int) := by rw [hT, Int.natCast_mul]; rfl
    have hTb : T ≤ 20971530000 := by
      rw [hT]
      have : n * (s.size + 1) ≤ 10000 * 2097153 := Nat.mul_le_mul q1 (by omega)
      omega
    have hni : (n : Int) ≤ 10000 := by omega
    have hTbi : (T : Int) ≤ 20971530000 := by omega
    have hT0 : 0 ≤ (n : Int) * ((s.size : Int) + 1) := by omega
    have hTbn : (n : Int) * ((s.size : Int) + 1) ≤ 20971530000 := by omega
    have HTI : Hid ((n : Int) * ((s.size : Int) + 1) = (T : Int)) := hTi
    clear hT hTi
    go_enter Tryd.func7, Tryd.ntmps7
    go_wp2_with fail
    go_fit kS
    rintro e w1 ⟨rfl, b1⟩
    rw [← hW] at b1
    have b1' : Below w.heap.size w w1 := b0.trans (b1.mono b0.size)
    have hI1 : Hid (Nml w1 ia x n) := HI.out.below b1'
    have g0 := bcell2 b1 p0
    have g1 := bcell2 b1 p1
    have g2 := bcell2 b1 p2
    have hlt1 : w.heap.size < w1.heap.size := World.block_lt_of_cell? w1 _ g0
    clear kS p0 p1 p2 p3 HI
    go_wp2_with fail
    go_loopg [5, 6] m (fun g s5 s6 W => ∃ k : Nat, k + g = m ∧ s6 = .int .i64 (k : Int) ∧ Hid (W.ownsRow w1.heap.size 3 1 s5 k (sc (slc fun _ => -1) k)) ∧ Below w1.heap.size w1 W ∧ Hid (0 < k → ∃ gg c, s5 = .slice (some ⟨gg, 0, none⟩) k c))
    case atStart => exact ⟨0, by omega, rfl, ⟨rfl, .inl ⟨rfl, rfl⟩⟩, Below.refl _ _, fun h => by omega⟩
    case round =>
      obtain ⟨k, hkm, rfl, hO, hbw, hv⟩ := hrel
      have e2 := bcell2 hbw g2
      by_cases hlt : k < m
      · have hki : (k : Int) < 2 * (gr + 1) := by have := HM.out; omega
        obtain ⟨gg, c, w3, r3, R3, k3⟩ := append_i wr w1.heap.size u5 k (fun _ => -1) (-1) hbw.size (by omega) hO.out
        have b3 : Below w1.heap.size w1 w3 := hbw.trans (k3.below hbw.size (fun q hq e => by have := (row_lt hO.out q e).1; omega))
        have R4 : Hid (w3.ownsRow w1.heap.size 3 1 (.slice (some ⟨gg, 0, none⟩) (k + 1) c) (k + 1) (sc (slc fun _ => -1) (k + 1))) := R3.congr (fun i _ => by unfold upd; split <;> rfl)
        obtain ⟨ta, tc, rfl⟩ := slice_of hO.out
        clear R3 k3 hO
        go_wp2_with (at_builtin; refine wpList_append_run rfl (.tmp 25) (.tmp 26) 31 31 rfl _ _ rfl rfl r3 ?_)
        go_roundg (m - (k + 1))
        case measure => omega
        case rel => exact ⟨k + 1, by omega, by go_num, R4, b3, fun _ => ⟨gg, c, rfl⟩⟩
      · obtain rfl : k = m := by omega
        have hki : ¬ (k : Int) < 2 * (gr + 1) := by have := HM.out; omega
        obtain ⟨sB, sC, rfl⟩ := hv.out (by omega)
        have hbw' := hbw
        obtain ⟨S, hS⟩ : ∃ S, S = w1.heap.size := ⟨_, rfl⟩
        rw [← hS] at hO hbw
        have RSl : Ri wr S sB sC k (fun _ => -1) := hO.out
        obtain ⟨W2, rm, RT, bT⟩ := make_b wr S T (by have := hbw.size; omega) (by omega)
        have rm' : (Instr.makeSlice 44 (.int .i64 ((n : Int) * ((s.size : Int) + 1))) (.int .i64 ((n : Int) * ((s.size : Int) + 1)))).run Tryd.prog wr = .ok (.slice (some ⟨wr.heap.size, 0, none⟩) T T) W2 := by rw [HTI.out]; exact rm
        obtain ⟨tB, htB⟩ : ∃ tB, tB = wr.heap.size := ⟨_, rfl⟩
        rw [← htB] at rm' RT
        have k2 : Kp (fun _ => False) wr W2 := Kp.of bT
        have k3 : Kp (fun _ => False) W2 (W2.alloc (.cells #[.int .i64 (s0 : Int), .int .i64 0, .int .i64 0, .int .i64 0] 46)) := (Kp.refl _ W2).alloc _
        have hw1b : S ≤ wr.heap.size := by have := hbw.size; omega
        have htl := (row_lt RT tB rfl).2
        have hsl := RSl.lt
        have RS0 : RS (W2.alloc (.cells #[.int .i64 (s0 : Int), .int .i64 0, .int .i64 0, .int .i64 0] 46)) S sB sC k tB T W2.heap.size 1 1 (fun _ => Sum.inl (s0, 0)) (fun _ => false) (fun _ => -1) := by
          refine ⟨(RSl.kp k2 id).kp k3 id, k3.row RT (fun _ _ => id), ?_, by omega, by omega, by omega, by simp; omega⟩
          exact World.ownsRow_lit W2 #[.int .i64 (s0 : Int), .int .i64 0, .int .i64 0, .int .i64 0] 1 (by omega) (by unfold maxLen; omega) (by simp)
        have B0 : Below S w1 (W2.alloc (.cells #[.int .i64 (s0 : Int), .int .i64 0, .int .i64 0, .int .i64 0] 46)) := hbw.trans ((k2.trans k3).below hw1b (fun _ _ => id))
        obtain ⟨g0', IW0⟩ := Iw.start x n s (s0, 0) (fun _ => -1) q1 hs
        have E0 : EncF n s.size k (fun _ => Sum.inl (s0, 0)) 1 [Sum.inl (s0, 0)] := ⟨0, rfl, rfl, ⟨by show s0 < n; omega, Nat.zero_le _⟩, rfl⟩
        have H1 : Hid _ := RS0
        have H2 : Hid _ := B0
        have H3 : Hid _ := IW0
        have H4 : Hid (EncF n s.size k (fun _ => Sum.inl (s0, 0)) 1 [Sum.inl (s0, 0)]) := E0
        have e0 := bcell2 hbw' g0
        have e1 := bcell2 hbw' g1
        have e0' := bcell2 bT e0
        have e1' := bcell2 bT e1
        have HTB : Hid (tB = wr.heap.size) := htB
        clear RS0 B0 IW0 E0 RT k2 k3 RSl hO hv rm htB
        go_wp2_with fail
        clear rm'
        go_loopg [8] g0' (fun g s8 W => ∃ vB vC N φ tf tr st sl, s8 = .slice (some ⟨vB, 0, none⟩) N vC ∧ Hid (RS W S sB sC k tB T vB vC N φ tf sl) ∧ Hid (EncF n s.size k φ N st) ∧ Hid (Mkd n s.size tf tr) ∧ Hid (Iw (sys x n s) n s.size (s0, 0) (fun _ => -1) st tr sl g) ∧ Hid (Below S w1 W))
        case atStart => exact ⟨_, _, _, _, _, _, _, _, rfl, H1, H4, fun _ _ _ => rfl, H3, H2⟩
        case round =>
          clear H1 H2 H3 H4
          obtain ⟨vB, vC, N, φ, tf, tr, st, sl, rfl, hR, hE, hM, hIw, hB⟩ := hrel
          have hlen := hE.out.len
          have hiw := hIw.out.len
          have HS1 : Hid (S = w1.heap.size) := hS
          have c0 : wr.cell? ⟨w.heap.size, 0, none⟩ = some (.slice ia n ic) := (hB.out.cell (p := ⟨w.heap.size, 0, none⟩) (by show w.heap.size < S; omega)).trans g0
          match st with
          | [] =>
            have hN0 : N = 0 := hE.out
            subst hN0
            have HR : Hid _ := hIw.out.none
            clear hR hE hM hIw hlen hiw
            go_wp2
            go_ret
            exact ⟨none, _, .inr ⟨HSD.out, HR.out⟩, rfl, own_nil _ _, b1'.trans ((HS1.out ▸ hB.out).mono b1'.size)⟩
          | Sum.inr (i, v) :: st =>
            obtain ⟨M, hNM, hφ, hok, hE2⟩ := hE.out
            subst hNM
            obtain ⟨hi2, him⟩ : 2 ≤ i ∧ i < k := hok
            obtain ⟨l1, R1, hc⟩ := hR.out.last
            rw [hφ] at l1
            have a0 := l1 0 _ rfl
            have a1 := l1 1 _ rfl
            have a2 := l1 2 _ rfl
            have a3 := l1 3 _ rfl
            rw [Nat.add_zero] at a0
            obtain ⟨R2, s1, s2, b2⟩ := R1.slot i him v
            have R3 := R2.kp0 (Kp.alloc (Kp.refl _ _) (.cells #[.int .i64 (-1), .int .i64 0, .int .i64 (i : Int), .int .i64 v] 46))
            have b3 := (hB.out.trans b2).trans ((Kp.alloc (Kp.refl (fun _ => False) (wr.setCell ⟨sB, i, none⟩ (.int .i64 v))) (.cells #[.int .i64 (-1), .int .i64 0, .int .i64 (i : Int), .int .i64 v] 46)).below (by have := b2.size; have := hR.out.hS; omega) (fun _ _ => id))
            obtain ⟨g', hg', IV⟩ := hIw.out.back
            have hlt := hR.out.lts
            have hneq : ¬ wr.heap.size = sB := by omega
            have him' : (i : Int) < (k : Int) := by omega
            have hMi : (M : Int) ≤ 4398046511104 := by simp only [List.length_cons] at hlen hiw; omega
            have H1 : Hid _ := R3
            have H2 : Hid _ := b3
            have H3 : Hid _ := IV
            have H4 : Hid (EncF n s.size k φ M st) := hE2
            clear hR hE hIw hB R1 R2 R3 b2 b3 IV hE2 l1 hφ hlen hiw
            go_wp2
            go_roundg g'
            case measure => exact hg'
            case rel => exact ⟨_, _, _, _, _, _, _, _, rfl, H1, H4, hM, H3, H2⟩
          | Sum.inl (p1, p2) :: st =>
            obtain ⟨M, hNM, hφ, hok, hE2⟩ := hE.out
            subst hNM
            obtain ⟨hp1, hp2⟩ : p1 < n ∧ p2 ≤ s.size := hok
            obtain ⟨l1, R1, hc⟩ := hR.out.last
            rw [hφ] at l1
            have a0 := l1 0 _ rfl
            have a1 := l1 1 _ rfl
            have a2 := l1 2 _ rfl
            have a3 := l1 3 _ rfl
            rw [Nat.add_zero] at a0
            have hMi : (M : Int) ≤ 4398046511104 := by simp only [List.length_cons] at hlen hiw; omega
            have HML : Hid (M = st.length ∧ (st.length + 4) * 32 ≤ 140737488355328) := by simp only [List.length_cons] at hlen hiw; exact ⟨by omega, by omega⟩
            obtain ⟨PT, hPT⟩ : ∃ PT, PT = rfN n (p1, p2) := ⟨_, rfl⟩
            have hPTl : PT < T := by rw [hPT, HT.out]; exact rfN_lt n s.size (p1, p2) hp1 hp2
            have hPTi : (p2 : Int) * (n : Int) + (p1 : Int) = (PT : Int) := by
              rw [hPT]
              unfold rfN
              rw [Int.natCast_add, Int.natCast_mul]
            have hPT2 : (PT : Int) < (T : Int) := by omega
            have hmul0 : 0 ≤ (p2 : Int) * (n : Int) := by
              have := Int.mul_nonneg (show (0 : Int) ≤ (p2 : Int) by omega) (show (0 : Int) ≤ (n : Int) by omega)
              exact this
            have hmul1 : (p2 : Int) * (n : Int) ≤ 20971530000 := by omega
            have hnn1 : ¬ (p1 : Int) < 0 := by omega
            obtain ⟨R2, s1, s2, b2⟩ := R1.try PT hPTl
            have htf : tf PT = tr (p1, p2) := by rw [hPT]; exact hM.out (p1, p2) hp1 hp2
            rw [htf] at s1
            have hlt := hR.out.lts
            have hRS : S ≤ wr.heap.size := hR.out.hS
            have c0' : (wr.alloc (.cells #[.int .i64 (p1 : Int), .int .i64 (p2 : Int), .int .i64 0, .int .i64 0] 46)).cell? ⟨w.heap.size, 0, none⟩ = some (.slice ia n ic) := cell_al _ c0
            cases htr : tr (p1, p2) with
            | true =>
              rw [htr] at s1
              obtain ⟨g', hg', IV⟩ := hIw.out.seen htr
              have R3 := R1.kp0 (Kp.alloc (Kp.refl _ _) (.cells #[.int .i64 (p1 : Int), .int .i64 (p2 : Int), .int .i64 0, .int .i64 0] 46))
              have b3 := hB.out.trans ((Kp.alloc (Kp.refl (fun _ => False) wr) (.cells #[.int .i64 (p1 : Int), .int .i64 (p2 : Int), .int .i64 0, .int .i64 0] 46)).below hRS (fun _ _ => id))
              have H1 : Hid _ := R3
              have H2 : Hid _ := b3
              have H3 : Hid _ := IV
              have H4 : Hid (EncF n s.size k φ M st) := hE2
              clear hR hE hIw hB R1 R2 R3 b2 b3 IV hE2 l1 hφ hlen hiw htf htr hPT
              go_wp2
              go_roundg g'
              case measure => exact hg'
              case rel => exact ⟨_, _, _, _, _, _, _, _, rfl, H1, H4, hM, H3, H2⟩
            | false =>
              rw [htr] at s1
              have hwtB : ¬ w.heap.size = tB := by have := hlt.2.2.2.2.1; have := HS1.out; omega
              have d0 : (wr.setCell ⟨tB, PT, none⟩ (.bool true)).cell? ⟨w.heap.size, 0, none⟩ = some (.slice ia n ic) := ((Kp.refl (· = tB) wr).setCell (p := ⟨tB, PT, none⟩) rfl _).cell c0 hwtB
              have d0' : ((wr.setCell ⟨tB, PT, none⟩ (.bool true)).alloc (.cells #[.int .i64 (p1 : Int), .int .i64 (p2 : Int), .int .i64 0, .int .i64 0] 46)).cell? ⟨w.heap.size, 0, none⟩ = some (.slice ia n ic) := cell_al _ d0
              have hbI : Nml (wr.setCell ⟨tB, PT, none⟩ (.bool true)) ia x n := (hI1.out.low (HS1.out ▸ (hB.out.trans b2)) (fun g o e => by
                obtain ⟨g', o', e', hg', _⟩ := hI1.out.at p1 hp1
                rw [e] at e'
                cases e'
                exact hg') (fun j hj h0 g o e => by
                obtain ⟨_, _, _, _, _, _, _, _, _, hr, _⟩ := hI1.out.at j hj
                obtain ⟨g', o', e', hg', _⟩ := hr.at 0 h0
                rw [e] at e'
                cases e'
                exact hg'))
              obtain ⟨ig, io, hia, hig, i0, i1, i2, i3, i4, hRm, hRn⟩ := hbI.at p1 hp1
              have HIA : Hid (ia = some ⟨ig, io, none⟩) := hia
              have hS := HQ.out p1 hp1
              have R3 := (R2.kp0 (Kp.alloc (Kp.refl _ _) (.cells #[.int .i64 (p1 : Int), .int .i64 (p2 : Int), .int .i64 0, .int .i64 0] 46))).kp0 (Kp.alloc (Kp.refl _ _) (.cells #[.int .i64 (x p1).op, .int .i64 (x p1).out, .int .i64 (x p1).alt, .int .i64 (x p1).arg, .slice (x p1).ra (x p1).rn (x p1).rc] 25))
              have kA : Kp (fun _ => False) (wr.setCell ⟨tB, PT, none⟩ (.bool true)) (((wr.setCell ⟨tB, PT, none⟩ (.bool true)).alloc (.cells #[.int .i64 (p1 : Int), .int .i64 (p2 : Int), .int .i64 0, .int .i64 0] 46)).alloc (.cells #[.int .i64 (x p1).op, .int .i64 (x p1).out, .int .i64 (x p1).alt, .int .i64 (x p1).arg, .slice (x p1).ra (x p1).rn (x p1).rc] 25)) := (Kp.alloc (Kp.refl _ _) _).alloc _
              have b3 := (hB.out.trans b2).trans (kA.below (by have := b2.size; omega) (fun _ _ => id))
              obtain ⟨A, hA⟩ : ∃ A, A = (((wr.setCell ⟨tB, PT, none⟩ (.bool true)).alloc (.cells #[.int .i64 (p1 : Int), .int .i64 (p2 : Int), .int .i64 0, .int .i64 0] 46)).alloc (.cells #[.int .i64 (x p1).op, .int .i64 (x p1).out, .int .i64 (x p1).alt, .int .i64 (x p1).arg, .slice (x p1).ra (x p1).rn (x p1).rc] 25)) := ⟨_, rfl⟩
              have hAs : A.heap.size = wr.heap.size + 2 := by rw [hA]; simp [World.setCell]
              have hRmA : Rml A (x p1).ra (x p1).rf (x p1).rn := hRm.below (by rw [hA]; exact (((Below.refl _ _).alloc (Nat.le_refl _) _).alloc (by simp) _))
              rw [← hA] at R3 b3
              have HA : Hid (A = (((wr.setCell ⟨tB, PT, none⟩ (.bool true)).alloc (.cells #[.int .i64 (p1 : Int), .int .i64 (p2 : Int), .int .i64 0, .int .i64 0] 46)).alloc (.cells #[.int .i64 (x p1).op, .int .i64 (x p1).out, .int .i64 (x p1).alt, .int .i64 (x p1).arg, .slice (x p1).ra (x p1).rn (x p1).rc] 25))) := hA
              have H1 : Hid (RS A S sB sC k tB T vB vC M φ (up tf PT true) sl) := R3
              have H2 : Hid (Below S w1 A) := b3
              have H4 : Hid (EncF n s.size k φ M st) := hE2
              have H5 : Hid (Mkd n s.size (up tf PT true) (mark tr (p1, p2))) := by rw [hPT]; exact hM.out.mk1 (p1, p2) hp1
              have HRM : Hid (Rml A (x p1).ra (x p1).rf (x p1).rn) := hRmA
              have HTR : Hid (tr (p1, p2) = false) := htr
              have HSI : Hid (SIn (x p1) n gr) := hS
              have hop := hS.op1
              subst hia
              clear hR hE hB hM R1 R2 R3 b2 b3 hE2 l1 hφ hlen hiw htf htr hPT hA hRm hRmA hbI kA hS
              have j0 := cell_al (.cells #[.int .i64 (p1 : Int), .int .i64 (p2 : Int), .int .i64 0, .int .i64 0] 46) i0
              have j1 := cell_al (.cells #[.int .i64 (p1 : Int), .int .i64 (p2 : Int), .int .i64 0, .int .i64 0] 46) i1
              have j2 := cell_al (.cells #[.int .i64 (p1 : Int), .int .i64 (p2 : Int), .int .i64 0, .int .i64 0] 46) i2
              have j3 := cell_al (.cells #[.int .i64 (p1 : Int), .int .i64 (p2 : Int), .int .i64 0, .int .i64 0] 46) i3
              have j4 := cell_al (.cells #[.int .i64 (p1 : Int), .int .i64 (p2 : Int), .int .i64 0, .int .i64 0] 46) i4
              have hp1i : (p1 : Int) < (n : Int) := by omega
              have hqa : (p2 : Int) ≤ (s.size : Int) := by omega
              obtain ⟨op, hope⟩ : ∃ op, op = (x p1).op := ⟨_, rfl⟩
              have HOP : Hid (op = (x p1).op) := hope
              have HAS : Hid (A.heap.size = wr.heap.size + 2) := hAs
              obtain ⟨O, hO⟩ : ∃ O, O = (x p1).out := ⟨_, rfl⟩
              have HOU : Hid (O = (x p1).out) := hO
              obtain ⟨AL, hAL⟩ : ∃ AL, AL = (x p1).alt := ⟨_, rfl⟩
              have HAL : Hid (AL = (x p1).alt) := hAL
              obtain ⟨AR, hAR⟩ : ∃ AR, AR = (x p1).arg := ⟨_, rfl⟩
              have HAR : Hid (AR = (x p1).arg) := hAR
              obtain ⟨ra, hra⟩ : ∃ ra, ra = (x p1).ra := ⟨_, rfl⟩
              obtain ⟨rn, hrn⟩ : ∃ rn, rn = (x p1).rn := ⟨_, rfl⟩
              obtain ⟨rc, hrc⟩ : ∃ rc, rc = (x p1).rc := ⟨_, rfl⟩
              have HRA : Hid (ra = (x p1).ra ∧ rn = (x p1).rn ∧ rc = (x p1).rc) := ⟨hra, hrn, hrc⟩
              rw [← hope] at HA hop i0 j0
              rw [← hO] at HA i1 j1
              rw [← hAL] at HA i2 j2
              rw [← hAR] at HA i3 j3
              rw [← hra, ← hrn, ← hrc] at HA i4 j4
              rw [← hra, ← hrn] at HRM
              clear hope hO hAL hAR hra hrn hrc hAs
              have blkF : A.heap[wr.heap.size]? = some (.cells #[.int .i64 (p1 : Int), .int .i64 (p2 : Int), .int .i64 0, .int .i64 0] 46) := by
                rw [HA.out, Below.heap_alloc _ _ _ (by simp [World.setCell])]
                have := heap_alloc_new (wr.setCell ⟨tB, PT, none⟩ (.bool true)) (.cells #[.int .i64 (p1 : Int), .int .i64 (p2 : Int), .int .i64 0, .int .i64 0] 46)
                rw [show (wr.setCell ⟨tB, PT, none⟩ (.bool true)).heap.size = wr.heap.size by simp [World.setCell]] at this
                exact this
              have blkI : A.heap[wr.heap.size + 1]? = some (.cells #[.int .i64 op, .int .i64 O, .int .i64 AL, .int .i64 AR, .slice ra rn rc] 25) := by
                rw [HA.out]
                have := heap_alloc_new ((wr.setCell ⟨tB, PT, none⟩ (.bool true)).alloc (.cells #[.int .i64 (p1 : Int), .int .i64 (p2 : Int), .int .i64 0, .int .i64 0] 46)) (.cells #[.int .i64 op, .int .i64 O, .int .i64 AL, .int .i64 AR, .slice ra rn rc] 25)
                rw [show ((wr.setCell ⟨tB, PT, none⟩ (.bool true)).alloc (.cells #[.int .i64 (p1 : Int), .int .i64 (p2 : Int), .int .i64 0, .int .i64 0] 46)).heap.size = wr.heap.size + 1 by simp [World.setCell]] at this
                exact this
              have x0 : A.cell? ⟨wr.heap.size, 0, none⟩ = some (.int .i64 (p1 : Int)) := cell_of_row _ _ _ _ _ _ blkF
              have x1 : A.cell? ⟨wr.heap.size, 1, none⟩ = some (.int .i64 (p2 : Int)) := cell_of_row _ _ _ _ _ _ blkF
              have y0 : A.cell? ⟨wr.heap.size + 1, 0, none⟩ = some (.int .i64 op) := cell_of_row _ _ _ _ _ _ blkI
              have y1 : A.cell? ⟨wr.heap.size + 1, 1, none⟩ = some (.int .i64 O) := cell_of_row _ _ _ _ _ _ blkI
              have y2 : A.cell? ⟨wr.heap.size + 1, 2, none⟩ = some (.int .i64 AL) := cell_of_row _ _ _ _ _ _ blkI
              have y3 : A.cell? ⟨wr.heap.size + 1, 3, none⟩ = some (.int .i64 AR) := cell_of_row _ _ _ _ _ _ blkI
              have y4 : A.cell? ⟨wr.heap.size + 1, 4, none⟩ = some (.slice ra rn rc) := cell_of_row _ _ _ _ _ _ blkI
              clear blkF blkI
              go_upto_region 19 with fail
              rw [← HA.out]
              clear i0 i1 i2 i3 i4 j0 j1 j2 j3 j4 a0 a1 a2 a3 s1 s2 d0 d0' c0 c0'
              obtain ⟨Z, hZ⟩ : ∃ Z, Z = wr.heap.size := ⟨_, rfl⟩
              have HZ : Hid (Z = wr.heap.size) := hZ
              rw [← hZ]
              rw [← hZ] at x0 x1 y0 y1 y2 y3 y4 HAS
              clear hZ HA
              have hl32 := HML.out.2
              rcases (show op = 1 ∨ op = 11 ∨ op = 2 ∨ op = 3 ∨ op = 4 ∨ (5 ≤ op ∧ op ≤ 10) by omega) with rfl | rfl | rfl | rfl | rfl | ho
              · by_cases he : p2 = s.size
                · have HW : Hid (Res (sys x n s) (fun _ => true) [Sum.inl (s0, 0)] (fun _ => false) (fun _ => -1) (some sl)) := hIw.out.won HTR.out (win_at (k := ⟨x, n, (s0 : Int), gr, s, 0, none, 0, none, 0, 0, 0, 0, 0, 0, k, 0⟩) (p := (p1, p2)) hp1 HOP.out.symm he)
                  obtain ⟨R4, u1, u2, v4⟩ := H1.out.slot 0 (by omega) 0
                  obtain ⟨R5, u3, u4, v5⟩ := R4.slot 1 (by omega) (s.size : Int)
                  have b5 := (H2.out.trans v4).trans v5
                  have O5 := own_of R5.slots
                  have eN : (2 * (gr + 1)).toNat = k := by have := HM.out; omega
                  have HO5 : Hid (Own S ((A.setCell ⟨sB, 0, none⟩ (.int .i64 0)).setCell ⟨sB, 1, none⟩ (.int .i64 (s.size : Int))) (.slice (some ⟨sB, 0, none⟩) k sC) (fin s gr (some sl))) := by
                    show Own _ _ _ ((List.range (2 * (gr + 1)).toNat).map _)
                    rw [eN]
                    exact O5
                  have HB5 : Hid (Below S w1 ((A.setCell ⟨sB, 0, none⟩ (.int .i64 0)).setCell ⟨sB, 1, none⟩ (.int .i64 (s.size : Int)))) := b5
                  have he2 : ((p2 : Int) == (s.size : Int)) = true := by rw [beq_iff_eq]; omega
                  have h0i : (0 : Int) < (k : Int) := by omega
                  have h1i : (1 : Int) < (k : Int) := by omega
                  clear R4 R5 v4 v5 b5 O5 eN hIw he
                  generalize sl 0 = v0 at *
                  generalize upd sl 0 0 1 = v1 at *
                  go_wp2
                  go_ret
                  have hS1 := HS1.out
                  have hoo := HO5.out
                  have ho2 : Own w.heap.size ((A.setCell ⟨sB, 0, none⟩ (.int .i64 0)).setCell ⟨sB, 1, none⟩ (.int .i64 (s.size : Int))) (.slice (some ⟨sB, 0, none⟩) k sC) (fin s gr (some sl)) := ⟨hoo.1, hoo.2.imp id (fun ⟨g', c', cu, e1, e2, e3⟩ => ⟨g', c', cu, e1, by have := b1'.size; omega, e3⟩)⟩
                  have hb2 : Below w.heap.size w ((A.setCell ⟨sB, 0, none⟩ (.int .i64 0)).setCell ⟨sB, 1, none⟩ (.int .i64 (s.size : Int))) := b1'.trans ((hS1 ▸ HB5.out).mono b1'.size)
                  have hfd : Fd x n (s0 : Int) gr nn s (some sl) := .inr ⟨HSD.out, HW.out⟩
                  first | exact ⟨some sl, _, hfd, rfl, ho2, hb2⟩ | exact ⟨some sl, hfd, _, rfl, ho2, hb2⟩
                · obtain ⟨g', hg', IV⟩ := hIw.out.on HTR.out (win_not (k := ⟨x, n, (s0 : Int), gr, s, 0, none, 0, none, 0, 0, 0, 0, 0, 0, k, 0⟩) (p := (p1, p2)) (fun e => he e.2)) hp1 hp2
                  have ea : aft (sys x n s) (p1, p2) st sl = st ∧ aftS (sys x n s) (p1, p2) sl = sl := aft_end (k := ⟨x, n, (s0 : Int), gr, s, 0, none, 0, none, 0, 0, 0, 0, 0, 0, k, 0⟩) (p := (p1, p2)) (Or.inl HOP.out.symm)
                  rw [ea.1, ea.2] at IV
                  have kT := rstands_any A 1 AR s p2 (by omega) hp2 (by omega)
                  rw [show stB 1 AR s p2 = false from rfl] at kT
                  have he2 : ((p2 : Int) == (s.size : Int)) = false := beq_eq_false_iff_ne.2 (by omega)
                  have he3 : ¬ (p2 : Int) = (s.size : Int) := by omega
                  have H3 : Hid _ := IV
                  clear IV hIw he ea
                  go_wp2_with fail
                  go_fit kT
                  rintro e w5 ⟨rfl, b5⟩
                  have G1 : Hid (RS w5 S sB sC k tB T vB vC M φ (up tf PT true) sl) := H1.out.kp0 (Kp.of b5)
                  have G2 : Hid (Below S w1 w5) := H2.out.trans (b5.mono H1.out.hS)
                  clear kT
                  go_wp2
                  go_roundg g'
                  case measure => exact hg'
                  case rel => exact ⟨_, _, _, _, _, _, _, _, rfl, G1, H4, H5, H3, G2⟩
              · obtain ⟨g', hg', IV⟩ := hIw.out.on HTR.out (win_not (k := ⟨x, n, (s0 : Int), gr, s, 0, none, 0, none, 0, 0, 0, 0, 0, 0, k, 0⟩) (p := (p1, p2)) (fun e => by have h3 := HOP.out; have h4 : (x p1).op = 1 := e.1; omega)) hp1 hp2
                have ea : aft (sys x n s) (p1, p2) st sl = st ∧ aftS (sys x n s) (p1, p2) sl = sl := aft_end (k := ⟨x, n, (s0 : Int), gr, s, 0, none, 0, none, 0, 0, 0, 0, 0, 0, k, 0⟩) (p := (p1, p2)) (Or.inr HOP.out.symm)
                rw [ea.1, ea.2] at IV
                have kT := rstands_any A 11 AR s p2 (by omega) hp2 (by omega)
                rw [show stB 11 AR s p2 = false from rfl] at kT
                have H3 : Hid _ := IV
                clear IV hIw ea
                go_wp2_with fail
                go_fit kT
                rintro e w5 ⟨rfl, b5⟩
                have G1 : Hid (RS w5 S sB sC k tB T vB vC M φ (up tf PT true) sl) := H1.out.kp0 (Kp.of b5)
                have G2 : Hid (Below S w1 w5) := H2.out.trans (b5.mono H1.out.hS)
                clear kT
                go_wp2
                go_roundg g'
                case measure => exact hg'
                case rel => exact ⟨_, _, _, _, _, _, _, _, rfl, G1, H4, H5, H3, G2⟩
              · -- a rune
                have hout := HSI.out.out (by have := HOP.out; omega) (by have := HOP.out; omega)
                rw [← HOU.out] at hout
                obtain ⟨ON, hON⟩ : ∃ ON : Nat, O = (ON : Int) := ⟨O.toNat, by omega⟩
                subst hON
                have kX := rnext_any s (p2 : Int) A (by unfold maxLen; omega)
                rw [nxtZ_nat] at kX
                obtain ⟨g', hg', IV⟩ := hIw.out.on HTR.out (win_not (k := ⟨x, n, (s0 : Int), gr, s, 0, none, 0, none, 0, 0, 0, 0, 0, 0, k, 0⟩) (p := (p1, p2)) (fun e => by have h3 := HOP.out; have h4 : (x p1).op = 1 := e.1; omega)) hp1 hp2
                have ea : aft (sys x n s) (p1, p2) st sl = (if rnB (x p1) s p2 = true then Sum.inl ((x p1).out.toNat, p2 + (nxt s p2).2.toNat) :: st else st) ∧ aftS (sys x n s) (p1, p2) sl = sl := aft_rune (k := ⟨x, n, (s0 : Int), gr, s, 0, none, 0, none, 0, 0, 0, 0, 0, 0, k, 0⟩) (p := (p1, p2)) hp1 HOP.out.symm
                rw [ea.1, ea.2, ← HOU.out, Int.toNat_natCast] at IV
                have hto := rnB_to (x p1) s p2
                have hpos := nxt_pos s p2
                have hrb : rnB (x p1) s p2 = (decide (0 < (nxt s p2).2) && inB (nxt s p2).1 (x p1).rf rn) := by rw [HRA.out.2.1]; rfl
                obtain ⟨RR, hRR⟩ : ∃ R, R = (nxt s p2).1 := ⟨_, rfl⟩
                obtain ⟨D, hD⟩ : ∃ D, D = (nxt s p2).2 := ⟨_, rfl⟩
                rw [← hRR, ← hD] at kX hrb
                rw [← hD] at IV hto hpos
                clear ea hRR hD
                have HIV : Hid (Iw (sys x n s) n s.size (s0, 0) (fun _ => -1) (if rnB (x p1) s p2 = true then Sum.inl (ON, p2 + D.toNat) :: st else st) (mark tr (p1, p2)) sl g') := IV
                have HTO : Hid (rnB (x p1) s p2 = true → 0 < D ∧ p2 + D.toNat ≤ s.size) := hto
                have HRB : Hid (rnB (x p1) s p2 = (decide (0 < D) && inB RR (x p1).rf rn)) := hrb
                have hrn8 : rn ≤ 1152921504606846976 := by rw [HRA.out.2.1]; omega
                clear IV hto hrb hIw
                by_cases hD0 : 0 < D
                · go_wp2_with fail
                  go_fit kX
                  rintro e w5 ⟨rfl, b5⟩
                  have kI := inside_any ra rn rc (x p1).rf RR w5 (HRM.out.below b5) hrn8
                  have hrb2 : rnB (x p1) s p2 = inB RR (x p1).rf rn := by rw [HRB.out, decide_eq_true hD0]; rfl
                  rw [← hrb2] at kI
                  have y4' := bcell2 b5 y4
                  have y1' := bcell2 b5 y1
                  have x1' := bcell2 b5 x1
                  have G1 : Hid (RS w5 S sB sC k tB T vB vC M φ (up tf PT true) sl) := H1.out.kp0 (Kp.of b5)
                  have G2 : Hid (Below S w1 w5) := H2.out.trans (b5.mono H1.out.hS)
                  clear kX hrb2
                  cases hb : rnB (x p1) s p2 with
                  | false =>
                    rw [hb] at kI
                    have H3 : Hid (Iw (sys x n s) n s.size (s0, 0) (fun _ => -1) st (mark tr (p1, p2)) sl g') := by
                      have := HIV.out
                      rw [hb] at this
                      exact this
                    clear hb HIV HTO HRB
                    go_wp2_with fail
                    go_fit kI
                    rintro e w6 ⟨rfl, b6⟩
                    have G3 : Hid (RS w6 S sB sC k tB T vB vC M φ (up tf PT true) sl) := G1.out.kp0 (Kp.of b6)
                    have G4 : Hid (Below S w1 w6) := G2.out.trans (b6.mono G1.out.hS)
                    clear kI
                    go_wp2
                    go_roundg g'
                    case measure => exact hg'
                    case rel => exact ⟨_, _, _, _, _, _, _, _, rfl, G3, H4, H5, H3, G4⟩
                  | true =>
                    rw [hb] at kI
                    obtain ⟨_, hDs⟩ := HTO.out hb
                    have H3 : Hid (Iw (sys x n s) n s.size (s0, 0) (fun _ => -1) (Sum.inl (ON, p2 + D.toNat) :: st) (mark tr (p1, p2)) sl g') := by
                      have := HIV.out
                      rw [hb] at this
                      exact this
                    have hDi : (p2 : Int) + D ≤ (s.size : Int) := by omega
                    clear hb HIV HTO HRB
                    go_wp2_with fail
                    go_fit kI
                    rintro e w6 ⟨rfl, b6⟩
                    have z1 := bcell2 b6 y1'
                    have z2 := bcell2 b6 x1'
                    have G3 : RS w6 S sB sC k tB T vB vC M φ (up tf PT true) sl := G1.out.kp0 (Kp.of b6)
                    have G4 : Below S w1 w6 := G2.out.trans (b6.mono G1.out.hS)
                    obtain ⟨gg, cc, w7, r7, R7, E7, B7, _⟩ := G3.more H4.out G4 (Sum.inl (ON, p2 + D.toNat)) (.int .i64 (ON : Int)) (.int .i64 ((p2 : Int) + D)) (.int .i64 0) (.int .i64 0) (by show [_, _, _, _] = _; rw [show ((p2 + D.toNat : Nat) : Int) = (p2 : Int) + D by omega]) ⟨by show ON < n; omega, hDs⟩ (len31 hl32)
                    have G5 : Hid _ := R7
                    have G6 : Hid (EncF n s.size k (up φ M (Sum.inl (ON, p2 + D.toNat))) (M + 1) (Sum.inl (ON, p2 + D.toNat) :: st)) := E7
                    have G7 : Hid _ := B7
                    clear kI G3 G4 R7 E7 B7
                    go_wp2_with (at_builtin; refine wpList_append_run rfl (.tmp 137) (.tmp 145) 47 47 rfl _ _ rfl rfl r7 ?_)
                    go_roundg g'
                    case measure => exact hg'
                    case rel => exact ⟨_, _, _, _, _, _, _, _, rfl, G5, G6, H5, H3, G7⟩
                · have hDz : D = 0 := by omega
                  have H3 : Hid (Iw (sys x n s) n s.size (s0, 0) (fun _ => -1) st (mark tr (p1, p2)) sl g') := by
                    have := HIV.out
                    rw [show rnB (x p1) s p2 = false by rw [HRB.out, decide_eq_false hD0]; rfl] at this
                    exact this
                  subst hDz
                  clear HIV HTO HRB
                  go_wp2_with fail
                  go_fit kX
                  rintro e w5 ⟨rfl, b5⟩
                  have G1 : Hid (RS w5 S sB sC k tB T vB vC M φ (up tf PT true) sl) := H1.out.kp0 (Kp.of b5)
                  have G2 : Hid (Below S w1 w5) := H2.out.trans (b5.mono H1.out.hS)
                  clear kX
                  go_wp2
                  go_roundg g'
                  case measure => exact hg'
                  case rel => exact ⟨_, _, _, _, _, _, _, _, rfl, G1, H4, H5, H3, G2⟩
              · -- a split
                have hout := HSI.out.out (by have := HOP.out; omega) (by have := HOP.out; omega)
                have halt := HSI.out.alt HOP.out.symm
                rw [← HOU.out] at hout
                rw [← HAL.out] at halt
                obtain ⟨ON, hON⟩ : ∃ ON : Nat, O = (ON : Int) := ⟨O.toNat, by omega⟩
                obtain ⟨AN, hAN⟩ : ∃ AN : Nat, AL = (AN : Int) := ⟨AL.toNat, by omega⟩
                subst hON hAN
                obtain ⟨g', hg', IV⟩ := hIw.out.on HTR.out (win_not (k := ⟨x, n, (s0 : Int), gr, s, 0, none, 0, none, 0, 0, 0, 0, 0, 0, k, 0⟩) (p := (p1, p2)) (fun e => by have h3 := HOP.out; have h4 : (x p1).op = 1 := e.1; omega)) hp1 hp2
                have ea : aft (sys x n s) (p1, p2) st sl = Sum.inl ((x p1).out.toNat, p2) :: Sum.inl ((x p1).alt.toNat, p2) :: st ∧ aftS (sys x n s) (p1, p2) sl = sl := aft_split (k := ⟨x, n, (s0 : Int), gr, s, 0, none, 0, none, 0, 0, 0, 0, 0, 0, k, 0⟩) (p := (p1, p2)) hp1 HOP.out.symm
                rw [ea.1, ea.2, ← HOU.out, ← HAL.out, Int.toNat_natCast, Int.toNat_natCast] at IV
                have H3 : Hid (Iw (sys x n s) n s.size (s0, 0) (fun _ => -1) (Sum.inl (ON, p2) :: Sum.inl (AN, p2) :: st) (mark tr (p1, p2)) sl g') := IV
                have hl33 := len33 hl32 (Sum.inl (AN, p2))
                have hok2 : okF n s.size k (Sum.inl (ON, p2)) := ⟨by show ON < n; omega, hp2⟩
                obtain ⟨gg, cc, w7, r7, R7, E7, B7, k7⟩ := H1.out.more H4.out H2.out (Sum.inl (AN, p2)) (.int .i64 (AN : Int)) (.int .i64 (p2 : Int)) (.int .i64 0) (.int .i64 0) rfl ⟨by show AN < n; omega, hp2⟩ (len31 hl32)
                obtain ⟨gg2, cc2, w8, r8, R8, E8, B8, _⟩ := R7.more E7 B7 (Sum.inl (ON, p2)) (.int .i64 (ON : Int)) (.int .i64 (p2 : Int)) (.int .i64 0) (.int .i64 0) rfl hok2 hl33
                have hvZ : ¬ Z = vB := by have := H1.out.lts; have := HZ.out; omega
                have hvZ1 : ¬ Z + 1 = vB := by have := HZ.out; omega
                have z1 := k7.cell y1 hvZ1
                have z2 := k7.cell x1 hvZ
                have G5 : Hid _ := R8
                have G6 : Hid (EncF n s.size k (up (up φ M (Sum.inl (AN, p2))) (M + 1) (Sum.inl (ON, p2))) (M + 1 + 1) (Sum.inl (ON, p2) :: Sum.inl (AN, p2) :: st)) := E8
                have G7 : Hid _ := B8
                clear IV hIw ea R7 E7 B7 k7 R8 E8 B8
                go_upto_region 31 with (at_builtin; refine wpList_append_run rfl (.tmp 149) (.tmp 155) 47 47 rfl _ _ rfl rfl r7 ?_)
                clear r7
                go_wp2_with (at_builtin; refine wpList_append_run rfl (.tmp 157) (.tmp 163) 47 47 rfl _ _ rfl rfl r8 ?_)
                go_roundg g'
                case measure => exact hg'
                case rel => exact ⟨_, _, _, _, _, _, _, _, rfl, G5, G6, H5, H3, G7⟩
              · -- a note
                have hout := HSI.out.out (by have := HOP.out; omega) (by have := HOP.out; omega)
                have harg := HSI.out.arg HOP.out.symm
                rw [← HOU.out] at hout
                rw [← HAR.out] at harg
                obtain ⟨ON, hON⟩ : ∃ ON : Nat, O = (ON : Int) := ⟨O.toNat, by omega⟩
                obtain ⟨AN, hAN⟩ : ∃ AN : Nat, AR = (AN : Int) := ⟨AR.toNat, by omega⟩
                subst hON hAN
                have hANk : AN < k := by have := HM.out; omega
                have hANi : (AN : Int) < (k : Int) := by omega
                have hAN0 : (0 : Int) ≤ (AN : Int) := by omega
                have hAN9 : (AN : Int) ≤ 1000 := by omega
                have hANg : (AN : Int) < 2 * (gr + 1) := by have := HM.out; omega
                have hANg2 : (AN : Int) < gr * 2 + 2 := by omega
                have hkk9 : (k : Int) ≤ 1000 := by omega
                obtain ⟨g', hg', IV⟩ := hIw.out.on HTR.out (win_not (k := ⟨x, n, (s0 : Int), gr, s, 0, none, 0, none, 0, 0, 0, 0, 0, 0, k, 0⟩) (p := (p1, p2)) (fun e => by have h3 := HOP.out; have h4 : (x p1).op = 1 := e.1; omega)) hp1 hp2
                have ea : aft (sys x n s) (p1, p2) st sl = Sum.inl ((x p1).out.toNat, p2) :: Sum.inr ((x p1).arg.toNat, sl (x p1).arg.toNat) :: st ∧ aftS (sys x n s) (p1, p2) sl = upd sl (x p1).arg.toNat (p2 : Int) := aft_save (k := ⟨x, n, (s0 : Int), gr, s, 0, none, 0, none, 0, 0, 0, 0, 0, 0, k, 0⟩) (p := (p1, p2)) hp1 HOP.out.symm
                rw [ea.1, ea.2, ← HOU.out, ← HAR.out, Int.toNat_natCast, Int.toNat_natCast] at IV
                have H3 : Hid (Iw (sys x n s) n s.size (s0, 0) (fun _ => -1) (Sum.inl (ON, p2) :: Sum.inr (AN, sl AN) :: st) (mark tr (p1, p2)) (upd sl AN (p2 : Int)) g') := IV
                have kD : Kp (fun _ => False) A A.drew := (Kp.refl _ A).drew
                have hl33 := len33 hl32 (Sum.inr (AN, sl AN))
                have hok2 : okF n s.size k (Sum.inl (ON, p2)) := ⟨by show ON < n; omega, hp2⟩
                obtain ⟨gg, cc, w7, r7, R7, E7, B7, k7⟩ := (H1.out.kp0 kD).more H4.out H2.out.drew (Sum.inr (AN, sl AN)) (.int .i64 (-1)) (.int .i64 0) (.int .i64 (AN : Int)) (.int .i64 (sl AN)) rfl ⟨by omega, hANk⟩ (len31 hl32)
                have r7' : (Builtin.append_ #[47, 47] 47 #[.slice (some ⟨vB, 0, none⟩) M vC, .slice (some ⟨A.heap.size, 0, none⟩) 1 1]).run Tryd.prog (A.alloc (.cells #[.int .i64 (-1), .int .i64 0, .int .i64 (AN : Int), .int .i64 (sl AN)] 46)).drew = .ok (.slice (some ⟨gg, 0, none⟩) (M + 1) cc) w7 := r7
                obtain ⟨_, u1, u2, _⟩ := H1.out.slot AN hANk 0
                have u1' : (A.alloc (.cells #[.int .i64 (-1), .int .i64 0, .int .i64 (AN : Int), .int .i64 (sl AN)] 46)).cell? ⟨sB, AN, none⟩ = some (.int .i64 (sl AN)) := cell_al _ u1
                have y3' : (A.alloc (.cells #[.int .i64 (-1), .int .i64 0, .int .i64 (AN : Int), .int .i64 (sl AN)] 46)).cell? ⟨Z + 1, 3, none⟩ = some (.int .i64 (AN : Int)) := cell_al _ y3
                obtain ⟨R9, u3, u4, v9⟩ := R7.slot AN hANk (p2 : Int)
                obtain ⟨gg2, cc2, w8, r8, R8, E8, B8, _⟩ := R9.more E7 (B7.trans v9) (Sum.inl (ON, p2)) (.int .i64 (ON : Int)) (.int .i64 (p2 : Int)) (.int .i64 0) (.int .i64 0) rfl hok2 hl33
                rw [show (w7.setCell ⟨sB, AN, none⟩ (.int .i64 (p2 : Int))).heap.size = w7.heap.size by simp [World.setCell]] at r8
                have hvZ : ¬ Z = vB := by have := H1.out.lts; have := HZ.out; omega
                have hvZ1 : ¬ Z + 1 = vB := by have := HZ.out; omega
                have hsZ : ¬ Z = sB := by have := HZ.out; omega
                have hsZ1 : ¬ Z + 1 = sB := by have := HZ.out; omega
                have z1 := k7.cell (show A.drew.cell? ⟨Z + 1, 1, none⟩ = _ from y1) hvZ1
                have z3 := k7.cell (show A.drew.cell? ⟨Z + 1, 3, none⟩ = _ from y3) hvZ1
                have z2 := k7.cell (show A.drew.cell? ⟨Z, 1, none⟩ = _ from x1) hvZ
                have kS9 := (Kp.refl (· = sB) w7).setCell (p := ⟨sB, AN, none⟩) rfl (.int .i64 (p2 : Int))
                have t1 := kS9.cell z1 hsZ1
                have t2 := kS9.cell z2 hsZ
                have G5 : Hid _ := R8
                have G6 : Hid (EncF n s.size k (up (up φ M (Sum.inr (AN, sl AN))) (M + 1) (Sum.inl (ON, p2))) (M + 1 + 1) (Sum.inl (ON, p2) :: Sum.inr (AN, sl AN) :: st)) := E8
                have G7 : Hid _ := B8
                clear IV hIw ea R7 E7 B7 k7 R8 E8 B8 R9 v9 kS9 kD r7
                generalize sl AN = V at *
                go_wp2_with fail
                go_region_held3 (fun w' => w'.cell? ⟨Z + 1, 3, none⟩ = some (.int .i64 (AN : Int)) ∧ w'.cell? ⟨sB, AN, none⟩ = some (.int .i64 V)) (first | go_keep | exact ⟨z3, u3⟩) ((refine step_append_run rfl (.tmp 167) (.tmp 176) 47 47 rfl _ _ rfl rfl r7' ?_))
                go_upto_region 35 with fail
                go_wp2_with (at_builtin; refine wpList_append_run rfl (.tmp 184) (.tmp 190) 47 47 rfl _ _ rfl rfl r8 ?_)
                go_roundg g'
                case measure => exact hg'
                case rel => exact ⟨_, _, _, _, _, _, _, _, rfl, G5, G6, H5, H3, G7⟩
              · -- a look about
                have hout := HSI.out.out (by have := HOP.out; omega) (by have := HOP.out; omega)
                rw [← HOU.out] at hout
                obtain ⟨ON, hON⟩ : ∃ ON : Nat, O = (ON : Int) := ⟨O.toNat, by omega⟩
                subst hON
                have hop5 : 5 ≤ (x p1).op ∧ (x p1).op ≤ 10 := by have := HOP.out; omega
                obtain ⟨g', hg', IV⟩ := hIw.out.on HTR.out (win_not (k := ⟨x, n, (s0 : Int), gr, s, 0, none, 0, none, 0, 0, 0, 0, 0, 0, k, 0⟩) (p := (p1, p2)) (fun e => by have h3 := HOP.out; have h4 : (x p1).op = 1 := e.1; omega)) hp1 hp2
                have ea : aft (sys x n s) (p1, p2) st sl = (if stB (x p1).op (x p1).arg s p2 = true then Sum.inl ((x p1).out.toNat, p2) :: st else st) ∧ aftS (sys x n s) (p1, p2) sl = sl := aft_look (k := ⟨x, n, (s0 : Int), gr, s, 0, none, 0, none, 0, 0, 0, 0, 0, 0, k, 0⟩) (p := (p1, p2)) hp1 hop5
                rw [ea.1, ea.2, ← HOU.out, ← HOP.out, ← HAR.out, Int.toNat_natCast] at IV
                have kT := rstands_any A op AR s p2 (by omega) hp2 (by omega)
                have b1 : (op == 1) = false := beq_eq_false_iff_ne.2 (by omega)
                have b2 : (op == 2) = false := beq_eq_false_iff_ne.2 (by omega)
                have b3 : (op == 3) = false := beq_eq_false_iff_ne.2 (by omega)
                have b4 : (op == 4) = false := beq_eq_false_iff_ne.2 (by omega)
                have d1 : ¬ op = 1 := by omega
                have d2 : ¬ op = 2 := by omega
                have d3 : ¬ op = 3 := by omega
                have d4 : ¬ op = 4 := by omega
                clear ea hIw hop5
                cases hb : stB op AR s p2 with
                | false =>
                  rw [hb] at kT IV
                  have H3 : Hid (Iw (sys x n s) n s.size (s0, 0) (fun _ => -1) st (mark tr (p1, p2)) sl g') := IV
                  clear IV hb
                  go_wp2_with fail
                  go_fit kT
                  rintro e w5 ⟨rfl, b5⟩
                  have G1 : Hid (RS w5 S sB sC k tB T vB vC M φ (up tf PT true) sl) := H1.out.kp0 (Kp.of b5)
                  have G2 : Hid (Below S w1 w5) := H2.out.trans (b5.mono H1.out.hS)
                  clear kT
                  go_wp2
                  go_roundg g'
                  case measure => exact hg'
                  case rel => exact ⟨_, _, _, _, _, _, _, _, rfl, G1, H4, H5, H3, G2⟩
                | true =>
                  rw [hb] at kT IV
                  have H3 : Hid (Iw (sys x n s) n s.size (s0, 0) (fun _ => -1) (Sum.inl (ON, p2) :: st) (mark tr (p1, p2)) sl g') := IV
                  clear IV hb
                  go_wp2_with fail
                  go_fit kT
                  rintro e w5 ⟨rfl, b5⟩
                  have z1 := bcell2 b5 y1
                  have z2 := bcell2 b5 x1
                  have G1 : RS w5 S sB sC k tB T vB vC M φ (up tf PT true) sl := H1.out.kp0 (Kp.of b5)
                  have G2 : Below S w1 w5 := H2.out.trans (b5.mono H1.out.hS)
                  obtain ⟨gg, cc, w7, r7, R7, E7, B7, _⟩ := G1.more H4.out G2 (Sum.inl (ON, p2)) (.int .i64 (ON : Int)) (.int .i64 (p2 : Int)) (.int .i64 0) (.int .i64 0) rfl ⟨by show ON < n; omega, hp2⟩ (len31 hl32)
                  have G5 : Hid _ := R7
                  have G6 : Hid (EncF n s.size k (up φ M (Sum.inl (ON, p2))) (M + 1) (Sum.inl (ON, p2) :: st)) := E7
                  have G7 : Hid _ := B7
                  clear kT G1 G2 R7 E7 B7
                  go_wp2_with (at_builtin; refine wpList_append_run rfl (.tmp 112) (.tmp 118) 47 47 rfl _ _ rfl rfl r7 ?_)
                  go_roundg g'
                  case measure => exact hg'
                  case rel => exact ⟨_, _, _, _, _, _, _, _, rfl, G5, G6, H5, H3, G7⟩
end Go.Proofs.YtnpgkiidpeaapaaDoor
