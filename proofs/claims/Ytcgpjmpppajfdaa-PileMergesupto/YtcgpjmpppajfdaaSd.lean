/- Sorted: the walk. -/
import Derived.Test.YtcgpjmpppajfdaaSc
namespace Go.Proofs.Ytcgpjmpppajfdaa
open Go.RowKit Go.Shelf

attribute [local go_sem] Oper.semAt_some

set_option maxRecDepth 100000 in
set_option maxHeartbeats 4000000 in
theorem sorted_any (A : Rk → Rk → Bool) (lv lp : Value) (f0 : Nat → Rk) (hN : ∀ w, Calls Try.prog 12 #[lp] w fun r w' => r = .returned (.pointer (some ⟨w.heap.size + 1, 0, none⟩)) ∧ Pl w' (w.heap.size + 1) w.heap.size lv (.slice none 0 0) 0 f0 0 ∧ Below w.heap.size w w')
    (hA : AhC lv A) (a : Option Addr) (c n : Nat) (xs : Nat → It) (w : World) (hf : Iml w a xs n) (hl : n * 24 ≤ 140737488355328) :
    Calls Try.prog 10 #[.slice a n c, lp] w fun r w' => ∃ v, r = .returned v ∧ Ir w' w.heap.size v n (lk (outL A n (inF A f0 xs n))) ∧ Below w.heap.size w w' := by
  refine (callsIn_wide (n := 3)).1 ?_
  have kN := hN w
  have HF : Hid (Iml w a xs n) := hf
  have HA : Hid (AhC lv A) := hA
  have HL : Hid (n * 24 ≤ 140737488355328) := hl
  obtain ⟨G, hG⟩ : ∃ G, G = w.heap.size := ⟨_, rfl⟩
  have HG : Hid (G = w.heap.size) := hG
  rw [← hG] at kN ⊢
  have hnb : n ≤ 1152921504606846976 := by omega
  clear hG hf hA hl hN
  refine callsIn_of_wp_marks Try.func10 rfl trivial ?_ rfl
  simp only [Try.ntmps10, List.size_toArray, List.length_cons, List.length_nil, Nat.reduceAdd, Nat.reduceSub, Array.replicate_succ, Array.replicate_zero, List.push_toArray, List.append_toArray, List.nil_append, List.cons_append]
  gi_wp2_with (refine ⟨trivial, ?_⟩; gi_at_call 12; refine (callsIn_wide.2 kN).mono ?_; rintro r w1 ⟨rfl, p1, b1⟩; have P1 : Hid _ := p1; have B1 : Hid (Below G w w1) := b1; clear p1 b1 kN)
  gi_loopw [14] (fun ivv w' => ∃ (i : Nat) (v : Value), ivv = .int .i64 (i : Int) ∧ i ≤ n ∧ Hid (Pl w' (G + 1) G lv v i (inF A f0 xs i) i) ∧ Hid (∀ k, v.ownBlock = some k → G ≤ k) ∧ Hid (Below G w w')) (fun ivv _ => n - (RowKit.intOf ivv).toNat)
  case atStart => exact ⟨0, _, rfl, by omega, P1, (fun k e => by cases e), B1⟩
  case round =>
    obtain ⟨i, v, rfl, hi, pl, hv, hb⟩ := hrel
    have hGw : G ≤ wr.heap.size := by rw [HG.out]; exact (HG.out ▸ hb.out).size
    by_cases hlt : i < n
    · have hii : (i : Int) < n := by omega
      rcases HF.out with h0 | ⟨g, o, rfl, hg, hat⟩
      · omega
      rw [← HG.out] at hg
      have q1 := (hb.out.cell (p := ⟨g, o + i * 2, none⟩) hg).trans (hat i hlt).1
      have q2 := (hb.out.cell (p := ⟨g, o + i * 2 + 1, none⟩) hg).trans (hat i hlt).2
      have HI : Hid (i + 1 ≤ n) := hlt
      have pl2 := pl.out.below ((Below.refl _ wr).alloc (Nat.le_refl _) (iX (xs i)))
      have kP := ppush_any A (G + 1) G i i lv v _ (xs i) _ HA.out pl2 (by have := HL.out; omega) (by have := HL.out; omega)
      have HFF : Hid (riseF A (up (inF A f0 xs i) i (xs i, (i : Int))) i = inF A f0 xs (i + 1)) := rfl
      rw [HFF.out] at kP
      have HB2 : Hid (Below G w (wr.alloc (iX (xs i)))) := hb.out.alloc hGw _
      obtain ⟨FF, hFF⟩ : ∃ FF, FF = inF A f0 xs (i + 1) := ⟨_, rfl⟩
      rw [← hFF] at kP
      have HFE : Hid (FF = inF A f0 xs (i + 1)) := hFF
      clear hat pl2 HFF hFF
      obtain ⟨⟨xk, xi⟩, hx⟩ : ∃ x, xs i = x := ⟨_, rfl⟩
      rw [hx] at q1 q2 kP HB2
      dsimp only at q1 q2
      gi_wp2_with (refine ⟨trivial, ?_⟩; gi_at_call 13; refine (callsIn_wide.2 kP).mono ?_; rintro r w2 ⟨rfl, g2, c2, p2, k2, hg2⟩; have P2 : Hid _ := p2; have K2 : Hid _ := k2; have G2 : Hid _ := hg2; clear p2 k2 hg2)
      refine ⟨⟨i + 1, _, by go_num, HI.out, by rw [← HFE.out]; exact P2, fun k e => ?_, HB2.out.trans (K2.out.below (by simp; omega) (fun k hk e => ?_))⟩, by simp [RowKit.intOf]; omega⟩
      · have e' : g2 = k := Option.some.inj e
        rcases G2.out with h | h
        · exact e' ▸ hv.out g2 h
        · simp at h; omega
      · rcases e with e | e
        · omega
        · have := hv.out k e
          omega
    · have hii : ¬ (i : Int) < n := by omega
      obtain rfl : i = n := by omega
      obtain ⟨w2, rmk, omk, bmk⟩ := make0_i wr wr.heap.size i (Nat.le_refl _) (by have := HL.out; omega) (lk [])
      gi_wp2_with (refine ⟨trivial, ?_⟩; gi_at_call 20; refine (callsIn_wide.2 (drain_any _ _)).mono ?_; rintro r w3 ⟨rfl, rfl⟩)
      have b3 : Below wr.heap.size wr ((w2.alloc (.cells #[.slice (some ⟨wr.heap.size, 0, none⟩) 0 i] 22)).alloc (.cells #[.pointer (some ⟨G + 1, 0, none⟩)] 28)) := (bmk.alloc bmk.size _).alloc (Nat.le_trans bmk.size (by simp)) _
      have hGr : G + 1 < wr.heap.size := World.block_lt_of_cell? wr _ pl.out.cm
      have hs2 : wr.heap.size ≤ w2.heap.size := bmk.size
      have bo := (Boxed.new w2 22 (.slice (some ⟨wr.heap.size, 0, none⟩) 0 i)).alloc (.cells #[.pointer (some ⟨G + 1, 0, none⟩)] 28)
      have bp := Boxed.new (w2.alloc (.cells #[.slice (some ⟨wr.heap.size, 0, none⟩) 0 i] 22)) 28 (.pointer (some ⟨G + 1, 0, none⟩))
      rw [World.size_alloc] at bp
      obtain ⟨W0, hW0⟩ : ∃ W0, W0 = (w2.alloc (.cells #[.slice (some ⟨wr.heap.size, 0, none⟩) 0 i] 22)).alloc (.cells #[.pointer (some ⟨G + 1, 0, none⟩)] 28) := ⟨_, rfl⟩
      have hsz : W0.heap.size = w2.heap.size + 2 := by rw [hW0]; simp
      obtain ⟨T, hT⟩ : ∃ T, T = outL A i (inF A f0 xs i) := ⟨_, rfl⟩
      have hTl : T.length = i := by rw [hT]; exact outL_len A i _
      have s0 : S1 w G wr.heap.size (w2.heap.size + 1) w2.heap.size lv A i i [] T W0 := by
        rw [hW0]
        exact ⟨v, _, _, pl.out.below b3, hT.symm, bo, bp, (World.ownsRow.alloc (World.ownsRow.alloc omk _) _), by omega, by omega, by omega, by omega, hv.out, hb.out.trans (b3.mono hGw)⟩
      have HS : Hid (S1 w G wr.heap.size (w2.heap.size + 1) w2.heap.size lv A i i [] T W0) := s0
      have hGw0 : G ≤ w.heap.size := by rw [HG.out]; exact Nat.le_refl _
      have HT0 : Hid (T = outL A i (inF A f0 xs i)) := hT
      rw [← hW0]
      clear hT hW0 s0 bo bp b3 rmk omk bmk pl hv hb
      refine wpIn_rangeDrain (by omega) (by omega) (Bp := w2.heap.size + 1) rfl rfl (lenAt (G + 1)) (lenAt_put (G + 1))
        (fun W => ∃ p pre ys, S1 w G wr.heap.size (w2.heap.size + 1) w2.heap.size lv A i p pre ys W ∧ pre ++ ys = T ∧ p ≤ i)
        (S1 w G wr.heap.size (w2.heap.size + 1) w2.heap.size lv A i 0 T [])
        (fun x k W => ∃ p pre ys, k = p + 1 ∧ S1 w G wr.heap.size (w2.heap.size + 1) w2.heap.size lv A i p pre ys W ∧ pre ++ x :: ys = T ∧ p + 1 ≤ i)
        (fun _ _ => False)
        (fun s X Y row hs hg hr => by obtain ⟨p, pre, ys, h, e⟩ := hs; exact ⟨p, pre, ys, S1.own hGw0 (by omega) s X Y row h hg hr, e⟩)
        (S1.own hGw0 (by omega))
        (fun x k s X Y row hs hg hr => by obtain ⟨p, pre, ys, e1, h, e⟩ := hs; exact ⟨p, pre, ys, e1, S1.own hGw0 (by omega) s X Y row h hg hr, e⟩)
        (fun _ _ _ _ _ h _ _ => h) ⟨i, [], T, HS.out, rfl, Nat.le_refl _⟩ ?pop
        (fun x a' W => ∃ B, W.heap[B]? = some (.cells #[.int .i64 x.1, .int .i64 x.2] 24) ∧ a' = { tmps := #[.slice a i c, lp, undef, undef, .slice none 0 0, .pointer (some ⟨G + 1, 0, none⟩), undef, u7, .pointer (some ⟨w2.heap.size, 0, none⟩), .pointer (some ⟨B, 0, none⟩), lp, .pointer (some ⟨G + 1, 0, none⟩), .slice a i c, .int .i64 (i : Int), .int .i64 (i : Int), .bool false, u16, u17, u18, u19, u20, u21, .slice a i c, .int .i64 (i : Int), .slice (some ⟨wr.heap.size, 0, none⟩) 0 i, .pointer (some ⟨G + 1, 0, none⟩), .func (.func 43) #[] #[.pointer (some ⟨w2.heap.size + 1, 0, none⟩)], iv x, undef, undef, undef, undef, undef], defers := [] })
        (fun x a' s X Y row hs hg hr => by obtain ⟨B, h, e⟩ := hs; exact ⟨B, heap_turned h rfl ⟨row, hg, fun r e => (hr r e).2⟩, e⟩) ?assign ?body ?done (fun _ _ _ _ h _ => h.elim)
      case pop =>
        rintro W ⟨p, pre, ys, h, hT, hp⟩
        refine ⟨some ⟨G + 1, 0, none⟩, ?_, ?_⟩
        · obtain ⟨v, vo, f, ss⟩ := h
          exact ss.bp.cell
        · cases p with
          | zero =>
            left
            have e0 : ys = [] := by obtain ⟨v, vo, f, ss⟩ := h; exact ss.out.symm
            subst e0
            rw [List.append_nil] at hT
            subst hT
            obtain ⟨v, vo, f, ss⟩ := id h
            exact (ppop_none (G + 1) G i lv v f W ss.pl).mono fun e W' ⟨he, hb⟩ => ⟨he, h.below hb, keeps_below hb⟩
          | succ p =>
            right
            obtain ⟨x, ys', rfl, k⟩ := h.pop (B := W0.heap.size) HA.out (by have := HL.out; omega)
            exact ⟨x, k.mono fun e W' ⟨he, hs, hk⟩ => ⟨he, ⟨p, pre, ys', by rw [h.lenAt], hs, hT, hp⟩, hk⟩⟩
      case assign =>
        rintro l ⟨xk, xi⟩ k W K ⟨p, pre, ys, hk, hs, hT, hp⟩ hK
        have HS2 : Hid _ := hs
        have HT2 : Hid (pre ++ (xk, xi) :: ys = T) := hT
        clear hs hT
        gi_wp2
        exact hK _ _ (keeps_below ((Below.refl _ W).alloc (Nat.le_refl _) _)) ⟨p, pre, ys, hk, S1.below HS2.out ((Below.refl _ W).alloc (Nat.le_refl _) _), HT2.out, hp⟩ ⟨W.heap.size, heap_alloc_new W _, rfl⟩
      case body =>
        rintro l ⟨xk, xi⟩ k a' W ⟨p, pre, ys, hk, ⟨v, vo, f, ss⟩, hT, hp⟩ ⟨B, hB, rfl⟩
        have hpl : pre.length + 1 ≤ i := by
          have := congrArg List.length hT
          simp at this
          omega
        obtain ⟨g', c', w', r, b0, ss', kf⟩ := ss.app (xk, xi) (by have := HL.out; omega) (by have := ss.bo.lt; omega)
        have c0 : W.cell? ⟨B, 0, none⟩ = some (.int .i64 xk) := by unfold World.cell?; rw [hB]; rfl
        have c1 : W.cell? ⟨B, 1, none⟩ = some (.int .i64 xi) := by unfold World.cell?; rw [hB]; rfl
        have hc := ss.bo.cell
        have d0 := b0.cell
        have z0 := b0.frozen
        have SS' : Hid _ := ss'
        have KF : Hid _ := kf
        have HT2 : Hid (pre ++ (xk, xi) :: ys = T) := hT
        clear ss' kf hT ss b0 hB
        gi_wp2_with (gi_at_builtin; refine wpIn_append_run rfl (.tmp 28) (.tmp 30) 22 22 rfl _ _ rfl rfl r ?_)
        exact ⟨KF.out _, ⟨p, pre ++ [(xk, xi)], ys, ⟨v, _, f, SS'.out⟩, by rw [← HT2.out]; simp, by omega⟩, by rw [SS'.out.pl.lenAt]; omega⟩
      case done =>
        rintro D W hD ⟨v, vo, f, ss⟩ hK
        have hc := ss.bo.cell
        have HSS : Hid _ := ss
        clear ss
        gi_wp2
        refine ⟨by simp, .inl ⟨_, _, rfl, run_takeDeferred hK, ?_⟩⟩
        refine ⟨_, results_tmp rfl _ _ _, vo, rfl, ?_, ?_⟩
        · have := HSS.out.row
          rw [hTl] at this
          rw [← HT0.out]
          exact ownsRow_putObj (row_base this (by omega)) _ hK rfl
        · exact HSS.out.below.trans (belowK_b (w := w) hGw0 W D _ _ (by have := HG.out; omega) hK rfl rfl)
end Go.Proofs.Ytcgpjmpppajfdaa
