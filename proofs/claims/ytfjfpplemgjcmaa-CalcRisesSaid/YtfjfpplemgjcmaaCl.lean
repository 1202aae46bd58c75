/- The reference's steps. -/
import Derived.Test.YtfjfpplemgjcmaaCk
namespace Go.Proofs.Ytfjfpplemgjcmaa
open Go.RowKit

theorem seg_gB (ys : List Bk) : seg (gB ys) 0 ys.length = ys := by
  apply List.ext_getElem
  · rw [seg_length]
  · intro j h1 h2
    have key : ∀ (f : Nat → Bk) n a i (hi : i < (seg f a n).length), (seg f a n)[i] = f (a + i) := by
      intro f n
      induction n with
      | zero => intro a i hi; simp [seg] at hi
      | succ n ih =>
        intro a i hi
        cases i with
        | zero => rfl
        | succ i =>
          have := ih (a + 1) i (by rw [seg_length] at hi ⊢; omega)
          rw [show a + 1 + i = a + (i + 1) by omega] at this
          exact this
    rw [key, Nat.zero_add]
    simp [gB, List.getD, h2]
theorem fo_same (x : Nat) : fo (cl x) (cl x) ≠ some .lt ∧ fo (cl x) (cl x) ≠ some .gt := by
  rw [← fo_cl, fo_self]
  constructor <;> split <;> decide
theorem tp_one (A : Nat → Ab) (x : Nat) (h : (A 0).2 = cl x) : tpI A 1 = cl x := by
  rw [tpI, tpI, h, if_neg (fo_same x).2]
theorem rz_zero (A : Nat → Ab) (x : Nat) (h : (A 0).2 = cl x) : rzI A 0 = A 0 := by
  unfold rzI
  rw [tpI, h, if_neg (fo_same x).1, ← h]
theorem Rb.low {w : World} {S S' g c n : Nat} {f : Nat → Bk} (h : Rb w S g c n f) (hs : S' ≤ S) : Rb w S' g c n f := by
  refine ⟨h.1, ?_⟩
  rcases h.2 with h0 | ⟨g, cap, cur, hv, hB, r⟩
  · exact .inl h0
  · exact .inr ⟨g, cap, cur, hv, Nat.le_trans hs hB, r⟩
/-- What Steps leaves. -/
def StP (bs : Nat → Bk) (n S : Nat) (w : World) (r : Ending) (w' : World) : Prop := ∃ k f m f', Sim kb ((seg bs 0 n).filter nn) (seg f 0 k) ∧ Up kb (seg f 0 k) ∧ rsg f' m = jnI (fun j => ab' (f j)) k ∧ 16 * m ≤ 140737488355328 ∧ Below S w w' ∧
  ((m < 2 ∧ r = .returned (.slice none 0 0)) ∨ ∃ L, m = L + 1 ∧ 1 ≤ L ∧ ((upB (f' L).1 = false ∧ r = .returned (.slice none 0 0)) ∨ (upB (f' L).1 = true ∧ ∃ g c f2, r = .returned (.slice (some ⟨g, 0, none⟩) (L + 1) c) ∧ L + 1 ≤ c ∧ Rb w' S g c (L + 1) f2 ∧ BW f2 (L + 1) ∧ ∀ j, j < L + 1 → ab' (f2 j) = rzI (fun j => ab' (f' j)) j)))
set_option maxHeartbeats 4000000 in
set_option maxRecDepth 100000 in
theorem steps_any (a : Option Addr) (c n : Nat) (bs : Nat → Bk) (w : World) (hS : Calls Try.prog 61 #[.slice a n c] w (SoB w (seg bs 0 n))) (hl : 16 * n ≤ 140737488355328) :
    Calls Try.prog 50 #[.slice a n c] w (StP bs n w.heap.size w) := by
  have hsf := @run_store_float Try.prog
  have ha := @run_fadd Try.prog
  obtain ⟨G, hG⟩ : ∃ G, G = w.heap.size := ⟨_, rfl⟩
  rw [← hG]
  have HG : Hid (G = w.heap.size) := hG
  clear hG
  go_enter Try.func50, Try.ntmps50
  go_wp2_with fail
  go_fit hS
  rintro r w1 ⟨v, ys, rfl, o1, s1, u1, d1, l1, hb1⟩
  obtain ⟨a1, c1, rfl, m1⟩ := o1.fm
  have HF : Hid (Bl w1 a1 ys) := m1
  have HW : Hid (Wb ys) := d1
  have hB1 : Below G w w1 := by rw [HG.out]; exact hb1
  have HSU : Hid (∀ m f' r w', rsg f' m = jnI (fun j => ab' (gB ys j)) ys.length → 16 * m ≤ 140737488355328 → Below G w w' → ((m < 2 ∧ r = .returned (.slice none 0 0)) ∨ ∃ L, m = L + 1 ∧ 1 ≤ L ∧ ((upB (f' L).1 = false ∧ r = .returned (.slice none 0 0)) ∨ (upB (f' L).1 = true ∧ ∃ g c f2, r = .returned (.slice (some ⟨g, 0, none⟩) (L + 1) c) ∧ L + 1 ≤ c ∧ Rb w' G g c (L + 1) f2 ∧ BW f2 (L + 1) ∧ ∀ j, j < L + 1 → ab' (f2 j) = rzI (fun j => ab' (f' j)) j))) → StP bs n G w r w') := fun m f' r w' h1 h2 h3 h4 =>
    ⟨ys.length, gB ys, m, f', by rw [seg_gB]; exact s1, by rw [seg_gB]; exact u1, h1, h2, h3, h4⟩
  rw [seg_length] at l1
  generalize hN : ys.length = N at *
  have HN : Hid (ys.length = N) := hN
  obtain ⟨bs', hbs⟩ : ∃ bs' : Nat → Bk, bs' = gB ys := ⟨_, rfl⟩
  have HFm : Hid (Bml w1 a1 bs' N) := by
    rcases HF.out with h0 | ⟨g, o, h1, h2, h3⟩
    · left; rw [← hN, h0]; rfl
    · right; refine ⟨g, o, h1, h2, ?_⟩; rw [← hN, hbs]; exact h3
  have HWm : Hid (BW bs' N) := fun j hj => by
    rw [hbs]
    refine HW.out _ ?_
    rw [← hN] at hj
    simp only [gB, List.getD_eq_getElem?_getD, List.getElem?_eq_getElem hj, Option.getD_some]
    exact List.getElem_mem hj
  rw [← hbs] at HSU
  have hsz1 : G ≤ w1.heap.size := by rw [HG.out]; exact hb1.size
  clear o1 s1 u1 d1 m1 hb1 hS hN hbs HF HW
  go_wp2
  go_loopw [3, 5] (fun ov iv w' => ∃ (i m : Nat) (f : Nat → Bk) (A : Option Addr) (C : Nat), iv = .int .i64 (i : Int) ∧ i ≤ N ∧ m ≤ i ∧ ov = .slice A m C ∧ Hid (Br w' w1.heap.size (.slice A m C) m f) ∧ Hid (BW f m) ∧ Hid (rsg f m = jnI (fun j => ab' (bs' j)) i) ∧ Below w1.heap.size w1 w') (fun _ iv _ => N - (RowKit.intOf iv).toNat)
  case atStart => exact ⟨0, 0, bs', none, 0, rfl, by omega, by omega, rfl, Br.nil _ _ _, fun j hj => absurd hj (by omega), rfl, Below.refl _ _⟩
  case round =>
    obtain ⟨i, m, f, A, C, rfl, hi, hm, rfl, o, hbw, hs, hb⟩ := hrel
    by_cases hlt : i < N
    · have hii : (i : Int) < N := by omega
      rcases HFm.out with h0 | ⟨g, of_, rfl, hg, hat⟩
      · omega
      obtain ⟨f1, f2⟩ := hat i hlt
      have q1 := (hb.cell (p := ⟨g, of_ + i * 2, none⟩) hg).trans f1
      have q2 := (hb.cell (p := ⟨g, of_ + i * 2 + 1, none⟩) hg).trans f2
      have HI : Hid (i + 1 ≤ N) := hlt
      have hjn : jnI (fun j => ab' (bs' j)) (i + 1) = jnR (jnI (fun j => ab' (bs' j)) i) (ab' (bs' i)) := rfl
      rw [← hs.out] at hjn
      have hul := HWm.out i hlt
      obtain ⟨u, hu⟩ : ∃ u, bs' i = u := ⟨_, rfl⟩
      rw [hu] at q1 q2 hjn hul
      clear f1 f2 hat hu hs
      generalize hJ : jnI (fun j => ab' (bs' j)) (i + 1) = J at *
      obtain ⟨xu, xc⟩ := u
      dsimp only at q1 q2
      have hGw : w1.heap.size ≤ wr.heap.size := hb.size
      by_cases hm0 : m = 0
      · subst hm0
        have hneg : decide ((0 : Int) < ((0 : Nat) : Int)) = false := by decide
        have HJ : Hid ([ab' (xu, xc)] = jnI (fun j => ab' (bs' j)) (i + 1)) := by show _ = _; rw [hJ, hjn]; rfl
        clear hjn
        go_wp2_with fail
        go_quiet (fail)
        have oz : Br (wr.drewN nq) w1.heap.size (.slice A 0 C) 0 f := o.out
        have bz := below_drewN hb nq
        have m0 : (wr.drewN nq).cell? ⟨g, of_ + i * 2, none⟩ = some (.float .f64 xu) := q1
        have m1 : (wr.drewN nq).cell? ⟨g, of_ + i * 2 + 1, none⟩ = some (.float .f64 xc) := q2
        have hsz2 : w1.heap.size ≤ (wr.drewN nq).heap.size := hGw
        clear q1 q2 o hb hGw
        generalize wr.drewN nq = W2 at *
        obtain ⟨v', w', r1, o', b'⟩ := append_b W2 w1.heap.size (.slice A 0 C) 0 f (xu, xc) hsz2 (by omega) oz
        obtain ⟨A', C', rfl, _, _⟩ := o'.bml
        have O' : Hid _ := o'
        have B' : Hid (Below w1.heap.size w1 w') := bz.trans b'
        have BW' : Hid (BW (up f 0 (xu, xc)) 1) := BW.push hbw.out _ hul.1 hul.2
        have J' : Hid (rsg (up f 0 (xu, xc)) 1 = jnI (fun j => ab' (bs' j)) (i + 1)) := HJ.out
        dsimp only at r1
        clear o' b' oz bz hsz2
        go_wp2_with (at_builtin; refine wpList_append_run rfl (.tmp 53) (.tmp 58) 36 36 rfl _ _ rfl rfl r1 ?_)
        exact ⟨⟨i + 1, 1, _, A', C', by go_num, HI, by omega, rfl, O', BW', J', B'.out⟩, by simp [RowKit.intOf]; omega⟩
      · obtain ⟨p, rfl⟩ : ∃ p, m = p + 1 := ⟨m - 1, by omega⟩
        rcases o.out.parts with ⟨hv, h0⟩ | ⟨g2, c2, hv, hr, hc⟩
        · omega
        cases hv
        have hlast : ((p + 1 : Nat) : Int) - 1 = (p : Int) := by omega
        have hpos : (0 : Int) < ((p + 1 : Nat) : Int) := by omega
        have hwp : IntKind.i64.wrap (p : Int) = (p : Int) := by rw [IntKind.wrap_i64]; omega
        have hpC : p < p + 1 := by omega
        have c1 := hr.cellU p hpC
        have c2 := hr.cellC p hpC
        have z1 := hr.froz (p * 2 + 1)
        rw [rsg] at hjn
        have HR : Hid (Rb wr w1.heap.size g2 C (p + 1) f) := hr
        have HBB : Hid (Below w1.heap.size w1 wr) := hb
        have hup : rsg f (p + 1) = ab' (f p) :: rsg f p := rfl
        obtain ⟨⟨yu, yc⟩, hy⟩ : ∃ y, f p = y := ⟨_, rfl⟩
        rw [hy] at c1 c2 hjn
        dsimp only at c1 c2
        cases heq : (FloatKind.f64.format.order yu xu == some .eq)
        · have HJ : Hid (ab' (xu, xc) :: rsg f (p + 1) = jnI (fun j => ab' (bs' j)) (i + 1)) := by
            show _ = _
            rw [hJ, hjn, hup, hy]
            unfold jnR ab'
            dsimp only
            rw [heq]
            rfl
          clear hjn o hb hup hr hc
          go_wp2_with fail
          go_quiet (fail)
          have oz : Rb (wr.drewN nq) w1.heap.size g2 C (p + 1) f := HR.out
          have bz := below_drewN HBB.out nq
          have m0 : (wr.drewN nq).cell? ⟨g, of_ + i * 2, none⟩ = some (.float .f64 xu) := q1
          have m1 : (wr.drewN nq).cell? ⟨g, of_ + i * 2 + 1, none⟩ = some (.float .f64 xc) := q2
          have hsz2 : w1.heap.size ≤ (wr.drewN nq).heap.size := hGw
          clear q1 q2 HR HBB c1 c2 z1 hGw
          generalize wr.drewN nq = W2 at *
          obtain ⟨v', w', r1, o', b'⟩ := append_b W2 w1.heap.size (.slice (some ⟨g2, 0, none⟩) (p + 1) C) (p + 1) f (xu, xc) hsz2 (by omega) oz
          obtain ⟨A', C', rfl, _, _⟩ := o'.bml
          have O' : Hid _ := o'
          have B' : Hid (Below w1.heap.size w1 w') := bz.trans b'
          have BW' : Hid (BW (up f (p + 1) (xu, xc)) (p + 1 + 1)) := BW.push hbw.out _ hul.1 hul.2
          have J' : Hid (rsg (up f (p + 1) (xu, xc)) (p + 1 + 1) = jnI (fun j => ab' (bs' j)) (i + 1)) := by show _ = _; rw [rsg_push]; exact HJ.out
          dsimp only at r1
          clear o' b' oz bz hsz2 hy
          go_wp2_with (at_builtin; refine wpList_append_run rfl (.tmp 53) (.tmp 58) 36 36 rfl _ _ rfl rfl r1 ?_)
          exact ⟨⟨i + 1, p + 1 + 1, _, A', C', by go_num, HI, by omega, rfl, O', BW', J', B'.out⟩, by simp [RowKit.intOf]; omega⟩
        · have HJ : Hid (∀ z, cl z = fb .add (cl yc) (cl xc) → (yu, cl z) :: rsg f p = jnI (fun j => ab' (bs' j)) (i + 1)) := fun z hz => by
            rw [hJ, hjn]
            unfold jnR ab'
            dsimp only
            rw [heq, if_pos rfl, hz]
          clear hjn o hb hup hr hc
          go_wp2_with fail
          go_quiet (fail)
          have oz : Rb (wr.drewN nq) w1.heap.size g2 C (p + 1) f := HR.out
          have bz := below_drewN HBB.out nq
          have m1 : (wr.drewN nq).cell? ⟨g, of_ + i * 2 + 1, none⟩ = some (.float .f64 xc) := q2
          have m2 : (wr.drewN nq).cell? ⟨g2, p * 2 + 1, none⟩ = some (.float .f64 yc) := c2
          have m3 : (wr.drewN nq).frozen? ⟨g2, p * 2 + 1, none⟩ = false := z1
          clear q1 q2 HR HBB c1 c2 z1 hGw
          generalize wr.drewN nq = W2 at *
          have o4 := Rb.setC (oz.drew (1 + fk .add yc xc)) p hpC (fz .add yc xc W2.drew)
          have b4 := (below_drewN bz (1 + fk .add yc xc)).setCell (p := ⟨g2, p * 2 + 1, none⟩) oz.ge (.float .f64 (fz .add yc xc W2.drew))
          have O4 : Hid _ := o4
          have J4 : Hid (rsg (up f p ((f p).1, fz .add yc xc W2.drew)) (p + 1) = jnI (fun j => ab' (bs' j)) (i + 1)) := by
            show _ = _
            rw [rsg_push, hy]
            exact HJ.out _ (cl_fz _ _ _ _)
          have BW4 : Hid (BW (up f p ((f p).1, fz .add yc xc W2.drew)) (p + 1)) := BW.up hbw.out p _ (hbw.out p hpC).1 (fz_lt _ _ _ _)
          have HB4 : Hid _ := b4
          clear o4 b4 oz bz hy
          go_wp2_with fail
          go_region
          go_wp2
          exact ⟨⟨i + 1, p + 1, _, _, C, by go_num, HI, by omega, rfl, O4, BW4, J4, HB4.out⟩, by simp [RowKit.intOf]; omega⟩
    · have hii : ¬ (i : Int) < N := by omega
      have e : i = N := by omega
      subst e
      have BB : Below G w wr := hB1.trans (hb.mono hsz1)
      have HX : Hid (rsg f m = jnI (fun j => ab' (bs' j)) i) := hs
      have HLB : Hid (16 * m ≤ 140737488355328) := by show _ ≤ _; omega
      clear hs hb
      by_cases hm2 : m < 2
      · have hmi : (m : Int) < 2 := by omega
        have hdt : decide ((m : Int) < 2) = true := decide_eq_true hmi
        go_wp2
        go_ret
        exact HSU.out m f _ _ HX.out HLB.out BB (.inl ⟨hm2, rfl⟩)
      · obtain ⟨L, rfl⟩ : ∃ L, m = L + 1 := ⟨m - 1, by omega⟩
        have hL : 1 ≤ L := by omega
        rcases o.out.parts with ⟨hv, h0⟩ | ⟨g2, c2, hv, hr, hc⟩
        · omega
        cases hv
        have hmi : ¬ ((L + 1 : Nat) : Int) < 2 := by omega
        have hdf : decide (((L + 1 : Nat) : Int) < 2) = false := decide_eq_false hmi
        have hlast : ((L + 1 : Nat) : Int) - 1 = (L : Int) := by omega
        have cu := hr.cellU L (by omega)
        have hLL : L < L + 1 := by omega
        have hwl : IntKind.i64.wrap (L : Int) = (L : Int) := by rw [IntKind.wrap_i64]; omega
        obtain ⟨M, hM⟩ : ∃ M, L + 1 = M := ⟨_, rfl⟩
        have HM : Hid (L + 1 = M) := hM
        cases hup : upB (f L).1
        · have hup2 : (FloatKind.f64.format.order (f L).1 9218868437227405311 == some .gt) = false := hup
          have HUP : Hid (upB (f L).1 = false) := hup
          clear hup o hr
          generalize (f L).1 = lu at cu hup2
          rw [hM] at hmi hdf hlast hLL hc ⊢
          clear hM
          go_wp2
          go_ret
          exact HSU.out (L + 1) f _ _ HX.out HLB.out BB (.inr ⟨L, rfl, hL, .inl ⟨HUP.out, rfl⟩⟩)
        · have hup2 : FloatKind.f64.format.order (f L).1 9218868437227405311 = some .gt := eq_of_beq hup
          have HUP : Hid (upB (f L).1 = true) := hup
          have c0 := hr.cellC 0 (by omega)
          rw [Nat.zero_mul, Nat.zero_add] at c0
          obtain ⟨A, hA⟩ : ∃ A, A = fun j => ab' (f j) := ⟨_, rfl⟩
          have HA : Hid (∀ j, A j = ab' (f j)) := fun j => by rw [hA]
          have HA0 : Hid (A = fun j => ab' (f j)) := hA
          have HT0 : Hid (cl (f 0).2 = tpI A 1) := (tp_one A (f 0).2 (by rw [hA]; rfl)).symm
          have HZ0 : Hid (∀ j, j < 1 → ab' (f j) = rzI A j) := fun j hj => by
            obtain rfl : j = 0 := by omega
            rw [rz_zero A (f 0).2 (by rw [hA]; rfl), hA]
          have HL0 : Hid ((f 0).2 < 18446744073709551616) := (hbw.out 0 (by omega)).2
          have H0 : Hid (Rb wr w1.heap.size g2 C (L + 1) f) := hr
          generalize (f L).1 = lu at cu hup2
          generalize (f 0).2 = t0 at c0 HT0 HL0
          rw [hM] at hmi hdf hlast hLL hc H0 hbw ⊢
          have hM1 : 1 ≤ M := by omega
          clear hM hA hup o hr
          go_wp2
          go_loopw [6, 7] (fun tv iv w' => ∃ (i t : Nat) (f' : Nat → Bk), tv = .float .f64 t ∧ iv = .int .i64 (i : Int) ∧ 1 ≤ i ∧ i ≤ M ∧ t < 18446744073709551616 ∧ Hid (cl t = tpI A i) ∧ Hid (Rb w' w1.heap.size g2 C M f') ∧ Hid (BW f' M) ∧ Hid ((∀ j, j < i → ab' (f' j) = rzI A j) ∧ ∀ j, i ≤ j → f' j = f j) ∧ Below G w w') (fun _ iv _ => M - (RowKit.intOf iv).toNat)
          case atStart => exact ⟨1, t0, f, rfl, rfl, Nat.le_refl _, hM1, HL0, HT0, H0, hbw, ⟨HZ0.out, fun _ _ => rfl⟩, BB⟩
          case round =>
            obtain ⟨i, t, f', rfl, rfl, hi0, hi, htl, ht, o, hbw2, hf, hb⟩ := hrel
            by_cases hlt : i < M
            · have hii : (i : Int) < M := by omega
              have HI : Hid (i + 1 ≤ M) := hlt
              have c1 := o.out.cellC i hlt
              have z1 := o.out.froz (i * 2 + 1)
              have hfi : f' i = f i := hf.out.2 i (Nat.le_refl _)
              have hAi : A i = ab' (f' i) := by rw [hfi]; exact HA.out i
              obtain ⟨⟨xu, xc⟩, hx⟩ : ∃ x, f' i = x := ⟨_, rfl⟩
              rw [hx] at c1 hAi
              have hxl := hbw2.out i hlt
              rw [hx] at hxl
              dsimp only at c1 hxl
              have hoc : FloatKind.f64.format.order xc t = fo (A i).2 (tpI A i) := by rw [fo_cl, ht.out, hAi]; rfl
              by_cases h1 : FloatKind.f64.format.order xc t = some .lt
              · have o4 := o.out.setC i hlt t
                have b4 := hb.setCell (p := ⟨g2, i * 2 + 1, none⟩) (Nat.le_trans hsz1 o.out.ge) (.float .f64 t)
                have F4 : Hid ((∀ j, j < i + 1 → ab' (up f' i ((f' i).1, t) j) = rzI A j) ∧ ∀ j, i + 1 ≤ j → up f' i ((f' i).1, t) j = f j) := by
                  refine ⟨fun j hj => ?_, fun j hj => ?_⟩
                  · by_cases e : j = i
                    · subst e
                      rw [show up f' j ((f' j).1, t) j = ((f' j).1, t) from if_pos rfl]
                      unfold rzI
                      rw [← hoc, if_pos h1, hAi, hx, ← ht.out]
                      rfl
                    · rw [show up f' i ((f' i).1, t) j = f' j from if_neg e]
                      exact hf.out.1 j (by omega)
                  · rw [show up f' i ((f' i).1, t) j = f' j from if_neg (by omega)]
                    exact hf.out.2 j (by omega)
                have T4 : Hid (cl t = tpI A (i + 1)) := by
                  show _ = _
                  rw [tpI, ← hoc, h1, if_neg (by decide)]
                  exact ht.out
                have W4 : Hid (BW (up f' i ((f' i).1, t)) M) := BW.up hbw2.out i _ (hbw2.out i hlt).1 htl
                have O4 : Hid _ := o4
                clear o4 o hf hoc hx hAi
                go_wp2
                exact ⟨⟨i + 1, t, _, rfl, by go_num, by omega, HI, htl, T4, O4, W4, F4, b4⟩, by simp [RowKit.intOf]; omega⟩
              · have h1' : (FloatKind.f64.format.order xc t == some .lt) = false := beq_eq_false_iff_ne.2 h1
                have F4 : Hid ((∀ j, j < i + 1 → ab' (f' j) = rzI A j) ∧ ∀ j, i + 1 ≤ j → f' j = f j) := by
                  refine ⟨fun j hj => ?_, fun j hj => hf.out.2 j (by omega)⟩
                  by_cases e : j = i
                  · subst e
                    unfold rzI
                    rw [← hoc, if_neg h1, hAi, hx]
                  · exact hf.out.1 j (by omega)
                by_cases h2 : FloatKind.f64.format.order xc t = some .gt
                · have T4 : Hid (cl xc = tpI A (i + 1)) := by
                    show _ = _
                    rw [tpI, ← hoc, if_pos h2, hAi]; rfl
                  clear hf hoc hx hAi h1
                  go_wp2
                  exact ⟨⟨i + 1, xc, f', rfl, by go_num, by omega, HI, hxl.2, T4, o, hbw2, F4, hb⟩, by simp [RowKit.intOf]; omega⟩
                · have h2' : (FloatKind.f64.format.order xc t == some .gt) = false := beq_eq_false_iff_ne.2 h2
                  have T4 : Hid (cl t = tpI A (i + 1)) := by
                    show _ = _
                    rw [tpI, ← hoc, if_neg h2]
                    exact ht.out
                  clear hf hoc hx hAi h1 h2
                  go_wp2
                  exact ⟨⟨i + 1, t, f', rfl, by go_num, by omega, HI, htl, T4, o, hbw2, F4, hb⟩, by simp [RowKit.intOf]; omega⟩
            · have hii : ¬ (i : Int) < M := by omega
              have F4 : Hid (∀ j, j < M → ab' (f' j) = rzI A j) := fun j hj => hf.out.1 j (by omega)
              clear hf
              go_wp2
              go_ret
              exact HSU.out (L + 1) f _ _ HX.out HLB.out hb (.inr ⟨L, rfl, hL, .inr ⟨HUP.out, g2, C, f', by rw [HM.out]; rfl, by rw [HM.out]; exact hc, by rw [HM.out]; exact o.out.low hsz1, by rw [HM.out]; exact hbw2.out, by rw [HM.out, ← HA0.out]; exact F4.out⟩⟩)
end Go.Proofs.Ytfjfpplemgjcmaa
