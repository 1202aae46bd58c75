/- CalcRises: the law's walk, where there is work. -/
import Derived.Test.YtfjfpplemgjcmaaRk
namespace Go.Proofs.Ytfjfpplemgjcmaa
open Go.RowKit

/-- The sum of the first. -/
def cs' (c : Nat → Int) : Nat → Int
  | 0 => 0
  | i + 1 => cs' c i + c i
theorem cs_bd (c : Nat → Int) (N : Nat) (h : ∀ j, j < N → 0 ≤ c j ∧ c j ≤ 65535) : ∀ i, i ≤ N → 0 ≤ cs' c i ∧ cs' c i ≤ 65535 * (i : Int)
  | 0, _ => by simp [cs']
  | i + 1, hi => by
    have h1 := cs_bd c N h i (by omega)
    have h2 := h i (by omega)
    rw [cs']
    omega
theorem cs_mono (c : Nat → Int) (N : Nat) (h : ∀ j, j < N → 0 ≤ c j ∧ c j ≤ 65535) (i : Nat) : ∀ j, i ≤ j → j ≤ N → cs' c i ≤ cs' c j
  | 0, h1, _ => by
    obtain rfl : i = 0 := by omega
    exact Int.le_refl _
  | j + 1, h1, h2 => by
    by_cases e : i = j + 1
    · subst e; exact Int.le_refl _
    · have h3 := cs_mono c N h i j (by omega) (by omega)
      have h4 := h j (by omega)
      rw [cs']
      omega
/-- The buckets that are laid. -/
def rb (b c : Nat → Int) (j : Nat) : Bk := (iw (b j), iw (cs' c (j + 1)))
theorem rb_hb (b c : Nat → Int) (m : Nat) (f : Nat → Bk) (hm : 1 ≤ m) (hm2 : m ≤ 200) (hf : ∀ j, j < m → f j = rb b c j) (ht : f m = (9218868437227405312, iw (cs' c (m + 1)))) (hr : ∀ i j, i < j → j < m → b i < b j)
    (hb : ∀ j, j < m → -2147483648 ≤ b j ∧ b j ≤ 2147483647) (hc : ∀ j, j < m + 1 → 0 ≤ c j ∧ c j ≤ 65535) (h0 : c 0 ≠ 0) : Hb f m b (fun j => cs' c (j + 1)) where
  one := hm
  val := hf
  top := ht
  rise := hr
  keep := fun i j h1 h2 => cs_mono c (m + 1) hc (i + 1) (j + 1) (by omega) (by omega)
  pos := by
    have := hc 0 (by omega)
    show 0 < cs' c 1
    rw [cs', cs']
    omega
  bb := fun j hj => by have := hb j hj; omega
  sb := fun j hj => by
    have := cs_bd c (m + 1) hc (j + 1) (by omega)
    omega
theorem rb_words (b c : Nat → Int) (j : Nat) : (rb b c j).1 < 18446744073709551616 ∧ (rb b c j).2 < 18446744073709551616 := ⟨iw_lt _, iw_lt _⟩
set_option maxHeartbeats 4000000 in
set_option maxRecDepth 100000 in
theorem rises_ok (a1 a2 : Option Addr) (c1 c2 m nc : Nat) (b c : Nat → Int) (p q : Nat) (w : World) (hb : Im w a1 .i32 b m) (hc : Im w a2 .u16 c nc) (hbb : ∀ j, j < m → -2147483648 ≤ b j ∧ b j ≤ 2147483647) (hcc : ∀ j, j < nc → 0 ≤ c j ∧ c j ≤ 65535) (hl2 : nc ≤ 9223372036854775807) (hok : Rok m nc c p q) :
    Calls Try.prog 5 #[.slice a1 m c1, .slice a2 nc c2, .float .f64 p, .float .f64 q] w fun r w' => r = .returned (.bool true) ∧ Below w.heap.size w w' := by
  obtain ⟨n0, n1, n2, n3, A, B, C⟩ := hok
  have kI := inf1_any
  have kM := infm_any
  have k0 := bu_prog 4602678819172646912 (some ⟨w.heap.size, 0, none⟩) 2 2 twoR (w.alloc cellsR) (twoR_mem w) twoR_words (by decide)
  have e0 : FloatKind.f64.format.order 4611686018427387904 4611686018427387904 = some .eq := by decide
  have hb0 : Below w.heap.size w (w.alloc cellsR) := (Below.refl _ _).alloc (Nat.le_refl _) _
  have hcv1 := cv32
  have hcv2 := cvI
  obtain ⟨gb, ob, rfl, hgb, hatb⟩ : ∃ g o, a1 = some ⟨g, o, none⟩ ∧ g < w.heap.size ∧ ∀ j, j < m → w.cell? ⟨g, o + j, none⟩ = some (.int .i32 (b j)) := hb.resolve_left n0
  obtain ⟨gc, oc, rfl, hgc, hatc⟩ : ∃ g o, a2 = some ⟨g, o, none⟩ ∧ g < w.heap.size ∧ ∀ j, j < nc → w.cell? ⟨g, o + j, none⟩ = some (.int .u16 (c j)) := hc.resolve_left (by omega)
  have HB : Hid (∀ j, j < m → w.cell? ⟨gb, ob + j, none⟩ = some (.int .i32 (b j))) := hatb
  have HC : Hid (∀ j, j < nc → w.cell? ⟨gc, oc + j, none⟩ = some (.int .u16 (c j))) := hatc
  have HBB : Hid (∀ j, j < m → -2147483648 ≤ b j ∧ b j ≤ 2147483647) := hbb
  have HCC : Hid (∀ j, j < nc → 0 ≤ c j ∧ c j ≤ 65535) := hcc
  obtain ⟨pn, pn2, pk⟩ := leB_ky 0 p A
  obtain ⟨_, qn, pq⟩ := leB_ky p q B
  obtain ⟨_, _, qk⟩ := leB_ky q _ C
  rw [ky0] at pk
  rw [ky1] at qk
  have PP : Hid (Pt p) := ⟨pn2, pk, by omega⟩
  have PQ : Hid (Pt q) := ⟨qn, by omega, qk⟩
  have PK : Hid (ky p ≤ ky q) := pq
  have QUANT : Hid (∀ f d e, f m = (9218868437227405312, iw (cs' c (m + 1))) → (∀ j, j < m → f j = rb b c j) → (∀ i j, i < j → j < m → b i < b j) → DQ p f (m + 1) d → DQ q f (m + 1) e → ∃ z z', d = some z ∧ e = some z' ∧ ky (iw (if b 0 < 0 then b 0 else 0)) ≤ ky z ∧ ky z ≤ ky z' ∧ ky z' ≤ ky (iw (b (m - 1)))) := fun f d e h1 h2 h3 h4 h5 => by
    have hh := rb_hb b c m f (by omega) n1 h2 h1 h3 hbb (fun j hj => hcc j (by omega)) n3
    have g4 : BuV f (m + 1) (cl p) d := by
      rcases h4 with ⟨_, h⟩ | h
      · exact h
      · exact (h.not PP.out).elim
    have g5 : BuV f (m + 1) (cl q) e := by
      rcases h5 with ⟨_, h⟩ | h
      · exact h
      · exact (h.not PQ.out).elim
    exact hh.quant p q d e PP.out PQ.out pq g4 g5
  have l1' : ((FloatKind.f64.format.order 0 p == some .lt) || (FloatKind.f64.format.order 0 p == some .eq)) = true := A
  have l2' : ((FloatKind.f64.format.order p q == some .lt) || (FloatKind.f64.format.order p q == some .eq)) = true := B
  have l3' : ((FloatKind.f64.format.order q 4607182418800017408 == some .lt) || (FloatKind.f64.format.order q 4607182418800017408 == some .eq)) = true := C
  have z1 : ((m : Int) == 0) = false := beq_eq_false_iff_ne.2 (by omega)
  have z1n : (m == 0) = false := beq_eq_false_iff_ne.2 n0
  have z2 : ¬ (200 : Int) < (m : Int) := by omega
  have z2n : decide (200 < m) = false := decide_eq_false (by omega)
  have z3 : ¬ (nc : Int) ≤ (m : Int) := by omega
  have z3n : decide (nc ≤ m) = false := decide_eq_false (by omega)
  have z4 : (c 0 == 0) = false := beq_eq_false_iff_ne.2 n3
  have hnc : 0 < nc := by omega
  clear hb hc hatb hatc hbb hcc A B C pn pn2 pk qn pq qk n3
  obtain ⟨G, hG⟩ : ∃ G, G = w.heap.size := ⟨_, rfl⟩
  have HG : Hid (G = w.heap.size) := hG
  rw [← hG] at hb0 hgb hgc ⊢
  have hb0s : G ≤ (w.alloc cellsR).heap.size := by rw [hG]; exact ((Below.refl _ w).alloc (Nat.le_refl _) _).size
  clear hG
  go_enter Try.func5, Try.ntmps5
  go_wp2_with fail
  go_fit (kI _)
  rintro r w0 ⟨rfl, rfl⟩
  go_wp2_with fail
  go_fit k0
  rintro r w1 ⟨d, hd, z, rfl, hbel, _, hz⟩
  rw [twoR_is d hd] at hz
  obtain ⟨rfl, _⟩ := cl_some hz
  have b1 := hb0.trans (hbel.mono hb0s)
  have q0 := (b1.cell (p := ⟨gc, oc + 0, none⟩) hgc).trans (HC.out 0 hnc)
  rw [Nat.add_zero] at q0
  clear hbel hz k0 hd hb0 hb0s
  generalize c 0 = cc at q0 z4
  go_wp2_with fail
  go_fit (kM _)
  rintro r w2 ⟨rfl, rfl⟩
  clear q0 z4
  go_wp2
  go_loopw [9, 10, 11, 13] (fun bv sv tv iv w' => ∃ (i : Nat) (f : Nat → Bk) (A : Option Addr) (C t : Nat), bv = .slice A i C ∧ sv = .int .i64 (cs' c i) ∧ tv = .float .f64 t ∧ iv = .int .i64 (i : Int) ∧ i ≤ m ∧ Hid (i = 0 ∨ t = iw (b (i - 1))) ∧ Hid (Br w' G (.slice A i C) i f) ∧ Hid (∀ j, j < i → f j = rb b c j) ∧ Hid (∀ x y, x < y → y < i → b x < b y) ∧ Below G w0 w') (fun _ _ _ iv _ => m - (RowKit.intOf iv).toNat)
  case atStart => exact ⟨0, fun _ => (0, 0), none, 0, _, rfl, rfl, rfl, rfl, by omega, .inl rfl, Br.nil _ _ _, fun j hj => absurd hj (by omega), fun x y _ hy => absurd hy (by omega), b1⟩
  case round =>
    obtain ⟨i, f, A, C, t, rfl, rfl, rfl, rfl, hi, ht, o, hf, hri, hbel⟩ := hrel
    have hGw : G ≤ wr.heap.size := by rw [HG.out]; rw [HG.out] at hbel; exact hbel.size
    have hcs := cs_bd c (m + 1) (fun j hj => HCC.out j (by omega)) i (by omega)
    by_cases hlt : i < m
    · have hii : (i : Int) < m := by omega
      have q1 := (hbel.cell (p := ⟨gb, ob + i, none⟩) hgb).trans (HB.out i hlt)
      have q2 := (hbel.cell (p := ⟨gc, oc + i, none⟩) hgc).trans (HC.out i (by omega))
      have hbi := HBB.out i hlt
      have hci := HCC.out i (by omega)
      have HI : Hid (i + 1 ≤ m) := hlt
      have hcs1 : cs' c (i + 1) = cs' c i + c i := rfl
      by_cases hi0 : i = 0
      · have hz : decide ((0 : Int) < (i : Int)) = false := decide_eq_false (by omega)
        have hzn : decide (0 < i) = false := decide_eq_false (by omega)
        have HI0 : Hid (i = 0) := hi0
        clear hi0
        go_wp2_with fail
        go_quiet (fail)
        have oz : Br (wr.drewN nq) G (.slice A i C) i f := o.out
        have bz := below_drewN hbel nq
        have m1 : (wr.drewN nq).cell? ⟨gb, ob + i, none⟩ = some (.int .i32 (b i)) := q1
        have m2 : (wr.drewN nq).cell? ⟨gc, oc + i, none⟩ = some (.int .u16 (c i)) := q2
        have hsz2 : G ≤ (wr.drewN nq).heap.size := hGw
        clear q1 q2 o hbel hGw
        generalize wr.drewN nq = W2 at *
        obtain ⟨v', w', r1, o', b'⟩ := append_b W2 G (.slice A i C) i f (iw (b i), iw (cs' c i + c i)) hsz2 (by omega) oz
        obtain ⟨A', C', rfl, _, _⟩ := o'.bml
        have O' : Hid _ := o'
        have B' : Hid (Below G w0 w') := bz.trans b'
        have F' : Hid (∀ j, j < i + 1 → up f i (iw (b i), iw (cs' c i + c i)) j = rb b c j) := fun j hj => by
          by_cases e : j = i
          · subst e
            rw [show up f j (iw (b j), iw (cs' c j + c j)) j = (iw (b j), iw (cs' c j + c j)) from if_pos rfl]
            rfl
          · rw [show up f i (iw (b i), iw (cs' c i + c i)) j = f j from if_neg e]
            exact hf.out j (by omega)
        have R' : Hid (∀ x y, x < y → y < i + 1 → b x < b y) := fun x y h1 h2 => by have := HI0.out; omega
        have T' : Hid (i + 1 = 0 ∨ iw (b i) = iw (b (i + 1 - 1))) := .inr rfl
        dsimp only at r1
        have HCS : Hid (cs' c (i + 1) = cs' c i + c i) := rfl
        clear o' b' oz bz hsz2 hcs1
        generalize cs' c i = S at *
        generalize b i = bi at *
        generalize c i = ci at *
        go_wp2_with (at_builtin; refine wpList_append_run rfl (.tmp 90) (.tmp 95) 36 36 rfl _ _ rfl rfl r1 ?_)
        exact ⟨⟨i + 1, _, A', C', _, rfl, by rw [HCS.out], rfl, by go_num, HI, T', O', F', R', B'.out⟩, by simp [RowKit.intOf]; omega⟩
      · obtain ⟨k, hk⟩ : ∃ k, i = k + 1 := ⟨i - 1, by omega⟩
        have hgt : (0 : Int) < (i : Int) := by omega
        have hgtn : decide (0 < i) = true := decide_eq_true (by omega)
        have hki : (i : Int) - 1 = (k : Int) := by omega
        have hwk : IntKind.i64.wrap (k : Int) = (k : Int) := by rw [IntKind.wrap_i64]; omega
        have q3 := (hbel.cell (p := ⟨gb, ob + k, none⟩) hgb).trans (HB.out k (by omega))
        have HK : Hid (i = k + 1) := hk
        have hkm : k < m := by omega
        have hbk := HBB.out k hkm
        clear hk
        by_cases hle : b i ≤ b k
        · clear hcs1
          generalize b i = bi at *
          generalize b k = bk at *
          go_wp2_with fail
          go_quiet (fail)
          have bz := below_drewN hbel nq
          go_wp2
          go_ret
          exact ⟨rfl, bz⟩
        · have HLE : Hid (b k < b i) := Int.not_le.1 hle
          have hled : decide (b i ≤ b k) = false := decide_eq_false hle
          go_wp2_with fail
          go_quiet (fail)
          clear q3
          have oz : Br (wr.drewN nq) G (.slice A i C) i f := o.out
          have bz := below_drewN hbel nq
          have m1 : (wr.drewN nq).cell? ⟨gb, ob + i, none⟩ = some (.int .i32 (b i)) := q1
          have m2 : (wr.drewN nq).cell? ⟨gc, oc + i, none⟩ = some (.int .u16 (c i)) := q2
          have hsz2 : G ≤ (wr.drewN nq).heap.size := hGw
          clear q1 q2 o hbel hGw
          generalize wr.drewN nq = W2 at *
          obtain ⟨v', w', r1, o', b'⟩ := append_b W2 G (.slice A i C) i f (iw (b i), iw (cs' c i + c i)) hsz2 (by omega) oz
          obtain ⟨A', C', rfl, _, _⟩ := o'.bml
          have O' : Hid _ := o'
          have B' : Hid (Below G w0 w') := bz.trans b'
          have F' : Hid (∀ j, j < i + 1 → up f i (iw (b i), iw (cs' c i + c i)) j = rb b c j) := fun j hj => by
            by_cases e : j = i
            · subst e
              rw [show up f j (iw (b j), iw (cs' c j + c j)) j = (iw (b j), iw (cs' c j + c j)) from if_pos rfl]
              rfl
            · rw [show up f i (iw (b i), iw (cs' c i + c i)) j = f j from if_neg e]
              exact hf.out j (by omega)
          have R' : Hid (∀ x y, x < y → y < i + 1 → b x < b y) := fun x y h1 h2 => by
            by_cases e : y = i
            · subst e
              by_cases e2 : x = k
              · subst e2; exact HLE.out
              · exact Int.lt_trans (hri.out x k (by have := HK.out; omega) (by have := HK.out; omega)) HLE.out
            · exact hri.out x y h1 (by omega)
          have T' : Hid (i + 1 = 0 ∨ iw (b i) = iw (b (i + 1 - 1))) := .inr rfl
          dsimp only at r1
          have HCS : Hid (cs' c (i + 1) = cs' c i + c i) := rfl
          clear o' b' oz bz hsz2 hcs1
          generalize cs' c i = S at *
          generalize b i = bi at *
          generalize c i = ci at *
          go_wp2_with (at_builtin; refine wpList_append_run rfl (.tmp 90) (.tmp 95) 36 36 rfl _ _ rfl rfl r1 ?_)
          exact ⟨⟨i + 1, _, A', C', _, rfl, by rw [HCS.out], rfl, by go_num, HI, T', O', F', R', B'.out⟩, by simp [RowKit.intOf]; omega⟩
    · have hii : ¬ (i : Int) < m := by omega
      have e : i = m := by omega
      subst e
      have q1 := (hbel.cell (p := ⟨gb, ob + 0, none⟩) hgb).trans (HB.out 0 (by omega))
      have q2 := (hbel.cell (p := ⟨gc, oc + i, none⟩) hgc).trans (HC.out i (by omega))
      rw [Nat.add_zero] at q1
      have hb0i := HBB.out 0 (by omega)
      have hci := HCC.out i (by omega)
      have htt : Hid (t = iw (b (i - 1))) := ht.out.resolve_left n0
      have hbm := HBB.out (i - 1) (by omega)
      have HTN : Hid (nanB (iw (b (i - 1))) = false) := (ky_fin _ (iw_facts (b (i - 1)) (by omega) (by omega)).1).1
      obtain ⟨v', w', r1, o', b'⟩ := append_b wr G (.slice A i C) i f (9218868437227405312, iw (cs' c i + c i)) hGw (by omega) o.out
      obtain ⟨A', C', rfl, hml, _⟩ := o'.bml
      have B' : Hid (Below G w0 w') := hbel.trans b'
      have hG3 : G ≤ w'.heap.size := by have := B'.out.size; rw [← HG.out] at this; exact this
      have hwd : BW (up f i (9218868437227405312, iw (cs' c i + c i))) (i + 1) := fun j hj => by
        by_cases e : j = i
        · rw [show up f i (9218868437227405312, iw (cs' c i + c i)) j = (9218868437227405312, iw (cs' c i + c i)) from if_pos e]
          exact ⟨show 9218868437227405312 < 18446744073709551616 by decide, iw_lt _⟩
        · rw [show up f i (9218868437227405312, iw (cs' c i + c i)) j = f j from if_neg e, hf.out j (by omega)]
          exact rb_words b c j
      have HVAL : Hid (∀ j, j < i → up f i (9218868437227405312, iw (cs' c i + c i)) j = rb b c j) := fun j hj => by
        rw [show up f i (9218868437227405312, iw (cs' c i + c i)) j = f j from if_neg (by omega)]
        exact hf.out j hj
      have HTOP : Hid (up f i (9218868437227405312, iw (cs' c i + c i)) i = (9218868437227405312, iw (cs' c (i + 1)))) := if_pos rfl
      have kP := bu_prog p A' C' (i + 1) _ w' hml hwd (by omega)
      dsimp only at r1
      clear o o' b' ht hf
      generalize up f i (9218868437227405312, iw (cs' c i + c i)) = ff at *
      by_cases hneg : b 0 < 0
      · rw [if_pos hneg] at QUANT
        have HN0 : Hid (nanB (iw (b 0)) = false) := (ky_fin _ (iw_facts (b 0) (by omega) (by omega)).1).1
        generalize cs' c i = S at *
        generalize c i = ci at *
        generalize b 0 = bz at *
        go_wp2_with fail
        go_fit (kI _)
        rintro r w5 ⟨rfl, rfl⟩
        go_wp2_with (at_builtin; refine wpList_append_run rfl (.tmp 113) (.tmp 118) 36 36 rfl _ _ rfl rfl r1 ?_)
        go_wp2_with fail
        go_fit kP
        rintro r w4 ⟨d, hd, z, rfl, hb4, _, hz⟩
        have B4 := B'.out.trans (hb4.mono hG3)
        have kQ := bu_prog q A' C' (i + 1) _ w4 (hml.below hb4) hwd (by omega)
        have HD : Hid _ := hd
        have HZ : Hid (cl z = d) := hz
        clear hb4 hd hz kP hml
        go_wp2_with fail
        go_fit kQ
        rintro r w6 ⟨e, he, z', rfl, hb6, _, hz'⟩
        have B6 := B4.trans (hb6.mono (by have := B4.size; rw [← HG.out] at this; exact this))
        obtain ⟨y, y', e1, e2, g1, g2, g3⟩ := QUANT.out _ d e HTOP.out HVAL.out hri.out HD.out he
        rw [e1] at HZ
        rw [e2] at hz'
        obtain ⟨h1, h2⟩ := cl_some HZ.out
        obtain ⟨h3, h4⟩ := cl_some hz'
        rw [← h1] at g1 g2
        rw [← h3] at g2 g3
        have u1 : leB (iw bz) z = true := ky_leB _ _ HN0.out h2 (by skip; exact g1)
        have u2 : leB z z' = true := ky_leB _ _ h2 h4 g2
        have u3 : leB z' t = true := ky_leB _ _ h4 (by rw [htt.out]; exact HTN.out) (by rw [htt.out]; exact g3)
        unfold leB at u1 u2 u3
        clear hb6 he hz' kQ HD HZ e1 e2 h1 h2 h3 h4 g1 g2 g3
        go_wp2
        go_ret
        exact ⟨rfl, B6⟩
      · rw [if_neg hneg, ky_iw0] at QUANT
        generalize cs' c i = S at *
        generalize c i = ci at *
        generalize b 0 = bz at *
        go_wp2_with fail
        go_fit (kI _)
        rintro r w5 ⟨rfl, rfl⟩
        go_wp2_with (at_builtin; refine wpList_append_run rfl (.tmp 113) (.tmp 118) 36 36 rfl _ _ rfl rfl r1 ?_)
        go_wp2_with fail
        go_fit kP
        rintro r w4 ⟨d, hd, z, rfl, hb4, _, hz⟩
        have B4 := B'.out.trans (hb4.mono hG3)
        have kQ := bu_prog q A' C' (i + 1) _ w4 (hml.below hb4) hwd (by omega)
        have HD : Hid _ := hd
        have HZ : Hid (cl z = d) := hz
        clear hb4 hd hz kP hml
        go_wp2_with fail
        go_fit kQ
        rintro r w6 ⟨e, he, z', rfl, hb6, _, hz'⟩
        have B6 := B4.trans (hb6.mono (by have := B4.size; rw [← HG.out] at this; exact this))
        obtain ⟨y, y', e1, e2, g1, g2, g3⟩ := QUANT.out _ d e HTOP.out HVAL.out hri.out HD.out he
        rw [e1] at HZ
        rw [e2] at hz'
        obtain ⟨h1, h2⟩ := cl_some HZ.out
        obtain ⟨h3, h4⟩ := cl_some hz'
        rw [← h1] at g1 g2
        rw [← h3] at g2 g3
        have u1 : leB 0 z = true := ky_leB _ _ (by decide) h2 (by rw [ky0]; exact g1)
        have u2 : leB z z' = true := ky_leB _ _ h2 h4 g2
        have u3 : leB z' t = true := ky_leB _ _ h4 (by rw [htt.out]; exact HTN.out) (by rw [htt.out]; exact g3)
        unfold leB at u1 u2 u3
        clear hb6 he hz' kQ HD HZ e1 e2 h1 h2 h3 h4 g1 g2 g3
        go_wp2
        go_ret
        exact ⟨rfl, B6⟩
end Go.Proofs.Ytfjfpplemgjcmaa
