/- ChunkEach: the walk of the law. -/
import Derived.Test.YtedlmjieclaojaaDoorJb
import Derived.Test.YtedlmjieclaojaaDoorFa
namespace Go.Proofs.YtedlmjieclaojaaDoor
open Go.RowKit Go.Lib Go.Shelf

attribute [local go_sem] Oper.semAt_some

theorem up_few (xs : List Int) : (upL xs).length ≤ 100000 := by
  rcases up_cases xs with h | ⟨l, h1, _, h3⟩
  · rw [h.2]; simp
  · rw [h3]
    exact (pkE_zero (unp_form h1).1).1
theorem alk_one (x : Smp) : Alk false x x := ⟨rfl, rfl, .inl rfl⟩
/-- A copy of bytes that came in. -/
theorem copy_im (w : World) (a : Option Addr) (c : Nat) (P : List Int) (K : Nat) (hK : K = P.length) (hi : Im w a P) (ha : a = none → K = 0 ∧ c = 0) (hl : K ≤ 140737488355328) :
    ∃ g cap w', (Builtin.append_ #[25, 25] 25 #[.slice (some ⟨w.heap.size, 0, none⟩) 0 0, .slice a K c]).run Tryd.prog (w.alloc (.cells #[] 5)) = .ok (.slice (some ⟨g, 0, none⟩) K cap) w' ∧ w'.ownsRow w.heap.size 5 1 (.slice (some ⟨g, 0, none⟩) K cap) K (bc P) ∧ Below w.heap.size w w' ∧ w.heap.size ≤ g ∧ g < w'.heap.size := by
  refine fresh_copy w 25 5 (.int .u8 0) 1 1 Tryd.underlying25 (by kernel_rfl) rfl (by decide) a K c (bc P) ha (by rw [bc_len, Nat.mul_one, hK]) (fun p hp j u hj => ?_) (bc_one P) (by unfold maxLen; omega) (by omega)
  rcases hi with h | ⟨g, o, e, _, hat⟩
  · rw [h] at hj
    simp [bc] at hj
  · rw [e] at hp
    cases hp
    have hjl : j < P.length := by
      have := (List.getElem?_eq_some_iff.1 hj).1
      rw [bc_len] at this
      exact this
    have hu : u = .int .u8 (P.getD j 0) := by
      unfold bc at hj
      rw [List.getElem?_map, List.getElem?_eq_getElem hjl] at hj
      rw [List.getD_eq_getElem?_getD, List.getElem?_eq_getElem hjl]
      exact (Option.some.inj hj).symm
    rw [hu, Go.WideShapes.add_plain]
    exact hat j hjl
/-- What the three passes stand on. -/
structure Stt (stop : Int) (B3 B4 B6 Bs : Nat) (a6 : Option Addr) (c6 : Nat) (av : Option Addr) (cv N : Nat) (L : List Smp) (W : World) : Prop where
  x3 : W.cell? ⟨B3, 0, none⟩ = some (.int .i64 stop)
  x4 : W.cell? ⟨B4, 0, none⟩ = some (.bool false)
  f4 : W.frozen? ⟨B4, 0, none⟩ = false
  x6 : W.cell? ⟨B6, 0, none⟩ = some (.slice a6 N c6)
  xS : W.cell? ⟨Bs, 0, none⟩ = some (.slice av N cv)
  l3 : B3 < W.heap.size
  l4 : B4 < W.heap.size
  l6 : B6 < W.heap.size
  lS : Bs < W.heap.size
  s6 : Sm W a6 L
  sS : Sm W av L
theorem Stt.below {stop : Int} {B3 B4 B6 Bs : Nat} {a6 : Option Addr} {c6 : Nat} {av : Option Addr} {cv N : Nat} {L : List Smp} {W W' : World} (h : Stt stop B3 B4 B6 Bs a6 c6 av cv N L W) (b : Below W.heap.size W W') : Stt stop B3 B4 B6 Bs a6 c6 av cv N L W' :=
  ⟨(b.cell (p := ⟨B3, 0, none⟩) h.l3).trans h.x3, (b.cell (p := ⟨B4, 0, none⟩) h.l4).trans h.x4, (by rw [World.frozen?_of_block (w := W) (b.block B4 h.l4)]; exact h.f4), (b.cell (p := ⟨B6, 0, none⟩) h.l6).trans h.x6, (b.cell (p := ⟨Bs, 0, none⟩) h.lS).trans h.xS,
    Nat.lt_of_lt_of_le h.l3 b.size, Nat.lt_of_lt_of_le h.l4 b.size, Nat.lt_of_lt_of_le h.l6 b.size, Nat.lt_of_lt_of_le h.lS b.size, h.s6.below b, h.sS.below b⟩
theorem eq_nil (x : Value) (w : World) : (binOp .eql 34 (.func (.func 40) #[] #[x]) .nilFunc).run Tryd.prog w = .ok (.bool false) w := by kernel_rfl

def cdK (stop : Int) (p : List Smp) : Prop := p.length = 0 ∨ (p.length : Int) ≤ stop
def bkK (stop : Int) (p : List Smp) : Prop := stop ≤ (p.length : Int)
/-- What a pass gives. -/
def wantL (r : Nat) (stop : Int) (L : List Smp) : List Smp := if r = 1 then L.take (max 0 (min stop L.length)).toNat else L
theorem want_done (r : Nat) (stop : Int) (L : List Smp) (h : ¬ r = 1 ∨ (L.length = 0 ∨ (L.length : Int) ≤ stop)) : L = wantL r stop L := by
  unfold wantL
  by_cases hr : r = 1
  · rw [if_pos hr]
    rcases h with h | h
    · exact absurd hr h
    · rw [List.take_of_length_le (by omega)]
  · rw [if_neg hr]
theorem want_stop (r : Nat) (stop : Int) (L p : List Smp) (x : Smp) (hp : (p ++ [x]) <+: L) (h : r = 1 ∧ stop ≤ (p.length : Int) ∧ (p.length = 0 ∨ (p.length : Int) ≤ stop)) : p = wantL r stop L := by
  obtain ⟨rfl, h1, h2⟩ := h
  have hl := hp.length_le
  rw [List.length_append] at hl
  simp only [List.length_cons, List.length_nil] at hl
  have hq : p <+: L := List.IsPrefix.trans (List.prefix_append p [x]) hp
  unfold wantL
  rw [if_pos rfl, show (max 0 (min stop (L.length : Int))).toNat = p.length by omega]
  exact List.prefix_iff_eq_take.1 hq
theorem want_len (stop : Int) (L : List Smp) (N : Nat) (h : N = L.length) : ∃ k : Nat, k ≤ N ∧ (k : Int) = max 0 (min stop (N : Int)) ∧ wantL 1 stop L = L.take k := by
  refine ⟨(max 0 (min stop (N : Int))).toNat, by omega, by omega, ?_⟩
  unfold wantL
  rw [if_pos rfl, h]
theorem Sm.take {w : World} {a : Option Addr} {l : List Smp} (h : Sm w a l) (k : Nat) : Sm w a (l.take k) := by
  rcases h with h | ⟨g, o, e, hg, hc⟩
  · exact .inl (by rw [h, List.take_nil])
  · refine .inr ⟨g, o, e, hg, fun j x hj => hc j x ?_⟩
    rw [List.getElem?_take] at hj
    split at hj
    · exact hj
    · cases hj

set_option maxHeartbeats 8000000 in
set_option maxRecDepth 100000 in
theorem each_walk (a : Option Addr) (c : Nat) (xs : List Int) (stop : Int) (w : World) (hi : Im w a xs) (hx : By xs) (hs : Scl w) (ht : Tab w) (hcap : xs.length ≤ c) (ha : a = none → xs.length = 0 ∧ c = 0) (hN : xs.length ≤ 140737488355328) :
    Calls Tryd.prog 4 #[.slice a xs.length c, .int .i64 stop] w fun e w' => e = .returned (.bool true) ∧ Below w.heap.size w w' := by
  obtain ⟨W0, hW0⟩ : ∃ W0, W0 = (w.alloc (.cells #[.int .i64 stop] 3)).alloc (.cells #[.bool false] 4) := ⟨_, rfl⟩
  have b0 : Below w.heap.size w W0 := by rw [hW0]; exact ((Below.refl _ _).alloc (Nat.le_refl _) _).alloc (by simp) _
  have k1 := alive_any W0 (hs.below b0) (ht.below b0)
  have HI : Hid (Im w a xs) := hi
  have HX : Hid (By xs) := hx
  have HS : Hid (Scl w) := hs
  have HT : Hid (Tab w) := ht
  have HC : Hid (xs.length ≤ c) := hcap
  have HA : Hid (a = none → xs.length = 0 ∧ c = 0) := ha
  obtain ⟨K, hK⟩ : ∃ K, K = xs.length := ⟨_, rfl⟩
  have HKX : Hid (K = xs.length) := hK
  rw [← hK] at hN ⊢
  have hKi : (K : Int) ≤ 140737488355328 := by omega
  have HB0 : Hid (Below w.heap.size w W0) := b0
  have HW0 : Hid (W0 = (w.alloc (.cells #[.int .i64 stop] 3)).alloc (.cells #[.bool false] 4)) := hW0
  clear hi hx hs ht hcap ha hK b0
  refine callsIn_wide.1 (callsIn_of_wp_marks (n := 3) Tryd.func4 rfl trivial (wpIn_wide.2 ?_) rfl)
  simp only [Tryd.ntmps4, List.size_toArray, List.length_cons, List.length_nil, Nat.reduceAdd, Nat.reduceSub, Array.replicate_succ, Array.replicate_zero, List.push_toArray, List.append_toArray, List.nil_append, List.cons_append]
  go_upto_region 1 with fail
  rw [← hW0]
  clear hW0
  go_wp2_with fail
  go_fit k1
  rintro e w1 ⟨rfl, b1⟩
  have b01 : Below w.heap.size w w1 := HB0.out.trans (b1.mono HB0.out.size)
  have HB1 : Hid (Below w.heap.size w w1) := b01
  have HB01 : Hid (Below W0.heap.size W0 w1) := b1
  obtain ⟨g2, c2, w2, r2, o2, b2, hg1, hg2⟩ := copy_im w1 a c xs K HKX.out (HI.out.below (b01.mono (Nat.le_refl _))) (by rw [HKX.out]; exact HA.out) hN
  have o2' := o2
  rw [HKX.out] at o2'
  have IM2 : Hid (Im w2 (some ⟨g2, 0, none⟩) xs) := Im.of_row o2'
  have hKc : K ≤ c2 := by
    rcases o2.2 with ⟨e, _⟩ | ⟨_, _, _, e, _, _, h, _⟩
    · cases e
    · cases e
      exact h
  have b02 : Below w.heap.size w w2 := b01.trans (b2.mono b01.size)
  have k3 := unpack_any a c xs w2 (HI.out.below (b02.mono (Nat.le_refl _))) HX.out (HS.out.below b02) (HT.out.below b02) HC.out
  rw [← HKX.out] at k3
  have HB2 : Hid (Below w.heap.size w w2) := b02
  have HB12 : Hid (Below w1.heap.size w1 w2) := b2
  have HG : Hid (w1.heap.size ≤ g2 ∧ g2 < w2.heap.size) := ⟨hg1, hg2⟩
  have HO2 : Hid (w2.ownsRow w1.heap.size 5 1 (.slice (some ⟨g2, 0, none⟩) K c2) K (bc xs)) := o2
  have HKC : Hid (K ≤ c2) := hKc
  clear k1 b1 b01 b02 b2 hg1 hg2 o2 o2' hKc
  go_wp2_with (at_builtin; refine wpList_append_run rfl (.tmp 16) (.tmp 17) 25 25 rfl _ _ rfl rfl r2 ?_)
  go_fit k3
  rintro e w3 ⟨v3, rfl, o3, b3⟩
  obtain ⟨N, hNN⟩ : ∃ N, N = (upL xs).length := ⟨_, rfl⟩
  have HNN : Hid (N = (upL xs).length) := hNN
  have HN5 : Hid (N ≤ 100000) := (show N ≤ 100000 by rw [hNN]; exact up_few xs)
  rw [← hNN] at o3
  obtain ⟨a6, c6, rfl⟩ := row_form o3
  have HO3 : Hid (w3.ownsRow w2.heap.size 38 3 (.slice a6 N c6) N (smc (upL xs))) := o3
  have HC6 : Hid (N ≤ c6) := (show N ≤ c6 by
    rcases o3.2 with ⟨e, h0⟩ | ⟨_, _, _, e, _, _, h, _⟩
    · omega
    · cases e
      exact h)
  have HB23 : Hid (Below w2.heap.size w2 w3) := b3
  have b3a : Below w2.heap.size w2 (w3.alloc (.cells #[.slice a6 N c6] 22)) := b3.alloc b3.size _
  have b03a : Below w.heap.size w (w3.alloc (.cells #[.slice a6 N c6] 22)) := HB2.out.trans (b3a.mono HB2.out.size)
  have k4 := each_any (some ⟨g2, 0, none⟩) c2 xs (w3.alloc (.cells #[.slice a6 N c6] 22)) (IM2.out.below b3a) HX.out (HS.out.below b03a) (HT.out.below b03a) (by rw [← HKX.out]; exact HKC.out)
  rw [← HKX.out, ← hNN] at k4
  have HB3a : Hid (Below w2.heap.size w2 (w3.alloc (.cells #[.slice a6 N c6] 22))) := b3a
  clear k3 r2 o3 b3 b3a b03a hNN
  go_wp2_with fail
  go_fit k4
  rintro e w4 ⟨av, cv, Bs, rfl, hcS, hBs1, hBs2, hoS, b4⟩
  clear k4
  have HCS : Hid (w4.cell? ⟨Bs, 0, none⟩ = some (.slice av N cv)) := hcS
  have HBS : Hid (w3.heap.size + 1 ≤ Bs ∧ Bs < w4.heap.size) := (show _ ∧ _ from ⟨by simpa using hBs1, hBs2⟩)
  have HOS : Hid (w4.ownsRow (w3.heap.size + 1) 38 3 (.slice av N cv) N (smc (upL xs))) := (show World.ownsRow _ _ _ _ _ _ _ by simpa using hoS)
  have HB34 : Hid (Below (w3.alloc (.cells #[.slice a6 N c6] 22)).heap.size (w3.alloc (.cells #[.slice a6 N c6] 22)) w4) := b4
  have HO4 : Hid (w4.ownsRow w1.heap.size 5 1 (.slice (some ⟨g2, 0, none⟩) K c2) K (bc xs)) := (show World.ownsRow _ _ _ _ _ _ _ from
    Kp.row (M := fun _ => False) (Kp.of (HB3a.out.trans (b4.mono HB3a.out.size))) HO2.out (fun _ _ => id))
  have HK4 : Hid (Kp (fun b => b = g2) w4 w4) := Kp.refl _ _
  have HL0 : Hid (xs.length = K) := (show _ = _ from HKX.out.symm)
  clear hcS hBs1 hBs2 hoS b4
  go_wp2_with fail
  go_loopw [9] (fun iv w' => ∃ (i : Nat) (Y : List Int), iv = .int .i64 (i : Nat) ∧ i ≤ K ∧ Hid (Y.length = K) ∧ Hid (w'.ownsRow w1.heap.size 5 1 (.slice (some ⟨g2, 0, none⟩) K c2) K (bc Y)) ∧ Hid (Kp (fun b => b = g2) w4 w')) (fun iv _ => K - (RowKit.intOf iv).toNat)
  case atStart => exact ⟨0, xs, rfl, Nat.zero_le _, HL0, HO4, HK4⟩
  case round =>
    obtain ⟨i, Y, rfl, hiK, hY, ho, hk⟩ := hrel
    by_cases hlt : i < K
    · have hii : (i : Int) < (K : Int) := by omega
      have hlen : i < Y.length := by rw [hY.out]; exact hlt
      have hu : (bc Y)[i]? = some (.int .u8 Y[i]) := by
        unfold bc
        rw [List.getElem?_map, List.getElem?_eq_getElem hlen]
        rfl
      have x0 := (World.ownsRow.cellAt ho.out i (by omega)).trans hu
      have f0 := World.ownsRow.frozenAt ho.out i
      have O2 : Hid (∀ z : Int, ∃ Y' : List Int, Hid (Y'.length = K) ∧ Hid ((wr.setCell ⟨g2, i, none⟩ (.int .u8 z)).ownsRow w1.heap.size 5 1 (.slice (some ⟨g2, 0, none⟩) K c2) K (bc Y'))) := (show ∀ z : Int, _ from fun z => by
        have h := (World.ownsRow.stored ho.out i (.int .u8 z)).1
        rw [← bc_set] at h
        exact ⟨_, (show _ = _ by rw [List.length_set]; exact hY.out), h⟩)
      have P2 : Hid (∀ z : Int, Hid (Kp (fun b => b = g2) w4 (wr.setCell ⟨g2, i, none⟩ (.int .u8 z)))) := (show ∀ z : Int, _ from fun z => hk.out.setCell (p := ⟨g2, i, none⟩) rfl _)
      generalize Y[i] = yv at *
      clear ho hk hu hY hlen
      go_wp2
      obtain ⟨Y', h1, h2⟩ := O2.out _
      exact ⟨⟨i + 1, Y', by go_num, by omega, h1, h2, P2.out _⟩, by simp [RowKit.intOf]; omega⟩
    · have hii : ¬ (i : Int) < (K : Int) := by omega
      obtain ⟨w5, hw5⟩ : ∃ w5, w5 = wr := ⟨_, rfl⟩
      rw [← hw5] at hk ⊢
      clear ho hY hw5
      have hne := fun w' => eq_nil (.pointer (some ⟨Bs, 0, none⟩)) w'
      have sW0 : W0.heap.size = w.heap.size + 2 := by rw [HW0.out]; simp
      have b12 := HB12.out
      have b13 := b12.trans (HB3a.out.mono b12.size)
      have b14 := b13.trans (HB34.out.mono b13.size)
      have bW4 : Below W0.heap.size W0 w4 := HB01.out.trans (b14.mono HB01.out.size)
      have s01 := HB01.out.size
      have s23 := HB23.out.size
      have s34 : w3.heap.size + 1 ≤ w4.heap.size := by have := HB34.out.size; simpa using this
      have s45 := hk.out.size
      have g12 := HG.out
      have c30 : W0.cell? ⟨w.heap.size, 0, none⟩ = some (.int .i64 stop) := by rw [HW0.out]; unfold World.cell?; rw [heap_alloc_old _ _ _ (by simp), heap_alloc_new]; rfl
      have c40 : W0.heap[w.heap.size + 1]? = some (.cells #[.bool false] 4) := by rw [HW0.out, show w.heap.size + 1 = (w.alloc (.cells #[.int .i64 stop] 3)).heap.size by simp, heap_alloc_new]
      have c44 : w5.heap[w.heap.size + 1]? = some (.cells #[.bool false] 4) := (hk.out.block _ (by omega) (by omega)).trans ((bW4.block _ (by omega)).trans c40)
      have o64 : w5.ownsRow w2.heap.size 38 3 (.slice a6 N c6) N (smc (upL xs)) := hk.out.row (Kp.row (M := fun _ => False) (Kp.of HB34.out) (HO3.out.alloc _) (fun _ _ => id)) (fun k hk' e => by have := (World.ownsRow.lt HO3.out k hk').1; omega)
      have oS4 : w5.ownsRow (w3.heap.size + 1) 38 3 (.slice av N cv) N (smc (upL xs)) := hk.out.row HOS.out (fun k hk' e => by have := (World.ownsRow.lt HOS.out k hk').1; omega)
      have ST5 : Hid (Stt stop w.heap.size (w.heap.size + 1) w3.heap.size Bs a6 c6 av cv N (upL xs) w5) := (show Stt _ _ _ _ _ _ _ _ _ _ _ _ from
        ⟨hk.out.cell ((bW4.cell (p := ⟨w.heap.size, 0, none⟩) (by show w.heap.size < _; omega)).trans c30) (by show ¬ w.heap.size = g2; omega), by unfold World.cell?; rw [c44]; rfl, by unfold World.frozen?; rw [c44]; rfl,
          hk.out.cell ((HB34.out.cell (p := ⟨w3.heap.size, 0, none⟩) (by simp)).trans (by unfold World.cell?; rw [heap_alloc_new]; rfl)) (by show ¬ w3.heap.size = g2; omega),
          hk.out.cell HCS.out (by show ¬ Bs = g2; have := HBS.out; omega), by omega, by omega, by omega, by have := HBS.out; omega, by rw [HNN.out] at o64; exact Sm.of_row o64, by rw [HNN.out] at oS4; exact Sm.of_row oS4⟩)
      have HB5 : Hid (Below w.heap.size w w5) := (show Below _ _ _ from (HB1.out.trans (b14.mono HB1.out.size)).trans (hk.out.below (by have := HB1.out.size; omega) (fun k hk' e => by omega)))
      clear sW0 b12 b13 b14 bW4 s01 s23 s34 s45 g12 c30 c40 c44 o64 oS4
      obtain ⟨W06, hW06⟩ : ∃ W06, W06 = w5.alloc (.cells #[.int .i64 0] 3) := ⟨_, rfl⟩
      obtain ⟨B0, hB0⟩ : ∃ B0, B0 = w5.heap.size := ⟨_, rfl⟩
      obtain ⟨i0, hi, hz0, hz1, hz2⟩ := info_parts info38
      have b56 : Below w5.heap.size w5 W06 := by rw [hW06]; exact (Below.refl _ _).alloc (Nat.le_refl _) _
      have ST0 : Hid (Stt stop w.heap.size (w.heap.size + 1) w3.heap.size Bs a6 c6 av cv N (upL xs) W06) := ST5.out.below b56
      have HB06 : Hid (Below w.heap.size w W06) := HB5.out.trans (b56.mono HB5.out.size)
      have hr0 : W06.cell? ⟨B0, 0, none⟩ = some (.int .i64 0) := by rw [hW06, hB0]; unfold World.cell?; rw [heap_alloc_new]; rfl
      have hl0 : B0 < W06.heap.size := by rw [hW06, hB0]; simp
      go_wp2_with fail
      rw [← hW06, ← hB0]
      clear hW06 hB0 b56
      refine wp_loop_rounds 4 ?_
      rw [rounds_succ]
      go_upto_region 16 with fail
      go_wp2_with fail
      refine gather4 (fun A a' w' => ∃ D p, a' = { tmps := A.tmps, defers := { target := .collected D, args := #[] } :: A.defers } ∧ Hid (Ip W06 (fun _ => True) p w') ∧ Hid (p = wantL 0 stop (upL xs)) ∧ Hid (W06.heap.size ≤ D ∧ w'.heap[D]? = some (.deferred (some [])))) ?h2r0 ?h1r0
      case h1r0 =>
        refine pass_rule Bs av (upL xs) N cv HNN.out (by have := HN5.out; omega) rfl ST0.out.xS ST0.out.lS ST0.out.sS (fun _ => True) (fun _ => False) trivial ?assign0 ?body0 ?done0 ?stop0
        case assign0 =>
          intro l x W K hK
          obtain ⟨t, vv, s⟩ := x
          have hsf := @run_store_float Tryd.prog
          simp only [List.setIfInBounds_toArray, List.set_cons_succ, List.set_cons_zero] at hK ⊢
          gi_wp2
          exact hK
        case body0 =>
          rintro l pre x G W ⟨⟨v, hv, hrow, hcd⟩, hB⟩ hlt ⟨y0, y1, y2⟩
          have hN5 := HN5.out
          have z3 := (hB.cell (p := ⟨w.heap.size, 0, none⟩) ST0.out.l3).trans ST0.out.x3
          have z6 := (hB.cell (p := ⟨w3.heap.size, 0, none⟩) ST0.out.l6).trans ST0.out.x6
          have zr := (hB.cell (p := ⟨B0, 0, none⟩) hl0).trans hr0
          have hc := hv.cell
          obtain ⟨ap, cp, hvf⟩ := row_form hrow
          obtain ⟨t, vv, s⟩ := x
          have hsf := @run_store_float Tryd.prog
          have hnl : ¬ (N : Int) < (pre.length : Int) := by omega
          rw [hvf] at hc
          simp only [List.setIfInBounds_toArray, List.set_cons_succ, List.set_cons_zero]
          rw [hvf] at hv hrow
          gi_wp2_with (gi_at_builtin; refine wpListIn_append_own _ rfl _ _ 22 rfl W06.heap.size 38 i0 (.agg #[.int .i64 0, .float .f64 0, .bool false]) 3 24 Tryd.underlying22 hi hz0 hz1 hz2 rfl (by decide) _ _ _ rfl (hrow.alloc _) ⟨W.heap.size, 0, none⟩ 1 1 [.int .i64 t, .float .f64 vv, .bool s] rfl rfl (cell_three_new _ ⟨t, vv, s⟩) (by simp [Value.oneCell']) (by have : maxLen = 9223372036854775807 := rfl; omega) (by omega) (by have := hB.size; simp; omega) ?_; intro v' w1 hown' hgrow _; obtain ⟨g', cap', rfl⟩ := ownsRow_succ hown'; obtain ⟨hv1, hv2, hr2, hk2, hb2⟩ := hv.appended (by decide) hrow hB.size (Nat.le_refl _) hown' hgrow; have hc1 := hv1.cell; have hf1 := hv1.frozen)
          exact ⟨hk2.from _, ⟨hb2, hk2.walks⟩, ⟨_, hv2, by rw [smc_snoc]; simpa [c3] using hr2, trivial⟩, hB.trans hb2⟩
        case done0 =>
          intro D W hI hD hK
          exact ⟨D, upL xs, rfl, hI, (show _ = _ from want_done 0 stop (upL xs) (by first | exact .inl (by decide) | exact .inr hI.1.choose_spec.2.2)), ⟨hD, hK⟩⟩
        case stop0 =>
          intro D p x W hp hb hI hD hK
          exact ⟨D, p, rfl, hI, (show _ = _ from want_stop 0 stop (upL xs) p x hp (by first | exact hb.elim | exact ⟨rfl, hb, hI.1.choose_spec.2.2⟩)), ⟨hD, hK⟩⟩
      rintro a' w07 ⟨D0, p0, rfl, hI0, hp0, hD0⟩
      obtain ⟨⟨v0, hv0, hrow0, _⟩, b07⟩ := hI0.out
      have T0 : Hid (Stt stop w.heap.size (w.heap.size + 1) w3.heap.size Bs a6 c6 av cv N (upL xs) w07) := ST0.out.below b07
      have e3 := T0.out.x3
      have e6 := T0.out.x6
      have er := (b07.cell (p := ⟨B0, 0, none⟩) hl0).trans hr0
      have e11 := hv0.cell
      obtain ⟨ap, cp, hvf⟩ := row_form hrow0
      rw [hvf] at e11 hrow0
      have hpe : p0 = upL xs := hp0.out.trans (by unfold wantL; rw [if_neg (by decide)])
      rw [hpe] at e11 hrow0
      have KL := alike_true ap a6 cp c6 (upL xs) (upL xs) false w07 (Sm.of_row hrow0) T0.out.s6 rfl (fun i x y hx hy => by rw [hx] at hy; cases hy; exact alk_one x) (by have := up_few xs; omega)
      rw [← HNN.out] at KL e11
      have HBB0 : Hid (Below W06.heap.size W06 w07) := b07
      have HWW0 : Hid (Below w.heap.size w w07) := HB06.out.trans (b07.mono HB06.out.size)
      clear hv0 hrow0 hvf hpe b07
      go_wp2_with fail
      skip
      go_fit KL
      rintro e w08 ⟨rfl, b08⟩
      clear KL
      have e8 := (b08.cell (p := ⟨B0, 0, none⟩) (Nat.lt_of_lt_of_le hl0 HBB0.out.size)).trans er
      obtain ⟨W16, hW16⟩ : ∃ W16, W16 = w08.alloc (.cells #[.int .i64 1] 3) := ⟨_, rfl⟩
      obtain ⟨B1, hB1⟩ : ∃ B1, B1 = w08.heap.size := ⟨_, rfl⟩
      have b09 : Below w07.heap.size w07 W16 := by rw [hW16]; exact b08.alloc b08.size _
      have ST1 : Hid (Stt stop w.heap.size (w.heap.size + 1) w3.heap.size Bs a6 c6 av cv N (upL xs) W16) := T0.out.below b09
      have HB16 : Hid (Below w.heap.size w W16) := HWW0.out.trans (b09.mono HWW0.out.size)
      have hr1 : W16.cell? ⟨B1, 0, none⟩ = some (.int .i64 1) := by rw [hW16, hB1]; unfold World.cell?; rw [heap_alloc_new]; rfl
      have hl1 : B1 < W16.heap.size := by rw [hW16, hB1]; simp
      have M01 : Hid (W16.heap[D0]? = some (.deferred (some [])) ∧ w.heap.size ≤ D0 ∧ D0 < W16.heap.size) := (show _ ∧ _ ∧ _ from by
        have hd := (Array.getElem?_eq_some_iff.1 hD0.out.2).1
        exact ⟨(b09.block D0 hd).trans hD0.out.2, Nat.le_trans HB06.out.size hD0.out.1, Nat.lt_of_lt_of_le hd b09.size⟩)
      go_wp2_with fail
      rw [← hW16, ← hB1]
      clear hW16 hB1 b08 b09 e3 e6 er e11 e8
      rw [rounds_succ]
      go_upto_region 16 with fail
      go_wp2_with fail
      refine gather4 (fun A a' w' => ∃ D p, a' = { tmps := A.tmps, defers := { target := .collected D, args := #[] } :: A.defers } ∧ Hid (Ip W16 (cdK stop) p w') ∧ Hid (p = wantL 1 stop (upL xs)) ∧ Hid (W16.heap.size ≤ D ∧ w'.heap[D]? = some (.deferred (some [])))) ?h2r1 ?h1r1
      case h1r1 =>
        refine pass_rule Bs av (upL xs) N cv HNN.out (by have := HN5.out; omega) rfl ST1.out.xS ST1.out.lS ST1.out.sS (cdK stop) (bkK stop) (.inl rfl) ?assign1 ?body1 ?done1 ?stop1
        case assign1 =>
          intro l x W K hK
          obtain ⟨t, vv, s⟩ := x
          have hsf := @run_store_float Tryd.prog
          simp only [List.setIfInBounds_toArray, List.set_cons_succ, List.set_cons_zero] at hK ⊢
          gi_wp2
          exact hK
        case body1 =>
          rintro l pre x G W ⟨⟨v, hv, hrow, hcd⟩, hB⟩ hlt ⟨y0, y1, y2⟩
          have hN5 := HN5.out
          have z3 := (hB.cell (p := ⟨w.heap.size, 0, none⟩) ST1.out.l3).trans ST1.out.x3
          have z6 := (hB.cell (p := ⟨w3.heap.size, 0, none⟩) ST1.out.l6).trans ST1.out.x6
          have zr := (hB.cell (p := ⟨B1, 0, none⟩) hl1).trans hr1
          have hc := hv.cell
          obtain ⟨ap, cp, hvf⟩ := row_form hrow
          obtain ⟨t, vv, s⟩ := x
          have hsf := @run_store_float Tryd.prog
          have hnl : ¬ (N : Int) < (pre.length : Int) := by omega
          rw [hvf] at hc
          by_cases hst : stop ≤ (pre.length : Int)
          · have hdd : decide (stop ≤ (pre.length : Int)) = true := decide_eq_true hst
            obtain ⟨PN, hPN⟩ : ∃ PN, PN = pre.length := ⟨_, rfl⟩
            rw [← hPN] at hc hst hnl hdd
            have HPN : Hid (PN = pre.length) := hPN
            have HST : Hid (stop ≤ (PN : Int)) := hst
            have HV : Hid (Boxed W W16.heap.size 22 v ∧ W.ownsRow W16.heap.size 38 3 v pre.length (smc pre)) := ⟨hv, hrow⟩
            clear hPN hv hrow hvf
            simp only [List.setIfInBounds_toArray, List.set_cons_succ, List.set_cons_zero]
            gi_wp2
            exact ⟨KeepsFrom.refl _ _, ⟨rfl, pre, _, rfl, by have := HST.out; rw [HPN.out] at this; exact this, v, HV.out.1, HV.out.2, hcd⟩, hB⟩
          · have hdd : decide (stop ≤ (pre.length : Int)) = false := decide_eq_false hst
            have HST : Hid (((pre ++ [⟨t, vv, s⟩] : List Smp).length : Int) ≤ stop) := (show _ ≤ _ by rw [List.length_append]; simp; omega)
            simp only [List.setIfInBounds_toArray, List.set_cons_succ, List.set_cons_zero]
            rw [hvf] at hv hrow
            gi_wp2_with (gi_at_builtin; refine wpListIn_append_own _ rfl _ _ 22 rfl W16.heap.size 38 i0 (.agg #[.int .i64 0, .float .f64 0, .bool false]) 3 24 Tryd.underlying22 hi hz0 hz1 hz2 rfl (by decide) _ _ _ rfl (hrow.alloc _) ⟨W.heap.size, 0, none⟩ 1 1 [.int .i64 t, .float .f64 vv, .bool s] rfl rfl (cell_three_new _ ⟨t, vv, s⟩) (by simp [Value.oneCell']) (by have : maxLen = 9223372036854775807 := rfl; omega) (by omega) (by have := hB.size; simp; omega) ?_; intro v' w1 hown' hgrow _; obtain ⟨g', cap', rfl⟩ := ownsRow_succ hown'; obtain ⟨hv1, hv2, hr2, hk2, hb2⟩ := hv.appended (by decide) hrow hB.size (Nat.le_refl _) hown' hgrow; have hc1 := hv1.cell; have hf1 := hv1.frozen)
            exact ⟨hk2.from _, ⟨hb2, hk2.walks⟩, ⟨_, hv2, by rw [smc_snoc]; simpa [c3] using hr2, .inr HST.out⟩, hB.trans hb2⟩
        case done1 =>
          intro D W hI hD hK
          exact ⟨D, upL xs, rfl, hI, (show _ = _ from want_done 1 stop (upL xs) (by first | exact .inl (by decide) | exact .inr hI.1.choose_spec.2.2)), ⟨hD, hK⟩⟩
        case stop1 =>
          intro D p x W hp hb hI hD hK
          exact ⟨D, p, rfl, hI, (show _ = _ from want_stop 1 stop (upL xs) p x hp (by first | exact hb.elim | exact ⟨rfl, hb, hI.1.choose_spec.2.2⟩)), ⟨hD, hK⟩⟩
      rintro a' w17 ⟨D1, p1, rfl, hI1, hp1, hD1⟩
      obtain ⟨⟨v1, hv1, hrow1, _⟩, b17⟩ := hI1.out
      have T1 : Hid (Stt stop w.heap.size (w.heap.size + 1) w3.heap.size Bs a6 c6 av cv N (upL xs) w17) := ST1.out.below b17
      have e3 := T1.out.x3
      have e6 := T1.out.x6
      have er := (b17.cell (p := ⟨B1, 0, none⟩) hl1).trans hr1
      have e11 := hv1.cell
      obtain ⟨ap, cp, hvf⟩ := row_form hrow1
      rw [hvf] at e11 hrow1
      obtain ⟨kk, hk1, hk2, hk3⟩ := want_len stop (upL xs) N HNN.out
      have hpe : p1 = (upL xs).take kk := hp1.out.trans hk3
      have hpl : ((upL xs).take kk).length = kk := by rw [List.length_take]; have := HNN.out; omega
      rw [hpe] at e11 hrow1
      have KL := alike_true ap a6 cp c6 ((upL xs).take kk) ((upL xs).take kk) false w17 (Sm.of_row hrow1) (T1.out.s6.take kk) rfl (fun i x y hx hy => by rw [hx] at hy; cases hy; exact alk_one x) (by rw [hpl]; have := HN5.out; omega)
      rw [hpl] at KL e11
      have hc6 : N ≤ c6 := HC6.out
      have hk4 : (0 : Int) ≤ (kk : Int) := by omega
      have hk5 : (kk : Int) ≤ (c6 : Int) := by omega
      obtain ⟨mm, hmin⟩ : ∃ mm : Int, (if (N : Int) < stop then (N : Int) else stop) = mm := ⟨_, rfl⟩
      have hmax : (if (0 : Int) < mm then mm else 0) = (kk : Int) := by rw [← hmin, hk2]; split <;> split <;> omega
      have HKT : Hid ((max 0 (min stop (N : Int))).toNat = kk) := (show _ = _ by omega)
      clear hk2
      have HBB1 : Hid (Below W16.heap.size W16 w17) := b17
      have HWW1 : Hid (Below w.heap.size w w17) := HB16.out.trans (b17.mono HB16.out.size)
      clear hv1 hrow1 hvf hpe b17
      go_wp2_with fail
      simp only [HKT.out]
      go_fit KL
      rintro e w18 ⟨rfl, b18⟩
      clear KL
      have e8 := (b18.cell (p := ⟨B1, 0, none⟩) (Nat.lt_of_lt_of_le hl1 HBB1.out.size)).trans er
      obtain ⟨W26, hW26⟩ : ∃ W26, W26 = w18.alloc (.cells #[.int .i64 2] 3) := ⟨_, rfl⟩
      obtain ⟨B2, hB2⟩ : ∃ B2, B2 = w18.heap.size := ⟨_, rfl⟩
      have b19 : Below w17.heap.size w17 W26 := by rw [hW26]; exact b18.alloc b18.size _
      have ST2 : Hid (Stt stop w.heap.size (w.heap.size + 1) w3.heap.size Bs a6 c6 av cv N (upL xs) W26) := T1.out.below b19
      have HB26 : Hid (Below w.heap.size w W26) := HWW1.out.trans (b19.mono HWW1.out.size)
      have hr2 : W26.cell? ⟨B2, 0, none⟩ = some (.int .i64 2) := by rw [hW26, hB2]; unfold World.cell?; rw [heap_alloc_new]; rfl
      have hl2 : B2 < W26.heap.size := by rw [hW26, hB2]; simp
      have M12 : Hid (W26.heap[D1]? = some (.deferred (some [])) ∧ w.heap.size ≤ D1 ∧ D1 < W26.heap.size) := (show _ ∧ _ ∧ _ from by
        have hd := (Array.getElem?_eq_some_iff.1 hD1.out.2).1
        exact ⟨(b19.block D1 hd).trans hD1.out.2, Nat.le_trans HB16.out.size hD1.out.1, Nat.lt_of_lt_of_le hd b19.size⟩)
      have M02 : Hid (W26.heap[D0]? = some (.deferred (some [])) ∧ w.heap.size ≤ D0 ∧ D0 < W26.heap.size) := (show _ ∧ _ ∧ _ from by
        have hd := M01.out
        have b := HBB1.out.trans (b19.mono HBB1.out.size)
        exact ⟨(b.block D0 hd.2.2).trans hd.1, hd.2.1, Nat.lt_of_lt_of_le hd.2.2 b.size⟩)
      go_wp2_with fail
      rw [← hW26, ← hB2]
      clear hW26 hB2 b18 b19 e3 e6 er e11 e8
      rw [rounds_succ]
      go_upto_region 16 with fail
      go_wp2_with fail
      refine gather4 (fun A a' w' => ∃ D p, a' = { tmps := A.tmps, defers := { target := .collected D, args := #[] } :: A.defers } ∧ Hid (Ip W26 (fun _ => True) p w') ∧ Hid (p = wantL 2 stop (upL xs)) ∧ Hid (W26.heap.size ≤ D ∧ w'.heap[D]? = some (.deferred (some [])))) ?h2r2 ?h1r2
      case h1r2 =>
        refine pass_rule Bs av (upL xs) N cv HNN.out (by have := HN5.out; omega) rfl ST2.out.xS ST2.out.lS ST2.out.sS (fun _ => True) (fun _ => False) trivial ?assign2 ?body2 ?done2 ?stop2
        case assign2 =>
          intro l x W K hK
          obtain ⟨t, vv, s⟩ := x
          have hsf := @run_store_float Tryd.prog
          simp only [List.setIfInBounds_toArray, List.set_cons_succ, List.set_cons_zero] at hK ⊢
          gi_wp2
          exact hK
        case body2 =>
          rintro l pre x G W ⟨⟨v, hv, hrow, hcd⟩, hB⟩ hlt ⟨y0, y1, y2⟩
          have hN5 := HN5.out
          have z3 := (hB.cell (p := ⟨w.heap.size, 0, none⟩) ST2.out.l3).trans ST2.out.x3
          have z6 := (hB.cell (p := ⟨w3.heap.size, 0, none⟩) ST2.out.l6).trans ST2.out.x6
          have zr := (hB.cell (p := ⟨B2, 0, none⟩) hl2).trans hr2
          have hc := hv.cell
          obtain ⟨ap, cp, hvf⟩ := row_form hrow
          obtain ⟨t, vv, s⟩ := x
          have hsf := @run_store_float Tryd.prog
          have hnl : ¬ (N : Int) < (pre.length : Int) := by omega
          rw [hvf] at hc
          simp only [List.setIfInBounds_toArray, List.set_cons_succ, List.set_cons_zero]
          rw [hvf] at hv hrow
          gi_wp2_with (gi_at_builtin; refine wpListIn_append_own _ rfl _ _ 22 rfl W26.heap.size 38 i0 (.agg #[.int .i64 0, .float .f64 0, .bool false]) 3 24 Tryd.underlying22 hi hz0 hz1 hz2 rfl (by decide) _ _ _ rfl (hrow.alloc _) ⟨W.heap.size, 0, none⟩ 1 1 [.int .i64 t, .float .f64 vv, .bool s] rfl rfl (cell_three_new _ ⟨t, vv, s⟩) (by simp [Value.oneCell']) (by have : maxLen = 9223372036854775807 := rfl; omega) (by omega) (by have := hB.size; simp; omega) ?_; intro v' w1 hown' hgrow _; obtain ⟨g', cap', rfl⟩ := ownsRow_succ hown'; obtain ⟨hv1, hv2, hr2, hk2, hb2⟩ := hv.appended (by decide) hrow hB.size (Nat.le_refl _) hown' hgrow; have hc1 := hv1.cell; have hf1 := hv1.frozen)
          exact ⟨hk2.from _, ⟨hb2, hk2.walks⟩, ⟨_, hv2, by rw [smc_snoc]; simpa [c3] using hr2, trivial⟩, hB.trans hb2⟩
        case done2 =>
          intro D W hI hD hK
          exact ⟨D, upL xs, rfl, hI, (show _ = _ from want_done 2 stop (upL xs) (by first | exact .inl (by decide) | exact .inr hI.1.choose_spec.2.2)), ⟨hD, hK⟩⟩
        case stop2 =>
          intro D p x W hp hb hI hD hK
          exact ⟨D, p, rfl, hI, (show _ = _ from want_stop 2 stop (upL xs) p x hp (by first | exact hb.elim | exact ⟨rfl, hb, hI.1.choose_spec.2.2⟩)), ⟨hD, hK⟩⟩
      rintro a' w27 ⟨D2, p2, rfl, hI2, hp2, hD2⟩
      obtain ⟨⟨v2, hv2, hrow2, _⟩, b27⟩ := hI2.out
      have T2 : Hid (Stt stop w.heap.size (w.heap.size + 1) w3.heap.size Bs a6 c6 av cv N (upL xs) w27) := ST2.out.below b27
      have e3 := T2.out.x3
      have e6 := T2.out.x6
      have er := (b27.cell (p := ⟨B2, 0, none⟩) hl2).trans hr2
      have e11 := hv2.cell
      obtain ⟨ap, cp, hvf⟩ := row_form hrow2
      rw [hvf] at e11 hrow2
      have hpe : p2 = upL xs := hp2.out.trans (by unfold wantL; rw [if_neg (by decide)])
      rw [hpe] at e11 hrow2
      have KL := alike_true ap a6 cp c6 (upL xs) (upL xs) false w27 (Sm.of_row hrow2) T2.out.s6 rfl (fun i x y hx hy => by rw [hx] at hy; cases hy; exact alk_one x) (by have := up_few xs; omega)
      rw [← HNN.out] at KL e11
      have HBB2 : Hid (Below W26.heap.size W26 w27) := b27
      have HWW2 : Hid (Below w.heap.size w w27) := HB26.out.trans (b27.mono HB26.out.size)
      clear hv2 hrow2 hvf hpe b27
      go_wp2_with fail
      skip
      go_fit KL
      rintro e w28 ⟨rfl, b28⟩
      clear KL
      have e8 := (b28.cell (p := ⟨B2, 0, none⟩) (Nat.lt_of_lt_of_le hl2 HBB2.out.size)).trans er
      obtain ⟨W36, hW36⟩ : ∃ W36, W36 = w28.alloc (.cells #[.int .i64 3] 3) := ⟨_, rfl⟩
      obtain ⟨B3, hB3⟩ : ∃ B3, B3 = w28.heap.size := ⟨_, rfl⟩
      have b29 : Below w27.heap.size w27 W36 := by rw [hW36]; exact b28.alloc b28.size _
      have ST3 : Hid (Stt stop w.heap.size (w.heap.size + 1) w3.heap.size Bs a6 c6 av cv N (upL xs) W36) := T2.out.below b29
      have HB36 : Hid (Below w.heap.size w W36) := HWW2.out.trans (b29.mono HWW2.out.size)
      have hr3 : W36.cell? ⟨B3, 0, none⟩ = some (.int .i64 3) := by rw [hW36, hB3]; unfold World.cell?; rw [heap_alloc_new]; rfl
      have hl3 : B3 < W36.heap.size := by rw [hW36, hB3]; simp
      have M23 : Hid (W36.heap[D2]? = some (.deferred (some [])) ∧ w.heap.size ≤ D2 ∧ D2 < W36.heap.size) := (show _ ∧ _ ∧ _ from by
        have hd := (Array.getElem?_eq_some_iff.1 hD2.out.2).1
        exact ⟨(b29.block D2 hd).trans hD2.out.2, Nat.le_trans HB26.out.size hD2.out.1, Nat.lt_of_lt_of_le hd b29.size⟩)
      have M03 : Hid (W36.heap[D0]? = some (.deferred (some [])) ∧ w.heap.size ≤ D0 ∧ D0 < W36.heap.size) := (show _ ∧ _ ∧ _ from by
        have hd := M02.out
        have b := HBB2.out.trans (b29.mono HBB2.out.size)
        exact ⟨(b.block D0 hd.2.2).trans hd.1, hd.2.1, Nat.lt_of_lt_of_le hd.2.2 b.size⟩)
      have M13 : Hid (W36.heap[D1]? = some (.deferred (some [])) ∧ w.heap.size ≤ D1 ∧ D1 < W36.heap.size) := (show _ ∧ _ ∧ _ from by
        have hd := M12.out
        have b := HBB2.out.trans (b29.mono HBB2.out.size)
        exact ⟨(b.block D1 hd.2.2).trans hd.1, hd.2.1, Nat.lt_of_lt_of_le hd.2.2 b.size⟩)
      go_wp2_with fail
      rw [← hW36, ← hB3]
      clear hW36 hB3 b28 b29 e3 e6 er e11 e8
      rw [rounds_succ]
      have e4 := ST3.out.x4
      have f4 := ST3.out.f4
      go_wp2_with fail
      have lt4 := ST0.out.l4
      have gD : D0 < D1 ∧ D1 < D2 ∧ w.heap.size + 1 < D0 := ⟨by have := M01.out.2.2; have := hD1.out.1; omega, by have := M12.out.2.2; have := hD2.out.1; omega, by have := hD0.out.1; omega⟩
      obtain ⟨X0, hX0⟩ : ∃ X0, X0 = W36.setCell ⟨w.heap.size + 1, 0, none⟩ (.bool true) := ⟨_, rfl⟩
      have xc : X0.cell? ⟨w.heap.size + 1, 0, none⟩ = some (.bool true) := by rw [hX0]; exact World.cell?_setCell_same _ _ _ e4
      have xb : Below w.heap.size w X0 := by rw [hX0]; exact HB36.out.setCell (p := ⟨w.heap.size + 1, 0, none⟩) (Nat.le_succ _) _
      have x2 : X0.heap[D2]? = some (.deferred (some [])) := by rw [hX0]; exact (KeepsOthers.setCell W36 _ _).same D2 _ M23.out.1 rfl
      have x1 : X0.heap[D1]? = some (.deferred (some [])) := by rw [hX0]; exact (KeepsOthers.setCell W36 _ _).same D1 _ M13.out.1 rfl
      have x0 : X0.heap[D0]? = some (.deferred (some [])) := by rw [hX0]; exact (KeepsOthers.setCell W36 _ _).same D0 _ M03.out.1 rfl
      rw [← hX0]
      obtain ⟨X1, hX1⟩ : ∃ X1, X1 = X0.putObj D2 (.deferred none) := ⟨_, rfl⟩
      obtain ⟨X2, hX2⟩ : ∃ X2, X2 = X1.putObj D1 (.deferred none) := ⟨_, rfl⟩
      obtain ⟨X3, hX3⟩ : ∃ X3, X3 = X2.putObj D0 (.deferred none) := ⟨_, rfl⟩
      have y1 : X1.heap[D1]? = some (.deferred (some [])) := by rw [hX1, World.putObj_heap_other (by omega)]; exact x1
      have y0 : X1.heap[D0]? = some (.deferred (some [])) := by rw [hX1, World.putObj_heap_other (by omega)]; exact x0
      have z0 : X2.heap[D0]? = some (.deferred (some [])) := by rw [hX2, World.putObj_heap_other (by omega)]; exact y0
      have bl1 : Below w.heap.size w X1 := by rw [hX1]; exact xb.trans (belowK_b (w := w) (Nat.le_refl _) X0 D2 _ _ (by omega) x2 rfl rfl)
      have bl2 : Below w.heap.size w X2 := by rw [hX2]; exact bl1.trans (belowK_b (w := w) (Nat.le_refl _) X1 D1 _ _ (by omega) y1 rfl rfl)
      have bl3 : Below w.heap.size w X3 := by rw [hX3]; exact bl2.trans (belowK_b (w := w) (Nat.le_refl _) X2 D0 _ _ (by omega) z0 rfl rfl)
      have cB : X3.cell? ⟨w.heap.size + 1, 0, none⟩ = some (.bool true) := by
        have q : X3.heap[w.heap.size + 1]? = X0.heap[w.heap.size + 1]? := by
          rw [hX3, World.putObj_heap_other (by omega), hX2, World.putObj_heap_other (by omega), hX1, World.putObj_heap_other (by omega)]
        unfold World.cell? at xc ⊢
        rw [q]
        exact xc
      refine ⟨by simp, .inl ⟨_, _, rfl, run_takeDeferred x2, ?_⟩⟩
      rw [← hX1]
      refine ⟨by simp, .inl ⟨_, _, rfl, run_takeDeferred y1, ?_⟩⟩
      rw [← hX2]
      refine ⟨by simp, .inl ⟨_, _, rfl, run_takeDeferred z0, ?_⟩⟩
      rw [← hX3]
      refine ⟨.bool true, ?_, rfl, bl3⟩
      have hres : Tryd.f4.results = #[.cell 4 4] := rfl
      simp only [results, hres]
      simp [asAddr, loadVar, go_sem, cB]
end Go.Proofs.YtedlmjieclaojaaDoor
