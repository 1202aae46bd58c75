/- Reading bytes: read. -/
import Derived.Test.YtedlmjieclaojaaDoorDf
namespace Go.Proofs.YtedlmjieclaojaaDoor
open Go.RowKit

/-- Samples as cells. -/
def c3 (x : Smp) : List Value := [.int .i64 x.t, .float .f64 x.v, .bool x.s]
def smc (l : List Smp) : List Value := l.flatMap c3
theorem smc_snoc (l : List Smp) (x : Smp) : smc (l ++ [x]) = smc l ++ c3 x := by simp [smc]
theorem smc_get (l : List Smp) : ∀ (j : Nat) (x : Smp), l[j]? = some x → (smc l)[j * 3]? = some (.int .i64 x.t) ∧ (smc l)[j * 3 + 1]? = some (.float .f64 x.v) ∧ (smc l)[j * 3 + 2]? = some (.bool x.s) := by
  induction l with
  | nil => intro j x h; simp at h
  | cons y l ih =>
    intro j x h
    cases j with
    | zero =>
      cases h
      exact ⟨rfl, rfl, rfl⟩
    | succ j =>
      have := ih j x (by simpa using h)
      have e : ∀ k, (smc (y :: l))[k + 3]? = (smc l)[k]? := fun k => by
        show ([.int .i64 y.t, .float .f64 y.v, .bool y.s] ++ smc l : List Value)[k + 3]? = _
        simp
      rw [show (j + 1) * 3 = j * 3 + 3 by omega, show j * 3 + 3 + 1 = (j * 3 + 1) + 3 by omega, show j * 3 + 3 + 2 = (j * 3 + 2) + 3 by omega, e, e, e]
      exact this
theorem smc_one (l : List Smp) : ∀ u ∈ smc l, u.oneCell' = true := by
  intro u hu
  obtain ⟨x, _, hx⟩ := List.mem_flatMap.1 hu
  simp only [c3, List.mem_cons, List.mem_nil_iff, or_false] at hx
  rcases hx with rfl | rfl | rfl <;> rfl
theorem smc_len (l : List Smp) : (smc l).length = l.length * 3 := by
  induction l with
  | nil => rfl
  | cons x l ih =>
    show (c3 x ++ smc l).length = _
    rw [List.length_append, ih, List.length_cons]
    show 3 + _ = _
    omega
theorem info38 : (Tryd.prog.info? 38).map (fun i => (i.zero, i.size, i.bytes)) = some (some (.agg #[.int .i64 0, .float .f64 0, .bool false]), 3, 24) := by kernel_rfl
/-- One sample behind a row. -/
theorem append_s (w : World) (S : Nat) (v : Value) (l : List Smp) (x : Smp) (hS : S ≤ w.heap.size) (hn : (l.length + 1) * 24 ≤ 140737488355328) (o : w.ownsRow S 38 3 v l.length (smc l)) :
    ∃ v' w', (Builtin.append_ #[22, 22] 22 #[v, .slice (some ⟨w.heap.size, 0, none⟩) 1 1]).run Tryd.prog (w.alloc (smX x)) = .ok v' w' ∧ w'.ownsRow S 38 3 v' (l.length + 1) (smc (l ++ [x])) ∧ Kp (fun k => v.ownBlock = some k) w w' ∧ (∀ g, v'.ownBlock = some g → v.ownBlock = some g ∨ w.heap.size ≤ g) := by
  obtain ⟨i0, hi, hz0, hz1, hz2⟩ := info_parts info38
  have o0 := World.ownsRow.alloc o (smX x)
  obtain ⟨v', w', r, o', g, _, h5⟩ := run_append_own_at (P := Tryd.prog) (w.alloc (smX x)) S 22 22 38 i0 (.agg #[.int .i64 0, .float .f64 0, .bool false]) 3 24 Tryd.underlying22 hi hz0 hz1 hz2 rfl (by decide) _ l.length (smc l) o0 ⟨w.heap.size, 0, none⟩ 1 1 (c3 x) (by rfl)
    (fun j u hj => by
      rw [Go.WideShapes.add_plain, Nat.zero_add]
      unfold World.cell?
      rw [show (w.alloc (smX x)).heap[w.heap.size]? = some (smX x) from heap_alloc_new w _]
      simpa [c3] using hj) (by intro u hu; simp [c3] at hu; rcases hu with rfl | rfl | rfl <;> rfl) (by unfold maxLen; omega) hn (by simp; omega)
  rw [← smc_snoc] at o'
  refine ⟨v', w', r, o', ((Kp.refl _ w).alloc _).grown g (fun k hk _ => hk), fun G hG => ?_⟩
  rcases h5 with h5 | h5
  · exact .inl (h5.symm.trans hG)
  · have h6 : G = (w.alloc (smX x)).heap.size := Option.some.inj (hG.symm.trans h5)
    rw [World.size_alloc] at h6
    exact .inr (by omega)
theorem Sm.of_row {w : World} {S : Nat} {a : Option Addr} {c : Nat} {l : List Smp} (o : w.ownsRow S 38 3 (.slice a l.length c) l.length (smc l)) : Sm w a l := by
  rcases o.2 with ⟨_, h0⟩ | ⟨g, cap, cur, e, _, hg, _⟩
  · exact .inl (List.eq_nil_of_length_eq_zero h0)
  · cases e
    refine .inr ⟨g, 0, rfl, (Array.getElem?_eq_some_iff.1 hg).1, fun j x hj => ?_⟩
    obtain ⟨h1, h2, h3⟩ := smc_get l j x hj
    have k1 := o.cells (g := g) rfl _ _ h1
    have k2 := o.cells (g := g) rfl _ _ h2
    have k3 := o.cells (g := g) rfl _ _ h3
    rw [Go.WideShapes.add_plain] at k1 k2 k3
    exact ⟨k1, k2, k3⟩
theorem row_form {w : World} {S e s n : Nat} {v : Value} {xs : List Value} (o : w.ownsRow S e s v n xs) : ∃ a c, v = .slice a n c := by
  rcases o.2 with ⟨e, e2⟩ | ⟨g, c, cur, e, _, hg, _⟩
  · exact ⟨none, 0, by rw [e, e2]⟩
  · exact ⟨_, c, e⟩
/-- What read answers. -/
def RdR (xs : List Int) (w : World) (e : Ending) (w' : World) : Prop := Below w.heap.size w w' ∧
  ((rd xs = none → ∃ v, e = .returned (.tuple #[v, .bool false])) ∧ ∀ l, rd xs = some l → ∃ v, e = .returned (.tuple #[v, .bool true]) ∧ w'.ownsRow w.heap.size 38 3 v l.length (smc l))
/-- Reading on from a place. -/
theorem rdF_len (b : Nat → Nat) (N : Nat) : ∀ k s l, rdF b N k s = some l → l.length = k
  | 0, _, l, h => by cases h; rfl
  | k + 1, s, l, h => by
    unfold rdF at h
    split at h
    · cases h
    · rcases hx : rdF b N k (rdN b N s) with _ | l'
      · rw [hx] at h; cases h
      · rw [hx] at h
        cases h
        simp [rdF_len b N k _ l' hx]
set_option maxHeartbeats 2000000 in
set_option maxRecDepth 100000 in
theorem read_gen (hTV : TvC) (a : Option Addr) (c : Nat) (xs : List Int) (w : World) (hi : Im w a xs) (hx : By xs) (hs : Scl w) (hw : 3 ≤ w.heap.size) (hcap : xs.length ≤ c) :
    Calls Tryd.prog 27 #[.slice a xs.length c] w (RdR xs w) := by
  have hb : Below w.heap.size w (w.alloc (.cells #[.slice a xs.length c, .int .i64 0, .bool false, .int .i64 0, .int .i64 0, .int .i64 0, .int .u64 0, .int .i64 0, .int .i64 0] 80)) := (Below.refl _ _).alloc (Nat.le_refl _) _
  have hg : (w.alloc (.cells #[.slice a xs.length c, .int .i64 0, .bool false, .int .i64 0, .int .i64 0, .int .i64 0, .int .u64 0, .int .i64 0, .int .i64 0] 80)).heap[w.heap.size]? = some _ := heap_alloc_new w _
  obtain ⟨a0, ha1, ha2, ha3⟩ : ∃ a0, (0 < xs.length → ∃ g o, a0 = some ⟨g, o, none⟩ ∧ a = some ⟨g, o, none⟩) ∧ Im w a0 xs ∧ ∀ g o, a0 = some ⟨g, o, none⟩ → g < w.heap.size := by
    rcases hi with h | ⟨g, o, h1, h2, h3⟩
    · exact ⟨none, fun h' => by rw [h] at h'; simp at h', .inl h, fun _ _ e => by cases e⟩
    · exact ⟨a, fun _ => ⟨g, o, h1, h1⟩, .inr ⟨g, o, h1, h2, h3⟩, fun g' o' e => by rw [h1] at e; cases e; exact h2⟩
  have hR0 : Rdr (w.alloc (.cells #[.slice a xs.length c, .int .i64 0, .bool false, .int .i64 0, .int .i64 0, .int .i64 0, .int .u64 0, .int .i64 0, .int .i64 0] 80)) w.heap.size a0 xs ⟨0, false, t0⟩ := by
    refine ⟨⟨⟨a, c, by unfold World.cell?; rw [hg]; rfl, fun h => ?_⟩, by unfold World.cell?; rw [hg]; rfl, by unfold World.cell?; rw [hg]; rfl, fun i => by simp, Nat.zero_le _, ha2.below hb, fun g o e => Nat.ne_of_lt (ha3 g o e)⟩, ⟨by unfold World.cell?; rw [hg]; rfl, by unfold World.cell?; rw [hg]; rfl, by unfold World.cell?; rw [hg]; rfl, by unfold World.cell?; rw [hg]; rfl, by unfold World.cell?; rw [hg]; rfl, by unfold World.cell?; rw [hg]; rfl⟩⟩
    obtain ⟨g, o, e1, e2⟩ := ha1 (by simpa using h)
    exact ⟨by simpa using hcap, g, o, e1, by rw [e2]; rfl⟩
  have k := take_any w.heap.size a0 xs 0 false 17 _ hR0.src hx (by decide)
  have HR0 : Hid _ := hR0
  have HB0 : Hid _ := hb
  have HS : Hid (Scl w) := hs
  have HX : Hid (By xs) := hx
  have HTV : Hid TvC := hTV
  have HF0 : Hid (Fok t0) := ⟨.inl ⟨rfl, rfl⟩, by decide⟩
  have hVl := tkV_lt (bt 8 xs) (bt_lt 8 xs) (8 * xs.length) 0 17
  have HRD : Hid ((8 * xs.length < 17 → rd xs = none ∧ tkV (bt 8 xs) (8 * xs.length) 0 17 = 0 ∧ tkX (8 * xs.length) 0 17 = true) ∧ (¬ 8 * xs.length < 17 → rd xs = rdF (bt 8 xs) (8 * xs.length) (tkV (bt 8 xs) (8 * xs.length) 0 17) ⟨17, false, t0⟩ ∧ tkP (8 * xs.length) 0 17 = 17 ∧ tkX (8 * xs.length) 0 17 = false)) := by
    refine ⟨fun h => ⟨by unfold rd; rw [if_pos h], by unfold tkV; rw [if_neg (by omega)], by unfold tkX; exact decide_eq_true (by omega)⟩, fun h => ⟨?_, by unfold tkP; rw [if_pos (by omega)], by unfold tkX; exact decide_eq_false (by omega)⟩⟩
    unfold rd tkV
    rw [if_neg h, if_pos (by omega)]
  have HA3 : Hid (∀ g o, a0 = some ⟨g, o, none⟩ → g < w.heap.size) := ha3
  clear hR0 hb hg ha1 hs hx hTV hi ha2 ha3
  have hsf := @run_store_float Tryd.prog
  obtain ⟨V, hV⟩ : ∃ V, V = tkV (bt 8 xs) (8 * xs.length) 0 17 := ⟨_, rfl⟩
  rw [← hV] at hVl k
  have HV : Hid _ := hV
  have hVi : (V : Int) < 131072 := by omega
  clear hV
  obtain ⟨B, hB⟩ : ∃ B, B = w.heap.size := ⟨_, rfl⟩
  have HBB : Hid (B = w.heap.size) := hB
  rw [← hB] at k HR0
  have hB3 : 3 ≤ B := by omega
  go_enter Tryd.func27, Tryd.ntmps27
  go_upto_region 2 with fail
  rw [← hB]
  clear hB
  generalize w.alloc (.cells #[.slice a xs.length c, .int .i64 0, .bool false, .int .i64 0, .int .i64 0, .int .i64 0, .int .u64 0, .int .i64 0, .int .i64 0] 80) = W0 at *
  go_wp2_with fail
  go_fit k
  rintro e w1 ⟨rfl, s1, k1⟩
  have hR1 := HR0.out.take k1 s1
  have HB1 : Hid (Below w.heap.size w w1) := HB0.out.trans (k1.kp.below HB0.out.size (fun i hi e => by have := HBB.out; omega))
  have hB1 : B < w1.heap.size := s1.lt
  by_cases hshort : 8 * xs.length < 17
  · obtain ⟨e1, e2, e3⟩ := HRD.out.1 hshort
    have hV0 : V = 0 := HV.out.trans e2
    have q2 := s1.c2
    rw [e3] at q2
    have HR : Hid (∀ v W, Below w.heap.size w W → RdR xs w (.returned (.tuple #[v, .bool false])) W) := fun v W hW => ⟨hW, fun _ => ⟨v, rfl⟩, fun l h => by rw [e1] at h; cases h⟩
    subst hV0
    have hB2 : Below w.heap.size w w1.drew := HB1.out.drew
    have HB2 : Hid _ := hB2
    clear k s1 k1 hR1 e1 e2 e3 HRD HV hB2 HR0
    go_wp2_with fail
    go_loopw [12] (fun iv w' => iv = .int .u64 0 ∧ w' = w1) (fun _ _ => 0)
    case atStart => exact ⟨rfl, rfl⟩
    case round =>
      obtain ⟨rfl, rfl⟩ := hrel
      go_wp2_with fail
      go_big_quiet (fail)
      go_wp2
      go_ret2
      exact HR.out _ _ (bdrew HB1.out _)
  · obtain ⟨e1, e2, e3⟩ := HRD.out.2 hshort
    rw [← HV.out] at e1
    have h1 : Rdr w1 B a0 xs ⟨17, false, t0⟩ := by
      have := hR1
      rw [e2, e3] at this
      exact this
    have HE : Hid (rd xs = rdF (bt 8 xs) (8 * xs.length) V ⟨17, false, t0⟩) := e1
    have HR1 : Hid (Rdr w1 B a0 xs ⟨17, false, t0⟩) := h1
    clear k s1 k1 hR1 e1 e2 e3 HRD HV HR0 h1 hshort
    go_wp2_with fail
    go_loopw [5, 12] (fun sv iv w' => ∃ (i : Nat) (L : List Smp) (st : Rs), iv = .int .u64 (i : Nat) ∧ i ≤ V ∧ Hid (L.length = i) ∧ Hid (w'.ownsRow (B + 1) 38 3 sv L.length (smc L)) ∧ Hid (Rdr w' B a0 xs st ∧ Fok st.r ∧ st.r.n = i ∧ st.b = false) ∧ Hid (rd xs = (rdF (bt 8 xs) (8 * xs.length) (V - i) st).map (L ++ ·)) ∧ Hid (Below w.heap.size w w')) (fun _ iv _ => V - (RowKit.intOf iv).toNat)
    case atStart => exact ⟨0, [], ⟨17, false, t0⟩, rfl, Nat.zero_le _, rfl, World.ownsRow_nil _ _ _ _, ⟨HR1.out, HF0.out, rfl, rfl⟩, by
      show rd xs = Option.map _ _
      rw [Nat.sub_zero, HE.out]
      simp, HB1⟩
    case round =>
      obtain ⟨i, L, st, rfl, hi, hL, ho, hst, hrd, hbw⟩ := hrel
      obtain ⟨hR, hF, hn, hb⟩ := hst.out
      clear hst
      by_cases hlt : i < V
      · have hii : (i : Int) < (V : Int) := by omega
        have k := next_gen HTV.out B a0 xs st wr hR HX.out (HS.out.below hbw.out) (by omega) hF (by omega)
        have hN := rdN_n (bt 8 xs) (8 * xs.length) st
        have hFN := rdN_fok (bt 8 xs) (8 * xs.length) st hF
        have HU : Hid (rdF (bt 8 xs) (8 * xs.length) (V - i) st = if (rdN (bt 8 xs) (8 * xs.length) st).b = true then none else (rdF (bt 8 xs) (8 * xs.length) (V - (i + 1)) (rdN (bt 8 xs) (8 * xs.length) st)).map (rdO (bt 8 xs) (8 * xs.length) st :: ·)) := by
          show _ = _
          rw [show V - i = (V - (i + 1)) + 1 by omega]
          conv => lhs; unfold rdF
        generalize rdN (bt 8 xs) (8 * xs.length) st = st' at *
        generalize rdO (bt 8 xs) (8 * xs.length) st = x at *
        have HFN : Hid (Fok st'.r ∧ st'.r.n = i + 1) := ⟨hFN, by omega⟩
        clear hR hF hn hb hFN hN
        obtain ⟨t, vv, s⟩ := x
        go_wp2_with fail
        go_fit k
        rintro e w2 ⟨rfl, r2, q2⟩
        have hba : Below w2.heap.size w2 (w2.alloc (smX ⟨t, vv, s⟩)) := (Below.refl _ _).alloc (Nat.le_refl _) _
        have hb2 : Below w.heap.size w w2 := hbw.out.trans (q2.below hbw.out.size (fun j hj e => by have := HBB.out; omega))
        have hb3 : Below w.heap.size w (w2.alloc (smX ⟨t, vv, s⟩)) := hb2.trans (hba.mono hb2.size)
        have HB3 : Hid _ := hb3
        have r3 := r2.below hba
        have o2 := q2.row ho.out (fun g e e2 => by
          rcases ho.out.2 with ⟨h, _⟩ | ⟨g', _, _, h, h', _⟩
          · rw [h] at e; cases e
          · rw [h] at e
            have : g' = g := Option.some.inj e
            omega)
        have o3 := World.ownsRow.alloc o2 (smX ⟨t, vv, s⟩)
        have c2 := r3.src.c2
        have hlt2 := r2.src.lt
        have HR3 : Hid _ := r3
        have HO3 : Hid _ := o3
        have n0 : (w2.alloc (smX ⟨t, vv, s⟩)).cell? ⟨w2.heap.size, 0, none⟩ = some (.int .i64 t) := by simp
        have n1 : (w2.alloc (smX ⟨t, vv, s⟩)).cell? ⟨w2.heap.size, 1, none⟩ = some (.float .f64 vv) := by simp
        have n2 : (w2.alloc (smX ⟨t, vv, s⟩)).cell? ⟨w2.heap.size, 2, none⟩ = some (.bool s) := by simp
        have hsz : B + 1 ≤ (w2.alloc (smX ⟨t, vv, s⟩)).heap.size := by simp; omega
        clear k r2 q2 hba hb2 hb3 r3 o2 o3 ho hbw
        go_upto_region 6 with fail
        generalize hW3 : w2.alloc (.cells #[.int .i64 t, .float .f64 vv, .bool s] 38) = W3 at *
        generalize w2.heap.size = SB at *
        clear hW3 hlt2
        cases hbb : st'.b with
        | true =>
          rw [hbb] at c2
          have HFin : Hid (∀ v, RdR xs w (.returned (.tuple #[v, .bool false])) W3) := fun v => ⟨HB3.out, fun _ => ⟨v, rfl⟩, fun l h => by
            rw [hrd.out, HU.out, if_pos hbb] at h; cases h⟩
          clear hrd HU HR3 HO3 HB3 hbb
          go_wp2
          go_ret2
          exact HFin.out _
        | false =>
          rw [hbb] at c2
          obtain ⟨av, cv, rfl⟩ := row_form HO3.out
          obtain ⟨v4, w4, r4, o4, k4, hv4⟩ := append_s W3 (B + 1) _ L ⟨t, vv, s⟩ hsz (by have := hL.out; omega) HO3.out
          have hmk : ∀ j, j < B + 1 → ¬ (Value.slice av L.length cv).ownBlock = some j := fun j hj e => by
            rcases HO3.out.2 with ⟨h, _⟩ | ⟨g', _, _, h, h', _⟩
            · rw [h] at e; cases e
            · rw [h] at e
              have : g' = j := Option.some.inj e
              omega
          have hB4 : Below w.heap.size w w4 := HB3.out.trans (k4.below HB3.out.size (fun j hj => hmk j (by have := HBB.out; omega)))
          have hR4 : Rdr w4 B a0 xs st' := by
            have h3 := HR3.out
            obtain ⟨aa, cc, g0, g0'⟩ := h3.src.c0
            have hBk := hmk B (by omega)
            refine ⟨⟨⟨aa, cc, k4.cell g0 hBk, g0'⟩, k4.cell h3.src.c1 hBk, k4.cell h3.src.c2 hBk, fun j => by rw [World.frozen?_of_block (w := W3) (k4.block B h3.src.lt hBk)]; exact h3.src.fz j, h3.src.le, ?_, h3.src.nB⟩, h3.tc.kp k4 hBk⟩
            exact h3.src.im.kp k4 (fun g o e => hmk g (by have := HA3.out g o e; have := HBB.out; omega))
          have HST : Hid (Rdr w4 B a0 xs st' ∧ Fok st'.r ∧ st'.r.n = i + 1 ∧ st'.b = false) := ⟨hR4, HFN.out.1, HFN.out.2, hbb⟩
          have hL1 : (L ++ [(⟨t, vv, s⟩ : Smp)]).length = L.length + 1 := by simp
          have HLL : Hid ((L ++ [(⟨t, vv, s⟩ : Smp)]).length = i + 1) := by
            show _ = _
            rw [hL1, hL.out]
          have HO4 : Hid (w4.ownsRow (B + 1) 38 3 v4 (L ++ [(⟨t, vv, s⟩ : Smp)]).length (smc (L ++ [⟨t, vv, s⟩]))) := by
            rw [hL1]; exact o4
          have HRD4 : Hid (rd xs = (rdF (bt 8 xs) (8 * xs.length) (V - (i + 1)) st').map ((L ++ [(⟨t, vv, s⟩ : Smp)]) ++ ·)) := by
            show _ = _
            rw [hrd.out, HU.out, if_neg (by rw [hbb]; decide), Option.map_map]
            congr 1
            funext m
            simp
          have HB4 : Hid _ := hB4
          clear hrd HU HR3 HO3 HB3 hbb hR4 hB4 o4 k4 hv4 hmk HFN hL hL1 hsz
          go_wp2_with (at_builtin; refine wpList_append_run rfl (.tmp 18) (.tmp 20) 22 22 rfl _ _ rfl rfl r4 ?_)
          exact ⟨⟨i + 1, L ++ [⟨t, vv, s⟩], st', by go_num, by omega, HLL, HO4, HST, HRD4, HB4⟩, by simp [RowKit.intOf]; omega⟩
      · have hii : ¬ (i : Int) < (V : Int) := by omega
        have c2 := hR.src.c2
        rw [hb] at c2
        obtain ⟨av, cv, rfl⟩ := row_form ho.out
        have HFin : Hid (∀ W, Below wr.heap.size wr W → RdR xs w (.returned (.tuple #[.slice av L.length cv, .bool true])) W) := fun W hW => by
          have e : rd xs = some L := by
            rw [hrd.out, show V - i = 0 by omega]
            simp [rdF]
          refine ⟨hbw.out.trans (hW.mono hbw.out.size), fun h => (by rw [e] at h; cases h), fun l h => ?_⟩
          rw [e] at h
          cases h
          have o5 := Kp.row (M := fun _ => False) (Kp.of hW) ho.out (fun _ _ => id)
          exact ⟨_, rfl, o5.1, o5.2.imp id (fun ⟨g', cap, cur, h1, h2, h3⟩ => ⟨g', cap, cur, h1, by have := HBB.out; omega, h3⟩)⟩
        clear hR hF hn hb ho hrd hbw hL
        go_wp2_with fail
        go_big_quiet (fail)
        go_wp2
        go_ret2
        exact HFin.out _ (bdrew (Below.refl _ _) _)
end Go.Proofs.YtedlmjieclaojaaDoor
