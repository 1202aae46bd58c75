/- CalcMoves: the law's walk. -/
import Derived.Test.YtfjfpplemgjcmaaTu
import Derived.Deep.RegionLaw
import Derived.BigRegion
namespace Go.Proofs.Ytfjfpplemgjcmaa
open Go.RowKit

/-- The cells of samples. -/
def c3 (u : Smp) : List Value := [.int .i64 u.t, .float .f64 u.v, .bool u.s]
def sc (us : Nat → Smp) (n : Nat) : List Value := (List.range n).flatMap fun j => c3 (us j)
theorem sc_succ (us : Nat → Smp) (n : Nat) : sc us (n + 1) = sc us n ++ c3 (us n) := by
  unfold sc
  rw [List.range_succ, List.flatMap_append]
  simp
theorem sc_len (us : Nat → Smp) (n : Nat) : (sc us n).length = n * 3 := by
  induction n with
  | zero => rfl
  | succ n ih => rw [sc_succ, List.length_append, ih]; simp [c3]; omega
theorem sc_get (us : Nat → Smp) : ∀ (n j k : Nat), j < n → k < 3 → (sc us n)[j * 3 + k]? = (c3 (us j))[k]?
  | 0, j, k, h, _ => by omega
  | n + 1, j, k, h, hk => by
    rw [sc_succ]
    by_cases hj : j < n
    · rw [List.getElem?_append_left (by rw [sc_len]; omega)]
      exact sc_get us n j k hj hk
    · obtain rfl : j = n := by omega
      rw [List.getElem?_append_right (by rw [sc_len]; omega), sc_len]
      congr 1
      omega
theorem info42 : (Try.prog.info? 42).map (fun i => (i.zero, i.size, i.bytes)) = some (some (.agg #[.int .i64 0, .float .f64 0, .bool false]), 3, 24) := by kernel_rfl
/-- A row of samples of the call's own. -/
def Sr (w : World) (S : Nat) (v : Value) (n : Nat) (us : Nat → Smp) : Prop := w.ownsRow S 42 3 v n (sc us n)
theorem Sr.sml {w : World} {S : Nat} {v : Value} {n : Nat} {us : Nat → Smp} (h : Sr w S v n us) : ∃ a c, v = .slice a n c ∧ Sml w a us n ∧ n ≤ c := by
  have hc := fun g => h.cells (g := g)
  rcases h.2 with ⟨rfl, h0⟩ | ⟨g, c, cur, rfl, _, hg, hnc, _⟩
  · subst h0
    exact ⟨none, 0, rfl, .inl rfl, Nat.le_refl _⟩
  · refine ⟨_, c, rfl, .inr ⟨g, 0, rfl, (Array.getElem?_eq_some_iff.1 hg).1, fun j hj => ?_⟩, hnc⟩
    have h1 := hc g rfl (j * 3 + 0) _ (by rw [sc_get us n j 0 hj (by omega)]; rfl)
    have h2 := hc g rfl (j * 3 + 1) _ (by rw [sc_get us n j 1 hj (by omega)]; rfl)
    have h3 := hc g rfl (j * 3 + 2) _ (by rw [sc_get us n j 2 hj (by omega)]; rfl)
    rw [Go.WideShapes.add_plain] at h1 h2 h3
    exact ⟨h1, by rw [Nat.add_assoc]; exact h2, by rw [Nat.add_assoc]; exact h3⟩
theorem append_m (w : World) (S : Nat) (v : Value) (n : Nat) (us : Nat → Smp) (hS : S ≤ w.heap.size) (hn : (n + 1) * 24 ≤ 140737488355328) (o : Sr w S v n us) :
    ∃ v' w', (Builtin.append_ #[39, 39] 39 #[v, .slice (some ⟨w.heap.size, 0, none⟩) 1 1]).run Try.prog (w.alloc (cp (us n))) = .ok v' w' ∧ Sr w' S v' (n + 1) us ∧ Below S w w' := by
  obtain ⟨i0, hi, hz0, hz1, hz2⟩ := info_parts info42
  have o0 := World.ownsRow.alloc o (cp (us n))
  obtain ⟨v', w', r, o', g, _⟩ := run_append_own (P := Try.prog) (w.alloc (cp (us n))) S 39 39 42 i0 (.agg #[.int .i64 0, .float .f64 0, .bool false]) 3 24 Try.underlying39 hi hz0 hz1 hz2 rfl (by decide) _ n (sc us n) o0 ⟨w.heap.size, 0, none⟩ 1 1 (c3 (us n)) (by rfl)
    (fun j u hj => by
      rw [Go.WideShapes.add_plain, Nat.zero_add]
      exact cp_cell w (us n) j u (by simpa [c3] using hj)) (by intro u hu; simp [c3] at hu; rcases hu with rfl | rfl | rfl <;> rfl) (by unfold maxLen; omega) hn (by simp; omega)
  refine ⟨v', w', r, ?_, ?_⟩
  · unfold Sr
    rw [sc_succ]; exact o'
  · exact ((Below.refl S w).alloc hS _).grown g (by simp; omega) (fun k hk => (World.ownsRow.lt o k hk).1)
theorem step_append_run {P : Program} {ops : Array Oper} {o : Oper} {a : Act} {w w' : World} {v' : Value} {K : Act → World → Prop} {Q : Exit → Act → World → Prop} {E : Prop} (hgd : o.guard = none) (s x : Operand) (t tx : TypeId)
    (ho : o.op = .call { callee := .builtin .append, args := #[s, x], argTypes := #[t, tx] }) (vs vx : Value) (hs : a.eval s = vs) (hx : a.eval x = vx)
    (hr : (Builtin.append_ #[t, tx] o.type #[vs, vx]).run P w = .ok v' w') (h : K (a.put o.dst v') w') : if Region.wanted o (yielded ops a.tmps) = true then Oper.wp P o a w K Q else E := by
  have hw : Region.wanted o (yielded ops a.tmps) = true := by simp [Region.wanted, hgd]
  rw [if_pos hw]
  unfold Oper.wp execOp
  simp only [ho, resolve, invoke, builtin, Sem.run_bind, Sem.run_pure, Result.andThen_ok, List.map_toArray, List.map_cons, List.map_nil, hs, hx, hr]
  exact h

/-- A time moved. -/
def ad (a b : Int) : Int := IntKind.i64.wrap (a + b)
theorem df_ad (a b c : Int) : df (ad a c) (ad b c) = df a b := by
  unfold df ad
  simp only [IntKind.wrap_i64]
  omega
theorem ad_bd (a b : Int) : -9223372036854775808 ≤ ad a b ∧ ad a b ≤ 9223372036854775807 := by
  unfold ad
  rw [IntKind.wrap_i64]
  omega
/-- The samples moved. -/
def mv (ss : Nat → Smp) (by_ : Int) (j : Nat) : Smp := ⟨ad (ss j).t by_, (ss j).v, !(ss j).s⟩
theorem lv_mv (ss : Nat → Smp) (by_ : Int) (n : Nat) : lvB (mv ss by_) n = lvB ss n := rfl

abbrev one4 : Nat → Smp := fun _ => ⟨-1, 4616189618054758400, false⟩
theorem beat4 : beF (fun j => df (one4 j).t (one4 0).t) (fun j => (one4 j).v) 1 1000 = some 4616189618054758400 := by decide +kernel

set_option maxHeartbeats 2000000 in
set_option maxRecDepth 100000 in
theorem moves_walk (a : Option Addr) (c n : Nat) (ss : Nat → Smp) (at_ by_ p : Int) (w : World) (hf : Sml w a ss n) (hsw : SW ss n) (hc : n ≤ c) (hl : 24 * n ≤ 140737488355328) :
    Calls Try.prog 6 #[.slice a n c, .int .i64 at_, .int .i64 by_, .int .i64 p] w fun r w' => r = .returned (.bool true) ∧ Below w.heap.size w w' := by
  have k0 := beat_any (some ⟨w.heap.size, 0, none⟩) 1 1 one4 1000 (w.alloc (cp (one4 0))) (.inr ⟨w.heap.size, 0, rfl, by simp, fun j hj => by
    obtain rfl : j = 0 := by omega
    exact ⟨cp_cell w (one4 0) 0 _ rfl, cp_cell w (one4 0) 1 _ rfl, cp_cell w (one4 0) 2 _ rfl⟩⟩) (by decide)
  rw [beat4] at k0
  have hb1 : Below w.heap.size w (w.alloc (cp (one4 0))) := (Below.refl _ _).alloc (Nat.le_refl _) _
  have HF : Hid (Sml w a ss n) := hf
  have HSW : Hid (SW ss n) := hsw
  obtain ⟨G, hG⟩ : ∃ G, G = w.heap.size := ⟨_, rfl⟩
  have HG : Hid (G = w.heap.size) := hG
  rw [← hG] at hb1 ⊢
  clear hG hf hsw
  have h44 : FloatKind.f64.format.order 4616189618054758400 4616189618054758400 = some .eq := by decide +kernel
  go_enter Try.func6, Try.ntmps6
  go_wp2_with fail
  go_fit k0
  rintro r w1 ⟨z, rfl, hb, _, hz⟩
  obtain ⟨rfl, _⟩ := cl_some hz
  have b1 : Below G w w1 := hb1.trans (hb.mono (by rw [HG.out]; exact (Below.alloc (Below.refl w.heap.size w) (Nat.le_refl _) _).size))
  clear hb hb1 hz k0
  have hGw1 : G ≤ w1.heap.size := by rw [HG.out]; rw [HG.out] at b1; exact b1.size
  have o0 : Sr (w1.alloc (.cells #[] 42)) G (.slice (some ⟨w1.heap.size, 0, none⟩) 0 0) 0 (mv ss by_) := World.ownsRow_lit (e := 42) (size := 3) w1 #[] 0 hGw1 (Nat.zero_le _) rfl
  have O0 : Hid _ := o0
  have b2 : Below G w (w1.alloc (.cells #[] 42)) := b1.alloc hGw1 _
  clear o0
  go_wp2
  go_loopw [9, 10] (fun mvv iv w' => ∃ (i : Nat) (A : Option Addr) (C : Nat), iv = .int .i64 (i : Int) ∧ i ≤ n ∧ mvv = .slice A i C ∧ Hid (Sr w' G (.slice A i C) i (mv ss by_)) ∧ Below G w w') (fun _ iv _ => n - (RowKit.intOf iv).toNat)
  case atStart => exact ⟨0, _, 0, rfl, by omega, rfl, O0, b2⟩
  case round =>
    obtain ⟨i, A, C, rfl, hi, rfl, o, hb⟩ := hrel
    by_cases hlt : i < n
    · have hii : (i : Int) < n := by omega
      rcases HF.out with h0 | ⟨g, of_, rfl, hg, hat⟩
      · rw [h0] at hlt; omega
      rw [← HG.out] at hg
      obtain ⟨f1, f2, f3⟩ := hat i hlt
      have q1 := (hb.cell (p := ⟨g, of_ + i * 3, none⟩) hg).trans f1
      have q2 := (hb.cell (p := ⟨g, of_ + i * 3 + 1, none⟩) hg).trans f2
      have q3 := (hb.cell (p := ⟨g, of_ + i * 3 + 2, none⟩) hg).trans f3
      have hGw : G ≤ wr.heap.size := by rw [HG.out]; rw [HG.out] at hb; exact hb.size
      obtain ⟨v', w', r, o', b'⟩ := append_m wr.drew G (.slice A i C) i (mv ss by_) hGw (by omega) o.out
      obtain ⟨A', C', rfl, _, _⟩ := o'.sml
      have O' : Hid _ := o'
      have HB' : Hid (Below G w w') := hb.drew.trans b'
      have had : IntKind.i64.wrap ((ss i).t + by_) = ad (ss i).t by_ := rfl
      have r' : (Builtin.append_ #[39, 39] 39 #[.slice A i C, .slice (some ⟨wr.heap.size, 0, none⟩) 1 1]).run Try.prog (wr.alloc (.cells #[.int .i64 (ad (ss i).t by_), .float .f64 (ss i).v, .bool (!(ss i).s)] 42)).drew = .ok (.slice A' (i + 1) C') w' := r
      have HI : Hid (i + 1 ≤ n) := hlt
      clear r o' b' hat f1 f2 f3 o
      generalize ad (ss i).t by_ = tn at *
      generalize (ss i).t = ut at *
      generalize (ss i).v = uv at *
      generalize (ss i).s = us at *
      go_wp2_with fail
      go_region_law (refine step_append_run rfl (.tmp 28) (.tmp 48) 39 39 rfl _ _ rfl rfl r' ?_)
      all_goals go_wp2
      all_goals exact ⟨⟨i + 1, A', C', by go_num, HI, rfl, O', HB'.out⟩, by simp [RowKit.intOf]; omega⟩
    · have hii : ¬ (i : Int) < n := by omega
      obtain rfl : i = n := by omega
      obtain ⟨A', C', e, hml, hcm⟩ := o.out.sml
      cases e
      have hsz : ∀ w1, Below G w w1 → w.heap.size ≤ w1.heap.size := fun w1 h => h.size
      have HS1 : Hid (∀ w1, Below G w w1 → Sml w1 a ss i) := fun w1 h => by rw [HG.out] at h; exact HF.out.below h
      have hbW : Hid (Below G w wr) := hb
      have hstep : Hid (∀ w1 w2, Below wr.heap.size wr w1 → Below w1.heap.size w1 w2 → Below wr.heap.size wr w2) := fun w1 w2 h1 h2 => h1.trans (h2.mono h1.size)
      have hfin : Hid (∀ w1, Below wr.heap.size wr w1 → Below G w w1) := fun w1 h => hb.trans (h.mono (by rw [HG.out]; exact hb.size))
      have hmw : SW (mv ss by_) i := fun j hj => ⟨(ad_bd _ _).1, (ad_bd _ _).2, (HSW.out j hj).2.2⟩
      have e1 : (fun j => df ((mv ss by_) j).t (ad at_ by_)) = fun j => df (ss j).t at_ := funext fun j => df_ad _ _ _
      have e2 : (fun j => df ((mv ss by_) j).t ((mv ss by_) 0).t) = fun j => df (ss j).t (ss 0).t := funext fun j => df_ad _ _ _
      have e3 : (fun j => ((mv ss by_) j).v) = fun j => (ss j).v := rfl
      have K1 : Hid (∀ w1, Below wr.heap.size wr w1 → Calls Try.prog 17 #[.slice a i c, .int .i64 at_] w1 (RT w1 (liS (fun j => df (ss j).t at_) (fun j => (ss j).v) i (lvB ss i)) (liV (fun j => df (ss j).t at_) (fun j => (ss j).v) i (lvB ss i)))) := fun w1 h => line_any a c i ss at_ w1 (HS1.out _ (hfin.out _ h)) HSW.out hc hl
      have K2 : Hid (∀ w1, Below wr.heap.size wr w1 → Calls Try.prog 17 #[.slice A i C, .int .i64 (ad at_ by_)] w1 (RT w1 (liS (fun j => df (ss j).t at_) (fun j => (ss j).v) i (lvB ss i)) (liV (fun j => df (ss j).t at_) (fun j => (ss j).v) i (lvB ss i)))) := fun w1 h => by
        have := line_any A C i (mv ss by_) (ad at_ by_) w1 (hml.below h) hmw hcm hl
        rw [e1, e3, lv_mv] at this
        exact this
      have K3 : Hid (∀ w1, Below wr.heap.size wr w1 → Calls Try.prog 18 #[.slice a i c, .int .i64 p] w1 (RC w1 (tuF (fun j => df (ss j).t (ss 0).t) (fun j => (ss j).v) i p))) := fun w1 h => turn_any a c i ss p w1 (HS1.out _ (hfin.out _ h)) (by omega)
      have K4 : Hid (∀ w1, Below wr.heap.size wr w1 → Calls Try.prog 18 #[.slice A i C, .int .i64 p] w1 (RC w1 (tuF (fun j => df (ss j).t (ss 0).t) (fun j => (ss j).v) i p))) := fun w1 h => by
        have := turn_any A C i (mv ss by_) p w1 (hml.below h) (by omega)
        rw [e2, e3] at this
        exact this
      have K5 : Hid (∀ w1, Below wr.heap.size wr w1 → Calls Try.prog 16 #[.slice a i c, .int .i64 p] w1 (RB w1 (beF (fun j => df (ss j).t (ss 0).t) (fun j => (ss j).v) i p))) := fun w1 h => beat_any a c i ss p w1 (HS1.out _ (hfin.out _ h)) (by omega)
      have K6 : Hid (∀ w1, Below wr.heap.size wr w1 → Calls Try.prog 16 #[.slice A i C, .int .i64 p] w1 (RB w1 (beF (fun j => df (ss j).t (ss 0).t) (fun j => (ss j).v) i p))) := fun w1 h => by
        have := beat_any A C i (mv ss by_) p w1 (hml.below h) (by omega)
        rw [e2, e3] at this
        exact this
      have b0 : Hid (Below wr.heap.size wr wr) := Below.refl _ _
      have had : IntKind.i64.wrap (at_ + by_) = ad at_ by_ := rfl
      generalize liS (fun j => df (ss j).t at_) (fun j => (ss j).v) i (lvB ss i) = R1 at *
      generalize liV (fun j => df (ss j).t at_) (fun j => (ss j).v) i (lvB ss i) = R2 at *
      generalize tuF (fun j => df (ss j).t (ss 0).t) (fun j => (ss j).v) i p = R3 at *
      generalize beF (fun j => df (ss j).t (ss 0).t) (fun j => (ss j).v) i p = R4 at *
      clear e1 e2 e3 hmw hml hcm o hsz hb
      go_wp2_with fail
      go_fit (K1.out _ b0.out)
      rintro r w2 ⟨x1, x2, rfl, hb, _, _, c1, c2⟩
      have b1 : Hid (Below wr.heap.size wr w2) := hstep.out _ _ b0.out hb
      have C1 : Hid _ := c1
      have C2 : Hid _ := c2
      clear hb c1 c2
      go_wp2_with fail
      go_fit (K2.out _ b1.out)
      rintro r w3 ⟨x3, x4, rfl, hb, _, _, c1, c2⟩
      have b2 : Hid (Below wr.heap.size wr w3) := hstep.out _ _ b1.out hb
      have k1 := fun w' => alike_any x1 x3 (C1.out.trans c1.symm) w'
      have k2 := fun w' => alike_any x2 x4 (C2.out.trans c2.symm) w'
      clear hb c1 c2
      go_wp2_with fail
      go_fit (K3.out _ b2.out)
      rintro r w4 ⟨y1, y2, rfl, hb, _, _, c1⟩
      have b3 : Hid (Below wr.heap.size wr w4) := hstep.out _ _ b2.out hb
      have C3 : Hid _ := c1
      clear hb c1
      go_wp2_with fail
      go_fit (K4.out _ b3.out)
      rintro r w5 ⟨y3, y4, rfl, hb, _, _, c1⟩
      have b4 : Hid (Below wr.heap.size wr w5) := hstep.out _ _ b3.out hb
      have hpq := C3.out.trans c1.symm
      have k3 := fun w' => alike_any y1 y3 (congrArg Prod.fst hpq) w'
      have k4 := fun w' => alike_any y2 y4 (congrArg Prod.snd hpq) w'
      clear hb c1 hpq
      go_wp2_with fail
      go_fit (k1 _)
      rintro r _ ⟨rfl, rfl⟩
      go_wp2_with fail
      go_fit (k2 _)
      rintro r _ ⟨rfl, rfl⟩
      go_wp2_with fail
      go_fit (k3 _)
      rintro r _ ⟨rfl, rfl⟩
      go_wp2_with fail
      go_fit (k4 _)
      rintro r _ ⟨rfl, rfl⟩
      go_wp2_with fail
      go_fit (K5.out _ b4.out)
      rintro r w6 ⟨z1, rfl, hb, _, c1⟩
      have b5 : Hid (Below wr.heap.size wr w6) := hstep.out _ _ b4.out hb
      have C5 : Hid _ := c1
      clear hb c1
      go_wp2_with fail
      go_fit (K6.out _ b5.out)
      rintro r w7 ⟨z2, rfl, hb, _, c1⟩
      have b6 : Hid (Below wr.heap.size wr w7) := hstep.out _ _ b5.out hb
      have k5 := fun w' => alike_any z1 z2 (C5.out.trans c1.symm) w'
      clear hb c1
      go_wp2_with fail
      go_fit (k5 _)
      rintro r _ ⟨rfl, rfl⟩
      go_wp2
      go_ret
      exact ⟨rfl, hfin.out _ b6.out⟩
end Go.Proofs.Ytfjfpplemgjcmaa
