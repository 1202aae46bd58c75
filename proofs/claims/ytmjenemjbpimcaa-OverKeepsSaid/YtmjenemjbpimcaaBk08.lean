/- A bundle of texts. -/
import Derived.Test.YtmjenemjbpimcaaBk03
import Derived.Test.YtmjenemjbpimcaaBk04
/- leastSquares and Line. -/
namespace Go.Proofs.Ytmjenemjbpimcaa
open Go.RowKit

theorem RF.rb {w : World} {c : Option Nat} {r : Ending} {w' : World} (h : RF w c r w') : RB w c r w' := by
  obtain ⟨z, k, h1, h2, h3, h4⟩ := h
  exact ⟨z, h1, by rw [h2]; exact below_drewN (Below.refl _ _) _, h3, h4⟩
theorem cvi (n : Int) (w : World) : (convert 2 25 (.int .i64 n)).run Try.prog w = .ok (.float .f64 (iw n)) w := run_convert_int_float w 2 25 .i64 .f64 n (by rw [Try.underlying2]; rfl) Try.underlying25
theorem iw_lt (n : Int) : iw n < 18446744073709551616 := by
  have := floatOfInt_wf .f64 n
  unfold iw
  simpa [Lit.wf] using this
theorem iw_num (n : Int) : cl (iw n) = some (iw n) := cl_num (nanB_write_number _ _ _)

/-- The numbers of the line of least squares, by the times' differences and the values. -/
def xF (D : Nat → Int) (j : Nat) : Option Nat := fb .quo (some (iw (D j))) (some 4652007308841189376)
def yF (V : Nat → Nat) (j : Nat) : Option Nat := cl (V j)
def xyF (D : Nat → Int) (V : Nat → Nat) (j : Nat) : Option Nat := fb .mul (xF D j) (yF V j)
def xxF (D : Nat → Int) (j : Nat) : Option Nat := fb .mul (xF D j) (xF D j)
def lsS (D : Nat → Int) (V : Nat → Nat) (n : Nat) : Option Nat :=
  fb .quo (fb .sub (sumF ((List.range n).map (xyF D V))) (fb .quo (fb .mul (sumF ((List.range n).map (xF D))) (sumF ((List.range n).map (yF V)))) (some (nW n))))
    (fb .sub (sumF ((List.range n).map (xxF D))) (fb .quo (fb .mul (sumF ((List.range n).map (xF D))) (sumF ((List.range n).map (xF D)))) (some (nW n))))
def lsV (D : Nat → Int) (V : Nat → Nat) (n : Nat) : Option Nat :=
  fb .sub (fb .quo (sumF ((List.range n).map (yF V))) (some (nW n))) (fb .quo (fb .mul (lsS D V n) (sumF ((List.range n).map (xF D)))) (some (nW n)))

/-- What a function that answers two floats answers. -/
def RT (w : World) (c1 c2 : Option Nat) (r : Ending) (w' : World) : Prop := ∃ z1 z2, r = .returned (.tuple #[.float .f64 z1, .float .f64 z2]) ∧ Below w.heap.size w w' ∧ z1 < 18446744073709551616 ∧ z2 < 18446744073709551616 ∧ cl z1 = c1 ∧ cl z2 = c2

/-- Four rows side by side. -/
def Four (w : World) (G : Nat) (col : Nat → Nat) (i : Nat) (A0 A1 A2 A3 : Option Addr) (C0 C1 C2 C3 : Nat) (y0 y1 y2 y3 : List Nat) : Prop :=
  (Fr w G (.slice A0 i C0) y0 ∧ Co col 0 (.slice A0 i C0) ∧ y0.length = i) ∧ (Fr w G (.slice A1 i C1) y1 ∧ Co col 1 (.slice A1 i C1) ∧ y1.length = i) ∧
  (Fr w G (.slice A2 i C2) y2 ∧ Co col 2 (.slice A2 i C2) ∧ y2.length = i) ∧ (Fr w G (.slice A3 i C3) y3 ∧ Co col 3 (.slice A3 i C3) ∧ y3.length = i)

theorem append_s (w : World) (G : Nat) (col : Nat → Nat) (k i : Nat) (A : Option Addr) (C : Nat) (ys : List Nat) (x : Nat) (hS : G ≤ w.heap.size) (hn : (i + 1) * 8 ≤ 140737488355328) (o : Fr w G (.slice A i C) ys) (hc : Co col k (.slice A i C)) (hl : ys.length = i) :
    ∃ A' C' w' col', (Builtin.append_ #[32, 32] 32 #[.slice A i C, .slice (some ⟨w.heap.size, 0, none⟩) 1 1]).run Try.prog (w.alloc (.cells #[.float .f64 x] 25)) = .ok (.slice A' (i + 1) C') w' ∧ Fr w' G (.slice A' (i + 1) C') (ys ++ [x]) ∧ Co col' k (.slice A' (i + 1) C') ∧ (ys ++ [x]).length = i + 1 ∧ Below G w w' ∧
      ∀ u zs i, i ≠ k → Fr w G u zs → Co col i u → Fr w' G u zs ∧ Co col' i u := by
  obtain ⟨v', w', col', r, o', c', b, kp⟩ := append_c w G col k (.slice A i C) ys x hS (by rw [hl]; exact hn) o hc
  have Y : (ys ++ [x]).length = i + 1 := by rw [List.length_append, hl]; rfl
  obtain ⟨A', C', rfl, _⟩ := o'.fm
  rw [Y] at r o' c'
  exact ⟨A', C', w', col', r, o', c', Y, b, kp⟩

set_option maxHeartbeats 1000000 in
set_option maxRecDepth 100000 in
theorem least_any (g o c n : Nat) (ss : Nat → Smp) (at_ : Int) (w : World) (hg : g < w.heap.size) (hf : SAt w g o ss n) (hsw : SW ss n) (hl : 24 * n ≤ 140737488355328) :
    Calls Try.prog 94 #[.slice (some ⟨g, o, none⟩) n c, .int .i64 at_] w (RT w (lsS (fun j => df (ss j).t at_) (fun j => (ss j).v) n) (lsV (fun j => df (ss j).t at_) (fun j => (ss j).v) n)) := by
  have hsf := @run_store_float Try.prog
  have ha := @run_fadd Try.prog
  have hs := @run_fsub Try.prog
  have hm := @run_fmul Try.prog
  have hq := @run_fquo Try.prog
  have hcv := cvi
  have hcn := cvn n
  have HF : Hid (SAt w g o ss n) := hf
  have HSW : Hid (SW ss n) := hsw
  have hb0 := Below.refl w.heap.size w
  clear hf hsw
  obtain ⟨D, hD⟩ : ∃ D : Nat → Int, D = fun j => df (ss j).t at_ := ⟨_, rfl⟩
  obtain ⟨V, hV⟩ : ∃ V : Nat → Nat, V = fun j => (ss j).v := ⟨_, rfl⟩
  rw [← hD, ← hV]
  have HD : Hid (D = fun j => df (ss j).t at_) := hD
  have HV : Hid (V = fun j => (ss j).v) := hV
  have HX : Hid (∀ j, xF D j = fb .quo (some (iw (D j))) (some 4652007308841189376)) := fun j => rfl
  have HY : Hid (∀ j, yF V j = cl (V j)) := fun j => rfl
  have HXY : Hid (∀ j, xyF D V j = fb .mul (xF D j) (yF V j)) := fun j => rfl
  have HXX : Hid (∀ j, xxF D j = fb .mul (xF D j) (xF D j)) := fun j => rfl
  have HS : Hid (lsS D V n = fb .quo (fb .sub (sumF ((List.range n).map (xyF D V))) (fb .quo (fb .mul (sumF ((List.range n).map (xF D))) (sumF ((List.range n).map (yF V)))) (some (nW n)))) (fb .sub (sumF ((List.range n).map (xxF D))) (fb .quo (fb .mul (sumF ((List.range n).map (xF D))) (sumF ((List.range n).map (xF D)))) (some (nW n))))) := (rfl : lsS D V n = _)
  have HT : Hid (lsV D V n = fb .sub (fb .quo (sumF ((List.range n).map (yF V))) (some (nW n))) (fb .quo (fb .mul (lsS D V n) (sumF ((List.range n).map (xF D)))) (some (nW n)))) := (rfl : lsV D V n = _)
  generalize lsS D V n = SL at *
  generalize lsV D V n = VL at *
  generalize xyF D V = fxy at *
  generalize xxF D = fxx at *
  generalize xF D = fx at *
  generalize yF V = fy at *
  clear hD hV
  obtain ⟨G, hG⟩ : ∃ G, G = w.heap.size := ⟨_, rfl⟩
  have HG : Hid (G = w.heap.size) := hG
  rw [← hG] at hb0 hg
  clear hG
  go_enter Try.func94, Try.ntmps94
  go_wp2
  go_loopw [6, 7, 8, 9, 21] (fun v0 v1 v2 v3 iv w' => ∃ (i : Nat) (A0 A1 A2 A3 : Option Addr) (C0 C1 C2 C3 : Nat) (y0 y1 y2 y3 : List Nat) (col : Nat → Nat), iv = .int .i64 (i : Int) ∧ i ≤ n ∧ v0 = .slice A0 i C0 ∧ v1 = .slice A1 i C1 ∧ v2 = .slice A2 i C2 ∧ v3 = .slice A3 i C3 ∧
      Hid (Four w' G col i A0 A1 A2 A3 C0 C1 C2 C3 y0 y1 y2 y3) ∧ Hid (Ls y0 i fx) ∧ Hid (Ls y1 i fy) ∧ Hid (Ls y2 i fxy) ∧ Hid (Ls y3 i fxx) ∧ Below G w w') (fun _ _ _ _ iv _ => n - (RowKit.intOf iv).toNat)
  case atStart => exact ⟨0, none, none, none, none, 0, 0, 0, 0, [], [], [], [], fun _ => 0, rfl, by omega, rfl, rfl, rfl, rfl, ⟨⟨Fr.nil _ _, Co.nil _ _, rfl⟩, ⟨Fr.nil _ _, Co.nil _ _, rfl⟩, ⟨Fr.nil _ _, Co.nil _ _, rfl⟩, ⟨Fr.nil _ _, Co.nil _ _, rfl⟩⟩, Ls.nil _ _, Ls.nil _ _, Ls.nil _ _, Ls.nil _ _, hb0⟩
  case round =>
    obtain ⟨i, A0, A1, A2, A3, C0, C1, C2, C3, y0, y1, y2, y3, col, rfl, hi, rfl, rfl, rfl, rfl, h4, l0, l1, l2, l3, hb⟩ := hrel
    by_cases hlt : i < n
    · have hii : (i : Int) < n := by omega
      obtain ⟨f1, f2, f3⟩ := HF.out i hlt
      have q1 := (hb.cell (p := ⟨g, o + i * 3, none⟩) hg).trans f1
      have q2 := (hb.cell (p := ⟨g, o + i * 3 + 1, none⟩) hg).trans f2
      have q3 := (hb.cell (p := ⟨g, o + i * 3 + 2, none⟩) hg).trans f3
      have hswi := HSW.out i hlt
      have HXi : Hid (fx i = fb .quo (some (iw (df (ss i).t at_))) (some 4652007308841189376)) := by
        show _ = _
        rw [HX.out, HD.out]
      have HYi : Hid (fy i = cl (ss i).v) := by
        show _ = _
        rw [HY.out, HV.out]
      have HI : Hid (i + 1 ≤ n) := hlt
      obtain ⟨u, hu⟩ : ∃ u, ss i = u := ⟨_, rfl⟩
      rw [hu] at q1 q2 q3 HXi HYi hswi
      clear hu f1 f2 f3
      have hGw : G ≤ wr.heap.size := by rw [HG.out]; exact hb.size
      have hbA : Below G w (wr.alloc (cp u)) := hb.alloc hGw _
      have n0 := cp_cell wr u 0 (.int .i64 u.t) rfl
      have n1 := cp_cell wr u 1 (.float .f64 u.v) rfl
      have hdf : IntKind.i64.wrap (u.t - at_) = df u.t at_ := rfl
      go_wp2_with fail
      refine wp_region_loose (by kernel_rfl) (by kernel_rfl) ?_
      iterate 5 (refine wpLoose_quiet rfl rfl ?_; intro K hK; go_big_quiet_op; go_big_quiet_on)
      refine wpLoose_float .quo (.inr (.inr (.inr rfl))) 25 25 _ _ rfl rfl _ _ rfl rfl (by rintro _ k' ⟨n', rfl⟩; first | exact ⟨n' + k', World.drewN_drewN _ _ _⟩ | exact ⟨n' + k', by simp [Nat.add_assoc]⟩) ?_
      intro z hzl hz
      go_simp
      iterate 4 (refine wpLoose_quiet rfl rfl ?_; intro K hK; go_big_quiet_op; go_big_quiet_on)
      refine wpLoose_nil ?_
      intro n2
      have Hz : Hid (cl z = fx i) := by
        show _ = _
        rw [hz, HXi.out, iw_num, cl_lit 4652007308841189376 (by decide)]
      obtain ⟨⟨o0, c0, e0⟩, ⟨o1, c1, e1⟩, ⟨o2, c2, e2⟩, ⟨o3, c3, e3⟩⟩ := h4.out
      have hbW : Below wr.heap.size wr ((wr.alloc (cp u)).drewN n2) := below_drewN ((Below.refl _ _).alloc (Nat.le_refl _) _) n2
      have hbA2 : Below G w ((wr.alloc (cp u)).drewN n2) := below_drewN hbA n2
      clear n0 n1 hbA q1 q2 q3
      generalize (wr.alloc (cp u)).drewN n2 = W2 at *
      have hGW : G ≤ W2.heap.size := Nat.le_trans hGw hbW.size
      obtain ⟨B0, E0, w1, col1, r1, p0, d0, g0, b1, kp1⟩ := append_s W2 G col 0 i A0 C0 y0 z hGW (by omega) (o0.below hbW) c0 e0
      obtain ⟨o1, c1⟩ := kp1 _ _ 1 (by decide) (o1.below hbW) c1
      obtain ⟨o2, c2⟩ := kp1 _ _ 2 (by decide) (o2.below hbW) c2
      obtain ⟨o3, c3⟩ := kp1 _ _ 3 (by decide) (o3.below hbW) c3
      have hG1 : G ≤ w1.heap.size := Nat.le_trans hGW b1.size
      obtain ⟨B1, E1, w2, col2, r2, p1, d1, g1, b2, kp2⟩ := append_s w1 G col1 1 i A1 C1 y1 u.v hG1 (by omega) o1 c1 e1
      obtain ⟨p0, d0⟩ := kp2 _ _ 0 (by decide) p0 d0
      obtain ⟨o2, c2⟩ := kp2 _ _ 2 (by decide) o2 c2
      obtain ⟨o3, c3⟩ := kp2 _ _ 3 (by decide) o3 c3
      have hG2 : G ≤ (w2.drewN (fk .mul z u.v)).heap.size := Nat.le_trans hG1 b2.size
      obtain ⟨B2, E2, w3, col3, r3, p2, d2, g2, b3, kp3⟩ := append_s (w2.drewN (fk .mul z u.v)) G col2 2 i A2 C2 y2 (fz .mul z u.v w2) hG2 (by omega) (o2.drew _) c2 e2
      obtain ⟨p0, d0⟩ := kp3 _ _ 0 (by decide) (p0.drew _) d0
      obtain ⟨p1, d1⟩ := kp3 _ _ 1 (by decide) (p1.drew _) d1
      obtain ⟨o3, c3⟩ := kp3 _ _ 3 (by decide) (o3.drew _) c3
      have hG3 : G ≤ (w3.drewN (fk .mul z z)).heap.size := Nat.le_trans hG2 b3.size
      obtain ⟨B3, E3, w4, col4, r4, p3, d3, g3, b4, kp4⟩ := append_s (w3.drewN (fk .mul z z)) G col3 3 i A3 C3 y3 (fz .mul z z w3) hG3 (by omega) (o3.drew _) c3 e3
      obtain ⟨p0, d0⟩ := kp4 _ _ 0 (by decide) (p0.drew _) d0
      obtain ⟨p1, d1⟩ := kp4 _ _ 1 (by decide) (p1.drew _) d1
      obtain ⟨p2, d2⟩ := kp4 _ _ 2 (by decide) (p2.drew _) d2
      have H4 : Hid (Four w4 G col4 (i + 1) B0 B1 B2 B3 E0 E1 E2 E3 (y0 ++ [z]) (y1 ++ [u.v]) (y2 ++ [fz .mul z u.v w2]) (y3 ++ [fz .mul z z w3])) := ⟨⟨p0, d0, g0⟩, ⟨p1, d1, g1⟩, ⟨p2, d2, g2⟩, ⟨p3, d3, g3⟩⟩
      have L0 : Hid (Ls (y0 ++ [z]) (i + 1) fx) := by
        have := l0.out
        rw [← e0] at this ⊢
        exact this.push _ (by rw [e0, Hz.out]) hzl
      have L1 : Hid (Ls (y1 ++ [u.v]) (i + 1) fy) := by
        have := l1.out
        rw [← e1] at this ⊢
        exact this.push _ (by rw [e1, HYi.out]) hswi.2.2
      have L2 : Hid (Ls (y2 ++ [fz .mul z u.v w2]) (i + 1) fxy) := by
        have := l2.out
        rw [← e2] at this ⊢
        exact this.push _ (by rw [cl_fz, e2, HXY.out, Hz.out, HYi.out]) (fz_lt _ _ _ _)
      have L3 : Hid (Ls (y3 ++ [fz .mul z z w3]) (i + 1) fxx) := by
        have := l3.out
        rw [← e3] at this ⊢
        exact this.push _ (by rw [cl_fz, e3, HXX.out, Hz.out]) (fz_lt _ _ _ _)
      have HB : Hid (Below G w w4) := by
        have h1 := hbA2.trans b1
        have h2 := below_drewN (h1.trans b2) (fk .mul z u.v)
        have h3 := below_drewN (h2.trans b3) (fk .mul z z)
        exact h3.trans b4
      clear o0 o1 o2 o3 c0 c1 c2 c3 e0 e1 e2 e3 p0 p1 p2 p3 d0 d1 d2 d3 g0 g1 g2 g3 kp1 kp2 kp3 kp4 b1 b2 b3 b4 h4 l0 l1 l2 l3 hz hbW hGW hG1 hG2 hG3
      go_wp2_with (first | (at_builtin; refine wpList_append_run rfl (.tmp 33) (.tmp 35) 32 32 rfl _ _ rfl rfl r1 ?_) | (at_builtin; refine wpList_append_run rfl (.tmp 37) (.tmp 39) 32 32 rfl _ _ rfl rfl r2 ?_) | (at_builtin; refine wpList_append_run rfl (.tmp 41) (.tmp 45) 32 32 rfl _ _ rfl rfl r3 ?_) | (at_builtin; refine wpList_append_run rfl (.tmp 47) (.tmp 51) 32 32 rfl _ _ rfl rfl r4 ?_))
      exact ⟨⟨i + 1, B0, B1, B2, B3, E0, E1, E2, E3, _, _, _, _, col4, by go_num, HI, rfl, rfl, rfl, rfl, H4, L0, L1, L2, L3, HB.out⟩, by simp [RowKit.intOf]; omega⟩
    · have hii : ¬ (i : Int) < n := by omega
      obtain rfl : i = n := by omega
      obtain ⟨⟨o0, c0, e0⟩, ⟨o1, c1, e1⟩, ⟨o2, c2, e2⟩, ⟨o3, c3, e3⟩⟩ := h4.out
      have key : ∀ (A : Option Addr) (C : Nat) (y : List Nat) (F : Nat → Option Nat), Fr wr G (.slice A i C) y → y.length = i → Ls y i F → ∀ w1, Below wr.heap.size wr w1 → Calls Try.prog 35 #[.slice A i C] w1 (RB w1 (sumF ((List.range i).map F))) := by
        intro A C y F o e l w1 hb1
        rw [← e] at l
        obtain ⟨a2, c2, ev, hf2⟩ := o.fm
        rw [e] at ev
        cases ev
        have := (sum_any A C y w1 (hf2.below hb1) l.wd (by omega)).mono fun _ _ => RF.rb
        rw [l.cs, e] at this
        exact this
      have K0 : Hid _ := key A0 C0 y0 fx o0 e0 l0.out
      have K1 : Hid _ := key A1 C1 y1 fy o1 e1 l1.out
      have K2 : Hid _ := key A2 C2 y2 fxy o2 e2 l2.out
      have K3 : Hid _ := key A3 C3 y3 fxx o3 e3 l3.out
      have hstep : Hid (∀ w1 w2, Below wr.heap.size wr w1 → Below w1.heap.size w1 w2 → Below wr.heap.size wr w2) := fun w1 w2 h1 h2 => h1.trans (h2.mono h1.size)
      have b0 : Hid (Below wr.heap.size wr wr) := Below.refl _ _
      clear key o0 o1 o2 o3 c0 c1 c2 c3 e0 e1 e2 e3 h4 l0 l1 l2 l3
      go_wp2_with fail
      go_fit (K0.out _ b0.out)
      rintro r w1 ⟨zX, rfl, hb1, _, hX⟩
      have b1 : Hid (Below wr.heap.size wr w1) := hstep.out _ _ b0.out hb1
      have CX : Hid _ := hX
      clear hb1 hX
      go_wp2_with fail
      go_fit (K1.out _ b1.out)
      rintro r w2 ⟨zY, rfl, hb2, _, hY⟩
      have b2 : Hid (Below wr.heap.size wr w2) := hstep.out _ _ b1.out hb2
      have CY : Hid _ := hY
      clear hb2 hY
      go_wp2_with fail
      go_fit (K2.out _ b2.out)
      rintro r w3 ⟨zXY, rfl, hb3, _, hXY⟩
      have b3 : Hid (Below wr.heap.size wr w3) := hstep.out _ _ b2.out hb3
      have CXY : Hid _ := hXY
      clear hb3 hXY
      go_wp2_with fail
      go_fit (K3.out _ (below_drewN b3.out _))
      rintro r w4 ⟨zXX, rfl, hb4, _, hXX⟩
      have b4 : Hid (Below wr.heap.size wr w4) := hstep.out _ _ (below_drewN b3.out _) hb4
      have CXX : Hid _ := hXX
      clear hb4 hXX
      have HB : Hid (Below w.heap.size w w4) := by
        have := b4.out
        rw [HG.out] at hb
        exact hb.trans (this.mono hb.size)
      go_wp2
      go_ret2
      refine ⟨_, _, rfl, below_drewN HB.out _, fz_lt _ _ _ _, fz_lt _ _ _ _, ?_, ?_⟩
      · simp only [cl_fz]
        rw [HS.out, CX.out, CY.out, CXY.out, CXX.out, nW_num]
      · simp only [cl_fz]
        rw [HT.out, HS.out, CX.out, CY.out, CXY.out, CXX.out, nW_num]

/-- Line. -/
def liS (D : Nat → Int) (V : Nat → Nat) (n : Nat) (lv : Bool) : Option Nat := if n = 0 then none else if lv = false then lsS D V n else if infB (cl (V 0)) = true then none else some 0
def liV (D : Nat → Int) (V : Nat → Nat) (n : Nat) (lv : Bool) : Option Nat := if n = 0 then none else if lv = false then lsV D V n else if infB (cl (V 0)) = true then none else cl (V 0)

set_option maxHeartbeats 1000000 in
set_option maxRecDepth 100000 in
theorem line_any (a : Option Addr) (c n : Nat) (ss : Nat → Smp) (at_ : Int) (w : World) (hf : Sml w a ss n) (hsw : SW ss n) (hc : n ≤ c) (hl : 24 * n ≤ 140737488355328) :
    Calls Try.prog 82 #[.slice a n c, .int .i64 at_] w (RT w (liS (fun j => df (ss j).t at_) (fun j => (ss j).v) n (lvB ss n)) (liV (fun j => df (ss j).t at_) (fun j => (ss j).v) n (lvB ss n))) := by
  have kN := nan_any
  have hb0 := Below.refl w.heap.size w
  by_cases h0 : n = 0
  · have e1 : liS (fun j => df (ss j).t at_) (fun j => (ss j).v) n (lvB ss n) = none := if_pos h0
    have e2 : liV (fun j => df (ss j).t at_) (fun j => (ss j).v) n (lvB ss n) = none := if_pos h0
    have h0' : (n : Int) = 0 := by omega
    rw [e1, e2]
    go_enter Try.func82, Try.ntmps82
    go_wp2_with fail
    go_fit (kN _)
    rintro r w ⟨rfl, rfl⟩
    go_wp2_with fail
    go_fit (kN _)
    rintro r w ⟨rfl, rfl⟩
    go_wp2
    go_ret2
    exact ⟨_, _, rfl, hb0, by decide, by decide, cl_theNaN, cl_theNaN⟩
  rcases hf with h | ⟨g, o, rfl, hg, hat⟩
  · exact absurd h h0
  have h0' : ¬ (n : Int) = 0 := by omega
  have kV := isLevel_any g o c n ss w hg hat (by omega) hc (by omega)
  have kL : Hid (∀ w1, Below w.heap.size w w1 → Calls Try.prog 94 #[.slice (some ⟨g, o, none⟩) n c, .int .i64 at_] w1 (RT w1 (lsS (fun j => df (ss j).t at_) (fun j => (ss j).v) n) (lsV (fun j => df (ss j).t at_) (fun j => (ss j).v) n))) := fun w1 hb => by
    refine least_any g o c n ss at_ w1 (Nat.lt_of_lt_of_le hg hb.size) ?_ hsw hl
    have := Sml.below (.inr ⟨g, o, rfl, hg, hat⟩ : Sml w (some ⟨g, o, none⟩) ss n) hb
    rcases this with h | ⟨g', o', e, _, h⟩
    · exact absurd h h0
    · cases e
      exact h
  have hv0 := (hsw 0 (by omega)).2.2
  have hc0 := (hat 0 (by omega)).2.1
  rw [show o + 0 * 3 + 1 = o + 1 by omega] at hc0
  have E1 : Hid (liS (fun j => df (ss j).t at_) (fun j => (ss j).v) n (lvB ss n) = if lvB ss n = false then lsS (fun j => df (ss j).t at_) (fun j => (ss j).v) n else if infB (cl (ss 0).v) = true then none else some 0) := if_neg h0
  have E2 : Hid (liV (fun j => df (ss j).t at_) (fun j => (ss j).v) n (lvB ss n) = if lvB ss n = false then lsV (fun j => df (ss j).t at_) (fun j => (ss j).v) n else if infB (cl (ss 0).v) = true then none else cl (ss 0).v) := if_neg h0
  generalize liS (fun j => df (ss j).t at_) (fun j => (ss j).v) n (lvB ss n) = R1 at *
  generalize liV (fun j => df (ss j).t at_) (fun j => (ss j).v) n (lvB ss n) = R2 at *
  generalize lsS (fun j => df (ss j).t at_) (fun j => (ss j).v) n = L1 at *
  generalize lsV (fun j => df (ss j).t at_) (fun j => (ss j).v) n = L2 at *
  obtain ⟨v0, hvv⟩ : ∃ v0, (ss 0).v = v0 := ⟨_, rfl⟩
  rw [hvv] at E1 E2 hv0 hc0
  have HC0 : Hid (w.cell? ⟨g, o + 1, none⟩ = some (.float .f64 v0)) := hc0
  have HGG : Hid (g < w.heap.size) := hg
  clear hat hvv hc0 hg
  go_enter Try.func82, Try.ntmps82
  go_wp2_with fail
  go_fit kV
  rintro r w1 ⟨rfl, hb1⟩
  cases hlv : lvB ss n
  · rw [hlv] at E1 E2
    have F1 : Hid (R1 = L1) := E1.out.trans (if_pos rfl)
    have F2 : Hid (R2 = L2) := E2.out.trans (if_pos rfl)
    go_wp2_with fail
    go_fit (kL.out _ hb1)
    rintro r w2 ⟨z1, z2, rfl, hb2, h1, h2, h3, h4⟩
    have b2 : Hid (Below w.heap.size w w2) := hb1.trans (hb2.mono hb1.size)
    have G1 : Hid (cl z1 = R1) := h3.trans F1.out.symm
    have G2 : Hid (cl z2 = R2) := h4.trans F2.out.symm
    clear h3 h4 hb2
    go_wp2
    go_ret2
    exact ⟨_, _, rfl, b2.out, h1, h2, G1.out, G2.out⟩
  · rw [hlv] at E1 E2
    have F1 : Hid (R1 = if infB (cl v0) = true then none else some 0) := E1.out.trans (if_neg (by decide))
    have F2 : Hid (R2 = if infB (cl v0) = true then none else cl v0) := E2.out.trans (if_neg (by decide))
    have hcA : w1.cell? ⟨g, o + 1, none⟩ = some (.float .f64 v0) := (hb1.cell (p := ⟨g, o + 1, none⟩) HGG.out).trans HC0.out
    have hn0 : (0 : Int) < n := by omega
    have kI := fun w => isInf_any v0 hv0 w
    go_wp2_with fail
    go_fit (kI _)
    rintro r w1 ⟨rfl, rfl⟩
    cases hinf : infB (cl v0)
    · have G1 : Hid (some 0 = R1) := by show _ = _; rw [F1.out, if_neg (by rw [hinf]; decide)]
      have G2 : Hid (cl v0 = R2) := by show _ = _; rw [F2.out, if_neg (by rw [hinf]; decide)]
      go_wp2_with fail
      go_quiet (fail)
      go_wp2
      go_ret2
      exact ⟨_, _, rfl, below_drewN hb1 _, by decide, hv0, by rw [cl_lit 0 (by decide)]; exact G1.out, G2.out⟩
    · have G1 : Hid (none = R1) := by show _ = _; rw [F1.out, if_pos hinf]
      have G2 : Hid (none = R2) := by show _ = _; rw [F2.out, if_pos hinf]
      go_wp2_with fail
      go_fit (kN _)
      rintro r w ⟨rfl, rfl⟩
      go_wp2_with fail
      go_fit (kN _)
      rintro r w ⟨rfl, rfl⟩
      go_wp2
      go_ret2
      exact ⟨_, _, rfl, hb1, by decide, by decide, cl_theNaN.trans G1.out, cl_theNaN.trans G2.out⟩
end Go.Proofs.Ytmjenemjbpimcaa
