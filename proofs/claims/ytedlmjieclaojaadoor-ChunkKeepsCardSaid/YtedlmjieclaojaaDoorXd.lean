/- separate over any number of lists: the walk. -/
import Derived.Test.YtedlmjieclaojaaDoorXc
namespace Go.Proofs.YtedlmjieclaojaaDoor
open Go.RowKit

theorem B1.start {S n LB : Nat} {V : Nat → Value} {N : Nat → Nat} {X : Nat → List Smp} {w W : World} (hr : ∀ i, i < n → w.ownsRow S 38 3 (V i) (N i) (smc (X i))) (hc : ∀ i, i < n → w.cell? ⟨LB, i, none⟩ = some (V i)) (hb : Below w.heap.size w W) (o : W.ownsRow w.heap.size 22 1 (.slice (some ⟨w.heap.size, 0, none⟩) n n) n (gl n fun _ => .slice none 0 0)) : B1 S w.heap.size n LB V N 0 0 W :=
  ⟨⟨X, fun i hi => Kp.row (M := fun _ => False) (Kp.of hb) (hr i hi) (fun _ _ => id), fun i hi => by omega, fun k hk => by omega⟩, fun i hi => Kp.cell (M := fun _ => False) (Kp.of hb) (hc i hi) id, ⟨_, fun i hi => by omega, o⟩⟩
theorem B2.form {S B n LB : Nat} {V : Nat → Value} {N : Nat → Nat} {k q : Nat} {U : Nat → Value} {W : World} (h : B2 S B n LB V N k q U W) (i : Nat) (hi : i < n) : W.cell? ⟨B, i, none⟩ = some (U i) ∧ ∃ a c, U i = .slice a (N i + if i < q then k + 1 else k) c := by
  refine ⟨gs_cell h.gw i hi, ?_⟩
  exact row_form (h.ow i hi)
/-- What stands in the lists at the end. -/
theorem B2.look {S B n LB : Nat} {V : Nat → Value} {N : Nat → Nat} {k : Nat} {U : Nat → Value} {W : World} (h : B2 S B n LB V N k 0 U W) (i : Nat) (hi : i < n) :
    ∃ a c a2 c2, V i = .slice a (N i) c ∧ U i = .slice a2 (N i + k) c2 ∧ (∀ j, j < N i → ∃ g, a = some ⟨g, 0, none⟩ ∧ W.cell? ⟨g, j * 3, none⟩ = some (.int .i64 (i : Nat))) ∧ ∀ j, j < N i + k → ∃ g, a2 = some ⟨g, 0, none⟩ ∧ W.cell? ⟨g, j * 3, none⟩ = some (.int .i64 (i : Nat)) := by
  have o := h.ow i hi
  rw [if_neg (by omega)] at o
  obtain ⟨a, c, e, hm⟩ := h.rd i hi
  obtain ⟨a2, c2, e2⟩ := row_form o
  refine ⟨a, c, a2, c2, e, e2, hm, fun j hj => ?_⟩
  rcases o.2 with ⟨e3, e4⟩ | ⟨g, c3, cur, e3, _⟩
  · omega
  · rw [e2] at e3
    cases e3
    rw [e2] at o
    exact ⟨g, rfl, (row_cells o (x := msk i) (by simp [hj])).1⟩

theorem B1.mid {S B n LB : Nat} {V : Nat → Value} {N : Nat → Nat} {p j g c : Nat} {W : World} (h : B1 S B n LB V N p j W) (hp : p < n) (hv : V p = .slice (some ⟨g, 0, none⟩) (N p) c) (a b : Value) (x : Smp) (x1 : W.cell? ⟨g, j * 3 + 1, none⟩ = some (.float .f64 x.v)) (x2 : W.cell? ⟨g, j * 3 + 2, none⟩ = some (.bool x.s)) :
    (W.setCell ⟨g, j * 3, none⟩ a).cell? ⟨g, j * 3 + 1, none⟩ = some (.float .f64 x.v) ∧ (W.setCell ⟨g, j * 3, none⟩ a).frozen? ⟨g, j * 3 + 1, none⟩ = false ∧
      ((W.setCell ⟨g, j * 3, none⟩ a).setCell ⟨g, j * 3 + 1, none⟩ b).cell? ⟨g, j * 3 + 2, none⟩ = some (.bool x.s) ∧ ((W.setCell ⟨g, j * 3, none⟩ a).setCell ⟨g, j * 3 + 1, none⟩ b).frozen? ⟨g, j * 3 + 2, none⟩ = false := by
  obtain ⟨Y, h1, _⟩ := h.ex
  have o := h1 p hp
  rw [hv] at o
  have o1 := (World.ownsRow.stored o (j * 3) a).1
  have o2 := (World.ownsRow.stored o1 (j * 3 + 1) b).1
  exact ⟨(cell_off _ _ _ _ _ (by omega)).trans x1, World.ownsRow.frozenAt o1 _, (cell_off _ _ _ _ _ (by omega)).trans ((cell_off _ _ _ _ _ (by omega)).trans x2), World.ownsRow.frozenAt o2 _⟩
set_option maxHeartbeats 8000000 in
set_option maxRecDepth 100000 in
theorem separate_any (S n LB c0 : Nat) (V : Nat → Value) (N : Nat → Nat) (X : Nat → List Smp) (w : World) (hl : Ls w.heap.size n LB V) (hr : ∀ i, i < n → w.ownsRow S 38 3 (V i) (N i) (smc (X i))) (hc : ∀ i, i < n → w.cell? ⟨LB, i, none⟩ = some (V i)) (hN : ∀ i, i < n → N i ≤ 1000000000) (hn : n ≤ 1000000000) (hS : S ≤ w.heap.size) :
    Calls Tryd.prog 24 #[.slice (some ⟨LB, 0, none⟩) n c0] w fun e w' => e = .returned (.bool true) ∧ Kp (Mb n V) w w' := by
  obtain ⟨w1, r1, o1, b1⟩ := make_gs w n (by omega)
  have H1 : Hid (B1 S w.heap.size n LB V N 0 0 w1) := B1.start hr hc b1 o1
  have K1 : Hid (Kp (Mb n V) w w1) := Kp.of b1
  have HL : Hid (Ls w.heap.size n LB V) := hl
  have HN : Hid (∀ i, i < n → N i ≤ 1000000000) := hN
  have HS : Hid (S ≤ w.heap.size) := hS
  obtain ⟨B, hB⟩ : ∃ B, B = w.heap.size := ⟨_, rfl⟩
  have HB : Hid (B = w.heap.size) := hB
  rw [← hB] at r1 H1 HL HS
  have hni : (n : Int) ≤ 1000000000 := by omega
  clear hl hr hc hN hS o1 b1 hB
  go_enter Tryd.func24, Tryd.ntmps24
  go_wp2_with fail
  clear r1
  go_loopw [4] (fun iv W => ∃ i : Nat, iv = .int .i64 (i : Nat) ∧ i ≤ n ∧ Hid (B1 S B n LB V N i 0 W) ∧ Hid (Kp (Mb n V) w W)) (fun iv _ => n - (RowKit.intOf iv).toNat)
  case atStart => exact ⟨0, rfl, Nat.zero_le _, H1, K1⟩
  case round =>
    obtain ⟨p, rfl, hp, ha, hk⟩ := hrel
    clear H1 K1
    by_cases hlt : p < n
    · have hpi : (p : Int) < (n : Int) := by omega
      obtain ⟨a, c, hv, hav⟩ := ha.out.form hlt
      have HV : Hid (V p = .slice a (N p) c) := hv
      have HAV : Hid (0 < N p → ∃ g, a = some ⟨g, 0, none⟩) := hav
      have hnp := HN.out p hlt
      obtain ⟨M, hM⟩ : ∃ M, M = N p := ⟨_, rfl⟩
      have HM : Hid (M = N p) := hM
      rw [← hM] at HV HAV hnp
      have hMi : (M : Int) ≤ 1000000000 := by omega
      clear hv hav hM
      go_wp2_with fail
      go_loopw [5] (fun jv W => ∃ j : Nat, jv = .int .i64 (j : Nat) ∧ j ≤ M ∧ Hid (B1 S B n LB V N p j W) ∧ Hid (Kp (Mb n V) w W)) (fun jv _ => M - (RowKit.intOf jv).toNat)
      case atStart => exact ⟨0, rfl, Nat.zero_le _, ha, hk⟩
      case round =>
        obtain ⟨j, rfl, hj, ha2, hk2⟩ := hrel
        clear ha hk
        have d0 := ha2.out.ls p hlt
        rw [HV.out] at d0
        by_cases hjl : j < M
        · have hji : (j : Int) < (M : Int) := by omega
          obtain ⟨g, rfl⟩ := HAV.out (by omega)
          obtain ⟨a3, k3, fz, x, x0, x1, x2⟩ := ha2.out.put HL.out hlt (by rw [← HM.out]; exact hjl) (by rw [← HM.out]; exact HV.out)
          have HA3 : Hid _ := a3
          have HK3 : Hid _ := hk2.out.trans k3
          have hsf := @run_store_float Tryd.prog
          have fz0 := fz (j * 3)
          obtain ⟨y1, f1, y2, f2⟩ := ha2.out.mid (j := j) hlt (by rw [← HM.out]; exact HV.out) (.int .i64 (p : Nat)) (.float .f64 0) x x1 x2
          clear a3 k3 ha2 hk2 fz
          go_wp2
          exact ⟨⟨j + 1, by go_num, by omega, HA3, HK3⟩, by simp [RowKit.intOf]; omega⟩
        · obtain rfl : j = M := by omega
          have hji : ¬ (j : Int) < (j : Int) := by omega
          have ha4 := ha2.out
          rw [HM.out] at ha4
          obtain ⟨a3, k3, fz, u, hu⟩ := ha4.next HL.out hlt
          rw [HV.out] at a3 k3
          have HA3 : Hid _ := a3
          have HK3 : Hid _ := kp_far (p := ⟨B, p, none⟩) hk2.out (by show w.heap.size ≤ B; rw [HB.out]; exact Nat.le_refl _) (.slice a j c)
          clear a3 k3 ha2 hk2 ha4
          go_wp2
          exact ⟨⟨p + 1, by go_num, by omega, HA3, HK3⟩, by simp [RowKit.intOf]; omega⟩
    · obtain rfl : p = n := by omega
      have hpi : ¬ (p : Int) < (p : Int) := by omega
      have H2 : Hid (∃ U, B2 S B p LB V N 0 0 U wr) := ⟨V, ha.out.done HL.out⟩
      clear ha
      go_wp2_with fail
      go_loopw [6] (fun kv W => ∃ k : Nat, kv = .int .i64 (k : Nat) ∧ k ≤ 20 ∧ Hid (∃ U, B2 S B p LB V N k 0 U W) ∧ Hid (Kp (Mb p V) w W)) (fun kv _ => 20 - (RowKit.intOf kv).toNat)
      case atStart => exact ⟨0, rfl, Nat.zero_le _, H2, hk⟩
      case round =>
        obtain ⟨k, rfl, hkl, h2, hk2⟩ := hrel
        clear H2 hk
        by_cases hk20 : k < 20
        · have hki : (k : Int) < 20 := by omega
          go_wp2_with fail
          go_loopw [7] (fun qv W => ∃ q : Nat, qv = .int .i64 (q : Nat) ∧ q ≤ p ∧ Hid (∃ U, B2 S B p LB V N k q U W) ∧ Hid (Kp (Mb p V) w W)) (fun qv _ => p - (RowKit.intOf qv).toNat)
          case atStart => exact ⟨0, rfl, Nat.zero_le _, h2, hk2⟩
          case round =>
            obtain ⟨q, rfl, hq, h3, hk3⟩ := hrel
            clear h2 hk2
            obtain ⟨U, hU⟩ := h3.out
            by_cases hql : q < p
            · have hqi : (q : Int) < (p : Int) := by omega
              have hnq := HN.out q hql
              obtain ⟨d0, a, c, hu⟩ := hU.form q hql
              rw [if_neg (by omega)] at hu
              obtain ⟨g, c2, W4, r4, fz, d1, a4, k4⟩ := hU.grow HL.out hql (by have := HS.out; have := hk3.out.size; have := HB.out; omega) (by omega) hk3.out HB.out
              rw [hu] at d0 r4 d1
              have HA4 : Hid (∃ U, B2 S B p LB V N k (q + 1) U _) := ⟨_, a4⟩
              have HK4 : Hid _ := k4
              have r4' : (Builtin.append_ #[22, 22] 22 #[.slice a (N q + k) c, .slice (some ⟨wr.heap.size, 0, none⟩) 1 1]).run Tryd.prog (wr.alloc (.cells #[.int .i64 (q : Nat), .float .f64 0, .bool false] 38)) = .ok (.slice (some ⟨g, 0, none⟩) (N q + k + 1) c2) W4 := r4
              clear a4 k4 h3 hk3 hU hu r4
              generalize N q = M at *
              go_wp2_with (at_builtin; refine wpList_append_run rfl (.tmp 58) (.tmp 61) 22 22 rfl _ _ rfl rfl r4' ?_)
              go_wp2
              exact ⟨⟨q + 1, by go_num, by omega, HA4, HK4⟩, by simp [RowKit.intOf]; omega⟩
            · obtain rfl : q = p := by omega
              have hqi : ¬ (q : Int) < (q : Int) := by omega
              have H4 : Hid (∃ U, B2 S B q LB V N (k + 1) 0 U wr) := ⟨U, hU.turn⟩
              clear hU h3
              go_wp2
              exact ⟨⟨k + 1, by go_num, by omega, H4, hk3⟩, by simp [RowKit.intOf]; omega⟩
        · obtain rfl : k = 20 := by omega
          obtain ⟨U, hU⟩ := h2.out
          have HU : Hid (B2 S B p LB V N 20 0 U wr) := hU
          clear hU h2
          go_wp2_with fail
          go_loopw [8] (fun iv W => ∃ i : Nat, iv = .int .i64 (i : Nat) ∧ i ≤ p ∧ Hid (B2 S B p LB V N 20 0 U W) ∧ Hid (Kp (Mb p V) w W)) (fun iv _ => p - (RowKit.intOf iv).toNat)
          case atStart => exact ⟨0, rfl, Nat.zero_le _, HU, hk2⟩
          case round =>
            obtain ⟨i, rfl, hi, h3, hk3⟩ := hrel
            clear HU hk2
            by_cases hil : i < p
            · have hii : (i : Int) < (p : Int) := by omega
              have hni2 := HN.out i hil
              go_wp2_with fail
              go_loopw [9] (fun jv W => ∃ j : Nat, jv = .int .i64 (j : Nat) ∧ j ≤ N i + 20 ∧ Hid (B2 S B p LB V N 20 0 U W) ∧ Hid (Kp (Mb p V) w W)) (fun jv _ => N i + 20 - (RowKit.intOf jv).toNat)
              case atStart => exact ⟨0, rfl, Nat.zero_le _, h3, hk3⟩
              case round =>
                obtain ⟨j, rfl, hj, h4, hk4⟩ := hrel
                clear h3 hk3
                obtain ⟨a, c, a2, c2, e1, e2, l1, l2⟩ := h4.out.look i hil
                have d0 := h4.out.ls i hil
                have d1 := gs_cell h4.out.gw i hil
                rw [e1] at d0
                rw [e2] at d1
                have l1' := l1 j
                have l2' := l2 j
                have HE : Hid (U i = _ ∧ V i = _) := ⟨e2, e1⟩
                clear e1 e2 l1 l2
                by_cases hjl : j < N i + 20
                · obtain ⟨g2, rfl, y2⟩ := l2' hjl
                  have hj1 : (j : Int) < ((N i + 20 : Nat) : Int) := by omega
                  by_cases hjn : j < N i
                  · obtain ⟨g1, rfl, y1⟩ := l1' hjn
                    have hj2 : (j : Int) < (N i : Int) := by omega
                    clear l1' l2'
                    generalize N i = M at *
                    go_wp2
                    exact ⟨⟨j + 1, by go_num, by omega, h4, hk4⟩, by simp [RowKit.intOf]; omega⟩
                  · have hj2 : ¬ (j : Int) < (N i : Int) := by omega
                    clear l1' l2'
                    generalize N i = M at *
                    go_wp2
                    exact ⟨⟨j + 1, by go_num, by omega, h4, hk4⟩, by simp [RowKit.intOf]; omega⟩
                · obtain rfl : j = N i + 20 := by omega
                  have hj1 : ¬ ((N i + 20 : Nat) : Int) < ((N i + 20 : Nat) : Int) := by omega
                  clear l1' l2'
                  generalize N i = M at *
                  go_wp2
                  exact ⟨⟨i + 1, by go_num, by omega, h4, hk4⟩, by simp [RowKit.intOf]; omega⟩
            · have hii : ¬ (i : Int) < (p : Int) := by omega
              go_wp2
              go_ret
              exact ⟨rfl, hk3.out⟩
end Go.Proofs.YtedlmjieclaojaaDoor
