/- apart over any number of lists: the walk. -/
import Derived.Test.YtedlmjieclaojabDoorXa
namespace Go.Proofs.YtedlmjieclaojabDoor
open Go.RowKit

theorem A1.start {S n LB : Nat} {V : Nat → Value} {N : Nat → Nat} {X : Nat → List Int} {w W : World} (hr : ∀ i, i < n → w.ownsRow S 5 1 (V i) (N i) (bc (X i))) (hc : ∀ i, i < n → w.cell? ⟨LB, i, none⟩ = some (V i)) (hb : Below w.heap.size w W) (o : W.ownsRow w.heap.size 38 1 (.slice (some ⟨w.heap.size, 0, none⟩) n n) n (gl n fun _ => .slice none 0 0)) : A1 S w.heap.size n LB V N 0 0 W :=
  ⟨⟨X, fun i hi => Kp.row (M := fun _ => False) (Kp.of hb) (hr i hi) (fun _ _ => id), fun i hi => by omega, fun k hk => by omega⟩, fun i hi => Kp.cell (M := fun _ => False) (Kp.of hb) (hc i hi) id, ⟨_, fun i hi => by omega, o⟩⟩
theorem A2.form {S B n LB : Nat} {V : Nat → Value} {N : Nat → Nat} {k q : Nat} {U : Nat → Value} {W : World} (h : A2 S B n LB V N k q U W) (i : Nat) (hi : i < n) : W.cell? ⟨B, i, none⟩ = some (U i) ∧ ∃ a c, U i = .slice a (N i + if i < q then k + 1 else k) c := by
  refine ⟨gl_cell h.gw i hi, ?_⟩
  exact row_form (h.ow i hi)
/-- What stands in the lists at the end. -/
theorem A2.look {S B n LB : Nat} {V : Nat → Value} {N : Nat → Nat} {k : Nat} {U : Nat → Value} {W : World} (h : A2 S B n LB V N k 0 U W) (i : Nat) (hi : i < n) :
    ∃ a c a2 c2, V i = .slice a (N i) c ∧ U i = .slice a2 (N i + k) c2 ∧ (∀ j, j < N i → ∃ g, a = some ⟨g, 0, none⟩ ∧ W.cell? ⟨g, j, none⟩ = some (.int .u8 (mrk i))) ∧ ∀ j, j < N i + k → ∃ g, a2 = some ⟨g, 0, none⟩ ∧ W.cell? ⟨g, j, none⟩ = some (.int .u8 (mrk i)) := by
  have o := h.ow i hi
  rw [if_neg (by omega)] at o
  obtain ⟨a, c, e, hm, ha⟩ := h.rd i hi
  obtain ⟨a2, c2, e2⟩ := row_form o
  refine ⟨a, c, a2, c2, e, e2, fun j hj => ?_, fun j hj => ?_⟩
  · obtain ⟨g, rfl⟩ := ha (by omega)
    refine ⟨g, rfl, ?_⟩
    rcases hm with hm | ⟨G, o0, e3, hG, hA⟩
    · have := congrArg List.length hm
      rw [List.length_replicate] at this
      have : N i = 0 := this
      omega
    · cases e3
      have := hA j (by rw [List.length_replicate]; exact hj)
      rw [Nat.zero_add] at this
      simpa [List.getD, hj] using this
  · rcases o.2 with ⟨e3, e4⟩ | ⟨g, c3, cur, e3, _⟩
    · omega
    · rw [e2] at e3
      cases e3
      refine ⟨g, rfl, ?_⟩
      have := o.cells (g := g) (by rw [e2]; rfl) j (.int .u8 (mrk i)) (by simp [bc, hj])
      rw [Go.WideShapes.add_plain, Nat.zero_add] at this
      exact this

set_option maxHeartbeats 8000000 in
set_option maxRecDepth 100000 in
theorem apart_any (S n LB c0 : Nat) (V : Nat → Value) (N : Nat → Nat) (X : Nat → List Int) (w : World) (hl : Ls w.heap.size n LB V) (hr : ∀ i, i < n → w.ownsRow S 5 1 (V i) (N i) (bc (X i))) (hc : ∀ i, i < n → w.cell? ⟨LB, i, none⟩ = some (V i)) (hN : ∀ i, i < n → N i ≤ 100000000000) (hn : n ≤ 1000000000) (hS : S ≤ w.heap.size) :
    Calls Tryd.prog 12 #[.slice (some ⟨LB, 0, none⟩) n c0] w fun e w' => e = .returned (.bool true) ∧ Kp (Mb n V) w w' := by
  obtain ⟨w1, r1, o1, b1⟩ := make_g w n (by omega)
  have H1 : Hid (A1 S w.heap.size n LB V N 0 0 w1) := A1.start hr hc b1 o1
  have K1 : Hid (Kp (Mb n V) w w1) := Kp.of b1
  have HL : Hid (Ls w.heap.size n LB V) := hl
  have HN : Hid (∀ i, i < n → N i ≤ 100000000000) := hN
  have HS : Hid (S ≤ w.heap.size) := hS
  obtain ⟨B, hB⟩ : ∃ B, B = w.heap.size := ⟨_, rfl⟩
  have HB : Hid (B = w.heap.size) := hB
  rw [← hB] at r1 H1 HL HS
  have hni : (n : Int) ≤ 1000000000 := by omega
  clear hl hr hc hN hS o1 b1 hB
  go_enter Tryd.func12, Tryd.ntmps12
  go_wp2_with fail
  clear r1
  go_loopw [4] (fun iv W => ∃ i : Nat, iv = .int .i64 (i : Nat) ∧ i ≤ n ∧ Hid (A1 S B n LB V N i 0 W) ∧ Hid (Kp (Mb n V) w W)) (fun iv _ => n - (RowKit.intOf iv).toNat)
  case atStart => exact ⟨0, rfl, Nat.zero_le _, H1, K1⟩
  case round =>
    obtain ⟨p, rfl, hp, ha, hk⟩ := hrel
    clear H1 K1
    by_cases hlt : p < n
    · have hpi : (p : Int) < (n : Int) := by omega
      obtain ⟨a, c, hv, hav⟩ := ha.out.form hlt
      have HV : Hid (V p = .slice a (N p) c) := hv
      have HAV : Hid (0 < N p → ∃ g, a = some ⟨g, 0, none⟩) := hav
      have hnp := HN.out p hlt
      obtain ⟨M, hM⟩ : ∃ M, M = N p := ⟨_, rfl⟩
      have HM : Hid (M = N p) := hM
      rw [← hM] at HV HAV hnp
      have hMi : (M : Int) ≤ 100000000000 := by omega
      clear hv hav hM
      go_wp2_with fail
      go_loopw [5] (fun jv W => ∃ j : Nat, jv = .int .i64 (j : Nat) ∧ j ≤ M ∧ Hid (A1 S B n LB V N p j W) ∧ Hid (Kp (Mb n V) w W)) (fun jv _ => M - (RowKit.intOf jv).toNat)
      case atStart => exact ⟨0, rfl, Nat.zero_le _, ha, hk⟩
      case round =>
        obtain ⟨j, rfl, hj, ha2, hk2⟩ := hrel
        clear ha hk
        have d0 := ha2.out.ls p hlt
        rw [HV.out] at d0
        by_cases hjl : j < M
        · have hji : (j : Int) < (M : Int) := by omega
          obtain ⟨g, rfl⟩ := HAV.out (by omega)
          obtain ⟨a3, k3, fz, u, hu⟩ := ha2.out.put HL.out hlt (by rw [← HM.out]; exact hjl) (by rw [← HM.out]; exact HV.out)
          have HA3 : Hid _ := a3
          have HK3 : Hid _ := hk2.out.trans k3
          have hw1 : IntKind.u8.wrap (p : Int) = mrk p := rfl
          have hw2 : (p : Int) % 256 = mrk p := by unfold mrk; rw [IntKind.wrap_u8]
          clear a3 k3 ha2 hk2
          generalize mrk p = m at *
          go_wp2
          exact ⟨⟨j + 1, by go_num, by omega, HA3, HK3⟩, by simp [RowKit.intOf]; omega⟩
        · obtain rfl : j = M := by omega
          have hji : ¬ (j : Int) < (j : Int) := by omega
          have ha4 := ha2.out
          rw [HM.out] at ha4
          obtain ⟨a3, k3, fz, u, hu⟩ := ha4.next HL.out hlt
          rw [HV.out] at a3 k3
          have HA3 : Hid _ := a3
          have HK3 : Hid _ := kp_far (p := ⟨B, p, none⟩) hk2.out (by show w.heap.size ≤ B; rw [HB.out]; exact Nat.le_refl _) (.slice a j c)
          clear a3 k3 ha2 hk2 ha4
          go_wp2
          exact ⟨⟨p + 1, by go_num, by omega, HA3, HK3⟩, by simp [RowKit.intOf]; omega⟩
    · obtain rfl : p = n := by omega
      have hpi : ¬ (p : Int) < (p : Int) := by omega
      have H2 : Hid (∃ U, A2 S B p LB V N 0 0 U wr) := ⟨V, ha.out.done HL.out⟩
      clear ha
      go_wp2_with fail
      go_loopw [6] (fun kv W => ∃ k : Nat, kv = .int .i64 (k : Nat) ∧ k ≤ 80 ∧ Hid (∃ U, A2 S B p LB V N k 0 U W) ∧ Hid (Kp (Mb p V) w W)) (fun kv _ => 80 - (RowKit.intOf kv).toNat)
      case atStart => exact ⟨0, rfl, Nat.zero_le _, H2, hk⟩
      case round =>
        obtain ⟨k, rfl, hkl, h2, hk2⟩ := hrel
        clear H2 hk
        by_cases hk80 : k < 80
        · have hki : (k : Int) < 80 := by omega
          go_wp2_with fail
          go_loopw [7] (fun qv W => ∃ q : Nat, qv = .int .i64 (q : Nat) ∧ q ≤ p ∧ Hid (∃ U, A2 S B p LB V N k q U W) ∧ Hid (Kp (Mb p V) w W)) (fun qv _ => p - (RowKit.intOf qv).toNat)
          case atStart => exact ⟨0, rfl, Nat.zero_le _, h2, hk2⟩
          case round =>
            obtain ⟨q, rfl, hq, h3, hk3⟩ := hrel
            clear h2 hk2
            obtain ⟨U, hU⟩ := h3.out
            by_cases hql : q < p
            · have hqi : (q : Int) < (p : Int) := by omega
              have hnq := HN.out q hql
              obtain ⟨d0, a, c, hu⟩ := hU.form q hql
              rw [if_neg (by omega)] at hu
              obtain ⟨g, c2, W4, r4, fz, d1, a4, k4⟩ := hU.grow HL.out hql (by have := HS.out; have := hk3.out.size; have := HB.out; omega) (by omega) hk3.out HB.out
              rw [hu] at d0 r4 d1
              have HA4 : Hid (∃ U, A2 S B p LB V N k (q + 1) U _) := ⟨_, a4⟩
              have HK4 : Hid _ := k4
              have hw1 : IntKind.u8.wrap (q : Int) = mrk q := rfl
              have hw2 : (q : Int) % 256 = mrk q := by unfold mrk; rw [IntKind.wrap_u8]
              clear a4 k4 h3 hk3 hU hu
              generalize mrk q = m at *
              generalize N q = M at *
              go_wp2_with (at_builtin; refine wpList_append_run rfl (.tmp 58) (.tmp 61) 38 38 rfl _ _ rfl rfl r4 ?_)
              go_wp2
              exact ⟨⟨q + 1, by go_num, by omega, HA4, HK4⟩, by simp [RowKit.intOf]; omega⟩
            · obtain rfl : q = p := by omega
              have hqi : ¬ (q : Int) < (q : Int) := by omega
              have H4 : Hid (∃ U, A2 S B q LB V N (k + 1) 0 U wr) := ⟨U, hU.turn⟩
              clear hU h3
              go_wp2
              exact ⟨⟨k + 1, by go_num, by omega, H4, hk3⟩, by simp [RowKit.intOf]; omega⟩
        · obtain rfl : k = 80 := by omega
          obtain ⟨U, hU⟩ := h2.out
          have HU : Hid (A2 S B p LB V N 80 0 U wr) := hU
          clear hU h2
          go_wp2_with fail
          go_loopw [8] (fun iv W => ∃ i : Nat, iv = .int .i64 (i : Nat) ∧ i ≤ p ∧ Hid (A2 S B p LB V N 80 0 U W) ∧ Hid (Kp (Mb p V) w W)) (fun iv _ => p - (RowKit.intOf iv).toNat)
          case atStart => exact ⟨0, rfl, Nat.zero_le _, HU, hk2⟩
          case round =>
            obtain ⟨i, rfl, hi, h3, hk3⟩ := hrel
            clear HU hk2
            by_cases hil : i < p
            · have hii : (i : Int) < (p : Int) := by omega
              have hni2 := HN.out i hil
              go_wp2_with fail
              go_loopw [9] (fun jv W => ∃ j : Nat, jv = .int .i64 (j : Nat) ∧ j ≤ N i + 80 ∧ Hid (A2 S B p LB V N 80 0 U W) ∧ Hid (Kp (Mb p V) w W)) (fun jv _ => N i + 80 - (RowKit.intOf jv).toNat)
              case atStart => exact ⟨0, rfl, Nat.zero_le _, h3, hk3⟩
              case round =>
                obtain ⟨j, rfl, hj, h4, hk4⟩ := hrel
                clear h3 hk3
                obtain ⟨a, c, a2, c2, e1, e2, l1, l2⟩ := h4.out.look i hil
                have d0 := h4.out.ls i hil
                have d1 := gl_cell h4.out.gw i hil
                rw [e1] at d0
                rw [e2] at d1
                have hw1 : IntKind.u8.wrap (i : Int) = mrk i := rfl
                have hw2 : (i : Int) % 256 = mrk i := by unfold mrk; rw [IntKind.wrap_u8]
                have l1' := l1 j
                have l2' := l2 j
                have HE : Hid (U i = _ ∧ V i = _) := ⟨e2, e1⟩
                clear e1 e2 l1 l2
                generalize mrk i = m at *
                by_cases hjl : j < N i + 80
                · obtain ⟨g2, rfl, y2⟩ := l2' hjl
                  have hj1 : (j : Int) < ((N i + 80 : Nat) : Int) := by omega
                  by_cases hjn : j < N i
                  · obtain ⟨g1, rfl, y1⟩ := l1' hjn
                    have hj2 : (j : Int) < (N i : Int) := by omega
                    clear l1' l2'
                    generalize N i = M at *
                    go_wp2
                    exact ⟨⟨j + 1, by go_num, by omega, h4, hk4⟩, by simp [RowKit.intOf]; omega⟩
                  · have hj2 : ¬ (j : Int) < (N i : Int) := by omega
                    clear l1' l2'
                    generalize N i = M at *
                    go_wp2
                    exact ⟨⟨j + 1, by go_num, by omega, h4, hk4⟩, by simp [RowKit.intOf]; omega⟩
                · obtain rfl : j = N i + 80 := by omega
                  have hj1 : ¬ ((N i + 80 : Nat) : Int) < ((N i + 80 : Nat) : Int) := by omega
                  clear l1' l2'
                  generalize N i = M at *
                  go_wp2
                  exact ⟨⟨i + 1, by go_num, by omega, h4, hk4⟩, by simp [RowKit.intOf]; omega⟩
            · have hii : ¬ (i : Int) < (p : Int) := by omega
              go_wp2
              go_ret
              exact ⟨rfl, hk3.out⟩
end Go.Proofs.YtedlmjieclaojabDoor
