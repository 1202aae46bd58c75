/- emptied. -/
import Derived.Test.YtcgpjmpppajfdaaRt
namespace Go.Proofs.Ytcgpjmpppajfdaa
open Go.RowKit

theorem out_sorted {K : It → Int} {A : Rk → Rk → Bool} (hA : Is K A) {B : List Rk} {n m : Nat} {f : Nat → Rk} (h : Bk K B n f m) {ys : List It} (hr : RS K (B.map (·.1)) ys) : outL A n f = ys := by
  obtain ⟨R, e, s⟩ := hr B h.up rfl
  have s2 := outR_st hA n f h.heap
  have s3 : St K B (outR A n f) := ⟨s2.1.trans h.perm, s2.2⟩
  rw [← outR_map, ← e, s.uniq s3 h.up.dst]
theorem lk_drop (ys : List It) (i : Nat) (x : It) (r : List It) (h : ys.drop i = x :: r) : lk ys i = x ∧ ys.drop (i + 1) = r ∧ i < ys.length := by
  have hi : i < ys.length := by
    rcases Nat.lt_or_ge i ys.length with h1 | h1
    · exact h1
    · rw [List.drop_eq_nil_of_le h1] at h; cases h
  rw [List.drop_eq_getElem_cons hi] at h
  injection h with h1 h2
  exact ⟨by simp [lk, List.getD, hi, h1], h2, hi⟩

set_option maxHeartbeats 4000000 in
set_option maxRecDepth 100000 in
theorem emptied_any (A : Rk → Rk → Bool) (flat : Bool) (b bx n m : Nat) (lv v : Value) (f : Nat → Rk) (B : List Rk) (a : Option Addr) (c : Nat) (xs : Nat → It) (w : World) (hA : AhC lv A) (hI : Is (Kf flat) A) (h : Pl w b bx lv v n f m) (hB : Bk (Kf flat) B n f m) (hx : il xs n = B.map (·.1)) (hf : Iml w a xs n) (hc : n ≤ c) (hl : n * 16 ≤ 140737488355328) :
    Calls Try.prog 31 #[.pointer (some ⟨b, 0, none⟩), .slice a n c, .bool flat] w fun r w' => r = .returned (.bool true) ∧ Kp (fun k => k = b ∨ v.ownBlock = some k) w w' := by
  have hN := ne_it
  have hE := eq_it
  have heq0 : eqB (0, 0) (0, 0) = true := rfl
  have kS := rsorted_any flat n a c xs w hf hc hl
  have HP : Hid (Pl w b bx lv v n f m) := h
  have HO : Hid (∀ ys, RS (Kf flat) (il xs n) ys → outL A n f = ys) := fun ys hr => out_sorted hI hB (hx ▸ hr)
  have HA : Hid (AhC lv A) := hA
  have hnb : n ≤ 1152921504606846976 := by omega
  obtain ⟨M, hM⟩ : ∃ M : Nat → Prop, M = fun k => k = b ∨ v.ownBlock = some k := ⟨_, rfl⟩
  have HM : Hid (M = fun k => k = b ∨ v.ownBlock = some k) := hM
  rw [← hM]
  clear h hB hx hf hA hI hM hl
  go_enter Try.func31, Try.ntmps31
  go_wp2_with fail
  refine kS.mono ?_
  rintro r w1 ⟨vy, ys, rfl, hly, oy, rs, b1⟩
  obtain ⟨ay, cy, rfl, imy, _⟩ := oy.iml
  have hout := HO.out ys rs
  have HL : Hid (ys.length = n) := hly
  have P1 : Hid (Pl w1 b bx lv v n f m) := HP.out.below b1
  have K1 : Hid (Kp M w w1) := Kp.of b1
  have HNB : Hid (∀ k, k < w1.heap.size → M k → k < w.heap.size) := fun k _ e => by
    rw [HM.out] at e
    rcases e with e | e
    · rw [e]; exact World.block_lt_of_cell? w _ HP.out.cm
    · exact (World.ownsRow.lt HP.out.hp.row k e).2
  have OY : Hid (Ir w1 w.heap.size (.slice ay n cy) n (lk ys)) := oy
  have HOUT : Hid (outL A n f = ys.drop 0) := by show _ = _; rw [hout]; rfl
  clear kS hout hly oy rs b1 imy HO
  go_wp2
  go_loopw [17] (fun ivv w' => ∃ (i p : Nat) (v' : Value) (f' : Nat → Rk), ivv = .int .i64 (i : Int) ∧ i + p = n ∧ Hid (Pl w' b bx lv v' p f' m) ∧ Hid (v'.ownBlock = v.ownBlock) ∧ Hid (outL A p f' = ys.drop i) ∧ Hid (Kp M w1 w')) (fun ivv _ => n - (RowKit.intOf ivv).toNat)
  case atStart => exact ⟨0, n, v, f, rfl, by omega, P1, rfl, HOUT, Kp.refl _ _⟩
  case round =>
    obtain ⟨i, p, v', f', rfl, hip, pl, hv, ho, hk⟩ := hrel
    have KK : Hid (Kp M w wr) := K1.out.trans hk.out
    have OY2 : Hid (Ir wr w.heap.size (.slice ay n cy) n (lk ys)) := hk.out.row OY.out (fun k e x => by
      have h1 := (World.ownsRow.lt OY.out k e)
      have := HNB.out k h1.2 x
      omega)
    by_cases hlt : i < n
    · obtain ⟨p, rfl⟩ : ∃ p', p = p' + 1 := ⟨p - 1, by omega⟩
      have hii : (i : Int) < n := by omega
      obtain ⟨g, cg, rfl⟩ : ∃ g c, v' = .slice (some ⟨g, 0, none⟩) (p + 1) c := by
        rcases pl.out.hp.row.2 with ⟨_, e⟩ | ⟨g, c, _, e, _⟩
        · omega
        · exact ⟨g, c, e⟩
      have hvg : v.ownBlock = some g := hv.out.symm
      obtain ⟨e1, e2, _⟩ := lk_drop ys i _ _ ho.out.symm
      obtain ⟨_, _, e3, imy, _⟩ := Ir.iml OY2.out
      cases e3
      rcases imy with h0 | ⟨gy, oy, rfl, hgy, hat⟩
      · omega
      have q1 := (hat i hlt).1
      have q2 := (hat i hlt).2
      rw [e1] at q1 q2
      have kP := ppop_some A b bx g cg p m lv f' (wr.alloc (iX (f' 0).1)) HA.out (pl.out.below ((Below.refl _ wr).alloc (Nat.le_refl _) _)) (by omega)
      have HI : Hid (i + 1 + p = n) := by show _ = _; omega
      have x0 : (wr.alloc (iX (f' 0).1)).cell? ⟨wr.heap.size, 0, none⟩ = some (.int .i64 (f' 0).1.1) := iX_cell wr (f' 0).1 0 _ rfl
      have x1 : (wr.alloc (iX (f' 0).1)).cell? ⟨wr.heap.size, 1, none⟩ = some (.int .i64 (f' 0).1.2) := iX_cell wr (f' 0).1 1 _ rfl
      have HW : Hid (∀ w3, Kp (fun k => k = b ∨ k = g) (wr.alloc (iX (f' 0).1)) w3 → w3.cell? ⟨wr.heap.size, 0, none⟩ = some (.int .i64 (f' 0).1.1) ∧ w3.cell? ⟨wr.heap.size, 1, none⟩ = some (.int .i64 (f' 0).1.2) ∧ Kp M w1 w3) := fun w3 k3 => by
        have hne : ¬ (wr.heap.size = b ∨ wr.heap.size = g) := by
          have h1 : b < wr.heap.size := World.block_lt_of_cell? wr _ pl.out.cm
          have h2 : g < wr.heap.size := Rr.lt (show Rr wr g cg (p + 1) f' from pl.out.hp.row)
          omega
        refine ⟨k3.cell x0 hne, k3.cell x1 hne, (hk.out.trans (Kp.of ((Below.refl _ wr).alloc (Nat.le_refl _) _))).trans (k3.mono (fun j _ e => ?_))⟩
        rw [HM.out]
        rcases e with e | e
        · exact .inl e
        · exact .inr (by rw [e]; exact hvg)
      have HV : Hid ((Value.slice (some ⟨g, 0, none⟩) p cg).ownBlock = v.ownBlock) := hvg.symm
      have HD : Hid (outL A p (sinkF A p (up f' 0 (f' p)) 0) = ys.drop (i + 1)) := e2.symm
      obtain ⟨⟨⟨xk, xi⟩, xr⟩, hx⟩ : ∃ x, f' 0 = x := ⟨_, rfl⟩
      rw [hx] at q1 q2 kP HW
      dsimp only at q1 q2 kP HW
      have heq : eqB (xk, xi) (xk, xi) = true := (eqB_iff _ _).2 rfl
      generalize sinkF A p (up f' 0 (f' p)) 0 = FF at *
      clear e1 e2 hat x0 x1 hx ho pl hvg hv hk
      go_wp2_with fail
      refine kP.mono ?_
      rintro r w3 ⟨er, p3, k3⟩
      have er : r = .returned (.tuple #[.agg #[.int .i64 xk, .int .i64 xi], .bool true]) := er
      subst er
      obtain ⟨y0, y1, k4⟩ := HW.out w3 k3
      have b4 : Below w3.heap.size w3 (w3.alloc (.cells #[.int .i64 xk, .int .i64 xi] 24)) := (Below.refl _ w3).alloc (Nat.le_refl _) _
      have P4 : Hid (Pl (w3.alloc (.cells #[.int .i64 xk, .int .i64 xi] 24)) b bx lv (.slice (some ⟨g, 0, none⟩) p cg) p FF m) := p3.below b4
      have K4 : Hid (Kp M w1 (w3.alloc (.cells #[.int .i64 xk, .int .i64 xi] 24))) := k4.trans (Kp.of b4)
      have z0 := cell_al (.cells #[.int .i64 xk, .int .i64 xi] 24) y0
      have z1 := cell_al (.cells #[.int .i64 xk, .int .i64 xi] 24) y1
      have u0 : (w3.alloc (.cells #[.int .i64 xk, .int .i64 xi] 24)).cell? ⟨w3.heap.size, 0, none⟩ = some (.int .i64 xk) := iX_cell w3 (xk, xi) 0 _ rfl
      have u1 : (w3.alloc (.cells #[.int .i64 xk, .int .i64 xi] 24)).cell? ⟨w3.heap.size, 1, none⟩ = some (.int .i64 xi) := iX_cell w3 (xk, xi) 1 _ rfl
      clear p3 k3 k4 b4 kP HW
      go_wp2
      exact ⟨⟨i + 1, p, _, _, by go_num, HI.out, P4, HV, HD, K4⟩, by have := HI.out; simp [RowKit.intOf]; omega⟩
    · have hii : ¬ (i : Int) < n := by omega
      obtain rfl : p = 0 := by omega
      have kE := ppop_none b bx m lv v' f' wr pl.out
      have HL2 : Hid (∀ W, Below wr.heap.size wr W → Calls Try.prog 18 #[.pointer (some ⟨b, 0, none⟩)] W fun r w' => r = .returned (.int .i64 ((0 : Nat) : Int)) ∧ w' = W) := fun W hW => len_any b bx 0 m lv v' f' W (pl.out.below hW)
      clear pl hv ho hk
      go_wp2_with fail
      refine kE.mono ?_
      rintro r w5 ⟨er, b5⟩
      have er : r = .returned (.tuple #[.agg #[.int .i64 0, .int .i64 0], .bool false]) := er
      subst er
      have b6 : Below wr.heap.size wr (w5.alloc (.cells #[.int .i64 0, .int .i64 0] 24)) := b5.alloc b5.size _
      have kL := HL2.out _ b6
      have K6 : Hid (Kp M w (w5.alloc (.cells #[.int .i64 0, .int .i64 0] 24))) := KK.out.trans (Kp.of b6)
      clear b5 b6 kE
      go_wp2_with fail
      refine kL.mono ?_
      rintro r w7 ⟨rfl, rfl⟩
      go_wp2
      go_ret
      exact ⟨rfl, K6.out⟩
end Go.Proofs.Ytcgpjmpppajfdaa
