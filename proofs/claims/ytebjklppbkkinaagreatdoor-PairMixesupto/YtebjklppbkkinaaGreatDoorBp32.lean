/- A bundle of texts. -/
import Derived.Test.YtebjklppbkkinaaGreatDoorBp31
import Derived.Lib.QuietBelow
import Derived.BigQuiet
/- Pair: same, of vectors that say the same. -/
namespace Go.Proofs.YtebjklppbkkinaaGreatDoor
open Go.RowKit Go.Lib Go.Shelf Go.Sort

attribute [local go_sem] Oper.semAt_some run_store_float

theorem eqLb (x y : Lb) (w : World) : (Op.equalIn 10000 61 (lbV x) (lbV y)).run Tryz.prog w = .ok (x.1.toList == y.1.toList && x.2.toList == y.2.toList) w := by
  obtain ⟨a, b⟩ := x
  obtain ⟨c, d⟩ := y
  have u3 := Tryz.underlying9
  have a3 := Tryz.isAgg9
  have z3 := Tryz.sizeOf9
  have hS : Tryz.prog.underlying 61 = some (.struct (Tryz.prog.fieldsOf 61)) := by kernel_rfl
  rw [show (10000 : Nat) = 9999 + 1 from rfl, run_equalIn_agg w 9999 61 _ _ hS (by kernel_rfl)]
  simp only [Program.fieldsOf, Tryz.underlying61]
  go_simp
  by_cases h1 : a.toList = c.toList <;> by_cases h2 : b.toList = d.toList <;> simp [h1, h2]
theorem ne_lb (x : Lb) (w : World) : (binOp .neq 61 (lbV x) (lbV x)).run Tryz.prog w = .ok (.bool false) w := by
  rw [run_neq_struct, eqLb]
  simp

set_option maxRecDepth 100000 in
set_option maxHeartbeats 4000000 in
theorem sameL_any (a b : Option Addr) (c d n : Nat) (xs : Nat → Lb) (w : World) (ha : Lm w a xs n) (hb : Lm w b xs n) (hn : n ≤ 1152921504606846976) :
    Calls Tryz.prog 28 #[.slice a n c, .slice b n d] w fun r w' => r = .returned (.bool true) ∧ Below w.heap.size w w' := by
  have hN := fun a b => ne_lb (a, b)
  have HA : Hid (Lm w a xs n ∧ Lm w b xs n) := ⟨ha, hb⟩
  have hni : (n : Int) ≤ 1152921504606846976 := by omega
  clear ha hb
  go_enter Tryz.func28, Tryz.ntmps28
  go_wp2
  go_loopw [5] (fun t W => ∃ i : Nat, t = .int .i64 (i : Int) ∧ i ≤ n ∧ Hid (Below w.heap.size w W)) (fun t _ => n - (RowKit.intOf t).toNat)
  case atStart => exact ⟨0, rfl, by omega, Below.refl _ _⟩
  case round =>
    obtain ⟨i, rfl, hi, HB⟩ := hrel
    by_cases hlt : i < n
    · have hii : (i : Int) < n := by omega
      have i0 : (0 : Int) ≤ (i : Int) := by omega
      obtain ⟨g, o, rfl, _, x0, x1⟩ := (HA.out.1.below HB.out).at i hlt
      obtain ⟨g', o', rfl, _, y0, y1⟩ := (HA.out.2.below HB.out).at i hlt
      have HBN : Hid (∀ m, Below w.heap.size w (wr.drewN m)) := (show ∀ m, _ from fun m => below_drewN HB.out m)
      have hne := hN (xs i).1 (xs i).2
      unfold lbV at hne
      dsimp only at hne
      clear hN
      generalize (xs i).1 = z0 at *
      generalize (xs i).2 = z1 at *
      go_upto_region 6 with fail
      go_big_quiet (fail)
      have HB5 : Hid _ := HBN.out nq
      generalize wr.drewN nq = W6 at *
      go_wp2
      exact ⟨⟨i + 1, by go_num, by omega, HB5⟩, by simp [RowKit.intOf]; omega⟩
    · obtain rfl : n = i := by omega
      have hii : ¬ (n : Int) < n := by omega
      go_wp2
      go_ret
      exact ⟨rfl, HB.out⟩
theorem kc_eq {x y : El} (h : kc x = kc y) : x.n = y.n ∧ (∀ j, j < x.n → x.f j = y.f j) ∧ F.cl x.x = F.cl y.x := by
  obtain ⟨h1, h2⟩ : K.ll x.f x.n = K.ll y.f y.n ∧ F.cl x.x = F.cl y.x := by simpa [kc] using h
  have hn : x.n = y.n := by
    have := congrArg List.length h1
    rw [K.ll_len, K.ll_len] at this
    exact this
  refine ⟨hn, fun j hj => ?_, h2⟩
  rw [← gL_ll x.f x.n j hj, h1, gL_ll y.f y.n j (by omega)]
set_option maxRecDepth 100000 in
set_option maxHeartbeats 8000000 in
theorem same11_any (a b : Option Addr) (n c d : Nat) (q r : Nat → El) (w : World) (ha : Em w a q n) (hb : Em w b r n) (hq : ∀ j, j < n → Lm w (q j).a (q j).f (q j).n ∧ (q j).n ≤ 4294967296) (hr : ∀ j, j < n → Lm w (r j).a (r j).f (r j).n)
    (hc : ∀ j, j < n → kc (q j) = kc (r j)) (hn : n ≤ 1099511627776) : Calls Tryz.prog 11 #[.slice a n c, .slice b n d] w fun e w' => e = .returned (.bool true) ∧ Below w.heap.size w w' := by
  have HA : Hid (Em w a q n ∧ Em w b r n) := ⟨ha, hb⟩
  have HQ : Hid (∀ j, j < n → (Lm w (q j).a (q j).f (q j).n ∧ (q j).n ≤ 4294967296) ∧ Lm w (r j).a (r j).f (r j).n ∧ kc (q j) = kc (r j)) := (show ∀ j, _ → _ from fun j hj => ⟨hq j hj, hr j hj, hc j hj⟩)
  have hni : (n : Int) ≤ 1099511627776 := by omega
  clear ha hb hq hr hc
  go_enter Tryz.func11, Tryz.ntmps11
  go_wp2
  go_loopw [5] (fun t W => ∃ i : Nat, t = .int .i64 (i : Int) ∧ i ≤ n ∧ Hid (Below w.heap.size w W)) (fun t _ => n - (RowKit.intOf t).toNat)
  case atStart => exact ⟨0, rfl, by omega, Below.refl _ _⟩
  case round =>
    obtain ⟨i, rfl, hi, HB⟩ := hrel
    by_cases hlt : i < n
    · have hii : (i : Int) < n := by omega
      have i0 : (0 : Int) ≤ (i : Int) := by omega
      obtain ⟨⟨hl1, hnn⟩, hl2, hcr⟩ := HQ.out i hlt
      obtain ⟨e1, e2, e3⟩ := kc_eq hcr
      obtain ⟨g, o, rfl, _, x0, x1⟩ := (HA.out.1.below HB.out).at i hlt
      obtain ⟨g', o', rfl, _, y0, y1⟩ := (HA.out.2.below HB.out).at i hlt
      have hL2 : Lm w (r i).a (q i).f (q i).n := by
        rw [e1]
        exact K.Lm.congr hl2 fun j hj => e2 j (by omega)
      rw [← e1] at y0
      have HL : Hid (Lm w (q i).a (q i).f (q i).n ∧ Lm w (r i).a (q i).f (q i).n ∧ (q i).n ≤ 4294967296) := ⟨hl1, hL2, hnn⟩
      have hk1 := F.alike_c (q i).x (r i).x e3
      have hcs : ∀ dr os, Calls Tryz.prog 28 #[.slice (q i).a (q i).n (q i).c, .slice (r i).a (q i).n (r i).c] (grow (redrawn wr dr) os) fun e w'' => e = .returned (.bool true) ∧ ∃ p : Regrown, w'' = grow (redrawn wr p.d) p.os := fun dr os => Calls.regrown_of (sameL_any (q i).a (r i).a (q i).c (r i).c (q i).n (q i).f _ ((HL.out.1.below HB.out).below (below_regrown wr dr os)) ((HL.out.2.1.below HB.out).below (below_regrown wr dr os)) (by have := HL.out.2.2; omega))
      have hca : ∀ dr os, Calls Tryz.prog 27 #[.float .f64 (q i).x, .float .f64 (r i).x] (grow (redrawn wr dr) os) fun e w'' => e = .returned (.bool true) ∧ ∃ p : Regrown, w'' = grow (redrawn wr p.d) p.os := fun dr os => (hk1 _).mono fun e w'' h => ⟨h.1, ⟨⟨dr, os⟩, h.2⟩⟩
      have q0 := fun dr os => cell_regrown x0 dr os
      have q1 := fun dr os => cell_regrown x1 dr os
      have q2 := fun dr os => cell_regrown y0 dr os
      have q3 := fun dr os => cell_regrown y1 dr os
      clear e1 e2 e3 hcr hl1 hl2 hL2 hnn hk1 HL x0 x1 y0 y1
      generalize (q i).n = en at *
      generalize (q i).a = ea at *
      generalize (q i).c = ec at *
      generalize (q i).x = ex at *
      generalize (r i).a = fa at *
      generalize (r i).c = fc at *
      generalize (r i).x = fx at *
      go_wp2_with fail
      refine wp_region_quiet_below (by kernel_rfl) (by kernel_rfl) ?_
      iterate 10 (quiet_step (fail))
      quiet_step (exact hca _ _)
      iterate 12 (quiet_step (fail))
      quiet_step (exact hcs _ _)
      iterate 2 (quiet_step (fail))
      refine wpQuiet_nil ?_
      intro _ hw'
      obtain ⟨⟨dq, osq⟩, hw''⟩ := hw'
      subst hw''
      have HB3 : Hid (Below w.heap.size w (grow (redrawn wr dq) osq)) := HB.out.trans ((below_regrown wr dq osq).mono HB.out.size)
      go_wp2
      exact ⟨⟨i + 1, by go_num, by omega, HB3⟩, by simp [RowKit.intOf]; omega⟩
    · obtain rfl : n = i := by omega
      have hii : ¬ (n : Int) < n := by omega
      go_wp2
      go_ret
      exact ⟨rfl, HB.out⟩
/-- same over two answers that say the same. -/
theorem same_an {W : World} {a b : Option Addr} {n c d : Nat} {q r : Nat → El} (ha : Em W a q n) (hb : Em W b r n) (hq : ∀ j, j < n → Lm W (q j).a (q j).f (q j).n ∧ (q j).n ≤ 4294967296) (hr : ∀ j, j < n → Lm W (r j).a (r j).f (r j).n ∧ (r j).n ≤ 4294967296)
    (hc : (elL q n).map kc = (elL r n).map kc) (hn : n ≤ 1099511627776) : Calls Tryz.prog 11 #[.slice a n c, .slice b n d] W fun e w' => e = .returned (.bool true) ∧ Below W.heap.size W w' :=
  same11_any a b n c d q r W ha hb hq (fun j hj => (hr j hj).1) (fun j hj => by
    have := congrArg (fun l => l[j]?) hc
    simpa [elL, hj] using this) hn
end Go.Proofs.YtebjklppbkkinaaGreatDoor
/- Pair: the law's own elements. -/
namespace Go.Proofs.YtebjklppbkkinaaGreatDoor
open Go.RowKit Go.Lib Go.Shelf Go.Sort

attribute [local go_sem] Oper.semAt_some run_store_float

def aL : Lb := (⟨#[97]⟩, ⟨#[49]⟩)
def uL : Lb := (nmB, ⟨#[117, 112]⟩)
set_option maxRecDepth 100000 in
set_option maxHeartbeats 4000000 in
theorem elem_no (z : Nat) (w : World) : Calls Tryz.prog 9 #[.string ⟨#[]⟩, .string ⟨#[49]⟩, .float .f64 z] w fun e w' => ∃ g c, e = .returned (.agg #[.slice (some ⟨g, 0, none⟩) 1 c, .float .f64 z]) ∧ Below w.heap.size w w' ∧ Lm w' (some ⟨g, 0, none⟩) (fun _ => aL) 1 ∧ g < w'.heap.size := by
  obtain ⟨W1, hW1⟩ : ∃ W1, W1 = (w.alloc (.cells #[.slice none 0 0, .float .f64 0] 31)).alloc (.cells #[.slice none 0 0, .float .f64 z] 31) := ⟨_, rfl⟩
  have s0 : (w.alloc (.cells #[.slice none 0 0, .float .f64 0] 31)).heap.size = w.heap.size + 1 := by simp
  have s1 : W1.heap.size = w.heap.size + 2 := by rw [hW1]; simp
  have e1 : W1.heap[w.heap.size + 1]? = some (.cells #[.slice none 0 0, .float .f64 z] 31) := by rw [hW1, ← s0]; exact heap_alloc_new _ _
  have e0 : W1.heap[w.heap.size]? = some (.cells #[.slice none 0 0, .float .f64 0] 31) := by
    rw [hW1, ((Below.refl _ (w.alloc (.cells #[.slice none 0 0, .float .f64 0] 31))).alloc (Nat.le_refl _) _).block w.heap.size (by omega)]
    exact heap_alloc_new _ _
  have b1 : Below w.heap.size w W1 := by rw [hW1]; exact ((Below.refl _ w).alloc (Nat.le_refl _) _).alloc (by simp) _
  obtain ⟨g, c, w2, r2, o2, k2⟩ := K.ap_lb W1 (w.heap.size + 2) (.slice none 0 0) 0 [] aL (by omega) (by omega) (World.ownsRow_nil _ _ _ _)
  have hg := (own_bd o2 g rfl)
  have nb : ∀ b, ¬ (Value.slice none 0 0).ownBlock = some b := fun b h => by cases h
  have f1 := k2.block (w.heap.size + 1) (by omega) (nb _)
  have f0 := k2.block w.heap.size (by omega) (nb _)
  rw [e1] at f1
  rw [e0] at f0
  have c10 : w2.cell? ⟨w.heap.size + 1, 0, none⟩ = some (.slice none 0 0) := by unfold World.cell?; rw [f1]; rfl
  have c11 : w2.cell? ⟨w.heap.size + 1, 1, none⟩ = some (.float .f64 z) := by unfold World.cell?; rw [f1]; rfl
  have z10 : w2.frozen? ⟨w.heap.size + 1, 0, none⟩ = false := by simp [World.frozen?, f1]
  have c00 : w2.cell? ⟨w.heap.size, 0, none⟩ = some (.slice none 0 0) := by unfold World.cell?; rw [f0]; rfl
  have c01 : w2.cell? ⟨w.heap.size, 1, none⟩ = some (.float .f64 0) := by unfold World.cell?; rw [f0]; rfl
  have z00 : w2.frozen? ⟨w.heap.size, 0, none⟩ = false := by simp [World.frozen?, f0]
  have z01 : w2.frozen? ⟨w.heap.size, 1, none⟩ = false := by simp [World.frozen?, f0]
  obtain ⟨W4, hW4⟩ : ∃ W4, W4 = ((w2.setCell ⟨w.heap.size + 1, 0, none⟩ (.slice (some ⟨g, 0, none⟩) 1 c)).setCell ⟨w.heap.size, 0, none⟩ (.slice (some ⟨g, 0, none⟩) 1 c)).setCell ⟨w.heap.size, 1, none⟩ (.float .f64 z) := ⟨_, rfl⟩
  have k4 : Kp (fun b => b = w.heap.size ∨ b = w.heap.size + 1) w2 W4 := by
    rw [hW4]
    exact Kp.setCell (p := ⟨w.heap.size, 1, none⟩) (Kp.setCell (p := ⟨w.heap.size, 0, none⟩) (Kp.setCell (p := ⟨w.heap.size + 1, 0, none⟩) (Kp.refl (fun b => b = w.heap.size ∨ b = w.heap.size + 1) w2) (.inr rfl) _) (.inl rfl) _) (.inl rfl) _
  have q0 : W4.cell? ⟨w.heap.size, 0, none⟩ = some (.slice (some ⟨g, 0, none⟩) 1 c) := by
    rw [hW4, World.cell?_setCell_other _ _ _ _ (by intro e; cases e)]
    refine World.cell?_setCell_same (u := .slice none 0 0) _ _ _ ?_
    rw [World.cell?_setCell_other _ _ _ _ (by intro e; have := congrArg Addr.block e; simp at this)]
    exact c00
  have q1 : W4.cell? ⟨w.heap.size, 1, none⟩ = some (.float .f64 z) := by
    rw [hW4]
    refine World.cell?_setCell_same (u := .float .f64 0) _ _ _ ?_
    rw [World.cell?_setCell_other _ _ _ _ (by intro e; cases e), World.cell?_setCell_other _ _ _ _ (by intro e; have := congrArg Addr.block e; simp at this)]
    exact c01
  have HF : Hid (Below w.heap.size w W4 ∧ Lm W4 (some ⟨g, 0, none⟩) (fun _ => aL) 1 ∧ g < W4.heap.size) := (show _ ∧ _ ∧ _ by
    refine ⟨(b1.trans (k2.below b1.size fun b hb h => nb b h)).trans (k4.below (by have := k2.size; omega) fun b hb h => by omega), ?_, Nat.lt_of_lt_of_le hg.2 k4.size⟩
    have o4 := k4.row o2 (fun b hb h => by obtain rfl : g = b := Option.some.inj hb; omega)
    have := K.row_lm (ks := [aL]) (show W4.ownsRow (w.heap.size + 2) 61 2 (.slice (some ⟨g, 0, none⟩) 1 c) 1 (lcL [aL]) from o4)
    exact K.Lm.congr this fun j hj => by
      obtain rfl : j = 0 := by simp at hj; omega
      rfl)
  have HQ : Hid (W4 = ((w2.setCell ⟨w.heap.size + 1, 0, none⟩ (.slice (some ⟨g, 0, none⟩) 1 c)).setCell ⟨w.heap.size, 0, none⟩ (.slice (some ⟨g, 0, none⟩) 1 c)).setCell ⟨w.heap.size, 1, none⟩ (.float .f64 z)) := hW4
  rw [s1] at r2
  rw [hW1] at r2
  have hem : ((⟨#[]⟩ : ByteArray).toList == (⟨#[]⟩ : ByteArray).toList) = true := beq_self_eq_true _
  have hem2 : ((⟨#[]⟩ : ByteArray).toList == []) = true := by rw [Lib.toList_data]; rfl
  have hem3 : ((⟨#[]⟩ : ByteArray).toList) = [] := by rw [Lib.toList_data]
  unfold aL at r2
  unfold lbX at r2
  dsimp only at r2
  have hne : ¬ w.heap.size = w.heap.size + 1 := by omega
  have hne' : ¬ w.heap.size + 1 = w.heap.size := by omega
  clear hW1 hW4 k4 k2 o2 hg nb f0 f1 e0 e1 b1 s0 s1
  go_enter Tryz.func9, Tryz.ntmps9
  go_wp2_with (at_builtin; refine wpList_append_run rfl (.tmp 20) (.tmp 23) 29 29 rfl _ _ rfl rfl r2 ?_)
  rw [← HQ.out]
  refine bodyPost_ret (v := .agg #[.slice (some ⟨g, 0, none⟩) 1 c, .float .f64 z]) (by simp [results, Tryz.results9, go_sem, q0, q1]) rfl ⟨g, c, rfl, HF.out.1, HF.out.2.1, HF.out.2.2⟩
end Go.Proofs.YtebjklppbkkinaaGreatDoor
