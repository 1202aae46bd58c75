/- A bundle of texts. -/
import Derived.Test.YtebjklppbkkinaaGreatDoorBp01
import Derived.Test.YtebjklppbkkinaaGreatDoorBp06
import Derived.BigQuiet
/- Labels: the reference's Compare; same. -/
namespace Go.Proofs.YtebjklppbkkinaaGreatDoor
open Go.RowKit

theorem dr_step {w W : World} (h : ∃ q, W = w.drewN q) (k : Nat) : ∃ q, W.drewN k = w.drewN q := by
  obtain ⟨q, e⟩ := h
  exact ⟨q + k, by rw [e, World.drewN_drewN]⟩
theorem dr_below {w W : World} (h : ∃ q, W = w.drewN q) : Below w.heap.size w W := by
  obtain ⟨q, e⟩ := h
  rw [e]
  exact below_drewN (Below.refl _ _) _
set_option maxHeartbeats 4000000 in
set_option maxRecDepth 100000 in
theorem rcompare_any (a b : Option Addr) (n m c d : Nat) (f g : Nat → Lb) (w : World) (ha : Lm w a f n) (hb : Lm w b g m) (hn : n ≤ 1152921504606846976) (hm : m ≤ 1152921504606846976) :
    Calls Tryz.prog 59 #[.slice a n c, .slice b m d] w fun e w' => e = .returned (.int .i64 (cm f n g m)) ∧ Below w.heap.size w w' := by
  have HA : Hid (Lm w a f n) := ha
  have HB : Hid (Lm w b g m) := hb
  obtain ⟨G, hG⟩ : ∃ G, G = w.heap.size := ⟨_, rfl⟩
  have HG : Hid (G = w.heap.size) := hG
  rw [← hG]
  obtain ⟨C, hC⟩ : ∃ C, C = cm f n g m := ⟨_, rfl⟩
  have HC : Hid (cmF f g m (n - 0) 0 = C) := hC.symm
  rw [← hC]
  clear ha hb hG hC
  go_enter Tryz.func59, Tryz.ntmps59
  go_wp2
  go_loopw [5] (fun t w' => ∃ i : Nat, t = .int .i64 (i : Int) ∧ i ≤ n ∧ i ≤ m ∧ Hid (cmF f g m (n - i) i = C) ∧ Hid (∃ k, w' = w.drewN k)) (fun t _ => n - (RowKit.intOf t).toNat)
  case atStart => exact ⟨0, rfl, by omega, by omega, HC, ⟨0, rfl⟩⟩
  case round =>
    obtain ⟨i, rfl, hi, him, HI, HW⟩ := hrel
    have HBW : Hid (∀ k, Below G w (wr.drewN k)) := fun k => by
      obtain ⟨q, e⟩ := HW.out
      rw [e, World.drewN_drewN]
      exact below_drewN (Below.refl _ _) _
    have HDW : Hid (∀ k, ∃ q, wr.drewN k = w.drewN q) := fun k => by
      obtain ⟨q, e⟩ := HW.out
      exact ⟨q + k, by rw [e, World.drewN_drewN]⟩
    by_cases hlt : i < n
    · have hii : (i : Int) < n := by omega
      have hb1 : 0 ≤ (i : Int) ∧ (i : Int) < (n : Int) := by omega
      by_cases hmm : i < m
      · have hjj : (i : Int) < m := by omega
        have hb2 : 0 ≤ (i : Int) ∧ (i : Int) < (m : Int) := by omega
        obtain ⟨g1, p1, rfl, _, x0, x1⟩ := HA.out.at i hlt
        obtain ⟨g2, p2, rfl, _, y0, y1⟩ := HB.out.at i hmm
        have hb' : Below w.heap.size w wr := HG.out ▸ HBW.out 0
        have e0 := bcell2 hb' x0
        have e1 := bcell2 hb' x1
        have d0 := bcell2 hb' y0
        have d1 := bcell2 hb' y1
        obtain ⟨⟨s1, s2⟩, hx⟩ : ∃ x, f i = x := ⟨_, rfl⟩
        obtain ⟨⟨t1, t2⟩, hy⟩ : ∃ y, g i = y := ⟨_, rfl⟩
        rw [hx] at e0 e1
        rw [hy] at d0 d1
        dsimp only at e0 e1 d0 d1
        have HO : Hid (o2 (f i) (g i) = if od s1 t1 = 0 then od s2 t2 else od s1 t1) := by unfold Hid; rw [hx, hy]; rfl
        have K1 : Hid (∀ (q : Nat) (W : World), Calls Tryz.prog 85 #[.string s1, .string t1] (W.drewN q) fun e w' => e = .returned (.int .i64 (od s1 t1)) ∧ ∃ k, w' = (W.drewN q).drewN k) := fun q W => (order_any s1 t1 _).mono fun e w' ⟨h1, h2⟩ => ⟨h1, 0, h2⟩
        have K2 : Hid (∀ (q : Nat) (W : World), Calls Tryz.prog 85 #[.string s2, .string t2] (W.drewN q) fun e w' => e = .returned (.int .i64 (od s2 t2)) ∧ ∃ k, w' = (W.drewN q).drewN k) := fun q W => (order_any s2 t2 _).mono fun e w' ⟨h1, h2⟩ => ⟨h1, 0, h2⟩
        generalize od s1 t1 = Z1 at *
        generalize od s2 t2 = Z2 at *
        clear hx hy x0 x1 y0 y1 hb'
        by_cases hz : Z1 = 0
        · subst hz
          rw [if_pos rfl] at HO
          by_cases hz2 : Z2 = 0
          · subst hz2
            have HC2 : Hid (cmF f g m (n - (i + 1)) (i + 1) = C) := by
              unfold Hid
              rw [← cmF_eq hlt hmm HO.out]
              exact HI.out
            go_wp2_with fail
            go_quiet ((go_at_call 85; exact Calls.quiet_of (K1.out _ _)))
            have f1 : (wr.drewN nq).cell? ⟨g1, p1 + i * 2 + 1, none⟩ = some (.string s2) := e1
            have f2 : (wr.drewN nq).cell? ⟨g2, p2 + i * 2 + 1, none⟩ = some (.string t2) := d1
            have HD2 : Hid (∃ q, wr.drewN nq = w.drewN q) := HDW.out _
            have HG2 : Hid (G = w.heap.size) := HG
            clear e0 e1 d0 d1 HBW HDW HW
            generalize wr.drewN nq = W2 at *
            go_wp2_with fail
            go_quiet ((go_at_call 85; exact Calls.quiet_of (K2.out _ _)))
            go_wp2
            exact ⟨⟨i + 1, by go_num, by omega, by omega, HC2, dr_step HD2.out _⟩, by simp [RowKit.intOf]; omega⟩
          · have HC2 : Hid (C = Z2) := by
              unfold Hid
              rw [← HO.out, ← HI.out]
              exact cmF_ne hlt hmm (fun h => hz2 (HO.out ▸ h))
            have hz1 : (Z2 != 0) = true := by simpa using hz2
            go_wp2_with fail
            go_quiet ((go_at_call 85; exact Calls.quiet_of (K1.out _ _)))
            have f1 : (wr.drewN nq).cell? ⟨g1, p1 + i * 2 + 1, none⟩ = some (.string s2) := e1
            have f2 : (wr.drewN nq).cell? ⟨g2, p2 + i * 2 + 1, none⟩ = some (.string t2) := d1
            have HD2 : Hid (∃ q, wr.drewN nq = w.drewN q) := HDW.out _
            have HG2 : Hid (G = w.heap.size) := HG
            clear e0 e1 d0 d1 HBW HDW HW
            generalize wr.drewN nq = W2 at *
            go_wp2_with fail
            go_quiet ((go_at_call 85; exact Calls.quiet_of (K2.out _ _)))
            go_wp2
            go_ret
            exact ⟨by rw [HC2.out]; rfl, by rw [HG2.out]; exact dr_below (dr_step HD2.out _)⟩
        · rw [if_neg hz] at HO
          have HC2 : Hid (C = Z1) := by
            unfold Hid
            rw [← HO.out, ← HI.out]
            exact cmF_ne hlt hmm (fun h => hz (HO.out ▸ h))
          have hz1 : (Z1 != 0) = true := by simpa using hz
          have hz0 : (Z1 == 0) = false := by simpa using hz
          go_wp2_with fail
          go_quiet ((go_at_call 85; exact Calls.quiet_of (K1.out _ _)))
          go_wp2
          go_ret
          exact ⟨by rw [HC2.out]; rfl, HBW.out _⟩
      · have hjj : ¬ (i : Int) < m := by omega
        have HE : Hid (C = 1) := by unfold Hid; rw [← HI.out]; exact cmF_out hlt hmm
        have h3 : ¬ (n : Int) < (m : Int) := by omega
        have h4 : (m : Int) < (n : Int) := by omega
        go_wp2
        go_ret
        exact ⟨by rw [HE.out]; rfl, HBW.out 0⟩
    · have hii : ¬ (i : Int) < n := by omega
      obtain rfl : i = n := by omega
      have HE : Hid (C = if i < m then -1 else 0) := by unfold Hid; rw [← HI.out]; exact cmF_end rfl
      by_cases hmm : i < m
      · have h2 : (i : Int) < (m : Int) := by omega
        rw [if_pos hmm] at HE
        go_wp2
        go_ret
        exact ⟨by rw [HE.out]; rfl, HBW.out 0⟩
      · have h2 : ¬ (i : Int) < (m : Int) := by omega
        have h3 : ¬ (m : Int) < (i : Int) := by omega
        rw [if_neg hmm] at HE
        go_wp2
        go_ret
        exact ⟨by rw [HE.out]; rfl, HBW.out 0⟩
end Go.Proofs.YtebjklppbkkinaaGreatDoor
/- The reference's sort of elements, walked. -/
namespace Go.Proofs.YtebjklppbkkinaaGreatDoor
open Go.RowKit Go.Lib Go.Shelf Go.Sort

attribute [local go_sem] Oper.semAt_some run_store_float

theorem kept_rowE {W W' : World} {S e s n : Nat} {v : Value} {xs : List Value} (o : W.ownsRow S e s v n xs) (b : Below W.heap.size W W') : W'.ownsRow S e s v n xs := (Kp.of (M := fun _ => False) b).row o (fun _ _ h => h)
/-- What the reference's sort answers. -/
def SR (l : List El) (w : World) (e : Ending) (w' : World) : Prop := ∃ v ks, e = .returned v ∧ ks.Perm l ∧ ks.Pairwise leE ∧ w'.ownsRow w.heap.size 31 2 v ks.length (fl e2 ks) ∧ Below w.heap.size w w'
set_option maxHeartbeats 8000000 in
set_option maxRecDepth 100000 in
theorem rsorted_any (n : Nat) : ∀ (a : Option Addr) (c : Nat) (q : Nat → El) (w : World), Em w a q n → (a = none → n = 0 ∧ c = 0) → n ≤ c → c ≤ 9223372036854775807 → n ≤ 1099511627776 → (∀ j, j < n → Lm w (q j).a (q j).f (q j).n ∧ (q j).n ≤ 4294967296) →
    Calls Tryz.prog 58 #[.slice a n c] w (SR (elL q n) w) := by
  induction n using Nat.strongRecOn with
  | _ n IH =>
    intro a c q w hE hz hnc hcm hn hL
    have HIH : Hid (∀ m, m < n → ∀ (a : Option Addr) (c : Nat) (q : Nat → El) (w : World), Em w a q m → (a = none → m = 0 ∧ c = 0) → m ≤ c → c ≤ 9223372036854775807 → m ≤ 1099511627776 → (∀ j, j < m → Lm w (q j).a (q j).f (q j).n ∧ (q j).n ≤ 4294967296) → Calls Tryz.prog 58 #[.slice a m c] w (SR (elL q m) w)) := IH
    have HL : Hid (∀ j, j < n → Lm w (q j).a (q j).f (q j).n ∧ (q j).n ≤ 4294967296) := hL
    have hni : (n : Int) ≤ 1099511627776 := by omega
    have hci : (n : Int) ≤ (c : Int) := by omega
    have hci2 : (c : Int) ≤ 9223372036854775807 := by omega
    clear IH hL
    by_cases hsm : n < 2
    · have h2 : (n : Int) < 2 := by omega
      obtain ⟨v', w1, r1, o1, b1⟩ := ap_all w a n c q hE hz (by omega)
      have HS : Hid (SR (elL q n) w (.returned v') w1) := ⟨v', elL q n, rfl, List.Perm.refl _, by
        rcases (show n = 0 ∨ n = 1 by omega) with rfl | rfl
        · exact List.Pairwise.nil
        · exact List.pairwise_singleton _ _, by rw [elL_len]; exact o1, b1⟩
      clear o1 b1 hE HL HIH
      go_enter Tryz.func58, Tryz.ntmps58
      go_wp2_with (at_builtin; refine wpList_append_run rfl _ _ 22 22 rfl _ _ rfl rfl r1 ?_)
      go_wp2
      go_ret
      exact HS.out
    · have h2 : ¬ (n : Int) < 2 := by omega
      obtain ⟨g, o, rfl, hg, _⟩ := hE.at 0 (by omega)
      have hh1 : 1 ≤ n / 2 := by omega
      have hh2 : n / 2 < n := by omega
      have hi0 : (0 : Int) ≤ ((n / 2 : Nat) : Int) := by omega
      have hi1 : ((n / 2 : Nat) : Int) ≤ (c : Int) := by omega
      have hi2 : ((n / 2 : Nat) : Int) ≤ (n : Int) := by omega
      have k1 := HIH.out (n / 2) hh2 (some ⟨g, o, none⟩) c q w (hE.take (n / 2) (by omega)) (fun h => by cases h) (by omega) hcm (by omega) (fun j hj => HL.out j (by omega))
      have HK2 : Hid (∀ W, Below w.heap.size w W → Calls Tryz.prog 58 #[.slice (some ⟨g, o + n / 2 * 2, none⟩) (n - n / 2) (c - n / 2)] W (SR (elL (fun j => q (n / 2 + j)) (n - n / 2)) W)) := (show ∀ W, _ → _ from fun W b => HIH.out (n - n / 2) (by omega) (some ⟨g, o + n / 2 * 2, none⟩) (c - n / 2) (fun j => q (n / 2 + j)) W ((hE.below b).drop (n / 2) (by omega)) (fun h => by cases h) (by omega) (by omega) (by omega) (fun j hj => ⟨(HL.out (n / 2 + j) (by omega)).1.below b, (HL.out (n / 2 + j) (by omega)).2⟩))
      have HSP : Hid (elL q n = elL q (n / 2) ++ elL (fun j => q (n / 2 + j)) (n - n / 2)) := (show _ = _ by rw [← elL_split, show n / 2 + (n - n / 2) = n by omega])
      clear hE HIH
      go_enter Tryz.func58, Tryz.ntmps58
      go_wp2_with fail
      go_fit k1
      rintro e w1 ⟨v1, A, rfl, hpA, hsA, o1, b1⟩
      have k2 := HK2.out w1 b1
      have H1 : Hid (w1.ownsRow w.heap.size 31 2 v1 A.length (fl e2 A) ∧ Below w.heap.size w w1) := ⟨o1, b1⟩
      have HA : Hid (A.Perm (elL q (n / 2)) ∧ A.Pairwise leE) := ⟨hpA, hsA⟩
      clear k1 o1 b1 hpA hsA
      go_wp2_with fail
      go_fit k2
      rintro e w2 ⟨v2, B, rfl, hpB, hsB, o2, b2⟩
      have HB : Hid (B.Perm (elL (fun j => q (n / 2 + j)) (n - n / 2)) ∧ B.Pairwise leE) := ⟨hpB, hsB⟩
      have hAl : A.length = n / 2 := by rw [HA.out.1.length_eq, elL_len]
      have hBl : B.length = n - n / 2 := by rw [hpB.length_eq, elL_len]
      have H2 : Hid (Below w.heap.size w w2) := H1.out.2.trans (b2.mono H1.out.2.size)
      obtain ⟨a1, c1, h1⟩ := row_sl H1.out.1
      obtain ⟨a2, c2, h2v⟩ := row_sl o2
      subst h1 h2v
      have HRA : Hid (∀ W, Below w2.heap.size w2 W → Em W a1 (gE A) A.length ∧ Em W a2 (gE B) B.length) := (show ∀ W, _ → _ from fun W b => by
        have r1 := kept_rowE (kept_rowE H1.out.1 b2) b
        have r2 := kept_rowE o2 b
        rw [← elL_gE A, elL_len] at r1
        rw [← elL_gE B, elL_len] at r2
        exact ⟨elM_row r1, elM_row r2⟩)
      have HX : Hid (∀ x, x ∈ A ∨ x ∈ B → Lm w x.a x.f x.n ∧ x.n ≤ 4294967296) := (show ∀ x, _ → _ from fun x hx => by
        rcases hx with hx | hx
        · obtain ⟨j, hj, rfl⟩ : ∃ j, j < n / 2 ∧ q j = x := by simpa [elL] using HA.out.1.subset hx
          exact HL.out j (by omega)
        · obtain ⟨j, hj, rfl⟩ : ∃ j, j < n - n / 2 ∧ q (n / 2 + j) = x := by simpa [elL] using hpB.subset hx
          exact HL.out (n / 2 + j) (by omega))
      have hAn : A.length + B.length = n := by omega
      clear k2 o2 b2 hpB hsB HK2 hi0 hi1 hi2 H1 hAl hBl
      go_wp2_with fail
      go_loopw [3, 7, 8] (fun lv iv jv W => ∃ (i j : Nat) (L : List El), iv = .int .i64 (i : Int) ∧ jv = .int .i64 (j : Int) ∧ i ≤ A.length ∧ j ≤ B.length ∧ Hid (Mg A B L i j ∧ W.ownsRow w2.heap.size 31 2 lv L.length (fl e2 L) ∧ Below w2.heap.size w2 W)) (fun _ iv jv _ => (A.length - (RowKit.intOf iv).toNat) + (B.length - (RowKit.intOf jv).toNat))
      case atStart => exact ⟨0, 0, [], rfl, rfl, Nat.zero_le _, Nat.zero_le _, Mg.zero A B, World.ownsRow_nil _ _ _ _, Below.refl _ _⟩
      case round =>
        obtain ⟨i, j, L, rfl, rfl, hi, hj, HI⟩ := hrel
        have hAi : (A.length : Int) ≤ 1099511627776 := by omega
        have hBi : (B.length : Int) ≤ 1099511627776 := by omega
        have HLl : Hid (L.length = i + j) := HI.out.1.len hi hj
        have HST : Hid (∀ (x : El) (W : World), Below wr.heap.size wr W → ∃ G cc w6, (Builtin.append_ #[22, 22] 22 #[u3, .slice (some ⟨W.heap.size, 0, none⟩) 1 1]).run Tryz.prog (W.alloc (.cells #[.slice x.a x.n x.c, .float .f64 x.x] 31)) = .ok (.slice (some ⟨G, 0, none⟩) (L.length + 1) cc) w6 ∧ w6.ownsRow w2.heap.size 31 2 (.slice (some ⟨G, 0, none⟩) (L.length + 1) cc) (L ++ [x]).length (fl e2 (L ++ [x])) ∧ Below w2.heap.size w2 w6) := (show ∀ x W, _ → _ from fun x W b => by
          have hbW := HI.out.2.2.trans (b.mono HI.out.2.2.size)
          have rW := kept_rowE HI.out.2.1 b
          have hLl := HLl.out
          obtain ⟨G, cc, w6, r, o6, kp⟩ := ap_el W w2.heap.size u3 L.length (fl e2 L) x hbW.size (by omega) rW
          refine ⟨G, cc, w6, r, ?_, hbW.trans (kp.below hbW.size fun k hk e => by have := (own_bd rW k e).1; omega)⟩
          rw [List.length_append, List.length_singleton, show fl e2 (L ++ [x]) = fl e2 L ++ e2 x by simp [fl]]
          exact o6)
        have HCA : Hid (∀ W, Below wr.heap.size wr W → i < A.length → ∃ g o, a1 = some ⟨g, o, none⟩ ∧ W.cell? ⟨g, o + i * 2, none⟩ = some (.slice (gE A i).a (gE A i).n (gE A i).c) ∧ W.cell? ⟨g, o + i * 2 + 1, none⟩ = some (.float .f64 (gE A i).x)) := (show ∀ W, _ → _ → _ from fun W b h => by
          obtain ⟨g, o, e, _, c0, c1⟩ := (HRA.out W (HI.out.2.2.trans (b.mono HI.out.2.2.size))).1.at i h
          exact ⟨g, o, e, c0, c1⟩)
        have HCB : Hid (∀ W, Below wr.heap.size wr W → j < B.length → ∃ g o, a2 = some ⟨g, o, none⟩ ∧ W.cell? ⟨g, o + j * 2, none⟩ = some (.slice (gE B j).a (gE B j).n (gE B j).c) ∧ W.cell? ⟨g, o + j * 2 + 1, none⟩ = some (.float .f64 (gE B j).x)) := (show ∀ W, _ → _ → _ from fun W b h => by
          obtain ⟨g, o, e, _, c0, c1⟩ := (HRA.out W (HI.out.2.2.trans (b.mono HI.out.2.2.size))).2.at j h
          exact ⟨g, o, e, c0, c1⟩)
        have HDN : Hid (∀ k, Below wr.heap.size wr (wr.drewN k)) := (show ∀ k, _ from fun k => below_drewN (Below.refl _ _) k)
        by_cases hia : i < A.length
        · have ia : (i : Int) < (A.length : Int) := by omega
          have i0 : (0 : Int) ≤ (i : Int) := by omega
          by_cases hjb : j < B.length
          · have jb : (j : Int) < (B.length : Int) := by omega
            have j0 : (0 : Int) ≤ (j : Int) := by omega
            have jn : ¬ (j : Int) = (B.length : Int) := by omega
            have je : ((j : Int) == (B.length : Int)) = false := by simp; omega
            have HK : Hid (∀ W, Below wr.heap.size wr W → Calls Tryz.prog 59 #[.slice (gE A i).a (gE A i).n (gE A i).c, .slice (gE B j).a (gE B j).n (gE B j).c] W fun e w' => e = .returned (.int .i64 (cfE (gE A i) (gE B j))) ∧ Below W.heap.size W w') := (show ∀ W, _ → _ from fun W b => by
              have hbW := H2.out.trans ((HI.out.2.2.trans (b.mono HI.out.2.2.size)).mono H2.out.size)
              obtain ⟨l1, n1⟩ := HX.out (gE A i) (.inl (by rw [gE_at A i hia]; exact List.getElem_mem hia))
              obtain ⟨l2, n2⟩ := HX.out (gE B j) (.inr (by rw [gE_at B j hjb]; exact List.getElem_mem hjb))
              exact rcompare_any _ _ _ _ _ _ _ _ W (l1.below hbW) (l2.below hbW) (by omega) (by omega))
            have HSX : Hid (∃ g1 o1 g2 o2, a1 = some ⟨g1, o1, none⟩ ∧ a2 = some ⟨g2, o2, none⟩ ∧ ∀ W, Below wr.heap.size wr W → (W.cell? ⟨g1, o1 + i * 2, none⟩ = some (.slice (gE A i).a (gE A i).n (gE A i).c) ∧ W.cell? ⟨g2, o2 + j * 2, none⟩ = some (.slice (gE B j).a (gE B j).n (gE B j).c)) ∧ Below wr.heap.size wr W) := (show ∃ g1 o1 g2 o2, _ by
              obtain ⟨g1, o1, e1, _⟩ := HCA.out wr (Below.refl _ _) hia
              obtain ⟨g2, o2, e2, _⟩ := HCB.out wr (Below.refl _ _) hjb
              refine ⟨g1, o1, g2, o2, e1, e2, fun W b => ?_⟩
              obtain ⟨g1', o1', e1', c1, _⟩ := HCA.out W b hia
              obtain ⟨g2', o2', e2', c2, _⟩ := HCB.out W b hjb
              rw [e1] at e1'
              rw [e2] at e2'
              cases e1'
              cases e2'
              exact ⟨⟨c1, c2⟩, b⟩)
            obtain ⟨g1, o1, g2, o2, e1, e2', HSY⟩ := HSX.out
            have HSX2 : Hid (∀ W, Below wr.heap.size wr W → (W.cell? ⟨g1, o1 + i * 2, none⟩ = some (.slice (gE A i).a (gE A i).n (gE A i).c) ∧ W.cell? ⟨g2, o2 + j * 2, none⟩ = some (.slice (gE B j).a (gE B j).n (gE B j).c)) ∧ Below wr.heap.size wr W) := HSY
            cases e1
            cases e2'
            obtain ⟨⟨y0, y1⟩, _⟩ := HSX2.out wr (Below.refl _ _)
            have bd : Below wr.heap.size wr wr.drew := (Below.refl _ _).drew
            obtain ⟨CF, hCF⟩ : ∃ C, cfE (gE A i) (gE B j) = C := ⟨_, rfl⟩
            have HCF : Hid (cfE (gE A i) (gE B j) = CF) := hCF
            rw [hCF] at HK
            clear hCF HSX HSY
            obtain ⟨xi, hxi⟩ : ∃ x, x = gE A i := ⟨_, rfl⟩
            obtain ⟨yj, hyj⟩ : ∃ x, x = gE B j := ⟨_, rfl⟩
            rw [← hxi] at HK HSX2 y0
            rw [← hyj] at HK HSX2 y1
            obtain ⟨xa', xn', xc', xf', xv'⟩ := xi
            obtain ⟨ya', yn', yc', yf', yv'⟩ := yj
            dsimp only at HK HSX2 y0 y1
            clear hxi hyj
            go_upto_region 10 with fail
            go_region_held3 (fun w2 => (w2.cell? ⟨g1, o1 + i * 2, none⟩ = some (.slice xa' xn' xc') ∧ w2.cell? ⟨g2, o2 + j * 2, none⟩ = some (.slice ya' yn' yc')) ∧ Below wr.heap.size wr w2) (first | exact HSX2.out _ (by assumption) | exact HSX2.out _ (Below.drew (by assumption))) (first | (go_at_call 59; go_fit (HK.out _ (by first | exact bd | exact Below.refl _ _)); rintro e w12 ⟨rfl, b12⟩; have bc : Below wr.heap.size wr w12 := by first | exact bd.trans (b12.mono bd.size) | exact b12))
            rename_i hh
            clear hh HK HSX2 y0 y1 bd b12
            by_cases hc : CF ≤ 0
            · have HM : Hid (Mg A B (L ++ [gE A i]) (i + 1) j) := (show Mg _ _ _ _ _ by
                have hle : leE (gE A i) (gE B j) := by unfold leE; rw [HCF.out]; exact hc
                rw [gE_at A i hia] at hle ⊢
                rw [gE_at B j hjb] at hle
                exact HI.out.1.left HA.out.2 HB.out.2 hia (.inr ⟨hjb, hle⟩))
              obtain ⟨gx, ox, ex, p0, p1⟩ := HCA.out w12 bc (by omega)
              cases ex
              obtain ⟨G, cc, w6, r6, o6, b6⟩ := HST.out (gE A i) w12 bc
              have HN : Hid (w6.ownsRow w2.heap.size 31 2 (.slice (some ⟨G, 0, none⟩) (L.length + 1) cc) (L ++ [gE A i]).length (fl e2 (L ++ [gE A i])) ∧ Below w2.heap.size w2 w6) := ⟨o6, b6⟩
              obtain ⟨xx, hxx⟩ : ∃ x, gE A i = x := ⟨_, rfl⟩
              rw [hxx] at p0 p1 r6 HN HM
              obtain ⟨xa, xn, xc, xf, xv⟩ := xx
              dsimp only at p0 p1 r6
              clear o6 b6 hxx
              go_wp2_with (at_builtin; refine wpList_append_run rfl (.tmp 61) (.tmp 66) 22 22 rfl _ _ rfl rfl r6 ?_)
              exact ⟨⟨i + 1, j, _, by go_num, (by first | rfl | rw [jb]), by omega, hj, HM.out, HN.out.1, HN.out.2⟩, by simp [RowKit.intOf]; omega⟩
            · have HM : Hid (Mg A B (L ++ [gE B j]) i (j + 1)) := (show Mg _ _ _ _ _ by
                have hle : leE (gE B j) (gE A i) := leE_total (by unfold leE; rw [HCF.out]; exact hc)
                rw [gE_at B j hjb] at hle ⊢
                rw [gE_at A i hia] at hle
                exact HI.out.1.right HA.out.2 HB.out.2 hjb (.inr ⟨hia, hle⟩))
              obtain ⟨gx, ox, ex, p0, p1⟩ := HCB.out w12 bc (by omega)
              cases ex
              obtain ⟨G, cc, w6, r6, o6, b6⟩ := HST.out (gE B j) w12 bc
              have HN : Hid (w6.ownsRow w2.heap.size 31 2 (.slice (some ⟨G, 0, none⟩) (L.length + 1) cc) (L ++ [gE B j]).length (fl e2 (L ++ [gE B j])) ∧ Below w2.heap.size w2 w6) := ⟨o6, b6⟩
              obtain ⟨xx, hxx⟩ : ∃ x, gE B j = x := ⟨_, rfl⟩
              rw [hxx] at p0 p1 r6 HN HM
              obtain ⟨xa, xn, xc, xf, xv⟩ := xx
              dsimp only at p0 p1 r6
              clear o6 b6 hxx
              go_wp2_with (at_builtin; refine wpList_append_run rfl (.tmp 70) (.tmp 75) 22 22 rfl _ _ rfl rfl r6 ?_)
              exact ⟨⟨i, j + 1, _, rfl, by go_num, hi, by omega, HM.out, HN.out.1, HN.out.2⟩, by simp [RowKit.intOf]; omega⟩
          · have ja : ¬ (j : Int) < (B.length : Int) := by omega
            have jb : (j : Int) = (B.length : Int) := by omega
            have je : ((j : Int) == (B.length : Int)) = true := by simp [jb]
            have HM : Hid (Mg A B (L ++ [gE A i]) (i + 1) j) := (show Mg _ _ _ _ _ by
              rw [gE_at A i hia]
              exact HI.out.1.left HA.out.2 HB.out.2 hia (.inl (by omega)))
            go_upto_region 10 with fail
            go_big_quiet (fail)
            have hbN := HDN.out nq
            generalize wr.drewN nq = WN at *
            obtain ⟨gx, ox, ex, p0, p1⟩ := HCA.out WN hbN (by omega)
            cases ex
            obtain ⟨G, cc, w6, r6, o6, b6⟩ := HST.out (gE A i) WN hbN
            have HN : Hid (w6.ownsRow w2.heap.size 31 2 (.slice (some ⟨G, 0, none⟩) (L.length + 1) cc) (L ++ [gE A i]).length (fl e2 (L ++ [gE A i])) ∧ Below w2.heap.size w2 w6) := ⟨o6, b6⟩
            obtain ⟨xx, hxx⟩ : ∃ x, gE A i = x := ⟨_, rfl⟩
            rw [hxx] at p0 p1 r6 HN HM
            obtain ⟨xa, xn, xc, xf, xv⟩ := xx
            dsimp only at p0 p1 r6
            clear o6 b6 hxx
            go_wp2_with (at_builtin; refine wpList_append_run rfl (.tmp 61) (.tmp 66) 22 22 rfl _ _ rfl rfl r6 ?_)
            exact ⟨⟨i + 1, j, _, by go_num, (by first | rfl | rw [jb]), by omega, hj, HM.out, HN.out.1, HN.out.2⟩, by simp [RowKit.intOf]; omega⟩
        · have ia : ¬ (i : Int) < (A.length : Int) := by omega
          by_cases hjb : j < B.length
          · have jb : (j : Int) < (B.length : Int) := by omega
            have j0 : (0 : Int) ≤ (j : Int) := by omega
            have jn : ¬ (j : Int) = (B.length : Int) := by omega
            have je : ((j : Int) == (B.length : Int)) = false := by simp; omega
            have id : decide ((i : Int) < (A.length : Int)) = false := decide_eq_false ia
            have HM : Hid (Mg A B (L ++ [gE B j]) i (j + 1)) := (show Mg _ _ _ _ _ by
              rw [gE_at B j hjb]
              exact HI.out.1.right HA.out.2 HB.out.2 hjb (.inl (by omega)))
            go_upto_region 10 with fail
            go_big_quiet (fail)
            have hbN := HDN.out nq
            generalize wr.drewN nq = WN at *
            obtain ⟨gx, ox, ex, p0, p1⟩ := HCB.out WN hbN (by omega)
            cases ex
            obtain ⟨G, cc, w6, r6, o6, b6⟩ := HST.out (gE B j) WN hbN
            have HN : Hid (w6.ownsRow w2.heap.size 31 2 (.slice (some ⟨G, 0, none⟩) (L.length + 1) cc) (L ++ [gE B j]).length (fl e2 (L ++ [gE B j])) ∧ Below w2.heap.size w2 w6) := ⟨o6, b6⟩
            obtain ⟨xx, hxx⟩ : ∃ x, gE B j = x := ⟨_, rfl⟩
            rw [hxx] at p0 p1 r6 HN HM
            obtain ⟨xa, xn, xc, xf, xv⟩ := xx
            dsimp only at p0 p1 r6
            clear o6 b6 hxx
            go_wp2_with (at_builtin; refine wpList_append_run rfl (.tmp 70) (.tmp 75) 22 22 rfl _ _ rfl rfl r6 ?_)
            exact ⟨⟨i, j + 1, _, rfl, by go_num, hi, by omega, HM.out, HN.out.1, HN.out.2⟩, by simp [RowKit.intOf]; omega⟩
          · have ja : ¬ (j : Int) < (B.length : Int) := by omega
            have HS : Hid (Mg A B L i j ∧ wr.ownsRow w2.heap.size 31 2 u3 L.length (fl e2 L) ∧ Below w2.heap.size w2 wr) := HI
            go_wp2
            go_ret
            refine ⟨_, L, rfl, ?_, HS.out.1.sort, World.ownsRow.mono HS.out.2.1 H2.out.size, H2.out.trans (HS.out.2.2.mono H2.out.size)⟩
            rw [HSP.out]
            refine HS.out.1.perm.trans ?_
            rw [show i = A.length by omega, show j = B.length by omega, List.take_length, List.take_length]
            exact HA.out.1.append HB.out.1
end Go.Proofs.YtebjklppbkkinaaGreatDoor
