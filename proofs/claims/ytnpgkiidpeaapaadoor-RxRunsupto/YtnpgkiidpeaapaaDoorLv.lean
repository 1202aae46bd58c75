/- unchanged. -/
import Derived.Test.YtnpgkiidpeaapaaDoorCa
import Derived.Laws.StructEq
import Derived.Deep.LoopGhost
import Derived.Deep.Cut
import Derived.BigQuiet
import Derived.Test.YtnpgkiidpeaapaaDoorApB
import Derived.Test.YtnpgkiidpeaapaaDoorFd
import Derived.Test.YtnpgkiidpeaapaaDoorApA
import Derived.Deep.QuietTactic
import Derived.Test.YtnpgkiidpeaapaaDoorAw
import Derived.Deep.RegionHeld3
import Derived.Laws.IdiomStrings
import Derived.Lib.QuietBelow
namespace Go.Proofs.YtnpgkiidpeaapaaDoor
open Go.RowKit

theorem eqRg (a b c d : Int) (w : World) : (Op.equalIn 10000 54 (.agg #[.int .i32 a, .int .i32 b]) (.agg #[.int .i32 c, .int .i32 d])).run Tryd.prog w = .ok (a == c && b == d) w := by
  have u3 := Tryd.underlying21
  have a3 := Tryd.isAgg21
  have z3 := Tryd.sizeOf21
  have hS : Tryd.prog.underlying 54 = some (.struct (Tryd.prog.fieldsOf 54)) := by kernel_rfl
  rw [show (10000 : Nat) = 9999 + 1 from rfl, run_equalIn_agg w 9999 54 _ _ hS (by kernel_rfl)]
  simp only [Program.fieldsOf, Tryd.underlying54]
  go_simp
  by_cases h1 : a = c <;> by_cases h2 : b = d <;> simp [h1, h2]
theorem ne_rg (a b : Int) (w : World) : (binOp .neq 54 (.agg #[.int .i32 a, .int .i32 b]) (.agg #[.int .i32 a, .int .i32 b])).run Tryd.prog w = .ok (.bool false) w := by
  rw [run_neq_struct, eqRg]
  simp
/-- The same instructions, wherever their ranges lie. -/
def Same (n : Nat) (x y : Nat → In) : Prop := ∀ j, j < n → (y j).op = (x j).op ∧ (y j).out = (x j).out ∧ (y j).alt = (x j).alt ∧ (y j).arg = (x j).arg ∧ (y j).rn = (x j).rn ∧ (y j).rf = (x j).rf
set_option maxHeartbeats 4000000 in
set_option maxRecDepth 100000 in
theorem unchanged_true (pa qa : Option Addr) (n pc qc : Nat) (st gr : Int) (pna qna : Option Addr) (nn pnc qnc : Nat) (x y : Nat → In) (s : Nat → ByteArray) (w : World) (hp : Nml w pa y n) (hq : Nml w qa x n) (hs : Same n x y) (hN : Sml w pna s nn) (hM : Sml w qna s nn) (hn : n ≤ 1152921504606846976) (hnn : nn ≤ 1152921504606846976) :
    Calls Tryd.prog 9 #[prV pa n pc st gr pna nn pnc, prV qa n qc st gr qna nn qnc] w fun e w' => e = .returned (.bool true) ∧ Below w.heap.size w w' := by
  obtain ⟨W, hW⟩ : ∃ W, W = (w.alloc (prX pa n pc st gr pna nn pnc)).alloc (prX qa n qc st gr qna nn qnc) := ⟨_, rfl⟩
  have bW : Below w.heap.size w W := by rw [hW]; exact ((Below.refl _ w).alloc (Nat.le_refl _) _).alloc (by simp) _
  have hWs : W.heap.size = w.heap.size + 2 := by rw [hW]; simp
  obtain ⟨p0, p1, p2, p3⟩ := prX_cells (w := w) (W := W) pa n pc st gr pna nn pnc (by rw [hW]; exact (Below.refl _ _).alloc (Nat.le_refl _) _)
  obtain ⟨q0, q1, q2, q3⟩ := prX_cells (w := w.alloc (prX pa n pc st gr pna nn pnc)) (W := W) qa n qc st gr qna nn qnc (by rw [hW]; exact Below.refl _ _)
  rw [show (w.alloc (prX pa n pc st gr pna nn pnc)).heap.size = w.heap.size + 1 by simp] at q0 q1 q2 q3
  have HW : Hid (W = (w.alloc (.cells #[.slice pa n pc, .int .i64 st, .int .i64 gr, .slice pna nn pnc] 29)).alloc (.cells #[.slice qa n qc, .int .i64 st, .int .i64 gr, .slice qna nn qnc] 29)) := hW
  have HP : Hid (Nml W pa y n) := hp.below bW
  have HQ : Hid (Nml W qa x n) := hq.below bW
  have HN : Hid (Sml W pna s nn) := hN.below bW
  have HM : Hid (Sml W qna s nn) := hM.below bW
  have HS : Hid (Same n x y) := hs
  have HBW : Hid (Below w.heap.size w W) := bW
  have hR := ne_rg
  obtain ⟨G, hG⟩ : ∃ G, G = W.heap.size := ⟨_, rfl⟩
  have HG : Hid (G = W.heap.size) := hG
  have HGB : Hid (∀ V, Below G W V → Below w.heap.size w V) := fun V h => bW.trans ((hG ▸ h).mono bW.size)
  have HC : Hid (∀ V, Below G W V → V.cell? ⟨w.heap.size, 0, none⟩ = some (.slice pa n pc) ∧ V.cell? ⟨w.heap.size, 3, none⟩ = some (.slice pna nn pnc) ∧ V.cell? ⟨w.heap.size + 1, 0, none⟩ = some (.slice qa n qc) ∧ V.cell? ⟨w.heap.size + 1, 3, none⟩ = some (.slice qna nn qnc)) := fun V h => by
    have h' : Below W.heap.size W V := hG ▸ h
    exact ⟨bcell2 h' p0, bcell2 h' p3, bcell2 h' q0, bcell2 h' q3⟩
  clear hp hq hN hM hs bW hW hWs hG
  go_enter Tryd.func9, Tryd.ntmps9
  go_upto_region 1 with fail
  rw [← HW.out]
  clear HW
  go_wp2_with fail
  clear p1 p2 q1 q2
  go_loopg [43] nn (fun g t V => ∃ i : Nat, i + g = nn ∧ t = .int .i64 (i : Int) ∧ Hid (Below G W V))
  case atStart => exact ⟨0, by omega, rfl, Below.refl _ _⟩
  case round =>
    obtain ⟨i, hig, rfl, hb⟩ := hrel
    by_cases hlt : i < nn
    · have hii : (i : Int) < nn := by omega
      have hb' : Below W.heap.size W wr := HG.out ▸ hb.out
      obtain ⟨g1, o1, rfl, _, x0⟩ := (HN.out.below hb').at i hlt
      obtain ⟨g2, o2, rfl, _, y0⟩ := (HM.out.below hb').at i hlt
      obtain ⟨_, c3, _, d3⟩ := HC.out wr hb.out
      generalize s i = si at *
      have HB2 : Hid (∀ m, Below G W (wr.drewN m)) := fun m => below_drewN hb.out m
      clear hb hb' p0 p3 q0 q3
      go_wp2_with fail
      go_big_quiet (fail)
      have HB3 : Hid _ := HB2.out nq
      generalize wr.drewN nq = W6 at *
      go_wp2
      go_roundg (nn - (i + 1))
      case measure => omega
      case rel => exact ⟨i + 1, by omega, by go_num, HB3⟩
    · have hii : ¬ (i : Int) < nn := by omega
      obtain ⟨c0, _, _, _⟩ := HC.out wr hb.out
      clear p0 p3 q0 q3
      go_wp2_with fail
      clear c0
      go_loopg [61] n (fun g t V => ∃ i : Nat, i + g = n ∧ t = .int .i64 (i : Int) ∧ Hid (Below G W V))
      case atStart => exact ⟨0, by omega, rfl, hb⟩
      case round =>
        clear hb
        obtain ⟨j, hjg, rfl, hb⟩ := hrel
        by_cases hjl : j < n
        · have hji : (j : Int) < n := by omega
          have hb' : Below W.heap.size W wr := HG.out ▸ hb.out
          obtain ⟨g1, o1, rfl, _, a0, a1, a2, a3, a4, hr1, hb1⟩ := (HP.out.below hb').at j hjl
          obtain ⟨g2, o2, rfl, _, b0, b1, b2, b3, b4, hr2, hb2⟩ := (HQ.out.below hb').at j hjl
          obtain ⟨e0, e1, e2, e3, e4, e5⟩ := HS.out j hjl
          rw [e0] at a0
          rw [e1] at a1
          rw [e2] at a2
          rw [e3] at a3
          rw [e4] at a4 hr1
          rw [e5] at hr1
          obtain ⟨_, _, d0, _⟩ := HC.out wr hb.out
          obtain ⟨V, hV⟩ : ∃ V, V = (wr.alloc (.cells #[.int .i64 (x j).op, .int .i64 (x j).out, .int .i64 (x j).alt, .int .i64 (x j).arg, .slice (y j).ra (x j).rn (y j).rc] 25)).alloc (.cells #[.int .i64 (x j).op, .int .i64 (x j).out, .int .i64 (x j).alt, .int .i64 (x j).arg, .slice (x j).ra (x j).rn (x j).rc] 25) := ⟨_, rfl⟩
          have bV : Below wr.heap.size wr V := by rw [hV]; exact ((Below.refl _ _).alloc (Nat.le_refl _) _).alloc (by simp) _
          have blk1 : V.heap[wr.heap.size]? = some (.cells #[.int .i64 (x j).op, .int .i64 (x j).out, .int .i64 (x j).alt, .int .i64 (x j).arg, .slice (y j).ra (x j).rn (y j).rc] 25) := by rw [hV]; exact heap_alloc2_old wr _ _
          have blk2 : V.heap[wr.heap.size + 1]? = some (.cells #[.int .i64 (x j).op, .int .i64 (x j).out, .int .i64 (x j).alt, .int .i64 (x j).arg, .slice (x j).ra (x j).rn (x j).rc] 25) := by rw [hV]; exact heap_alloc2_new wr _ _
          have HV : Hid (V = (wr.alloc (.cells #[.int .i64 (x j).op, .int .i64 (x j).out, .int .i64 (x j).alt, .int .i64 (x j).arg, .slice (y j).ra (x j).rn (y j).rc] 25)).alloc (.cells #[.int .i64 (x j).op, .int .i64 (x j).out, .int .i64 (x j).alt, .int .i64 (x j).arg, .slice (x j).ra (x j).rn (x j).rc] 25)) := hV
          have m0 : V.cell? ⟨wr.heap.size, 0, none⟩ = some (.int .i64 (x j).op) := cell_of_row _ _ _ _ _ _ blk1
          have m1 : V.cell? ⟨wr.heap.size, 1, none⟩ = some (.int .i64 (x j).out) := cell_of_row _ _ _ _ _ _ blk1
          have m2 : V.cell? ⟨wr.heap.size, 2, none⟩ = some (.int .i64 (x j).alt) := cell_of_row _ _ _ _ _ _ blk1
          have m3 : V.cell? ⟨wr.heap.size, 3, none⟩ = some (.int .i64 (x j).arg) := cell_of_row _ _ _ _ _ _ blk1
          have m4 : V.cell? ⟨wr.heap.size, 4, none⟩ = some (.slice (y j).ra (x j).rn (y j).rc) := cell_of_row _ _ _ _ _ _ blk1
          have n0 : V.cell? ⟨wr.heap.size + 1, 0, none⟩ = some (.int .i64 (x j).op) := cell_of_row _ _ _ _ _ _ blk2
          have n1 : V.cell? ⟨wr.heap.size + 1, 1, none⟩ = some (.int .i64 (x j).out) := cell_of_row _ _ _ _ _ _ blk2
          have n2 : V.cell? ⟨wr.heap.size + 1, 2, none⟩ = some (.int .i64 (x j).alt) := cell_of_row _ _ _ _ _ _ blk2
          have n3 : V.cell? ⟨wr.heap.size + 1, 3, none⟩ = some (.int .i64 (x j).arg) := cell_of_row _ _ _ _ _ _ blk2
          have n4 : V.cell? ⟨wr.heap.size + 1, 4, none⟩ = some (.slice (x j).ra (x j).rn (x j).rc) := cell_of_row _ _ _ _ _ _ blk2
          have HBV : Hid (Below G W V) := hb.out.trans (bV.mono (by have := hb'.size; have := HG.out; omega))
          have H1 : Hid (Rml V (y j).ra (x j).rf (x j).rn) := hr1.below bV
          have H2 : Hid (Rml V (x j).ra (x j).rf (x j).rn) := hr2.below bV
          have HVS : Hid (wr.heap.size + 2 ≤ V.heap.size) := by show _ ≤ _; rw [hV]; simp
          have d0' : (wr.alloc (.cells #[.int .i64 (x j).op, .int .i64 (x j).out, .int .i64 (x j).alt, .int .i64 (x j).arg, .slice (y j).ra (x j).rn (y j).rc] 25)).cell? ⟨w.heap.size + 1, 0, none⟩ = some (.slice (some ⟨g2, o2, none⟩) n qc) := cell_al _ d0
          have b0' := cell_al (.cells #[.int .i64 (x j).op, .int .i64 (x j).out, .int .i64 (x j).alt, .int .i64 (x j).arg, .slice (y j).ra (x j).rn (y j).rc] 25) b0
          have b1' := cell_al (.cells #[.int .i64 (x j).op, .int .i64 (x j).out, .int .i64 (x j).alt, .int .i64 (x j).arg, .slice (y j).ra (x j).rn (y j).rc] 25) b1
          have b2' := cell_al (.cells #[.int .i64 (x j).op, .int .i64 (x j).out, .int .i64 (x j).alt, .int .i64 (x j).arg, .slice (y j).ra (x j).rn (y j).rc] 25) b2
          have b3' := cell_al (.cells #[.int .i64 (x j).op, .int .i64 (x j).out, .int .i64 (x j).alt, .int .i64 (x j).arg, .slice (y j).ra (x j).rn (y j).rc] 25) b3
          have b4' := cell_al (.cells #[.int .i64 (x j).op, .int .i64 (x j).out, .int .i64 (x j).alt, .int .i64 (x j).arg, .slice (y j).ra (x j).rn (y j).rc] 25) b4
          clear hb' hr1 hr2 e0 e1 e2 e3 e4 e5 hV bV blk1 blk2 hb
          go_upto_region 13 with fail
          rw [← HV.out]
          clear HV a0 a1 a2 a3 a4 b0 b1 b2 b3 b4 d0 d0' b0' b1' b2' b3' b4'
          obtain ⟨Z, hZ⟩ : ∃ Z, Z = wr.heap.size := ⟨_, rfl⟩
          rw [← hZ]
          rw [← hZ] at m0 m1 m2 m3 m4 n0 n1 n2 n3 n4 HVS
          clear hZ
          generalize (x j).op = OP at *
          generalize (x j).out = OU at *
          generalize (x j).alt = AL at *
          generalize (x j).arg = AR at *
          generalize (x j).ra = RA at *
          generalize (y j).ra = RB at *
          generalize (x j).rn = RN at *
          generalize (x j).rc = RC at *
          generalize (y j).rc = RD at *
          generalize (x j).rf = RF at *
          go_wp2_with fail
          clear m0 m1 m2 m3 n0 n1 n2 n3
          go_loopg [109] RN (fun g t U => ∃ i : Nat, i + g = RN ∧ t = .int .i64 (i : Int) ∧ Hid (Below V.heap.size V U))
          case atStart => exact ⟨0, by omega, rfl, Below.refl _ _⟩
          case round =>
            obtain ⟨i, hig, rfl, hb⟩ := hrel
            by_cases hil : i < RN
            · have hii : (i : Int) < RN := by omega
              obtain ⟨g3, o3, rfl, _, x0, x1⟩ := (H1.out.below hb.out).at i hil
              obtain ⟨g4, o4, rfl, _, y0, y1⟩ := (H2.out.below hb.out).at i hil
              have m4' := bcell2 hb.out m4
              have n4' := bcell2 hb.out n4
              obtain ⟨⟨xk, xi⟩, hx⟩ : ∃ x, RF i = x := ⟨_, rfl⟩
              rw [hx] at x0 x1 y0 y1
              dsimp only at x0 x1 y0 y1
              have HB2 : Hid (∀ m, Below V.heap.size V (wr.drewN m)) := fun m => below_drewN hb.out m
              clear hx hb m4 n4
              go_wp2_with fail
              go_big_quiet (fail)
              have HB3 : Hid _ := HB2.out nq
              generalize wr.drewN nq = W6 at *
              go_wp2
              go_roundg (RN - (i + 1))
              case measure => omega
              case rel => exact ⟨i + 1, by omega, by go_num, HB3⟩
            · have hii : ¬ (i : Int) < RN := by omega
              have HB4 : Hid (Below G W wr) := HBV.out.trans (hb.out.mono (by have := HBV.out.size; have := HG.out; omega))
              clear hb
              go_wp2
              go_roundg (n - (j + 1))
              case measure => omega
              case rel => exact ⟨j + 1, by omega, by go_num, HB4⟩
        · have hji : ¬ (j : Int) < n := by omega
          go_wp2
          go_ret
          exact ⟨rfl, HGB.out _ hb.out⟩
end Go.Proofs.YtnpgkiidpeaapaaDoor
/- The law's own lists and programs. -/
namespace Go.Proofs.YtnpgkiidpeaapaaDoor
open Go.RowKit

theorem Same.get {n : Nat} {x y : Nat → In} (h : Same n x y) (j : Nat) (hj : j < n) : (y j).op = (x j).op ∧ (y j).out = (x j).out ∧ (y j).alt = (x j).alt ∧ (y j).arg = (x j).arg ∧ (y j).rn = (x j).rn ∧ (y j).rf = (x j).rf := h j hj
theorem ots_same {n : Nat} {x y : Nat → In} (h : Same n x y) (s : ByteArray) (p : Pt) : ots y n s p = ots x n s p := by
  unfold ots
  by_cases hp : n ≤ p.1
  · rw [if_pos hp, if_pos hp]
  · rw [if_neg hp, if_neg hp]
    obtain ⟨e0, e1, e2, e3, e4, e5⟩ := h p.1 (by omega)
    have er : rnB (y p.1) s p.2 = rnB (x p.1) s p.2 := by unfold rnB; rw [e4, e5]
    rw [e0, e1, e2, e3, er]
theorem sys_same {n : Nat} {x y : Nat → In} (h : Same n x y) (s : ByteArray) : sys y n s = sys x n s := by
  have e1 : (sys y n s).win = (sys x n s).win := by
    funext p
    show decide _ = decide _
    rw [decide_eq_decide]
    constructor
    · rintro ⟨a, b, c⟩
      exact ⟨a, by rw [← (h p.1 a).1]; exact b, c⟩
    · rintro ⟨a, b, c⟩
      exact ⟨a, by rw [(h p.1 a).1]; exact b, c⟩
  have e2 : (sys y n s).outs = (sys x n s).outs := funext fun p => ots_same h s p
  have e3 : (sys y n s).sav = (sys x n s).sav := by
    funext p
    show (if p.1 < n ∧ (y p.1).op = 4 then some (y p.1).arg.toNat else none) = (if p.1 < n ∧ (x p.1).op = 4 then some (x p.1).arg.toNat else none)
    by_cases hp : p.1 < n
    · obtain ⟨e0, _, _, e3, _⟩ := h p.1 hp
      rw [e0, e3]
    · rw [if_neg (fun e => hp e.1), if_neg (fun e => hp e.1)]
  cases hy : sys y n s with
  | mk a b c =>
    cases hx : sys x n s with
    | mk a' b' c' =>
      rw [hy, hx] at e1 e2 e3
      cases e1; cases e2; cases e3
      rfl
theorem allB_same {n : Nat} {x y : Nat → In} {m g : Int} : ∀ k, k ≤ n → Same n x y → allB y m g k = allB x m g k
  | 0, _, _ => rfl
  | k + 1, hk, h => by
    unfold allB
    obtain ⟨e0, e1, e2, e3, e4, e5⟩ := h k (by omega)
    rw [allB_same k (by omega) h, e0, e1, e2, e3, e4, e5]
theorem SdB_same {n : Nat} {x y : Nat → In} {st gr : Int} {nn : Nat} (h : Same n x y) : SdB y n st gr nn = SdB x n st gr nn := by
  unfold SdB
  rw [allB_same n (Nat.le_refl _) h]
theorem Fd.same {n : Nat} {x y : Nat → In} {st gr : Int} {nn : Nat} {s : ByteArray} {r : Option (Nat → Int)} (hs : Same n x y) (h : Fd y n st gr nn s r) : Fd x n st gr nn s r := by
  unfold Fd at h ⊢
  rw [SdB_same hs, sys_same hs] at h
  exact h
/-- The program that is looked at first. -/
def xP : Nat → In := fun j => if j = 0 then ⟨3, 0, 1, 0, none, 0, 0, fun _ => (0, 0)⟩ else ⟨1, 0, 0, 0, none, 0, 0, fun _ => (0, 0)⟩
theorem plain_fd {r : Option (Nat → Int)} (h : Fd xP 2 0 0 0 ⟨#[]⟩ r) : r = some (fun _ => -1) := by
  refine h.uniq (.inr ⟨by rfl, ?_⟩)
  have a1 : aft (sys xP 2 ⟨#[]⟩) (0, 0) [] (fun _ => -1) = [Sum.inl (0, 0), Sum.inl (1, 0)] := rfl
  have a2 : aftS (sys xP 2 ⟨#[]⟩) (0, 0) (fun _ => -1) = fun _ => -1 := rfl
  refine Res.on rfl rfl ?_
  show Res _ _ (aft (sys xP 2 ⟨#[]⟩) (0, 0) [] (fun _ => -1)) _ (aftS (sys xP 2 ⟨#[]⟩) (0, 0) (fun _ => -1)) _
  rw [a1, a2]
  refine Res.seen (by rfl) ?_
  exact Res.won (by rfl) rfl
theorem plain_fin : fin ⟨#[]⟩ 0 (some fun _ => -1) = [0, 0] := rfl
theorem Own.kp {M : Nat → Prop} {B : Nat} {W W' : World} {v : Value} {xs : List Int} (h : Own B W v xs) (k : Kp M W W') (hm : ∀ g, v.ownBlock = some g → ¬ M g) : Own B W' v xs := k.row h hm
theorem Own.low {B : Nat} {W W' : World} {v : Value} {xs : List Int} (h : Own B W v xs) (hb : Below W.heap.size W W') : Own B W' v xs := h.kp (Kp.of (M := fun _ => False) hb) (fun _ _ => id)
theorem Own.weak {B B' : Nat} {W : World} {v : Value} {xs : List Int} (h : Own B W v xs) (hB : B' ≤ B) : Own B' W v xs := ⟨h.1, h.2.imp id (fun ⟨g, c, cu, e1, e2, e3⟩ => ⟨g, c, cu, e1, Nat.le_trans hB e2, e3⟩)⟩
/-- Four lists, one behind the other, handed to apart. -/
def colF (v0 v1 v2 v3 : Value) (BL g : Nat) : Nat := if v0.ownBlock = some g then 0 else if v1.ownBlock = some g then 1 else if v2.ownBlock = some g then 2 else if v3.ownBlock = some g then 3 else if g = BL then 4 else 9
def vF (v0 v1 v2 v3 : Value) : Nat → Value := fun i => if i = 0 then v0 else if i = 1 then v1 else if i = 2 then v2 else v3
def xF (x0 x1 x2 x3 : List Int) : Nat → List Int := fun i => if i = 0 then x0 else if i = 1 then x1 else if i = 2 then x2 else x3
theorem four_rows (W : World) (B B1 B2 B3 B4 : Nat) (v0 v1 v2 v3 : Value) (x0 x1 x2 x3 : List Int) (h0 : Own B W v0 x0) (h1 : Own B1 W v1 x1) (h2 : Own B2 W v2 x2) (h3 : Own B3 W v3 x3) (l0 : ∀ g, v0.ownBlock = some g → g < B1) (l1 : ∀ g, v1.ownBlock = some g → g < B2) (l2 : ∀ g, v2.ownBlock = some g → g < B3) (l3 : ∀ g, v3.ownBlock = some g → g < B4) (o1 : B ≤ B1) (o2 : B1 ≤ B2) (o3 : B2 ≤ B3) (o4 : B3 ≤ B4) (o5 : B4 ≤ W.heap.size) :
    St0 B W.heap.size (vF v0 v1 v2 v3) (colF v0 v1 v2 v3 W.heap.size) (W.alloc (.cells #[v0, v1, v2, v3] 31)) ∧ P1 B (vF v0 v1 v2 v3) (colF v0 v1 v2 v3 W.heap.size) (xF x0 x1 x2 x3) 0 (W.alloc (.cells #[v0, v1, v2, v3] 31)) := by
  have g0 : ∀ g, v0.ownBlock = some g → B ≤ g ∧ g < B1 := fun g e => ⟨(h0.blk g e).1, l0 g e⟩
  have g1 : ∀ g, v1.ownBlock = some g → B1 ≤ g ∧ g < B2 := fun g e => ⟨(h1.blk g e).1, l1 g e⟩
  have g2 : ∀ g, v2.ownBlock = some g → B2 ≤ g ∧ g < B3 := fun g e => ⟨(h2.blk g e).1, l2 g e⟩
  have g3 : ∀ g, v3.ownBlock = some g → B3 ≤ g ∧ g < B4 := fun g e => ⟨(h3.blk g e).1, l3 g e⟩
  have blk : (W.alloc (.cells #[v0, v1, v2, v3] 31)).heap[W.heap.size]? = some (.cells #[v0, v1, v2, v3] 31) := heap_alloc_new W _
  refine ⟨⟨fun i hi => ?_, ?_, fun b hb => ?_, by simp; omega⟩, fun i hi => ?_⟩
  · rw [cell_of_row _ _ _ _ _ _ blk]
    match i, hi with
    | 0, _ => rfl
    | 1, _ => rfl
    | 2, _ => rfl
    | 3, _ => rfl
  · unfold colF
    rw [if_neg (fun e => by have := g0 _ e; omega), if_neg (fun e => by have := g1 _ e; omega), if_neg (fun e => by have := g2 _ e; omega), if_neg (fun e => by have := g3 _ e; omega), if_pos rfl]
  · unfold colF at hb
    split at hb
    · rename_i e; exact (g0 _ e).1
    split at hb
    · rename_i e; have := g1 _ e; omega
    split at hb
    · rename_i e; have := g2 _ e; omega
    split at hb
    · rename_i e; have := g3 _ e; omega
    split at hb
    · omega
    · omega
  · rw [if_neg (by omega)]
    have al : ∀ {B v xs}, Own B W v xs → Own B (W.alloc (.cells #[v0, v1, v2, v3] 31)) v xs := fun h => World.ownsRow.alloc h _
    match i, hi with
    | 0, _ => exact ⟨al h0, fun g e => by
        have e' : v0.ownBlock = some g := e
        unfold colF
        rw [if_pos e']⟩
    | 1, _ => exact ⟨al (h1.weak o1), fun g e => by
        have e' : v1.ownBlock = some g := e
        have := g1 g e'
        unfold colF
        rw [if_neg (fun q => by have := g0 g q; omega), if_pos e']⟩
    | 2, _ => exact ⟨al (h2.weak (by omega)), fun g e => by
        have e' : v2.ownBlock = some g := e
        have := g2 g e'
        unfold colF
        rw [if_neg (fun q => by have := g0 g q; omega), if_neg (fun q => by have := g1 g q; omega), if_pos e']⟩
    | 3, _ => exact ⟨al (h3.weak (by omega)), fun g e => by
        have e' : v3.ownBlock = some g := e
        have := g3 g e'
        unfold colF
        rw [if_neg (fun q => by have := g0 g q; omega), if_neg (fun q => by have := g1 g q; omega), if_neg (fun q => by have := g2 g q; omega), if_pos e']⟩
/-- Instructions written over. -/
def one : In := ⟨1, 0, 0, 0, none, 0, 0, fun _ => (0, 0)⟩
def ovr (y : Nat → In) (k : Nat) : Nat → In := fun j => if j < k then one else y j
theorem n5_set5 (f : Nat → In) (j : Nat) (e : In) : ∀ n, j < n → (((((n5 f n).set (j * 5) (.int .i64 e.op)).set (j * 5 + 1) (.int .i64 e.out)).set (j * 5 + 2) (.int .i64 e.alt)).set (j * 5 + 3) (.int .i64 e.arg)).set (j * 5 + 4) (.slice e.ra e.rn e.rc) = n5 (up f j e) n
  | 0, h => by omega
  | n + 1, h => by
    rw [n5_succ, n5_succ]
    have hl := n5_len f n
    by_cases hj : j < n
    · have l1 : ∀ (L : List Value) k v R, L.length = n * 5 → k < n * 5 → (L ++ R).set k v = L.set k v ++ R := fun L k v R hL hk => List.set_append_left _ _ (by omega)
      rw [l1 _ _ _ _ hl (by omega), l1 _ _ _ _ (by simp [hl]) (by omega), l1 _ _ _ _ (by simp [hl]) (by omega), l1 _ _ _ _ (by simp [hl]) (by omega), l1 _ _ _ _ (by simp [hl]) (by omega), n5_set5 f j e n hj, up_other _ _ _ n (by omega)]
    · obtain rfl : j = n := by omega
      have l2 : ∀ (L : List Value) k v R, L.length = j * 5 → j * 5 ≤ k → (L ++ R).set k v = L ++ R.set (k - j * 5) v := fun L k v R hL hk => by rw [List.set_append_right _ _ (by omega), hL]
      rw [l2 _ _ _ _ hl (by omega), l2 _ _ _ _ hl (by omega), l2 _ _ _ _ hl (by omega), l2 _ _ _ _ hl (by omega), l2 _ _ _ _ hl (by omega), up_same, n5_congr (up f j e) f j (fun k hk => up_other _ _ _ _ (by omega))]
      congr 1
      rw [Nat.sub_self, show j * 5 + 1 - j * 5 = 1 by omega, show j * 5 + 2 - j * 5 = 2 by omega, show j * 5 + 3 - j * 5 = 3 by omega, show j * 5 + 4 - j * 5 = 4 by omega]
      rfl
theorem ovr_succ (y : Nat → In) (k : Nat) : up (ovr y k) k one = ovr y (k + 1) := by
  funext j
  unfold up ovr
  by_cases e : j = k
  · rw [if_pos e, if_pos (by omega)]
  · rw [if_neg e]
    by_cases h : j < k
    · rw [if_pos h, if_pos (by omega)]
    · rw [if_neg h, if_neg (by omega)]
theorem ov_store {W : World} {S g c n : Nat} {f : Nat → In} (h : W.ownsRow S 25 5 (.slice (some ⟨g, 0, none⟩) n c) n (n5 f n)) (k : Nat) (hk : k < n) : (((((W.setCell ⟨g, k * 5, none⟩ (.int .i64 1)).setCell ⟨g, k * 5 + 1, none⟩ (.int .i64 0)).setCell ⟨g, k * 5 + 2, none⟩ (.int .i64 0)).setCell ⟨g, k * 5 + 3, none⟩ (.int .i64 0)).setCell ⟨g, k * 5 + 4, none⟩ (.slice none 0 0)).ownsRow S 25 5 (.slice (some ⟨g, 0, none⟩) n c) n (n5 (up f k one) n) := by
  have h1 := (World.ownsRow.stored h (k * 5) (.int .i64 1)).1
  have h2 := (World.ownsRow.stored h1 (k * 5 + 1) (.int .i64 0)).1
  have h3 := (World.ownsRow.stored h2 (k * 5 + 2) (.int .i64 0)).1
  have h4 := (World.ownsRow.stored h3 (k * 5 + 3) (.int .i64 0)).1
  have h5 := (World.ownsRow.stored h4 (k * 5 + 4) (.slice none 0 0)).1
  have := n5_set5 f k one n hk
  rw [← this]
  exact h5
theorem n5_cells {W : World} {S g c n : Nat} {f : Nat → In} (h : W.ownsRow S 25 5 (.slice (some ⟨g, 0, none⟩) n c) n (n5 f n)) (k : Nat) (hk : k < n) : W.cell? ⟨g, k * 5, none⟩ = some (.int .i64 (f k).op) ∧ W.cell? ⟨g, k * 5 + 1, none⟩ = some (.int .i64 (f k).out) ∧ W.cell? ⟨g, k * 5 + 2, none⟩ = some (.int .i64 (f k).alt) ∧ W.cell? ⟨g, k * 5 + 3, none⟩ = some (.int .i64 (f k).arg) ∧ W.cell? ⟨g, k * 5 + 4, none⟩ = some (.slice (f k).ra (f k).rn (f k).rc) ∧ ∀ j, W.frozen? ⟨g, j, none⟩ = false := by
  have c0 := World.ownsRow.cellAt h (k * 5) (by omega)
  have c1 := World.ownsRow.cellAt h (k * 5 + 1) (by omega)
  have c2 := World.ownsRow.cellAt h (k * 5 + 2) (by omega)
  have c3 := World.ownsRow.cellAt h (k * 5 + 3) (by omega)
  have c4 := World.ownsRow.cellAt h (k * 5 + 4) (by omega)
  have e0 := n5_get f n k 0 hk (by omega)
  rw [Nat.add_zero] at e0
  rw [e0] at c0
  rw [n5_get f n k 1 hk (by omega)] at c1
  rw [n5_get f n k 2 hk (by omega)] at c2
  rw [n5_get f n k 3 hk (by omega)] at c3
  rw [n5_get f n k 4 hk (by omega)] at c4
  exact ⟨c0, c1, c2, c3, c4, fun j => World.ownsRow.frozenAt h j⟩
theorem ov_nml {W : World} {S g c n : Nat} {y : Nat → In} (h : W.ownsRow S 25 5 (.slice (some ⟨g, 0, none⟩) n c) n (n5 (ovr y n) n)) : Nml W (some ⟨g, 0, none⟩) (fun _ => one) n := by
  refine .inr ⟨g, 0, rfl, (row_lt h g rfl).2, fun j hj => ?_⟩
  obtain ⟨c0, c1, c2, c3, c4, _⟩ := n5_cells h j hj
  have e : ovr y n j = one := if_pos hj
  rw [e] at c0 c1 c2 c3 c4
  rw [Nat.zero_add]
  exact ⟨c0, c1, c2, c3, c4, .inl rfl, by show 0 * 8 ≤ _; omega⟩
/-- A program that was copied. -/
theorem cq_nml {W : World} {S Q ng : Nat} {v : Value} {n : Nat} {x y : Nat → In} (h : Cq W S Q ng v n x y) (hb : ∀ j, j < n → (x j).rn * 8 ≤ 140737488351232) (g c : Nat) (hv : v = .slice (some ⟨g, 0, none⟩) n c) : Nml W (some ⟨g, 0, none⟩) y n ∧ Same n x y := by
  subst hv
  refine ⟨.inr ⟨g, 0, rfl, (row_lt h.row g rfl).2, fun j hj => ?_⟩, fun j hj => ?_⟩
  · obtain ⟨c0, c1, c2, c3, c4, _⟩ := n5_cells h.row j hj
    obtain ⟨_, _, _, _, a4, _, a6, _⟩ := h.each j hj
    rw [Nat.zero_add]
    exact ⟨c0, c1, c2, c3, c4, a6, by rw [a4]; exact hb j hj⟩
  · obtain ⟨a0, a1, a2, a3, a4, a5, _⟩ := h.each j hj
    exact ⟨a0, a1, a2, a3, a4, a5⟩
end Go.Proofs.YtnpgkiidpeaapaaDoor
/- The law's own same. -/
namespace Go.Proofs.YtnpgkiidpeaapaaDoor
open Go.RowKit Go.Lib

set_option maxHeartbeats 1000000 in
theorem same_eq (g1 o1 g2 o2 n c1 c2 : Nat) (X : Nat → Int) (w : World) (hn : n ≤ maxLen)
    (h1 : ∀ j, j < n → w.cell? ⟨g1, o1 + j, none⟩ = some (.int .i64 (X j))) (h2 : ∀ j, j < n → w.cell? ⟨g2, o2 + j, none⟩ = some (.int .i64 (X j))) :
    Calls Tryd.prog 4 #[.slice (some ⟨g1, o1, none⟩) n c1, .slice (some ⟨g2, o2, none⟩) n c2] w fun e w' => e = .returned (.bool true) ∧ Below w.heap.size w w' := by
  unfold maxLen at hn
  have H1 : Hid (∀ j, j < n → w.cell? ⟨g1, o1 + j, none⟩ = some (.int .i64 (X j))) := h1
  have H2 : Hid (∀ j, j < n → w.cell? ⟨g2, o2 + j, none⟩ = some (.int .i64 (X j))) := h2
  clear h1 h2
  go_enter Tryd.func4, Tryd.ntmps4
  go_wp2
  go_loopw [13] (fun t w' => ∃ j : Nat, t = .int .i64 j ∧ j ≤ n ∧ Below w.heap.size w w') (fun t _ => n - (RowKit.intOf t).toNat)
  case atStart => exact ⟨0, rfl, by omega, Below.refl _ _⟩
  case round =>
    obtain ⟨j, rfl, hj, hbw⟩ := hrel
    by_cases hlt : j < n
    · have q1 := H1.out j hlt
      have q2 := H2.out j hlt
      have e1 : wr.cell? ⟨g1, o1 + j, none⟩ = some (.int .i64 (X j)) := by rw [hbw.cell (lt_of_cell q1)]; exact q1
      have e2 : wr.cell? ⟨g2, o2 + j, none⟩ = some (.int .i64 (X j)) := by rw [hbw.cell (lt_of_cell q2)]; exact q2
      clear q1 q2
      have hji : (j : Int) < n := by omega
      go_wp2
      go_quiet (fail)
      go_wp2
      exact ⟨⟨j + 1, by go_num, by omega, below_drewN hbw nq⟩, by simp [RowKit.intOf]; omega⟩
    · go_wp2
      go_ret
      exact ⟨rfl, hbw⟩
set_option maxHeartbeats 1000000 in
theorem same_none (a1 a2 : Option Addr) (c1 c2 : Nat) (w : World) :
    Calls Tryd.prog 4 #[.slice a1 0 c1, .slice a2 0 c2] w fun e w' => e = .returned (.bool true) ∧ Below w.heap.size w w' := by
  go_enter Tryd.func4, Tryd.ntmps4
  go_wp2
  go_loopw [13] (fun t w' => t = .int .i64 0 ∧ Below w.heap.size w w') (fun _ _ => 0)
  case atStart => exact ⟨rfl, Below.refl _ _⟩
  case round =>
    obtain ⟨rfl, hbw⟩ := hrel
    go_wp2
    go_ret
    exact ⟨rfl, hbw⟩

/-- Two slices that own the same cells are the same runes. -/
theorem same_owned (B1 B2 : Nat) (v1 v2 : Value) (xs : List Int) (w : World) (h1 : w.ownsRow B1 3 1 v1 xs.length (icells xs)) (h2 : w.ownsRow B2 3 1 v2 xs.length (icells xs)) (hn : xs.length ≤ maxLen) :
    Calls Tryd.prog 4 #[v1, v2] w fun e w' => e = .returned (.bool true) ∧ Below w.heap.size w w' := by
  rcases Nat.eq_zero_or_pos xs.length with h0 | hp
  · have e1 : ∃ a c, v1 = .slice a 0 c := by
      rcases h1.2 with ⟨rfl, _⟩ | ⟨g, cap, cur, rfl, _⟩
      · exact ⟨_, _, rfl⟩
      · exact ⟨_, _, by rw [h0]⟩
    have e2 : ∃ a c, v2 = .slice a 0 c := by
      rcases h2.2 with ⟨rfl, _⟩ | ⟨g, cap, cur, rfl, _⟩
      · exact ⟨_, _, rfl⟩
      · exact ⟨_, _, by rw [h0]⟩
    obtain ⟨a1, c1, rfl⟩ := e1
    obtain ⟨a2, c2, rfl⟩ := e2
    exact same_none a1 a2 c1 c2 w
  · have k1 := fun g => h1.cells (g := g)
    have k2 := fun g => h2.cells (g := g)
    rcases h1.2 with ⟨_, h⟩ | ⟨g1, cap1, cur1, rfl, _⟩
    · omega
    rcases h2.2 with ⟨_, h⟩ | ⟨g2, cap2, cur2, rfl, _⟩
    · omega
    have hx : ∀ j, j < xs.length → (icells xs)[j]? = some (.int .i64 (xs.getD j 0)) := by
      intro j hj
      simp [icells, List.getD, hj]
    refine same_eq g1 0 g2 0 xs.length cap1 cap2 (fun j => xs.getD j 0) w hn (fun j hj => ?_) (fun j hj => ?_)
    · have := k1 g1 rfl j _ (hx j hj)
      rw [Go.WideShapes.add_plain] at this
      exact this
    · have := k2 g2 rfl j _ (hx j hj)
      rw [Go.WideShapes.add_plain] at this
      exact this
end Go.Proofs.YtnpgkiidpeaapaaDoor
/- The walk of the law's own apart. -/
namespace Go.Proofs.YtnpgkiidpeaapaaDoor
open Go.RowKit Go.Lib

theorem inf31 : (Tryd.prog.info? 31).map (fun i => (i.zero, i.size, i.bytes)) = some (some (.slice none 0 0), 1, 24) := by kernel_rfl
theorem make4 (B : Nat) (W : World) (hB : B ≤ W.heap.size) : ∃ W', (Instr.makeSlice 52 (.int .i64 4) (.int .i64 4)).run Tryd.prog W = .ok (.slice (some ⟨W.heap.size, 0, none⟩) 4 4) W' ∧ W'.ownsRow B 31 1 (.slice (some ⟨W.heap.size, 0, none⟩) 4 4) 4 ((List.range 4).map fun _ => .slice none 0 0) ∧ W.grownBy W' none := by
  obtain ⟨i0, hi, hz0, hz1, hz2⟩ := info_parts inf31
  have := run_make_full (P := Tryd.prog) W B 52 31 i0 _ 1 Tryd.underlying52 hi hz0 hz1 .i64 .i64 4 (by rw [hz2]; omega) (by unfold maxLen; omega) hB
  have e : (madeCells (Value.slice none 0 0).cells (4 * 1)).toList = (List.range 4).map fun _ => Value.slice none 0 0 := toList_madeCells_one (.slice none 0 0) 4
  rw [e] at this
  exact this
theorem Chg.of_none {S : Nat → Prop} {W W' : World} (h : W.grownBy W' none) : Chg S W W' := (Chg.refl S W).then h (fun _ e => by cases e)
/-- From the first loop to the second. -/
theorem P1.next {B : Nat} {V : Nat → Value} {col : Nat → Nat} {X : Nat → List Int} {W W' : World} (h : P1 B V col X 4 W) (hg : W.grownBy W' none) (G : Nat → Value) : P2 B V (ext col W.heap.size 5) (fun i => (X i).length) G 0 W' := fun i hi => by
  have r := h i hi
  rw [if_pos hi] at r
  exact ⟨fun x => absurd x (by omega), fun _ => ((r.stay (k := 9) (by omega) (Chg.of_none hg)).ext r.1 (Nat.le_refl _))⟩

theorem make300 (W : World) : ∃ W', (Instr.makeSlice 31 (.int .i64 300) (.int .i64 300)).run Tryd.prog W = .ok (.slice (some ⟨W.heap.size, 0, none⟩) 300 300) W' ∧ W'.ownsRow W.heap.size 3 1 (.slice (some ⟨W.heap.size, 0, none⟩) 300 300) 300 (icells (List.replicate 300 0)) ∧ W.grownBy W' none := by
  obtain ⟨i0, hi, hz0, hz1, hz2⟩ := info_parts infI
  have := run_make_full (P := Tryd.prog) W W.heap.size 31 3 i0 _ 1 Tryd.underlying31 hi hz0 hz1 .i64 .i64 300 (by rw [hz2]; omega) (by unfold maxLen; omega) (Nat.le_refl _)
  have e : (madeCells (Value.int .i64 0).cells (300 * 1)).toList = icells (List.replicate 300 0) := by
    have e1 := toList_madeCells_one (.int .i64 0) 300
    have e2 : icells (List.replicate 300 0) = List.replicate 300 (Value.int .i64 0) := by unfold icells; rw [List.map_replicate]
    rw [e2]
    exact e1
  rw [e] at this
  exact this

theorem mk1_at (N : Nat → Nat) (i j : Nat) (h : j < N i) : (mk1 N i).getD j 0 = 1000 + (i : Int) := by
  simp [mk1, List.getD, h]
theorem mk2_lo (N : Nat → Nat) (i j : Nat) (h : j < N i) : (mk2 N i).getD j 0 = 1000 + (i : Int) := by
  unfold mk2
  simp only [List.getD]
  rw [List.getElem?_append_left (by rw [mk1_len]; exact h)]
  exact mk1_at N i j h
theorem mk2_hi (N : Nat → Nat) (i j : Nat) (h : N i ≤ j) (h2 : j < N i + 16) : (mk2 N i).getD j 0 = 200000 + (i : Int) := by
  unfold mk2
  simp only [List.getD]
  rw [List.getElem?_append_right (by rw [mk1_len]; exact h), mk1_len, List.getElem?_replicate, if_pos (by omega)]
  rfl
theorem mk3_lo (N : Nat → Nat) (i j : Nat) (h : j < N i + 16) : (mk3 N i).getD j 0 = (mk2 N i).getD j 0 := by
  unfold mk3
  simp only [List.getD]
  rw [List.getElem?_append_left (by rw [mk2_len]; exact h)]
theorem mk3_hi (N : Nat → Nat) (i j : Nat) (h : N i + 16 ≤ j) (h2 : j < N i + 316) : (mk3 N i).getD j 0 = 300000 + (i : Int) := by
  unfold mk3
  simp only [List.getD]
  rw [List.getElem?_append_right (by rw [mk2_len]; exact h), mk2_len, List.getElem?_replicate, if_pos (by omega)]
  rfl

set_option maxHeartbeats 8000000 in
set_option maxRecDepth 100000 in
theorem apart_any (B BL : Nat) (V : Nat → Value) (X : Nat → List Int) (col : Nat → Nat) (w : World) (hX : ∀ i, i < 4 → (X i).length ≤ 1048577) (h0 : St0 B BL V col w) (h1 : P1 B V col X 0 w) :
    Calls Tryd.prog 8 #[.slice (some ⟨BL, 0, none⟩) 4 4] w fun e w' => e = .returned (.bool true) ∧ Below B w w' := by
  have HX : Hid (∀ i, i < 4 → (X i).length ≤ 1048577) := hX
  have H0 : Hid (St0 B BL V col w) := h0
  have H1 : Hid (P1 B V col X 0 w) := h1
  clear hX h0 h1
  go_enter Tryd.func8, Tryd.ntmps8
  go_wp2_with fail
  go_loopw [22] (fun t W => ∃ p : Nat, t = .int .i64 (p : Int) ∧ p ≤ 4 ∧ Hid (St0 B BL V col W) ∧ Hid (P1 B V col X p W) ∧ Below B w W) (fun t _ => 4 - (RowKit.intOf t).toNat)
  case atStart => exact ⟨0, rfl, by omega, H0, H1, Below.refl _ _⟩
  case round =>
    obtain ⟨p, rfl, hp, hs, hq, hbw⟩ := hrel
    by_cases hlt : p < 4
    · have hown := hq.out p hlt
      rw [if_neg (by omega)] at hown
      have d0 := hs.out.cells p hlt
      have hpi : (p : Int) < 4 := by omega
      have hxl := HX.out p hlt
      rcases Nat.eq_zero_or_pos (X p).length with hz | hpos
      · obtain ⟨a, c, hv⟩ := hown.1.rd.len
        rw [hv, hz] at d0
        have HN : Hid (P1 B V col X (p + 1) wr) := hq.out.step (Chg.refl _ _) (by
          have e : mk1 (fun i => (X i).length) p = X p := by
            have hx : X p = [] := List.eq_nil_of_length_eq_zero hz
            unfold mk1
            simp only [hz]
            rw [hx]; rfl
          rw [e]
          exact hown)
        clear hown hv hz hxl
        go_wp2_with fail
        go_loopw [29] (fun t W => t = .int .i64 0 ∧ W = wr) (fun _ _ => 0)
        case atStart => exact ⟨rfl, rfl⟩
        case round =>
          obtain ⟨rfl, rfl⟩ := hrel
          go_wp2
          exact ⟨⟨p + 1, by go_num, by omega, hs, HN, hbw⟩, by simp [RowKit.intOf]; omega⟩
      · obtain ⟨g, c, hv, hg, _⟩ := hown.1.rd.at hpos
        rw [hv] at d0
        have HV : Hid (V p = .slice (some ⟨g, 0, none⟩) (X p).length c) := hv
        have HOW : Hid (OwnC B col p wr (.slice (some ⟨g, 0, none⟩) (X p).length c) (ov1 (1000 + (p : Int)) (X p) 0)) := by
          rw [hv] at hown
          rw [ov1_zero]
          exact hown
        have hgB : B ≤ g := by
          rw [hv] at hown
          exact (hown.1.blk g rfl).1
        have hcg : col g = p := by
          rw [hv] at hown
          exact hown.2 g rfl
        clear hown hv
        generalize hn : (X p).length = n at *
        have HL : Hid ((X p).length = n) := hn
        clear hn
        have hni : (n : Int) ≤ 1048577 := by omega
        go_wp2_with fail
        go_loopw [29] (fun t W => ∃ j : Nat, t = .int .i64 (j : Int) ∧ j ≤ n ∧ Hid (OwnC B col p W (.slice (some ⟨g, 0, none⟩) n c) (ov1 (1000 + (p : Int)) (X p) j)) ∧ Hid (Chg (fun b => col b = p) wr W)) (fun t _ => n - (RowKit.intOf t).toNat)
        case atStart => exact ⟨0, rfl, by omega, HOW, Chg.refl _ _⟩
        case round =>
          obtain ⟨j, rfl, hj, ho, hc⟩ := hrel
          have hlen : (ov1 (1000 + (p : Int)) (X p) j).length = n := by rw [ov1_len _ _ _ (by rw [HL.out]; exact hj), HL.out]
          have hrow := ho.out.1
          unfold Own at hrow
          rw [hlen] at hrow
          by_cases hjl : j < n
          · have hc0 := row_cell hrow j (by omega)
            have hf0 := hrow.frozenAt j
            have hst := hrow.stored j (.int .i64 (1000 + (p : Int)))
            rw [ov1_set _ _ _ (by rw [HL.out]; exact hjl)] at hst
            have hji : (j : Int) < n := by omega
            have HO2 := hst.1
            have HG2 := hst.2
            clear hst hrow
            generalize (ov1 (1000 + (p : Int)) (X p) j).getD j 0 = old at *
            go_wp2
            refine ⟨⟨j + 1, by go_num, by omega, ⟨?_, ho.out.2⟩, hc.out.then HG2 (fun g2 e _ => by cases e; exact hcg)⟩, by simp [RowKit.intOf]; omega⟩
            unfold Own
            rw [ov1_len _ _ _ (by rw [HL.out]; omega), HL.out]
            exact HO2
          · obtain rfl : j = n := by omega
            have hji : ¬ (j : Int) < j := by omega
            have hm := ho.out
            rw [← HV.out, ← HL.out, ov1_end] at hm
            have HN := hq.out.step hc.out hm
            have HS := hs.out.stay (by omega) hc.out
            have hB := hs.out.below (by omega) hc.out
            clear hrow hm
            go_wp2
            exact ⟨⟨p + 1, by go_num, by omega, HS, HN, hbw.trans hB⟩, by simp [RowKit.intOf]; omega⟩
    · obtain rfl : p = 4 := by omega
      obtain ⟨w2, r2, o2, g2⟩ := make4 B wr hs.out.size
      have HP2 : Hid (P2 B V (ext col wr.heap.size 5) (fun i => (X i).length) (fun _ => .slice none 0 0) 0 w2) := hq.out.next g2 _
      have HS2 : Hid (St0 B BL V (ext col wr.heap.size 5) w2) := (hs.out.stay (k := 9) (by omega) (Chg.of_none g2)).ext hs.out
      have HH2 : Hid (Hrow B (ext col wr.heap.size 5) wr.heap.size 5 w2 (fun i => if i < 0 then (fun _ => Value.slice none 0 0) i else .slice none 0 0)) := ⟨by simpa using o2, by unfold ext; rw [if_neg (by omega)]⟩
      have hb2 : Below B w w2 := hbw.trans (hs.out.below (k := 6) (by omega) (Chg.of_none g2))
      have HNX : Hid (∀ i, i < 4 → (fun i => (X i).length) i ≤ 1048577) := HX
      generalize ext col wr.heap.size 5 = col2 at *
      generalize wr.heap.size = H at *
      clear o2 g2 hs hq hbw H0 H1 HX
      generalize (fun i => (X i).length) = N at *
      go_wp2_with fail
      clear r2
      go_loopw [44] (fun t W => ∃ (p : Nat) (col : Nat → Nat) (G : Nat → Value), t = .int .i64 (p : Int) ∧ p ≤ 4 ∧ Hid (St0 B BL V col W) ∧ Hid (P2 B V col N G p W) ∧ Hid (Hrow B col H 5 W (fun i => if i < p then G i else .slice none 0 0)) ∧ Below B w W) (fun t _ => 4 - (RowKit.intOf t).toNat)
      case atStart => exact ⟨0, _, _, rfl, by omega, HS2, HP2, HH2, hb2⟩
      case round =>
        obtain ⟨p, c2, G, rfl, hp, hs, hq, hh, hbw⟩ := hrel
        clear HS2 HP2 HH2 hb2
        by_cases hlt : p < 4
        · have d0 := hs.out.cells p hlt
          have hpi : (p : Int) < 4 := by omega
          have hown := (hq.out p hlt).2 (by omega)
          have hNp := HNX.out p hlt
          have HW0 : Hid (Own B wr (V p) (mk1 N p ++ List.replicate 0 (200000 + (p : Int)))) := by
            show Own _ _ _ _
            rw [List.replicate_zero, List.append_nil]
            exact hown.1
          have HR0 : Hid (Rd wr (V p) (mk1 N p)) := hown.1.rd
          have HC0 : Hid (Cl c2 p (V p)) := hown.2
          clear hown
          go_wp2_with fail
          go_loopw [9, 50] (fun g t W => ∃ k : Nat, t = .int .i64 (k : Int) ∧ k ≤ 16 ∧ Hid (Own B W g (mk1 N p ++ List.replicate k (200000 + (p : Int)))) ∧ Hid (Rd W (V p) (mk1 N p)) ∧ Hid (Chg (fun b => c2 b = p) wr W) ∧ Hid (∀ b, g.ownBlock = some b → b < wr.heap.size → c2 b = p)) (fun _ t _ => 16 - (RowKit.intOf t).toNat)
          case atStart => exact ⟨0, rfl, by omega, HW0, HR0, Chg.refl _ _, fun b e _ => HC0.out b e⟩
          case round =>
            obtain ⟨k, rfl, hk, ho, hr, hc, hcl⟩ := hrel
            by_cases hkl : k < 16
            · obtain ⟨v3, w3, r3, o3, rd3, c3, l3⟩ := grow_one (m := 200000 + (p : Int)) hs.out.size (by rw [List.length_append, mk1_len, List.length_replicate]; omega) ho.out hr.out rfl hc.out hcl.out
              have HO3 : Hid (Own B w3 v3 (mk1 N p ++ List.replicate (k + 1) (200000 + (p : Int)))) := by
                show Own _ _ _ _
                rw [List.replicate_succ', ← List.append_assoc]
                exact o3
              have hki : (k : Int) < 16 := by omega
              clear o3
              go_wp2_with (at_builtin; refine wpList_append_run rfl (.tmp 52) (.tmp 55) 31 31 rfl _ _ rfl rfl r3 ?_)
              exact ⟨⟨k + 1, by go_num, by omega, HO3, rd3, c3, l3⟩, by simp [RowKit.intOf]; omega⟩
            · obtain rfl : k = 16 := by omega
              have hki : ¬ ((16 : Nat) : Int) < 16 := by omega
              obtain ⟨g, c, hv, _, _⟩ := ho.out.rd.at (by rw [List.length_append, List.length_replicate]; omega)
              have hH := hh.out.stay (k := p) (by omega) hc.out
              have hold := hH.cell p hlt
              rw [if_neg (by omega)] at hold
              have hfr := hH.1.frozenAt p
              have q2 := hq.out.step hlt hc.out ho.out hr.out hcl.out
              have hput := (hH.ext (k := p) hh.out (Nat.le_refl _)).put p hlt u9
              rw [upto_put] at hput
              have HP := q2.stay (k := 5) (by omega) hput.2
              have hsx := (hs.out.stay (k := p) (by omega) hc.out).ext (k := p) hs.out
              have HS := hsx.stay (k := 5) (by omega) hput.2
              have HB := (hbw.trans (hs.out.below (k := p) (by omega) hc.out)).trans (hsx.below (k := 5) (by omega) hput.2)
              have HH := hput.1
              have HHP : Hid _ := HP
              have HHS : Hid _ := HS
              have HHH : Hid _ := HH
              clear HP HS HH hput hsx q2 hH
              subst hv
              generalize (mk1 N p ++ List.replicate 16 (200000 + (p : Int))).length = n16 at *
              go_wp2
              exact ⟨⟨p + 1, _, _, by go_num, by omega, HHS, HHP, HHH, HB⟩, by simp [RowKit.intOf]; omega⟩
        · obtain rfl : p = 4 := by omega
          obtain ⟨w5, r5, o5, g5⟩ := make4 B wr hs.out.size
          have cg9 : Chg (fun b => c2 b = 9) wr w5 := Chg.of_none g5
          have HP3 : Hid (P3 B V (ext c2 wr.heap.size 6) N G (fun _ => .slice none 0 0) 0 w5) := hq.out.next g5 _
          have HS3 : Hid (St0 B BL V (ext c2 wr.heap.size 6) w5) := (hs.out.stay (k := 9) (by omega) cg9).ext hs.out
          have HH3 : Hid (Hrow B (ext c2 wr.heap.size 6) H 5 w5 (fun i => if i < 4 then G i else .slice none 0 0)) := (hh.out.stay (k := 9) (by omega) cg9).ext hh.out (Nat.le_refl _)
          have HM3 : Hid (Hrow B (ext c2 wr.heap.size 6) wr.heap.size 6 w5 (fun i => if i < 0 then (fun _ => Value.slice none 0 0) i else .slice none 0 0)) := ⟨by simpa using o5, by unfold ext; rw [if_neg (by omega)]⟩
          have hb3 : Below B w w5 := hbw.trans (hs.out.below (k := 6) (by omega) (Chg.of_none g5))
          generalize ext c2 wr.heap.size 6 = c3 at *
          generalize wr.heap.size = H2 at *
          clear o5 g5 cg9 hs hq hh hbw
          go_wp2_with fail
          clear r5
          go_loopw [68] (fun t W => ∃ (p : Nat) (col : Nat → Nat) (M : Nat → Value), t = .int .i64 (p : Int) ∧ p ≤ 4 ∧ Hid (St0 B BL V col W) ∧ Hid (P3 B V col N G M p W) ∧ Hid (Hrow B col H 5 W (fun i => if i < 4 then G i else .slice none 0 0)) ∧ Hid (Hrow B col H2 6 W (fun i => if i < p then M i else .slice none 0 0)) ∧ Below B w W) (fun t _ => 4 - (RowKit.intOf t).toNat)
          case atStart => exact ⟨0, _, _, rfl, by omega, HS3, HP3, HH3, HM3, hb3⟩
          case round =>
            obtain ⟨p, c4, M, rfl, hp, hs, hq, hh, hm, hbw⟩ := hrel
            clear HS3 HP3 HH3 HM3 hb3
            by_cases hlt : p < 4
            · have d0 := hh.out.cell p hlt
              rw [if_pos hlt] at d0
              have hpi : (p : Int) < 4 := by omega
              obtain ⟨rV, _, rG⟩ := hq.out p hlt
              have rG' := rG (by omega)
              have hNp := HNX.out p hlt
              obtain ⟨w6, r6, o6, g6⟩ := make300 wr
              have HO6 : Hid (w6.ownsRow wr.heap.size 3 1 (.slice (some ⟨wr.heap.size, 0, none⟩) 300 300) 300 (icells (ov1 (300000 + (p : Int)) (List.replicate 300 0) 0))) := by
                rw [ov1_zero]
                exact o6
              have HC6 : Hid (Chg (fun _ => False) wr w6) := Chg.of_none g6
              have HRV : Hid (Rd wr (V p) (mk1 N p)) := rV.1
              have HOG : Hid (OwnC B c4 p wr (G p) (mk2 N p)) := rG'
              clear rV rG rG' o6 g6
              obtain ⟨gg, cg, hgv, _⟩ := HOG.out.1.rd.at (by rw [mk2_len]; omega)
              have HGV : Hid (G p = .slice (some ⟨gg, 0, none⟩) (mk2 N p).length cg) := hgv
              clear hgv
              go_wp2_with fail
              clear r6
              go_loopw [76] (fun t W => ∃ j : Nat, t = .int .i64 (j : Int) ∧ j ≤ 300 ∧ Hid (W.ownsRow wr.heap.size 3 1 (.slice (some ⟨wr.heap.size, 0, none⟩) 300 300) 300 (icells (ov1 (300000 + (p : Int)) (List.replicate 300 0) j))) ∧ Hid (Chg (fun _ => False) wr W)) (fun t _ => 300 - (RowKit.intOf t).toNat)
              case atStart => exact ⟨0, rfl, by omega, HO6, HC6⟩
              case round =>
                obtain ⟨j, rfl, hj, ho, hc⟩ := hrel
                by_cases hjl : j < 300
                · have hc0 := row_cell ho.out j (by rw [ov1_len _ _ _ (by rw [List.length_replicate]; exact hj), List.length_replicate]; exact hjl)
                  have hf0 := ho.out.frozenAt j
                  have hst := ho.out.stored j (.int .i64 (300000 + (p : Int)))
                  rw [ov1_set _ _ _ (by rw [List.length_replicate]; exact hjl)] at hst
                  have hji : (j : Int) < 300 := by omega
                  have HO2 := hst.1
                  have HG2 := hc.out.then hst.2 (fun g e hl => by cases e; omega)
                  clear hst
                  generalize (ov1 (300000 + (p : Int)) (List.replicate 300 0) j).getD j 0 = old at *
                  go_wp2
                  exact ⟨⟨j + 1, by go_num, by omega, HO2, HG2⟩, by simp [RowKit.intOf]; omega⟩
                · obtain rfl : j = 300 := by omega
                  have hji : ¬ ((300 : Nat) : Int) < 300 := by omega
                  have hrow := ho.out
                  have he : ov1 (300000 + (p : Int)) (List.replicate 300 0) 300 = List.replicate 300 (300000 + (p : Int)) := by
                    have := ov1_end (300000 + (p : Int)) (List.replicate 300 0)
                    rw [List.length_replicate] at this
                    exact this
                  rw [he] at hrow
                  have hOG := row_stay HOG.out.1 (fun _ _ => id) hc.out
                  obtain ⟨v7, w7, r7, o7, rd1, rd2, c7, cl7⟩ := grow_many (col := c4) (p := p) (ys := List.replicate 300 (300000 + (p : Int))) (c := 300) hs.out.size (by rw [mk2_len, List.length_replicate]; omega) hOG (fun j hj => row_cell hrow j hj) (by rw [List.length_replicate]; omega)
                    (HRV.out.stay0 hc.out) (t1 := List.replicate 16 (200000 + (p : Int))) rfl (HOG.out.1.rd.stay0 hc.out) (t2 := []) (List.append_nil _).symm hc.out.weak (fun g e _ => HOG.out.2 g e)
                  rw [List.length_replicate] at r7
                  obtain ⟨g, c, hv, _, _⟩ := o7.rd.at (by rw [List.length_append, List.length_replicate]; omega)
                  have hmH := hm.out.stay (k := p) (by omega) c7
                  have hold := hmH.cell p hlt
                  rw [if_neg (by omega)] at hold
                  have hfr := hmH.1.frozenAt p
                  have q3 := hq.out.step hlt c7 o7 rd1 rd2 cl7
                  have hput := (hmH.ext (k := p) hm.out (Nat.le_refl _)).put p hlt v7
                  rw [upto_put] at hput
                  have hsx := (hs.out.stay (k := p) (by omega) c7).ext (k := p) hs.out
                  have HHP : Hid _ := q3.stay (k := 6) (by omega) hput.2
                  have HHS : Hid _ := hsx.stay (k := 6) (by omega) hput.2
                  have HB := (hbw.trans (hs.out.below (k := p) (by omega) c7)).trans (hsx.below (k := 6) (by omega) hput.2)
                  have HHM : Hid _ := hput.1
                  have HHH : Hid _ := ((hh.out.stay (k := p) (by omega) c7).ext (k := p) hh.out (Nat.le_refl _)).stay (k := 6) (by omega) hput.2
                  clear hput hsx q3 hmH rd1 rd2 o7 hOG hrow he
                  subst hv
                  generalize (mk2 N p ++ List.replicate 300 (300000 + (p : Int))).length = n316 at *
                  go_wp2_with (at_builtin; refine wpList_append_run rfl (.tmp 87) (.tmp 88) 31 31 rfl _ _ rfl rfl r7 ?_)
                  exact ⟨⟨p + 1, _, _, by go_num, by omega, HHS, HHP, HHH, HHM, HB⟩, by simp [RowKit.intOf]; omega⟩
            · obtain rfl : p = 4 := by omega
              have HC : Hid (∀ i, i < 4 → wr.cell? ⟨BL, i, none⟩ = some (V i) ∧ wr.cell? ⟨H, i, none⟩ = some (G i) ∧ wr.cell? ⟨H2, i, none⟩ = some (M i)) := fun i hi => ⟨hs.out.cells i hi, by have := hh.out.cell i hi; rw [if_pos hi] at this; exact this, by have := hm.out.cell i hi; rw [if_pos hi] at this; exact this⟩
              have HR : Hid (∀ i, i < 4 → Rd wr (V i) (mk1 N i) ∧ Rd wr (G i) (mk2 N i) ∧ Rd wr (M i) (mk3 N i)) := fun i hi => ⟨(hq.out i hi).1.1, ((hq.out i hi).2.1 hi).1.1, ((hq.out i hi).2.1 hi).2.1.rd⟩
              clear hs hq hh hm
              go_wp2_with fail
              go_loopw [94] (fun t W => ∃ p : Nat, t = .int .i64 (p : Int) ∧ p ≤ 4 ∧ W = wr) (fun t _ => 4 - (RowKit.intOf t).toNat)
              case atStart => exact ⟨0, rfl, by omega, rfl⟩
              case round =>
                obtain ⟨p, rfl, hp, rfl⟩ := hrel
                by_cases hlt : p < 4
                · obtain ⟨d0, d1, d2⟩ := HC.out p hlt
                  obtain ⟨rV, rG, rM⟩ := HR.out p hlt
                  have hpi : (p : Int) < 4 := by omega
                  have hNp := HNX.out p hlt
                  obtain ⟨a, cv, hv⟩ := rV.len
                  obtain ⟨gg, cg, hgv, _, xg⟩ := rG.at (by rw [mk2_len]; omega)
                  obtain ⟨gm, cm, hmv, _, xm⟩ := rM.at (by rw [mk3_len]; omega)
                  rw [hv, mk1_len] at d0
                  rw [hgv, mk2_len] at d1
                  rw [hmv, mk3_len] at d2
                  have HV : Hid (V p = .slice a (N p) cv) := by rw [mk1_len] at hv; exact hv
                  have HXG : Hid (∀ j, j < N p + 16 → _ = some (Value.int .i64 ((mk2 N p).getD j 0))) := fun j hj => xg j (by rw [mk2_len]; exact hj)
                  have HXM : Hid (∀ j, j < N p + 316 → _ = some (Value.int .i64 ((mk3 N p).getD j 0))) := fun j hj => xm j (by rw [mk3_len]; exact hj)
                  have HRV : Hid (Rd _ (V p) (mk1 N p)) := rV
                  have hNi : (N p : Int) ≤ 1048577 := by omega
                  clear hv hgv hmv xg xm rV rG rM
                  go_wp2_with fail
                  go_loopw [104] (fun t W => ∃ j : Nat, t = .int .i64 (j : Int) ∧ j ≤ N p + 316 ∧ W = wr) (fun t _ => N p + 316 - (RowKit.intOf t).toNat)
                  case atStart => exact ⟨0, rfl, by omega, rfl⟩
                  case round =>
                    obtain ⟨j, rfl, hj, rfl⟩ := hrel
                    by_cases hjl : j < N p + 316
                    · have em := HXM.out j hjl
                      have hji : (j : Int) < (N p : Int) + 316 := by omega
                      by_cases h1 : j < N p
                      · obtain ⟨gv, cv2, hv2, _, xv⟩ := HRV.out.at (by rw [mk1_len]; omega)
                        have ev := xv j (by rw [mk1_len]; exact h1)
                        have eg := HXG.out j (by omega)
                        rw [HV.out, mk1_len] at hv2
                        simp only [Value.slice.injEq, true_and] at hv2
                        obtain ⟨rfl, rfl⟩ := hv2
                        rw [mk3_lo N p j (by omega), mk2_lo N p j h1] at em
                        rw [mk2_lo N p j h1] at eg
                        rw [mk1_at N p j h1] at ev
                        have i1 : (j : Int) < N p := by omega
                        have i2 : (j : Int) < (N p : Int) + 16 := by omega
                        clear xv
                        go_wp2
                        exact ⟨⟨j + 1, by go_num, by omega, trivial⟩, by simp [RowKit.intOf]; omega⟩
                      · have i1 : ¬ (j : Int) < N p := by omega
                        by_cases h2 : j < N p + 16
                        · have eg := HXG.out j h2
                          rw [mk3_lo N p j h2, mk2_hi N p j (by omega) h2] at em
                          rw [mk2_hi N p j (by omega) h2] at eg
                          have i2 : (j : Int) < (N p : Int) + 16 := by omega
                          go_wp2
                          exact ⟨⟨j + 1, by go_num, by omega, trivial⟩, by simp [RowKit.intOf]; omega⟩
                        · rw [mk3_hi N p j (by omega) hjl] at em
                          have i2 : ¬ (j : Int) < (N p : Int) + 16 := by omega
                          go_wp2
                          exact ⟨⟨j + 1, by go_num, by omega, trivial⟩, by simp [RowKit.intOf]; omega⟩
                    · have hji : ¬ (j : Int) < (N p : Int) + 316 := by omega
                      go_wp2
                      exact ⟨⟨p + 1, by go_num, by omega, trivial⟩, by simp [RowKit.intOf]; omega⟩
                · have hpi : ¬ (p : Int) < 4 := by omega
                  go_wp2
                  go_ret
                  exact ⟨rfl, hbw⟩
end Go.Proofs.YtnpgkiidpeaapaaDoor
/- copied: the walk. -/
namespace Go.Proofs.YtnpgkiidpeaapaaDoor
open Go.RowKit

theorem four {w : World} {g t : Nat} {a0 a1 a2 a3 : Value} (h : w.heap[g]? = some (.cells #[a0, a1, a2, a3] t)) :
    (w.cell? ⟨g, 0, none⟩ = some a0 ∧ w.cell? ⟨g, 1, none⟩ = some a1 ∧ w.cell? ⟨g, 2, none⟩ = some a2 ∧ w.cell? ⟨g, 3, none⟩ = some a3) ∧ ∀ j, w.frozen? ⟨g, j, none⟩ = false :=
  ⟨⟨cell_of_row _ _ _ _ _ _ h, cell_of_row _ _ _ _ _ _ h, cell_of_row _ _ _ _ _ _ h, cell_of_row _ _ _ _ _ _ h⟩, fun _ => frozen_of_row _ _ _ _ _ h⟩
theorem set4 {w : World} {g t : Nat} {a0 a1 a2 a3 : Value} (v0 v1 v2 v3 : Value) (h : w.heap[g]? = some (.cells #[a0, a1, a2, a3] t)) :
    ((((w.setCell ⟨g, 0, none⟩ v0).setCell ⟨g, 1, none⟩ v1).setCell ⟨g, 2, none⟩ v2).setCell ⟨g, 3, none⟩ v3).heap[g]? = some (.cells #[v0, v1, v2, v3] t) :=
  heap_setCell_same _ _ _ _ _ _ (heap_setCell_same _ _ _ _ _ _ (heap_setCell_same _ _ _ _ _ _ (heap_setCell_same _ _ _ _ _ _ h)))
theorem four_kp {M : Nat → Prop} (w : World) (g : Nat) (v0 v1 v2 v3 : Value) (h : M g) : Kp M w ((((w.setCell ⟨g, 0, none⟩ v0).setCell ⟨g, 1, none⟩ v1).setCell ⟨g, 2, none⟩ v2).setCell ⟨g, 3, none⟩ v3) :=
  ((((Kp.refl M w).setCell (p := ⟨g, 0, none⟩) h _).setCell (p := ⟨g, 1, none⟩) h _).setCell (p := ⟨g, 2, none⟩) h _).setCell (p := ⟨g, 3, none⟩) h _
theorem step_append_at {P : Program} {ops : Array Oper} {o : Oper} {a : Act} {w w' : World} {v' : Value} {K : Act → World → Prop} {Q : Exit → Act → World → Prop} {E : Prop} (w0 : World) (e : w = w0) (hgd : o.guard = none) (s x : Operand) (t tx : TypeId)
    (ho : o.op = .call { callee := .builtin .append, args := #[s, x], argTypes := #[t, tx] }) (vs vx : Value) (hs : a.eval s = vs) (hx : a.eval x = vx)
    (hr : (Builtin.append_ #[t, tx] o.type #[vs, vx]).run P w0 = .ok v' w') (h : K (a.put o.dst v') w') : if Region.wanted o (yielded ops a.tmps) = true then Oper.wp P o a w K Q else E := by
  subst e
  exact step_append_run hgd s x t tx ho vs vx hs hx hr h
abbrev z29 : Array Value := #[.slice none 0 0, .int .i64 0, .int .i64 0, .slice none 0 0]
/-- Behind the first statement: the copy, empty, with its names. -/
structure C0 (w W : World) (bv : Value) (Q ng nc' : Nat) (v : Value) (st gr : Int) (nn : Nat) (s : Nat → ByteArray) : Prop where
  blk : W.heap[Q]? = some (.cells #[v, .int .i64 st, .int .i64 gr, .slice (some ⟨ng, 0, none⟩) nn nc'] 29)
  nam : Sml W (some ⟨ng, 0, none⟩) s nn
  res : W.heap[w.heap.size + 1]? = some (.cells z29 29)
  bel : Below w.heap.size w W
  bx : W.cell? ⟨w.heap.size, 0, none⟩ = some bv
  lQ : w.heap.size + 2 ≤ Q
  lg : w.heap.size + 2 ≤ ng
  hg : ng < W.heap.size
  ne : Q ≠ ng
theorem inf29 : (Tryd.prog.info? 29).map (·.size) = some 4 := by kernel_rfl
theorem C0.lt {w W : World} {bv : Value} {Q ng nc' : Nat} {v : Value} {st gr : Int} {nn : Nat} {s : Nat → ByteArray} (h : C0 w W bv Q ng nc' v st gr nn s) : Q < W.heap.size := (Array.getElem?_eq_some_iff.1 h.blk).1
theorem C0.kp {M : Nat → Prop} {w W W' : World} {bv : Value} {Q ng nc' : Nat} {v : Value} {st gr : Int} {nn : Nat} {s : Nat → ByteArray} (h : C0 w W bv Q ng nc' v st gr nn s) (k : Kp M W W') (h1 : ¬ M Q) (h2 : ¬ M ng) (h3 : ∀ q, q < w.heap.size + 2 → ¬ M q) : C0 w W' bv Q ng nc' v st gr nn s := by
  have hs := h.bel.size
  have hl := h.lt
  have hlQ := h.lQ
  exact ⟨(k.block Q hl h1).trans h.blk, h.nam.kp k (fun g o e => by cases e; exact h2), (k.block (w.heap.size + 1) (by omega) (h3 (w.heap.size + 1) (by omega))).trans h.res, h.bel.trans (k.below hs (fun q hq => h3 q (by omega))), k.cell h.bx (h3 w.heap.size (by omega)), h.lQ, h.lg, Nat.lt_of_lt_of_le h.hg k.size, h.ne⟩
/-- The three orders of the first statement. -/
theorem order_fin (w W V : World) (Q nn nc' ng : Nat) (st gr : Int) (s : Nat → ByteArray) (hQ : V.heap[Q]? = some (.cells #[.slice none 0 0, .int .i64 st, .int .i64 gr, .slice (some ⟨ng, 0, none⟩) nn nc'] 29)) (hN : Sml V (some ⟨ng, 0, none⟩) s nn) {bv : Value} (hbx : W.cell? ⟨w.heap.size, 0, none⟩ = some bv) (hres : W.heap[w.heap.size + 1]? = some (.cells z29 29)) (hW : W.heap.size = w.heap.size + 2) (bW : Below w.heap.size w W) (kk : Kp (fun q => w.heap.size + 2 ≤ q) W V) (l1 : w.heap.size + 2 ≤ Q) (l2 : w.heap.size + 2 ≤ ng) (l3 : ng < V.heap.size) (ne : Q ≠ ng) : C0 w V bv Q ng nc' (.slice none 0 0) st gr nn s :=
  ⟨hQ, hN, (kk.block _ (by omega) (by omega)).trans hres, bW.trans (kk.below (by omega) (fun q hq => by omega)), kk.cell hbx (by show ¬ w.heap.size + 2 ≤ w.heap.size; omega), l1, l2, l3, ne⟩

set_option maxHeartbeats 2000000 in
set_option maxRecDepth 100000 in
theorem copied_any (ia : Option Addr) (n ic : Nat) (st gr : Int) (na : Option Addr) (nn nc : Nat) (x : Nat → In) (s : Nat → ByteArray) (w : World) (hI : Nml w ia x n) (hN : Sml w na s nn) (hna : na = none → nn = 0 ∧ nc = 0) (hra : ∀ j, j < n → (x j).ra = none → (x j).rn = 0 ∧ (x j).rc = 0) (hn : n * 56 ≤ 140737488351232) (hnn : nn * 16 ≤ 140737488351232) :
    Calls Tryd.prog 6 #[prV ia n ic st gr na nn nc] w fun e w' => ∃ Q ng nc' v y, e = .returned (.agg #[v, .int .i64 st, .int .i64 gr, .slice (some ⟨ng, 0, none⟩) nn nc']) ∧ Cq w' w.heap.size Q ng v n x y ∧ Sml w' (some ⟨ng, 0, none⟩) s nn ∧ Below w.heap.size w w' ∧ w.heap.size ≤ ng := by
  obtain ⟨W, hW⟩ : ∃ W, W = (w.alloc (prX ia n ic st gr na nn nc)).alloc (.cells z29 29) := ⟨_, rfl⟩
  have hWs : W.heap.size = w.heap.size + 2 := by rw [hW]; simp
  have bW : Below w.heap.size w W := by rw [hW]; exact ((Below.refl _ w).alloc (Nat.le_refl _) _).alloc (by simp) _
  obtain ⟨p0, p1, p2, p3⟩ := prX_cells (w := w) (W := W) ia n ic st gr na nn nc (by rw [hW]; exact (Below.refl _ _).alloc (Nat.le_refl _) _)
  have hres : W.heap[w.heap.size + 1]? = some (.cells z29 29) := by rw [hW]; exact heap_alloc2_new w _ _
  have HW : Hid (W = (w.alloc (.cells #[.slice ia n ic, .int .i64 st, .int .i64 gr, .slice na nn nc] 29)).alloc (.cells z29 29)) := hW
  have hNW : Sml W na s nn := hN.below bW
  have go_app : ∀ V b, Kp (fun q => w.heap.size + 2 ≤ q) W V → V.ownsRow (w.heap.size + 2) 9 1 (.slice (some ⟨b, 0, none⟩) 0 0) 0 [] → w.heap.size + 2 ≤ V.heap.size → ∃ g cap V', (Builtin.append_ #[27, 27] 27 #[.slice (some ⟨b, 0, none⟩) 0 0, .slice na nn nc]).run Tryd.prog V = .ok (.slice (some ⟨g, 0, none⟩) nn cap) V' ∧ Sml V' (some ⟨g, 0, none⟩) s nn ∧ Kp (· = b) V V' ∧ (g = b ∨ V.heap.size ≤ g) ∧ g < V'.heap.size := fun V b kk o0 hS => by
    have hl2 : ∀ g o, na = some ⟨g, o, none⟩ → 0 < nn → g < w.heap.size := fun g o e h0 => by
      obtain ⟨g', o', e', hg', _⟩ := hN.at 0 h0
      rw [e] at e'
      cases e'
      exact hg'
    have hNV : Sml V na s nn := by
      rcases hNW with h0 | ⟨g, o, e, hg, hc⟩
      · exact .inl h0
      · by_cases h0 : nn = 0
        · exact .inl h0
        · have := hl2 g o e (by omega)
          exact .inr ⟨g, o, e, Nat.lt_of_lt_of_le hg kk.size, fun j hj => kk.cell (hc j hj) (by show ¬ w.heap.size + 2 ≤ g; omega)⟩
    obtain ⟨g, cap, V', r, o', k', hg, hl⟩ := fresh_app V (w.heap.size + 2) b 27 9 _ 1 16 Tryd.underlying27 infS rfl (by decide) o0 hS na nn nc (sc (sS s) nn) hna (by rw [sc_len, Nat.mul_one]) (fun p e => by subst e; exact hNV.cells) (sS_one s nn) (by unfold maxLen; omega) (by omega)
    exact ⟨g, cap, V', r, Sml.of_row o' hl, k', hg, hl⟩
  -- the worlds of the three orders
  have kr : Kp (fun q => w.heap.size + 2 ≤ q) W W.drew := (Kp.refl _ W).drew
  obtain ⟨gA, cA, VA, rA, sA, kA, hA, lA⟩ := go_app (W.alloc (.cells #[] 9)).drew W.heap.size ((Kp.refl _ W).alloc _).drew (fresh_o0 W.drew (w.heap.size + 2) 9 1 (by show _ ≤ W.heap.size; omega)) (by simp; omega)
  obtain ⟨gB, cB, VB, rB, sB, kB, hB, lB⟩ := go_app ((W.alloc (.cells #[] 9)).alloc (.cells z29 29)).drew W.heap.size (((Kp.refl _ W).alloc _).alloc _).drew (World.ownsRow.alloc (fresh_o0 W.drew (w.heap.size + 2) 9 1 (by show _ ≤ W.heap.size; omega)) _) (by simp; omega)
  obtain ⟨gC, cC, VC, rC, sC, kC, hC, lC⟩ := go_app ((W.alloc (.cells z29 29)).alloc (.cells #[] 9)).drew (W.heap.size + 1) (((Kp.refl _ W).alloc _).alloc _).drew (by
    have := fresh_o0 (W.alloc (.cells z29 29)).drew (w.heap.size + 2) 9 1 (by simp; omega)
    rw [show (W.alloc (.cells z29 29)).drew.heap.size = W.heap.size + 1 by simp] at this
    exact this) (by simp; omega)
  have wl : ∀ j u, W.cell? ⟨w.heap.size, j, none⟩ = some u → VA.cell? ⟨w.heap.size, j, none⟩ = some u ∧ VB.cell? ⟨w.heap.size, j, none⟩ = some u ∧ VC.cell? ⟨w.heap.size, j, none⟩ = some u := fun j u h =>
    ⟨kA.cell (cell_al _ h : (W.alloc (.cells #[] 9)).drew.cell? _ = _) (by show ¬ w.heap.size = W.heap.size; omega),
     kB.cell (cell_al _ (cell_al _ h) : ((W.alloc (.cells #[] 9)).alloc (.cells z29 29)).drew.cell? _ = _) (by show ¬ w.heap.size = W.heap.size; omega),
     kC.cell (cell_al _ (cell_al _ h) : ((W.alloc (.cells z29 29)).alloc (.cells #[] 9)).drew.cell? _ = _) (by show ¬ w.heap.size = W.heap.size + 1; omega)⟩
  obtain ⟨xA1, xB1, xC1⟩ := wl 1 _ p1
  obtain ⟨xA2, xB2, xC2⟩ := wl 2 _ p2
  obtain ⟨xA3, xB3, xC3⟩ := wl 3 _ p3
  have qB : VB.heap[W.heap.size + 1]? = some (.cells z29 29) := by
    rw [kB.block (W.heap.size + 1) (by simp) (by show ¬ W.heap.size + 1 = W.heap.size; omega)]
    exact heap_alloc2_new W _ _
  have qC : VC.heap[W.heap.size]? = some (.cells z29 29) := by
    rw [kC.block W.heap.size (by simp; omega) (by show ¬ W.heap.size = W.heap.size + 1; omega)]
    exact heap_alloc2_old W _ _
  have KA : Kp (fun q => w.heap.size + 2 ≤ q) W VA := (((Kp.refl _ W).alloc _).drew).trans (kA.mono (fun q _ (e : q = W.heap.size) => by omega))
  have KB : Kp (fun q => w.heap.size + 2 ≤ q) W VB := ((((Kp.refl _ W).alloc _).alloc _).drew).trans (kB.mono (fun q _ (e : q = W.heap.size) => by omega))
  have KC : Kp (fun q => w.heap.size + 2 ≤ q) W VC := ((((Kp.refl _ W).alloc _).alloc _).drew).trans (kC.mono (fun q _ (e : q = W.heap.size + 1) => by omega))
  have zA := kA.size
  have zB := kB.size
  have zC := kC.size
  simp at zA zB zC hA hB hC
  have OA : Hid (C0 w (VA.alloc (.cells #[.slice none 0 0, .int .i64 st, .int .i64 gr, (.slice (some ⟨gA, 0, none⟩) nn cA)] 29)) (.slice ia n ic) VA.heap.size gA cA (.slice none 0 0) st gr nn s) :=
    order_fin w W _ _ _ _ _ _ _ _ (heap_alloc_new _ _) (sA.kp (Kp.alloc (Kp.refl (fun _ => False) VA) _) (fun _ _ _ => id)) p0 hres hWs bW (KA.alloc _) (by omega) (by omega) (by simp; omega) (by omega)
  have OB : Hid (C0 w ((((VB.setCell ⟨W.heap.size + 1, 0, none⟩ (.slice none 0 0)).setCell ⟨W.heap.size + 1, 1, none⟩ (.int .i64 st)).setCell ⟨W.heap.size + 1, 2, none⟩ (.int .i64 gr)).setCell ⟨W.heap.size + 1, 3, none⟩ (.slice (some ⟨gB, 0, none⟩) nn cB)) (.slice ia n ic) (W.heap.size + 1) gB cB (.slice none 0 0) st gr nn s) := by
    have kf := four_kp (M := (· = W.heap.size + 1)) VB (W.heap.size + 1) (.slice none 0 0) (.int .i64 st) (.int .i64 gr) (.slice (some ⟨gB, 0, none⟩) nn cB) rfl
    exact order_fin w W _ _ _ _ _ _ _ _ (set4 _ _ _ _ qB) (sB.kp kf (fun g o e => by cases e; omega)) p0 hres hWs bW (KB.trans (kf.mono (fun q _ (e : q = W.heap.size + 1) => by omega))) (by omega) (by omega) (by have := kf.size; omega) (by omega)
  have OC : Hid (C0 w ((((VC.setCell ⟨W.heap.size, 0, none⟩ (.slice none 0 0)).setCell ⟨W.heap.size, 1, none⟩ (.int .i64 st)).setCell ⟨W.heap.size, 2, none⟩ (.int .i64 gr)).setCell ⟨W.heap.size, 3, none⟩ (.slice (some ⟨gC, 0, none⟩) nn cC)) (.slice ia n ic) W.heap.size gC cC (.slice none 0 0) st gr nn s) := by
    have kf := four_kp (M := (· = W.heap.size)) VC W.heap.size (.slice none 0 0) (.int .i64 st) (.int .i64 gr) (.slice (some ⟨gC, 0, none⟩) nn cC) rfl
    exact order_fin w W _ _ _ _ _ _ _ _ (set4 _ _ _ _ qC) (sC.kp kf (fun g o e => by cases e; omega)) p0 hres hWs bW (KC.trans (kf.mono (fun q _ (e : q = W.heap.size) => by omega))) (by omega) (by omega) (by have := kf.size; omega) (by omega)
  obtain ⟨⟨b0, b1, b2, b3⟩, bf⟩ := four qB
  obtain ⟨⟨c0, c1, c2, c3⟩, cf⟩ := four qC
  have bf0 := bf 0
  have bf1 := bf 1
  have bf2 := bf 2
  have bf3 := bf 3
  have cf0 := cf 0
  have cf1 := cf 1
  have cf2 := cf 2
  have cf3 := cf 3
  have HI : Hid (Nml w ia x n) := hI
  have HRA : Hid (∀ j, j < n → (x j).ra = none → (x j).rn = 0 ∧ (x j).rc = 0) := hra
  have y1 := World.new_ne VA _ xA1
  have y2 := World.new_ne W _ p1
  have HWS : Hid (W.heap.size = w.heap.size + 2) := hWs
  have ne1 : ¬ W.heap.size + 1 = w.heap.size := by omega
  have ne2 : ¬ w.heap.size = W.heap.size + 1 := by omega
  have ne3 : ¬ W.heap.size = w.heap.size := by omega
  have ne4 : ¬ w.heap.size = W.heap.size := by omega
  clear go_app hI hN hNW hra hna bf cf wl kA kB kC KA KB KC sA sB sC hA hB hC lA lB lC qB qC hW hWs zA zB zC kr
  go_enter Tryd.func6, Tryd.ntmps6
  go_upto_region 1 with fail
  rw [← HW.out]
  go_cut [3] (fun s3 wx => ∃ Q ng nc', s3 = .pointer (some ⟨Q, 0, none⟩) ∧ Hid (C0 w wx (.slice ia n ic) Q ng nc' (.slice none 0 0) st gr nn s))
  case first =>
    go_region_held3 (fun w' => w'.cell? ⟨w.heap.size, 1, none⟩ = some (.int .i64 st) ∧ w'.cell? ⟨w.heap.size, 2, none⟩ = some (.int .i64 gr) ∧ w'.cell? ⟨w.heap.size, 3, none⟩ = some (.slice na nn nc)) (first | go_keep | exact ⟨xA1, xA2, xA3⟩ | exact ⟨xB1, xB2, xB3⟩ | exact ⟨xC1, xC2, xC3⟩) ((first | (refine step_append_at ((W.alloc (.cells #[] 9)).drew) (by with_reducible rfl) rfl (.tmp 10) (.tmp 12) 27 27 rfl (.slice (some ⟨W.heap.size, 0, none⟩) 0 0) (.slice na nn nc) rfl rfl rA ?_) | (refine step_append_at (((W.alloc (.cells #[] 9)).alloc (.cells #[.slice none 0 0, .int .i64 0, .int .i64 0, .slice none 0 0] 29)).drew) (by with_reducible rfl) rfl (.tmp 10) (.tmp 12) 27 27 rfl (.slice (some ⟨W.heap.size, 0, none⟩) 0 0) (.slice na nn nc) rfl rfl rB ?_) | (refine step_append_at (((W.alloc (.cells #[.slice none 0 0, .int .i64 0, .int .i64 0, .slice none 0 0] 29)).alloc (.cells #[] 9)).drew) (by with_reducible rfl) rfl (.tmp 10) (.tmp 12) 27 27 rfl (.slice (some ⟨W.heap.size + 1, 0, none⟩) 0 0) (.slice na nn nc) rfl rfl rC ?_)))
    · go_wp2
      go_meet
      exact ⟨_, _, _, rfl, OA⟩
    · go_wp2
      go_meet
      exact ⟨_, _, _, rfl, OB⟩
    · go_wp2
      go_meet
      exact ⟨_, _, _, rfl, OC⟩
  case rest =>
    obtain ⟨Q, ng, nc', rfl, hC⟩ := hcut
    clear OA OB OC rA rB rC xA1 xA2 xA3 xB1 xB2 xB3 xC1 xC2 xC3 b0 b1 b2 b3 c0 c1 c2 c3 bf0 bf1 bf2 bf3 cf0 cf1 cf2 cf3 y1 y2 ne1 ne2 ne3 ne4 p1 p2 p3 hres HW
    obtain ⟨S, hS⟩ : ∃ S, S = w.heap.size + 2 := ⟨_, rfl⟩
    have HS : Hid (S = w.heap.size + 2) := hS
    clear hS p0
    have p0c : wc.cell? ⟨w.heap.size, 0, none⟩ = some (.slice ia n ic) := hC.out.bx
    go_wp2_with fail
    go_loopg [18] n (fun g t W => ∃ (k : Nat) (v : Value) (y : Nat → In), k + g = n ∧ t = .int .i64 (k : Int) ∧ Hid (C0 w W (.slice ia n ic) Q ng nc' v st gr nn s) ∧ Hid (Cq W S Q ng v k x y))
    case atStart => exact ⟨0, _, x, by omega, rfl, hC, ⟨⟨rfl, .inl ⟨rfl, rfl⟩⟩, fun g e => (by cases e), fun j hj => (by omega)⟩⟩
    case round =>
      clear hC
      obtain ⟨k, v, y, hkg, rfl, hC, hQ⟩ := hrel
      obtain ⟨⟨u0, u1, u2, u3⟩, uf⟩ := four hC.out.blk
      by_cases hlt : k < n
      · have hki : (k : Int) < (n : Int) := by omega
        obtain ⟨g, o, rfl, hg, i0, i1, i2, i3, i4, hR, hRn⟩ := (HI.out.below hC.out.bel).at k hlt
        have hra := HRA.out k hlt
        have hCb := hC.out.bel.size
        have hQl := hC.out.lt
        have hlQ := hC.out.lQ
        -- the ranges' copy
        obtain ⟨A, hA⟩ : ∃ A, A = (wr.alloc (.cells #[.int .i64 (x k).op, .int .i64 (x k).out, .int .i64 (x k).alt, .int .i64 (x k).arg, .slice (x k).ra (x k).rn (x k).rc] 25)) := ⟨_, rfl⟩
        have hAs : A.heap.size = wr.heap.size + 1 := by rw [hA]; simp
        have kA : Kp (fun _ => False) wr A := by rw [hA]; exact (Kp.refl _ wr).alloc _
        have kB : Kp (fun _ => False) wr (A.alloc (.cells #[] 54)) := kA.alloc _
        obtain ⟨rg, rcp, w3, r3, o3, k3, hrg, hrl⟩ := fresh_app (A.alloc (.cells #[] 54)) A.heap.size A.heap.size 23 54 _ 2 8 Tryd.underlying23 infG rfl (by decide) (fresh_o0 A A.heap.size 54 2 (Nat.le_refl _)) (by simp) (x k).ra (x k).rn (x k).rc (rc2 (x k).rf (x k).rn) hra (by rw [rc2_len]) (fun p e => by
          have := hR.kp kB (fun _ _ _ => id)
          rw [e] at this
          exact this.cells) (rc2_one _ _) (by unfold maxLen; omega) (by omega)
        have hR3 : Rml w3 (some ⟨rg, 0, none⟩) (x k).rf (x k).rn := Rml.of_row o3 hrl
        rw [hAs] at r3 k3
        have hrg2 : wr.heap.size + 1 ≤ rg := by
          rcases hrg with e | e
          · omega
          · simp at e; omega
        have K3 : Kp (fun q => wr.heap.size ≤ q) wr w3 := (kB.mono (fun _ _ e => e.elim)).trans (k3.mono (fun q _ (e : q = wr.heap.size + 1) => by omega))
        have bA : A.heap[wr.heap.size]? = some (.cells #[.int .i64 (x k).op, .int .i64 (x k).out, .int .i64 (x k).alt, .int .i64 (x k).arg, .slice (x k).ra (x k).rn (x k).rc] 25) := by rw [hA]; exact heap_alloc_new _ _
        have bI : w3.heap[wr.heap.size]? = some (.cells #[.int .i64 (x k).op, .int .i64 (x k).out, .int .i64 (x k).alt, .int .i64 (x k).arg, .slice (x k).ra (x k).rn (x k).rc] 25) := by
          rw [k3.block wr.heap.size (by simp; omega) (by show ¬ wr.heap.size = wr.heap.size + 1; omega), Below.heap_alloc _ _ _ (by omega)]
          exact bA
        have q0 : w3.cell? ⟨wr.heap.size, 0, none⟩ = some (.int .i64 (x k).op) := cell_of_row _ _ _ _ _ _ bI
        have q1 : w3.cell? ⟨wr.heap.size, 1, none⟩ = some (.int .i64 (x k).out) := cell_of_row _ _ _ _ _ _ bI
        have q2 : w3.cell? ⟨wr.heap.size, 2, none⟩ = some (.int .i64 (x k).alt) := cell_of_row _ _ _ _ _ _ bI
        have q3 : w3.cell? ⟨wr.heap.size, 3, none⟩ = some (.int .i64 (x k).arg) := cell_of_row _ _ _ _ _ _ bI
        have q4 : w3.cell? ⟨wr.heap.size, 4, none⟩ = some (.slice (x k).ra (x k).rn (x k).rc) := cell_of_row _ _ _ _ _ _ bI
        have qf : w3.frozen? ⟨wr.heap.size, 4, none⟩ = false := frozen_of_row _ _ _ _ _ bI
        have hvlt : ∀ q, v.ownBlock = some q → q < wr.heap.size := fun q e => (row_lt hQ.out.row q e).2
        have C3 := hC.out.kp K3 (by omega) (by have := hC.out.hg; omega) (fun q hq => by omega)
        have Q3 : Cq w3 S Q ng v k x y := hQ.out.kp K3 (fun q e => by have := hvlt q e; omega) (fun j hj q e => by
          obtain ⟨_, _, _, _, _, _, _, q', e', _, hq', _⟩ := hQ.out.each j hj
          rw [e] at e'
          cases e'
          omega)
        -- the store into the instruction
        have K4 : Kp (· = wr.heap.size) w3 (w3.setCell ⟨wr.heap.size, 4, none⟩ (.slice (some ⟨rg, 0, none⟩) (x k).rn rcp)) := (Kp.refl (· = wr.heap.size) w3).setCell (p := ⟨wr.heap.size, 4, none⟩) rfl _
        have hs4 : (w3.setCell ⟨wr.heap.size, 4, none⟩ (.slice (some ⟨rg, 0, none⟩) (x k).rn rcp)).heap.size = w3.heap.size := by simp [World.setCell]
        have C4 := C3.kp K4 (by omega) (by have := hC.out.hg; omega) (fun q hq => by omega)
        have Q4 := Q3.kp K4 (fun q e => by have := hvlt q e; omega) (fun j hj q e => by
          obtain ⟨_, _, _, _, _, _, _, q', e', _, hq', _⟩ := hQ.out.each j hj
          rw [e] at e'
          cases e'
          omega)
        have hR4 := hR3.kp K4 (fun g' o' e => by cases e; omega)
        have hSw := HS.out
        have hSs : S ≤ wr.heap.size := by omega
        obtain ⟨g5, c5, w5, y5, r5, Q5, k5⟩ := Q4.push (by have := K3.size; omega) (by have := K3.size; omega) (by have := K3.size; have := hC.out.hg; omega) (by omega) rg rcp hR4 (by omega) (by omega) (by omega) (fun e => by have := hvlt rg e; omega)
        rw [hs4] at r5
        have C5 := C4.kp k5 (fun e => (hQ.out.nv Q e).1 rfl) (fun e => (hQ.out.nv ng e).2 rfl) (fun q hq e => by have := (row_lt hQ.out.row q e).1; omega)
        obtain ⟨⟨d0, d1, d2, d3⟩, df⟩ := four C5.blk
        have df0 := df 0
        have K6 : Kp (· = Q) w5 (w5.setCell ⟨Q, 0, none⟩ (.slice (some ⟨g5, 0, none⟩) (k + 1) c5)) := (Kp.refl (· = Q) w5).setCell (p := ⟨Q, 0, none⟩) rfl _
        have B6 : (w5.setCell ⟨Q, 0, none⟩ (.slice (some ⟨g5, 0, none⟩) (k + 1) c5)).heap[Q]? = some (.cells #[.slice (some ⟨g5, 0, none⟩) (k + 1) c5, .int .i64 st, .int .i64 gr, .slice (some ⟨ng, 0, none⟩) nn nc'] 29) := heap_setCell_same _ _ _ _ _ _ C5.blk
        have hngQ := C5.ne
        have C6 : C0 w (w5.setCell ⟨Q, 0, none⟩ (.slice (some ⟨g5, 0, none⟩) (k + 1) c5)) (.slice (some ⟨g, o, none⟩) n ic) Q ng nc' (.slice (some ⟨g5, 0, none⟩) (k + 1) c5) st gr nn s := by
          have hb5 := C5.bel.size
          exact ⟨B6, C5.nam.kp K6 (fun g' o' e => by cases e; exact fun e => hngQ e.symm), (K6.block _ (by have := C5.lt; omega) (by show ¬ w.heap.size + 1 = Q; omega)).trans C5.res, C5.bel.trans (K6.below hb5 (fun q hq e => by omega)), K6.cell C5.bx (by show ¬ w.heap.size = Q; omega), C5.lQ, C5.lg, Nat.lt_of_lt_of_le C5.hg K6.size, C5.ne⟩
        have Q6 : Cq (w5.setCell ⟨Q, 0, none⟩ (.slice (some ⟨g5, 0, none⟩) (k + 1) c5)) S Q ng (.slice (some ⟨g5, 0, none⟩) (k + 1) c5) (k + 1) x y5 := Q5.kp K6 (fun q e => (Q5.nv q e).1) (fun j hj q e => by
          obtain ⟨_, _, _, _, _, _, _, q', e', _, _, hq', _⟩ := Q5.each j hj
          rw [e] at e'
          cases e'
          exact hq')
        have e3 := C3.blk
        obtain ⟨⟨f0, _, _, _⟩, _⟩ := four C3.blk
        have hQI : ¬ Q = wr.heap.size := by omega
        have hIQ : ¬ wr.heap.size = Q := by omega
        have f0' : (w3.setCell ⟨wr.heap.size, 4, none⟩ (.slice (some ⟨rg, 0, none⟩) (x k).rn rcp)).cell? ⟨Q, 0, none⟩ = some v := K4.cell f0 hQI
        obtain ⟨va, vc, hv⟩ := slice_of hQ.out.row
        have H6 : Hid _ := C6
        have H7 : Hid _ := Q6
        have HA : Hid (A = (wr.alloc (.cells #[.int .i64 (x k).op, .int .i64 (x k).out, .int .i64 (x k).alt, .int .i64 (x k).arg, .slice (x k).ra (x k).rn (x k).rc] 25))) := hA
        rw [hA] at r3
        subst hv
        clear C3 C4 C5 C6 Q3 Q4 Q5 Q6 K3 K4 K6 k3 k5 hR hR3 hR4 o3 kA kB bA bI hC hQ hvlt hra uf u1 u2 u3 df d1 d2 d3 B6 e3 hRn hA hAs
        generalize (x k).op = OP at *
        generalize (x k).out = OU at *
        generalize (x k).alt = AL at *
        generalize (x k).arg = AR at *
        generalize (x k).ra = RA at *
        generalize (x k).rn = RN at *
        generalize (x k).rc = RC at *
        go_upto_region 6 with (at_builtin; refine wpList_append_run rfl (.tmp 22) (.tmp 24) 23 23 rfl _ _ rfl rfl r3 ?_)
        clear r3
        go_wp2_with (at_builtin; refine wpList_append_run rfl (.tmp 28) (.tmp 30) 26 26 rfl _ _ rfl rfl r5 ?_)
        go_roundg (n - (k + 1))
        case measure => omega
        case rel => exact ⟨k + 1, _, _, by omega, by go_num, H6, H7⟩
      · obtain rfl : k = n := by omega
        have hki : ¬ (k : Int) < (k : Int) := by omega
        obtain ⟨⟨t0, t1, t2, t3⟩, tf⟩ := four hC.out.res
        have tf0 := tf 0
        have tf1 := tf 1
        have tf2 := tf 2
        have tf3 := tf 3
        obtain ⟨va, vc, hv⟩ := slice_of hQ.out.row
        subst hv
        have K7 := four_kp (M := (· = w.heap.size + 1)) wr (w.heap.size + 1) (.slice va k vc) (.int .i64 st) (.int .i64 gr) (.slice (some ⟨ng, 0, none⟩) nn nc') rfl
        have B7 := set4 (.slice va k vc) (.int .i64 st) (.int .i64 gr) (.slice (some ⟨ng, 0, none⟩) nn nc') hC.out.res
        have hlQ := hC.out.lQ
        have hlg := hC.out.lg
        have hSw := HS.out
        have Q7 := hQ.out.kp K7 (fun q e => by have := (row_lt hQ.out.row q e).1; omega) (fun j hj q e => by
          obtain ⟨_, _, _, _, _, _, _, q', e', hq', _⟩ := hQ.out.each j hj
          rw [e] at e'
          cases e'
          omega)
        have N7 := hC.out.nam.kp K7 (fun g' o' e => by cases e; omega)
        have L7 := hC.out.bel.trans (K7.below hC.out.bel.size (fun q hq e => by omega))
        have Q8 : Cq _ w.heap.size Q ng (.slice va k vc) k x y := ⟨⟨Q7.row.1, Q7.row.2.imp id (fun ⟨g', c', cu, e1, e2, e3⟩ => ⟨g', c', cu, e1, by omega, e3⟩)⟩, Q7.nv, fun j hj => by
          obtain ⟨a0, a1, a2, a3, a4, a5, a6, q', e', hq', h9⟩ := Q7.each j hj
          exact ⟨a0, a1, a2, a3, a4, a5, a6, q', e', by omega, h9⟩⟩
        have H1 : Hid _ := B7
        have H2 : Hid _ := Q8
        have H3 : Hid (Sml _ (some ⟨ng, 0, none⟩) s nn) := N7
        have H4 : Hid _ := L7
        clear K7 B7 Q7 Q8 N7 L7 hC hQ uf tf
        go_wp2
        exact bodyPost_ret (results_cell_row rfl _ _ (w.heap.size + 1) 29 #[.slice va k vc, .int .i64 st, .int .i64 gr, .slice (some ⟨ng, 0, none⟩) nn nc'] (0, 0) _ rfl H1.out Tryd.underlying29 rfl inf29) rfl (by first | exact ⟨Q, ng, nc', _, y, rfl, H2.out, H3.out, H4.out, by omega⟩ | exact ⟨Q, ng, nc', _, rfl, ⟨y, H2.out⟩, H3.out, H4.out, by omega⟩)
end Go.Proofs.YtnpgkiidpeaapaaDoor
/- RxRuns: what the walk needs. -/
namespace Go.Proofs.YtnpgkiidpeaapaaDoor
open Go.RowKit

/-- A program with a text. -/
structure Py where
  ia : Option Addr
  n : Nat
  ic : Nat
  st : Int
  gr : Int
  na : Option Addr
  nn : Nat
  nc : Nat
  x : Nat → In
  nm : Nat → ByteArray
  tx : ByteArray
structure PyOk (w : World) (D : Py) : Prop where
  I : Nml w D.ia D.x D.n
  N : Sml w D.na D.nm D.nn
  hna : D.na = none → D.nn = 0 ∧ D.nc = 0
  hra : ∀ j, j < D.n → (D.x j).ra = none → (D.x j).rn = 0 ∧ (D.x j).rc = 0
  hn : D.n * 56 ≤ 140737488351232
  hnn : D.nn * 16 ≤ 140737488351232
  ht : D.tx.size ≤ 1048576
theorem PyOk.below {w w' : World} {D : Py} (h : PyOk w D) (hb : Below w.heap.size w w') : PyOk w' D := ⟨h.I.below hb, h.N.below hb, h.hna, h.hra, h.hn, h.hnn, h.ht⟩
def Yml (w : World) (a : Option Addr) (P : Nat → Py) (n : Nat) : Prop := n = 0 ∨ ∃ g o, a = some ⟨g, o, none⟩ ∧ g < w.heap.size ∧ ∀ j, j < n → w.cell? ⟨g, o + j * 5, none⟩ = some (.slice (P j).ia (P j).n (P j).ic) ∧ w.cell? ⟨g, o + j * 5 + 1, none⟩ = some (.int .i64 (P j).st) ∧ w.cell? ⟨g, o + j * 5 + 2, none⟩ = some (.int .i64 (P j).gr) ∧ w.cell? ⟨g, o + j * 5 + 3, none⟩ = some (.slice (P j).na (P j).nn (P j).nc) ∧ w.cell? ⟨g, o + j * 5 + 4, none⟩ = some (.string (P j).tx) ∧ PyOk w (P j)
theorem Yml.at {w w' : World} {a : Option Addr} {P : Nat → Py} {n : Nat} (h : Yml w a P n) (hb : Below w.heap.size w w') (j : Nat) (hj : j < n) : ∃ g o, a = some ⟨g, o, none⟩ ∧ w'.cell? ⟨g, o + j * 5, none⟩ = some (.slice (P j).ia (P j).n (P j).ic) ∧ w'.cell? ⟨g, o + j * 5 + 1, none⟩ = some (.int .i64 (P j).st) ∧ w'.cell? ⟨g, o + j * 5 + 2, none⟩ = some (.int .i64 (P j).gr) ∧ w'.cell? ⟨g, o + j * 5 + 3, none⟩ = some (.slice (P j).na (P j).nn (P j).nc) ∧ w'.cell? ⟨g, o + j * 5 + 4, none⟩ = some (.string (P j).tx) ∧ PyOk w' (P j) := by
  rcases h with h | ⟨g, o, rfl, hg, hat⟩
  · omega
  · obtain ⟨c0, c1, c2, c3, c4, ok⟩ := hat j hj
    exact ⟨g, o, rfl, bcell2 hb c0, bcell2 hb c1, bcell2 hb c2, bcell2 hb c3, bcell2 hb c4, ok.below hb⟩
theorem fin_len (s : ByteArray) (gr : Int) (r : Option (Nat → Int)) (h : gr ≤ 100 ∨ r = none) : (fin s gr r).length ≤ 1048577 := by
  cases r with
  | none => exact Nat.zero_le _
  | some sl =>
    rcases h with h | h
    · show ((List.range (2 * (gr + 1)).toNat).map _).length ≤ _
      rw [List.length_map, List.length_range]
      omega
    · cases h
theorem Fd.gr {x : Nat → In} {n : Nat} {st gr : Int} {nn : Nat} {s : ByteArray} {r : Option (Nat → Int)} (h : Fd x n st gr nn s r) : gr ≤ 100 ∨ r = none := by
  rcases h with ⟨_, h⟩ | ⟨h, _⟩
  · exact .inr h
  · exact .inl (SdB_SIn h).2.2.2.2.1
theorem btr {A B C : World} (h1 : Below A.heap.size A B) (h2 : Below B.heap.size B C) : Below A.heap.size A C := h1.trans (h2.mono h1.size)
theorem cq_any {W : World} {S Q ng : Nat} {v : Value} {n : Nat} {x y : Nat → In} (h : Cq W S Q ng v n x y) (hb : ∀ j, j < n → (x j).rn * 8 ≤ 140737488351232) : ∃ ga gc, v = .slice ga n gc ∧ Nml W ga y n ∧ Same n x y := by
  rcases h.row.2 with ⟨rfl, h0⟩ | ⟨g, cap, cur, rfl, _⟩
  · have h1 : n = 0 := by simpa using h0
    subst h1
    exact ⟨_, _, rfl, .inl rfl, fun j hj => by omega⟩
  · obtain ⟨a, b⟩ := cq_nml h hb g cap rfl
    exact ⟨_, _, rfl, a, b⟩
theorem nml_rn {w : World} {a : Option Addr} {x : Nat → In} {n : Nat} (h : Nml w a x n) : ∀ j, j < n → (x j).rn * 8 ≤ 140737488351232 := by
  rcases h with h | ⟨g, o, rfl, hg, hc⟩
  · intro j hj; omega
  · intro j hj; exact (hc j hj).2.2.2.2.2.2
theorem ov_any {W : World} {S n : Nat} {ga : Option Addr} {gc : Nat} {y : Nat → In} (h : W.ownsRow S 25 5 (.slice ga n gc) n (n5 (ovr y n) n)) : Nml W ga (fun _ => one) n := by
  rcases h.2 with ⟨_, h0⟩ | ⟨g, cap, cur, e, _⟩
  · exact .inl (by simpa using h0)
  · obtain ⟨rfl, _, rfl⟩ := Value.slice.inj e
    exact ov_nml h
theorem row_some {W : World} {S n : Nat} {ga : Option Addr} {gc : Nat} {f : Nat → In} (h : W.ownsRow S 25 5 (.slice ga n gc) n (n5 f n)) (hn : 0 < n) : ∃ g, ga = some ⟨g, 0, none⟩ := by
  rcases h.2 with ⟨_, h0⟩ | ⟨g, cap, cur, e, _⟩
  · exfalso
    have : n = 0 := by simpa using h0
    omega
  · obtain ⟨rfl, _, rfl⟩ := Value.slice.inj e
    exact ⟨_, rfl⟩
theorem ovr_zero (y : Nat → In) : ovr y 0 = y := by
  funext j
  unfold ovr
  rw [if_neg (by omega)]
/-- An answer of either Run on a program and a text. -/
def TA (B : Nat) (x : Nat → In) (n : Nat) (st gr : Int) (nn : Nat) (t : ByteArray) (V : World) (v : Value) : Prop := ∃ r, Fd x n st gr nn t r ∧ Own B V v (fin t gr r)
theorem TA.low {B : Nat} {x : Nat → In} {n : Nat} {st gr : Int} {nn : Nat} {t : ByteArray} {V V' : World} {v : Value} (h : TA B x n st gr nn t V v) (hb : Below V.heap.size V V') : TA B x n st gr nn t V' v := by
  obtain ⟨r, f, o⟩ := h
  exact ⟨r, f, o.low hb⟩
theorem TA.kp {M : Nat → Prop} {B : Nat} {x : Nat → In} {n : Nat} {st gr : Int} {nn : Nat} {t : ByteArray} {V V' : World} {v : Value} (h : TA B x n st gr nn t V v) (k : Kp M V V') (hm : ∀ g, v.ownBlock = some g → ¬ M g) : TA B x n st gr nn t V' v := by
  obtain ⟨r, f, o⟩ := h
  exact ⟨r, f, o.kp k hm⟩
theorem own_form {B : Nat} {W : World} {v : Value} {xs : List Int} (h : Own B W v xs) : ∃ a l c, v = .slice a l c := by
  rcases h.2 with ⟨e, _⟩ | ⟨g, cap, cur, e, _⟩
  · exact ⟨_, _, _, e⟩
  · exact ⟨_, _, _, e⟩
theorem TA.low' {B : Nat} {x : Nat → In} {n : Nat} {st gr : Int} {nn : Nat} {t : ByteArray} {V V' : World} {v : Value} (h : TA B x n st gr nn t V v) (G : Nat) (hG : ∀ g, v.ownBlock = some g → g < G) (k : Kp (fun g => G ≤ g) V V') : TA B x n st gr nn t V' v := by
  obtain ⟨r, f, o⟩ := h
  exact ⟨r, f, o.kp k (fun g e h => by have := hG g e; omega)⟩
theorem TA.same {B1 B2 : Nat} {x : Nat → In} {n : Nat} {st gr : Int} {nn : Nat} {t : ByteArray} {V : World} {v1 v2 : Value} (h1 : TA B1 x n st gr nn t V v1) (h2 : TA B2 x n st gr nn t V v2) : Calls Tryd.prog 4 #[v1, v2] V fun e w' => e = .returned (.bool true) ∧ Below V.heap.size V w' := by
  obtain ⟨r, f, o⟩ := h1
  obtain ⟨r', f', o'⟩ := h2
  obtain rfl := f'.uniq f
  exact same_owned _ _ _ _ _ _ o o' (Nat.le_trans (fin_len t gr _ f'.gr) (by unfold maxLen; omega))
theorem TA.of {x y : Nat → In} {n : Nat} {st gr : Int} {nn : Nat} {t : ByteArray} {B : Nat} {V : World} {v : Value} {r : Option (Nat → Int)} (hs : Same n x y) (f : Fd y n st gr nn t r) (o : Own B V v (fin t gr r)) : TA B x n st gr nn t V v := ⟨r, f.same hs, o⟩
theorem TA.blk {x : Nat → In} {n : Nat} {st gr : Int} {nn : Nat} {t : ByteArray} {B : Nat} {V : World} {v : Value} (h : TA B x n st gr nn t V v) (g : Nat) (e : v.ownBlock = some g) : B ≤ g ∧ g < V.heap.size := by
  obtain ⟨r, f, o⟩ := h
  exact o.blk g e
end Go.Proofs.YtnpgkiidpeaapaaDoor
