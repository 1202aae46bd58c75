/- Labels: Valid of any list. -/
import Derived.Test.YtjmninjaoemhjaaDoorEw
import Derived.Test.YtjmninjaoemhjaaDoorEb
import Derived.Deep.Cut
import Derived.BigQuiet
namespace Go.Proofs.YtjmninjaoemhjaaDoor
open Go.RowKit Go.Lib

/-- A label that may stand at its place. -/
def okL (f : Nat → Lb) (i : Nat) : Bool := lbN (f i).1 && (!(f i).2.toList.isEmpty && (vld (f i).2 (f i).2.size 0 && (decide (i = 0) || Op.bytesLess (f (i - 1)).1.toList (f i).1.toList)))
/-- Labels from a place on that are a set. -/
def vaF (f : Nat → Lb) : Nat → Nat → Bool
  | 0, _ => true
  | n + 1, i => okL f i && vaF f n (i + 1)
set_option maxHeartbeats 4000000 in
set_option maxRecDepth 100000 in
theorem validL_any (a : Option Addr) (f : Nat → Lb) (n c : Nat) (w : World) (hL : Lm w a f n) (hn : n ≤ 140737488355328) (hs : ∀ j, j < n → (f j).1.size ≤ 140737488355328 ∧ (f j).2.size ≤ 140737488355328) (hT : Lib.Utf8Tabs 1 2 w) :
    Calls Tryd.prog 14 #[.slice a n c] w fun e w' => e = .returned (.bool (vaF f n 0)) ∧ Below w.heap.size w w' := by
  have HL : Hid (Lm w a f n) := hL
  have HS : Hid (∀ j, j < n → (f j).1.size ≤ 140737488355328 ∧ (f j).2.size ≤ 140737488355328) := hs
  have HT : Hid (Lib.Utf8Tabs 1 2 w) := hT
  have HZ : Hid (2 < w.heap.size) := tabs_size hT
  have hni : (n : Int) ≤ 140737488355328 := by omega
  obtain ⟨v, hv⟩ : ∃ v, vaF f n 0 = v := ⟨_, rfl⟩
  rw [hv]
  have HV : Hid (vaF f n 0 = v) := hv
  clear hL hv hs hT
  go_enter Tryd.func14, Tryd.ntmps14
  go_wp2_with fail
  go_loopw [7] (fun t w' => ∃ i k : Nat, t = .int .i64 (i : Nat) ∧ i + k = n ∧ Hid (vaF f k i = v) ∧ Hid (Below w.heap.size w w')) (fun t _ => n - (RowKit.intOf t).toNat)
  case atStart => exact ⟨0, n, rfl, by omega, HV, Below.refl _ _⟩
  case round =>
    obtain ⟨i, k, rfl, hik, hv, hb⟩ := hrel
    by_cases hlt : i < n
    · have hii : (i : Int) < (n : Int) := by omega
      obtain ⟨m, rfl⟩ : ∃ m, k = m + 1 := ⟨k - 1, by omega⟩
      obtain ⟨g, o, rfl, hg, c0, c1⟩ := (HL.out.below hb.out).at i hlt
      obtain ⟨s1, s2⟩ := HS.out i hlt
      have HG : Hid ((okL f i && vaF f m (i + 1)) = v) := hv
      clear hv
      have bA : Below w.heap.size w (wr.alloc (lbX (f i))) := hb.out.alloc hb.out.size _
      have kA := isLabel_any (f i).1 (wr.alloc (lbX (f i))) s1
      have kV := valid_any (f i).2 (wr.alloc (lbX (f i))) (by unfold maxLen; omega) (tabs_below HT.out HZ.out bA)
      have HN : Hid (Below w.heap.size w (wr.alloc (lbX (f i)))) := bA
      have HP : Hid (0 < i → ∃ j, i = j + 1 ∧ wr.cell? ⟨g, o + j * 2, none⟩ = some (.string (f j).1)) := (show _ → _ from fun h => by
        obtain ⟨g', o', e', _, d0, _⟩ := (HL.out.below hb.out).at (i - 1) (by omega)
        cases e'
        exact ⟨i - 1, by omega, d0⟩)
      have HO : Hid (okL f i = (lbN (f i).1 && (!(f i).2.toList.isEmpty && (vld (f i).2 (f i).2.size 0 && (decide (i = 0) || Op.bytesLess (f (i - 1)).1.toList (f i).1.toList))))) := (show _ = _ from rfl)
      obtain ⟨x, hx⟩ : ∃ x, f i = x := ⟨_, rfl⟩
      rw [hx] at c0 c1 HN HO kA kV s1 s2
      clear bA hx hb
      obtain ⟨x1, x2⟩ := x
      dsimp only at c0 c1 kA kV
      obtain ⟨A, hA⟩ : ∃ A, lbN x1 = A := ⟨_, rfl⟩
      obtain ⟨V, hVV⟩ : ∃ V, vld x2 x2.size 0 = V := ⟨_, rfl⟩
      dsimp only at HO
      rw [hA] at kA HO
      rw [hVV] at kV HO
      clear hA hVV s1 s2
      cases A
      · have HE : Hid (v = false) := (show _ = _ from HG.out.symm.trans (by rw [HO.out]; rfl))
        go_wp2_with fail
        go_fit kA
        rintro e w1 ⟨rfl, rfl⟩
        go_wp2
        go_ret
        exact ⟨by rw [HE.out]; rfl, HN.out⟩
      · by_cases hem : x2.toList = []
        · have HE : Hid (v = false) := (show _ = _ from HG.out.symm.trans (by rw [HO.out, hem]; rfl))
          go_wp2_with fail
          go_fit kA
          rintro e w1 ⟨rfl, rfl⟩
          go_wp2
          go_ret
          exact ⟨by rw [HE.out]; rfl, HN.out⟩
        · have hie : x2.toList.isEmpty = false := by cases h : x2.toList <;> simp_all
          cases V
          · have HE : Hid (v = false) := (show _ = _ from HG.out.symm.trans (by rw [HO.out]; simp))
            go_wp2_with fail
            go_fit kA
            rintro e w1 ⟨rfl, rfl⟩
            go_wp2_with fail
            go_fit kV
            rintro e w2 ⟨rfl, b2⟩
            have HN2 : Hid (Below w.heap.size w w2) := HN.out.trans (b2.mono HN.out.size)
            clear b2
            go_wp2
            go_ret
            exact ⟨by rw [HE.out]; rfl, HN2.out⟩
          · go_wp2_with fail
            go_fit kA
            rintro e w1 ⟨rfl, rfl⟩
            go_wp2_with fail
            go_fit kV
            rintro e w2 ⟨rfl, b2⟩
            have bw : Below wr.heap.size wr (wr.alloc (lbX (x1, x2))) := (Below.refl _ _).alloc (Nat.le_refl _) _
            have bw2 := bw.trans (b2.mono bw.size)
            have e0 : w2.cell? ⟨wr.heap.size, 0, none⟩ = some (.string x1) := bcell2 b2 (by unfold World.cell?; rw [show (wr.alloc (lbX (x1, x2))).heap[wr.heap.size]? = some (lbX (x1, x2)) from heap_alloc_new wr _]; rfl)
            have HN2 : Hid (∀ q, Hid (Below w.heap.size w (w2.drewN q))) := (show ∀ q, _ from fun q => (show Below _ _ _ from (HN.out.trans (b2.mono HN.out.size)).trans ⟨rfl, rfl, rfl, Nat.le_refl _, fun _ _ => rfl⟩))
            have HBW : Hid (Below wr.heap.size wr w2) := bw2
            clear b2 bw bw2 kA kV
            rcases Nat.eq_zero_or_pos i with h0 | h0
            · have hi1 : ¬ (0 : Int) < (i : Int) := by omega
              have hi2 : ¬ 0 < i := by omega
              have qd : decide (0 < i) = false := decide_eq_false hi2
              have HE : Hid (vaF f m (i + 1) = v) := (show _ = _ from by
                have := HG.out
                rw [HO.out, decide_eq_true h0] at this
                simpa [hie] using this)
              clear h0
              go_upto_region 6 with fail
              go_big_quiet (fail)
              have HN3 : Hid (Below w.heap.size w (w2.drewN nq)) := HN2.out nq
              go_wp2
              exact ⟨⟨i + 1, m, by go_num, by omega, HE, HN3⟩, by simp [RowKit.intOf]; omega⟩
            · obtain ⟨j, hj, d0⟩ := HP.out h0
              have hi1 : (0 : Int) < (i : Int) := by omega
              have qd : decide (0 < i) = true := decide_eq_true h0
              have d2 := bcell2 HBW.out d0
              have q1 : IntKind.i64.wrap ((i : Int) - 1) = (j : Nat) := by rw [IntKind.wrap_i64]; omega
              have q2 : (i : Int) - 1 = (j : Nat) := by omega
              have q3 : (j : Int) < (n : Int) := by omega
              have q4 : IntKind.i64.wrap (j : Int) = (j : Nat) := by rw [IntKind.wrap_i64]; omega
              have hjj : i - 1 = j := by omega
              obtain ⟨y1, hy1⟩ : ∃ y1, (f j).1 = y1 := ⟨_, rfl⟩
              rw [hjj, hy1] at HO
              rw [hy1] at d2
              obtain ⟨bl, hbl⟩ : ∃ bl, Op.bytesLess y1.toList x1.toList = bl := ⟨_, rfl⟩
              have HBL : Hid (Op.bytesLess y1.toList x1.toList = bl) := hbl
              have HJ : Hid (i = j + 1) := hj
              have HI0 : Hid (decide (i = 0) = false) := (show _ = _ from decide_eq_false (by omega))
              clear hj hjj hy1 d0 HBW
              cases bl
              · have HE : Hid (v = false) := (show _ = _ from HG.out.symm.trans (by rw [HO.out, HI0.out, HBL.out]; simp))
                go_upto_region 6 with fail
                go_big_quiet (fail)
                have HN3 : Hid (Below w.heap.size w (w2.drewN nq)) := HN2.out nq
                go_wp2
                go_ret
                exact ⟨by rw [HE.out]; rfl, HN3.out⟩
              · have HE : Hid (vaF f m (i + 1) = v) := (show _ = _ from by
                  have := HG.out
                  rw [HO.out, HI0.out, HBL.out] at this
                  simpa [hie] using this)
                go_upto_region 6 with fail
                go_big_quiet (fail)
                have HN3 : Hid (Below w.heap.size w (w2.drewN nq)) := HN2.out nq
                go_wp2
                exact ⟨⟨i + 1, m, by go_num, by omega, HE, HN3⟩, by simp [RowKit.intOf]; omega⟩
    · have hii : ¬ (i : Int) < (n : Int) := by omega
      obtain rfl : k = 0 := by omega
      have HE : Hid (v = true) := hv.out.symm
      clear hv
      go_wp2
      go_ret
      exact ⟨by rw [HE.out]; rfl, hb.out⟩
end Go.Proofs.YtjmninjaoemhjaaDoor
