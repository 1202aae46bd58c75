/- A bundle of texts. -/
import Derived.Test.YtjmninjaoemhjaaDoorBm05
import Derived.Test.YtjmninjaoemhjaaDoorBm11
import Derived.BigQuiet
import Derived.Test.YtjmninjaoemhjaaDoorBm07
/- The reference: named, Get, Valid. -/
namespace Go.Proofs.YtjmninjaoemhjaaDoor.R
open Go.RowKit Go.Lib

/-- A label of that name among the first ones? -/
def nmd (f : Nat → Lb) (nm : ByteArray) (n : Nat) : Bool := (List.range n).any fun j => (f j).1.toList == nm.toList
theorem nmd_iff (f : Nat → Lb) (nm : ByteArray) (n : Nat) : nmd f nm n = true ↔ ∃ j, j < n ∧ (f j).1 = nm := by
  unfold nmd
  simp only [List.any_eq_true, List.mem_range, teq]
set_option maxHeartbeats 2000000 in
set_option maxRecDepth 100000 in
theorem named_any (a : Option Addr) (f : Nat → Lb) (n c : Nat) (nm : ByteArray) (w : World) (hL : Lm w a f n) (hn : n ≤ 140737488355328) :
    Calls Tryd.prog 48 #[.slice a n c, .string nm] w fun e w' => e = .returned (.bool (nmd f nm n)) ∧ w' = w := by
  have HL : Hid (Lm w a f n) := hL
  have hni : (n : Int) ≤ 140737488355328 := by omega
  obtain ⟨v, hv⟩ : ∃ v, nmd f nm n = v := ⟨_, rfl⟩
  rw [hv]
  have HV : Hid (nmd f nm n = v) := hv
  clear hL hv
  go_enter Tryd.func48, Tryd.ntmps48
  go_wp2_with fail
  go_loopw [5] (fun t w' => ∃ i : Nat, t = .int .i64 (i : Nat) ∧ i ≤ n ∧ Hid (∀ j, j < i → (f j).1 ≠ nm) ∧ w' = w) (fun t _ => n - (RowKit.intOf t).toNat)
  case atStart => exact ⟨0, rfl, by omega, fun j h => absurd h (by omega), rfl⟩
  case round =>
    obtain ⟨i, rfl, hi, HI, rfl⟩ := hrel
    by_cases hlt : i < n
    · have hii : (i : Int) < (n : Int) := by omega
      have i0 : (0 : Int) ≤ (i : Int) := by omega
      obtain ⟨g, o, rfl, hg, c0, c1⟩ := HL.out.at i hlt
      by_cases he : ((f i).1.toList == nm.toList) = true
      · have HE : Hid (v = true) := (show _ = _ by rw [← HV.out]; exact (nmd_iff f nm n).2 ⟨i, hlt, (teq _ _).1 he⟩)
        go_wp2
        go_ret
        exact ⟨by rw [HE.out]; rfl, rfl⟩
      · have he2 : ((f i).1.toList == nm.toList) = false := by simpa using he
        have HI2 : Hid (∀ j, j < i + 1 → (f j).1 ≠ nm) := (show ∀ j, _ → _ from fun j hj h => by
          by_cases hji : j = i
          · rw [hji] at h
            exact he ((teq _ _).2 h)
          · exact HI.out j (by omega) h)
        clear he
        go_wp2
        exact ⟨⟨i + 1, by go_num, by omega, HI2, trivial⟩, by simp [RowKit.intOf]; omega⟩
    · have hii : ¬ (i : Int) < (n : Int) := by omega
      obtain rfl : i = n := by omega
      have HE : Hid (v = false) := (show _ = _ by
        rw [← HV.out]
        cases hq : nmd f nm i
        · rfl
        · obtain ⟨j, hj, h⟩ := (nmd_iff f nm i).1 hq
          exact absurd h (HI.out j hj))
      go_wp2
      go_ret
      exact ⟨by rw [HE.out]; rfl, rfl⟩
set_option maxHeartbeats 2000000 in
set_option maxRecDepth 100000 in
theorem rget_any (a : Option Addr) (f : Nat → Lb) (n c : Nat) (nm : ByteArray) (w : World) (hL : Lm w a f n) (hn : n ≤ 140737488355328) :
    Calls Tryd.prog 24 #[.slice a n c, .string nm] w fun e w' => e = .returned (.string (gvF f nm n 0)) ∧ w' = w := by
  have HL : Hid (Lm w a f n) := hL
  have hni : (n : Int) ≤ 140737488355328 := by omega
  obtain ⟨v, hv⟩ : ∃ v, gvF f nm n 0 = v := ⟨_, rfl⟩
  rw [hv]
  have HV : Hid (gvF f nm n 0 = v) := hv
  clear hL hv
  go_enter Tryd.func24, Tryd.ntmps24
  go_wp2_with fail
  go_loopw [5] (fun t w' => ∃ i k : Nat, t = .int .i64 (i : Nat) ∧ i + k = n ∧ Hid (gvF f nm k i = v) ∧ w' = w) (fun t _ => n - (RowKit.intOf t).toNat)
  case atStart => exact ⟨0, n, rfl, by omega, HV, rfl⟩
  case round =>
    obtain ⟨i, k, rfl, hik, hv, rfl⟩ := hrel
    by_cases hlt : i < n
    · have hii : (i : Int) < (n : Int) := by omega
      have i0 : (0 : Int) ≤ (i : Int) := by omega
      obtain ⟨m, rfl⟩ : ∃ m, k = m + 1 := ⟨k - 1, by omega⟩
      obtain ⟨g, o, rfl, hg, c0, c1⟩ := HL.out.at i hlt
      have HG : Hid ((if (f i).1.toList == nm.toList then (f i).2 else gvF f nm m (i + 1)) = v) := hv
      clear hv
      by_cases he : ((f i).1.toList == nm.toList) = true
      · have HE : Hid ((f i).2 = v) := by
          have := HG.out
          rw [if_pos he] at this
          exact this
        go_wp2
        go_ret
        exact ⟨by rw [← HE.out]; rfl, rfl⟩
      · have HE : Hid (gvF f nm m (i + 1) = v) := by
          have := HG.out
          rw [if_neg he] at this
          exact this
        have he2 : ((f i).1.toList == nm.toList) = false := by simpa using he
        clear he
        go_wp2
        exact ⟨⟨i + 1, m, by go_num, by omega, HE, trivial⟩, by simp [RowKit.intOf]; omega⟩
    · have hii : ¬ (i : Int) < (n : Int) := by omega
      obtain rfl : k = 0 := by omega
      have HE : Hid (v = ⟨#[]⟩) := hv.out.symm
      clear hv
      go_wp2
      go_ret
      exact ⟨by rw [HE.out]; rfl, rfl⟩
set_option maxHeartbeats 4000000 in
set_option maxRecDepth 100000 in
theorem rvalid_any (a : Option Addr) (f : Nat → Lb) (n c : Nat) (w : World) (hL : Lm w a f n) (hn : n ≤ 140737488355328) (hs : ∀ j, j < n → (f j).1.size ≤ 140737488355328 ∧ (f j).2.size ≤ 140737488355328) :
    Calls Tryd.prog 23 #[.slice a n c] w fun e w' => e = .returned (.bool (vaF f n 0)) ∧ Below w.heap.size w w' := by
  have HL : Hid (Lm w a f n) := hL
  have HS : Hid (∀ j, j < n → (f j).1.size ≤ 140737488355328 ∧ (f j).2.size ≤ 140737488355328) := hs
  have hni : (n : Int) ≤ 140737488355328 := by omega
  obtain ⟨v, hv⟩ : ∃ v, vaF f n 0 = v := ⟨_, rfl⟩
  rw [hv]
  have HV : Hid (vaF f n 0 = v) := hv
  clear hL hv hs
  go_enter Tryd.func23, Tryd.ntmps23
  go_wp2_with fail
  go_loopw [3] (fun t w' => ∃ i k : Nat, t = .int .i64 (i : Nat) ∧ i + k = n ∧ Hid (vaF f k i = v) ∧ Hid (Below w.heap.size w w')) (fun t _ => n - (RowKit.intOf t).toNat)
  case atStart => exact ⟨0, n, rfl, by omega, HV, Below.refl _ _⟩
  case round =>
    obtain ⟨i, k, rfl, hik, hv, HB⟩ := hrel
    by_cases hlt : i < n
    · have hii : (i : Int) < (n : Int) := by omega
      have i0 : (0 : Int) ≤ (i : Int) := by omega
      obtain ⟨m, rfl⟩ : ∃ m, k = m + 1 := ⟨k - 1, by omega⟩
      obtain ⟨g, o, rfl, hg, c0, c1⟩ := (HL.out.below HB.out).at i hlt
      obtain ⟨s1, s2⟩ := HS.out i hlt
      have HG : Hid ((okL f i && vaF f m (i + 1)) = v) := hv
      clear hv
      have kA := rlabel_any (f i).1 wr s1
      have kV : Hid (∀ W, Below wr.heap.size wr W → Calls Tryd.prog 49 #[.string (f i).2] W fun e w' => e = .returned (.bool (vld (f i).2 (f i).2.size 0)) ∧ Below W.heap.size W w') := fun W _ => rvalidT_any (f i).2 W (by unfold maxLen; omega)
      have HP : Hid (0 < i → ∃ j, i = j + 1 ∧ ∀ W, Below wr.heap.size wr W → W.cell? ⟨g, o + j * 2, none⟩ = some (.string (f j).1)) := (show _ → _ from fun h => by
        obtain ⟨g', o', e', _, d0, _⟩ := (HL.out.below HB.out).at (i - 1) (by omega)
        cases e'
        exact ⟨i - 1, by omega, fun W b => bcell2 b d0⟩)
      have HO : Hid (okL f i = (lbN (f i).1 && (!(f i).2.toList.isEmpty && (vld (f i).2 (f i).2.size 0 && (decide (i = 0) || Op.bytesLess (f (i - 1)).1.toList (f i).1.toList))))) := (show _ = _ from rfl)
      obtain ⟨x, hx⟩ : ∃ x, f i = x := ⟨_, rfl⟩
      rw [hx] at c0 c1 HO kA kV s1 s2
      clear hx
      obtain ⟨x1, x2⟩ := x
      dsimp only at c0 c1 kA kV
      obtain ⟨A, hA⟩ : ∃ A, lbN x1 = A := ⟨_, rfl⟩
      obtain ⟨V, hVV⟩ : ∃ V, vld x2 x2.size 0 = V := ⟨_, rfl⟩
      dsimp only at HO
      rw [hA] at kA HO
      rw [hVV] at kV HO
      clear hA hVV s1 s2
      cases A
      · have HE : Hid (v = false) := (show _ = _ from HG.out.symm.trans (by rw [HO.out]; rfl))
        go_wp2_with fail
        go_fit kA
        rintro e w1 ⟨rfl, rfl⟩
        go_wp2
        go_ret
        exact ⟨by rw [HE.out]; rfl, HB.out⟩
      · by_cases hem : x2.toList = []
        · have HE : Hid (v = false) := (show _ = _ from HG.out.symm.trans (by rw [HO.out, hem]; rfl))
          go_wp2_with fail
          go_fit kA
          rintro e w1 ⟨rfl, rfl⟩
          go_wp2
          go_ret
          exact ⟨by rw [HE.out]; rfl, HB.out⟩
        · have hie : x2.toList.isEmpty = false := by cases h : x2.toList <;> simp_all
          cases V
          · have HE : Hid (v = false) := (show _ = _ from HG.out.symm.trans (by rw [HO.out]; simp))
            go_wp2_with fail
            go_fit kA
            rintro e w1 ⟨rfl, rfl⟩
            have kV2 := kV.out w1 (Below.refl _ _)
            go_wp2_with fail
            go_fit kV2
            rintro e w2 ⟨rfl, b2⟩
            have HN2 : Hid (Below w.heap.size w w2) := HB.out.trans (b2.mono HB.out.size)
            clear b2
            go_wp2
            go_ret
            exact ⟨by rw [HE.out]; rfl, HN2.out⟩
          · go_wp2_with fail
            go_fit kA
            rintro e w1 ⟨rfl, rfl⟩
            have kV2 := kV.out w1 (Below.refl _ _)
            go_wp2_with fail
            go_fit kV2
            rintro e w2 ⟨rfl, b2⟩
            have HN2 : Hid (∀ q, Hid (Below w.heap.size w (w2.drewN q))) := (show ∀ q, _ from fun q => (show Below _ _ _ from (HB.out.trans (b2.mono HB.out.size)).trans ⟨rfl, rfl, rfl, Nat.le_refl _, fun _ _ => rfl⟩))
            have HBW : Hid (Below w1.heap.size w1 w2) := b2
            have e0 := bcell2 b2 c0
            have c1 := bcell2 b2 c1
            clear b2 kA kV kV2 c0
            rcases Nat.eq_zero_or_pos i with h0 | h0
            · subst h0
              have HE : Hid (vaF f m (0 + 1) = v) := (show _ = _ from by
                have := HG.out
                rw [HO.out] at this
                simpa [hie] using this)
              have hi1 : ¬ (0 : Int) < 0 := by omega
              go_upto_region 6 with fail
              go_big_quiet (fail)
              have HN3 : Hid (Below w.heap.size w (w2.drewN nq)) := HN2.out nq
              go_wp2
              exact ⟨⟨1, m, by go_num, by omega, HE, HN3⟩, by simp [RowKit.intOf]; omega⟩
            · obtain ⟨j, hj, d0⟩ := HP.out h0
              have d2 := d0 w2 HBW.out
              subst hj
              have hi1 : (0 : Int) < (j : Int) + 1 := by omega
              have q1 : IntKind.i64.wrap ((j : Int) + 1 - 1) = (j : Nat) := by rw [IntKind.wrap_i64]; omega
              have q2 : (0 : Int) ≤ (j : Int) + 1 := by omega
              have q3 : (j : Int) < (n : Int) := by omega
              have q4 : IntKind.i64.wrap (j : Int) = (j : Nat) := by rw [IntKind.wrap_i64]; omega
              have q5 : (0 : Int) ≤ (j : Int) := by omega
              obtain ⟨y1, hy1⟩ : ∃ y1, (f j).1 = y1 := ⟨_, rfl⟩
              rw [show j + 1 - 1 = j from rfl, hy1] at HO
              rw [hy1] at d2
              obtain ⟨bl, hbl⟩ : ∃ bl, Op.bytesLess y1.toList x1.toList = bl := ⟨_, rfl⟩
              have HBL : Hid (Op.bytesLess y1.toList x1.toList = bl) := hbl
              have HI0 : Hid (decide (j + 1 = 0) = false) := (show _ = _ from decide_eq_false (by omega))
              clear hy1 d0 HBW HP
              cases bl
              · have HE : Hid (v = false) := (show _ = _ from HG.out.symm.trans (by rw [HO.out, HI0.out, HBL.out]; simp))
                go_upto_region 6 with fail
                go_big_quiet (fail)
                have HN3 : Hid (Below w.heap.size w (w2.drewN nq)) := HN2.out nq
                go_wp2
                go_ret
                exact ⟨by rw [HE.out]; rfl, HN3.out⟩
              · have HE : Hid (vaF f m (j + 1 + 1) = v) := (show _ = _ from by
                  have := HG.out
                  rw [HO.out, HBL.out] at this
                  simpa [hie] using this)
                go_upto_region 6 with fail
                go_big_quiet (fail)
                have HN3 : Hid (Below w.heap.size w (w2.drewN nq)) := HN2.out nq
                go_wp2
                exact ⟨⟨j + 2, m, by go_num, by omega, HE, HN3⟩, by simp [RowKit.intOf]; omega⟩
    · have hii : ¬ (i : Int) < (n : Int) := by omega
      obtain rfl : k = 0 := by omega
      have HE : Hid (v = true) := hv.out.symm
      clear hv
      go_wp2
      go_ret
      exact ⟨by rw [HE.out]; rfl, HB.out⟩
end Go.Proofs.YtjmninjaoemhjaaDoor.R
/- Make with its error. -/
namespace Go.Proofs.YtjmninjaoemhjaaDoor
open Go.RowKit Go.Lib

/-- The error that a pair makes, or 0. -/
def badE (f : Nat → Lb) (i : Nat) : Int := if (lbN (f i).1 && !R.nmd f (f i).1 i) = true then (if vld (f i).2 (f i).2.size 0 = true then 0 else 4) else 160
/-- The error of the first pair at fault, or 0. -/
def mkE (f : Nat → Lb) : Nat → Int
  | 0 => 0
  | n + 1 => if mkE f n = 0 then badE f n else mkE f n
theorem beq_ba (a b : ByteArray) : (a == b) = true ↔ a = b := by
  obtain ⟨x⟩ := a
  obtain ⟨y⟩ := b
  show (x == y) = true ↔ _
  rw [beq_iff_eq]
  exact ⟨fun h => by rw [h], fun h => by cases h; rfl⟩
theorem nmd_no (f : Nat → Lb) (nm : ByteArray) (n : Nat) : R.nmd f nm n = false ↔ ∀ j, j < n → (nm == (f j).1) = false := by
  constructor
  · intro h j hj
    cases hq : nm == (f j).1
    · rfl
    · rw [(R.nmd_iff f nm n).2 ⟨j, hj, ((beq_ba _ _).1 hq).symm⟩] at h
      cases h
  · intro h
    cases hq : R.nmd f nm n
    · rfl
    · obtain ⟨j, hj, e⟩ := (R.nmd_iff f nm n).1 hq
      have := h j hj
      rw [e, (beq_ba nm nm).2 rfl] at this
      cases this
theorem badE_zero (f : Nat → Lb) (i : Nat) : badE f i = 0 ↔ lbN (f i).1 = true ∧ vld (f i).2 (f i).2.size 0 = true ∧ ∀ k, k < i → ((f i).1 == (f k).1) = false := by
  rw [← nmd_no]
  unfold badE
  cases lbN (f i).1 <;> cases R.nmd f (f i).1 i <;> cases vld (f i).2 (f i).2.size 0 <;> simp
theorem gd_mkE {f : Nat → Lb} : ∀ {n : Nat}, Gd f n ↔ mkE f n = 0
  | 0 => ⟨fun _ => rfl, fun _ j h => absurd h (by omega)⟩
  | n + 1 => by
    unfold mkE
    constructor
    · intro h
      rw [if_pos (gd_mkE.1 fun j hj => h j (by omega))]
      exact (badE_zero f n).2 (h n (by omega))
    · intro h j hj
      by_cases h0 : mkE f n = 0
      · rw [if_pos h0] at h
        by_cases e : j = n
        · rw [e]; exact (badE_zero f n).1 h
        · exact gd_mkE.2 h0 j (by omega)
      · rw [if_neg h0] at h
        exact absurd h h0
theorem mkE_first {f : Nat → Lb} {i : Nat} (hG : Gd f i) (hb : badE f i ≠ 0) : ∀ {n : Nat}, i < n → mkE f n = badE f i
  | n + 1, h => by
    unfold mkE
    by_cases e : i = n
    · rw [← e, if_pos (gd_mkE.1 hG)]
    · rw [mkE_first hG hb (show i < n by omega), if_neg hb]
theorem mkE_name {f : Nat → Lb} {i n : Nat} (hi : i < n) (hG : Gd f i) (h : lbN (f i).1 = false ∨ ∃ j, j < i ∧ ((f i).1 == (f j).1) = true) : mkE f n = 160 := by
  have e : badE f i = 160 := by
    unfold badE
    rw [if_neg]
    rcases h with h | ⟨j, hj, h⟩
    · simp [h]
    · rw [(R.nmd_iff f (f i).1 i).2 ⟨j, hj, ((beq_ba _ _).1 h).symm⟩]
      simp
  rw [mkE_first hG (by rw [e]; decide) hi, e]
theorem mkE_val {f : Nat → Lb} {i n : Nat} (hi : i < n) (hG : Gd f i) (h1 : lbN (f i).1 = true) (h2 : ∀ j, j < i → ((f i).1 == (f j).1) = false) (h3 : vld (f i).2 (f i).2.size 0 = false) : mkE f n = 4 := by
  have e : badE f i = 4 := by
    unfold badE
    rw [(nmd_no f (f i).1 i).2 h2, h1, h3]
    rfl
  rw [mkE_first hG (by rw [e]; decide) hi, e]
theorem find_none (k : ByteArray) : ∀ (l : List MapEntry) (i : Nat), (∀ e ∈ l, Instr.sameNow .string (.string k) e.key = some false) → Instr.findNow .string (.string k) l i = some none
  | [], _, _ => rfl
  | x :: l, i, h => by
    unfold Instr.findNow
    rw [h x (by simp)]
    exact find_none k l (i + 1) fun e he => h e (by simp [he])
theorem seen_yes {f : Nat → Lb} {n : Nat} {k : ByteArray} {r : Nat × Value} (h : Instr.findNow .string (.string k) (esN f n).toList 0 = some (some r)) : ∃ j, j < n ∧ (k == (f j).1) = true := by
  by_cases hq : ∃ j, j < n ∧ (k == (f j).1) = true
  · exact hq
  · rw [find_none k (esN f n).toList 0 fun e he => by
      obtain ⟨j, hj, rfl⟩ := esN_mem f n e he
      show Instr.sameNow .string (.string k) (.string (f j).1) = _
      rw [same_str]
      cases hb : k == (f j).1
      · rfl
      · exact absurd ⟨j, hj, hb⟩ hq] at h
    cases h
/-- What Make answers. -/
def MkE (f : Nat → Lb) (n : Nat) (w : World) (e : Ending) (w' : World) : Prop := ∃ v, e = .returned (.tuple #[v, .int .i64 (mkE f n)]) ∧ Below w.heap.size w w' ∧ ((mkE f n ≠ 0 ∧ v = .slice none 0 0) ∨ (mkE f n = 0 ∧ Gd f n ∧ ∃ ks : List Lb, ks.Perm (sel f n) ∧ ks.Pairwise (fun x y => Op.bytesLess y.1.toList x.1.toList = false) ∧ w'.ownsRow (w.heap.size + 1) 26 2 v ks.length (lcL ks)))
set_option maxHeartbeats 8000000 in
set_option maxRecDepth 100000 in
theorem makeE_gen (hSC : SortC) (a : Option Addr) (f : Nat → Lb) (n c : Nat) (w : World) (hL : Lm w a f n) (hn : n ≤ 1099511627776) (hs : ∀ j, j < n → (f j).1.size ≤ 140737488355328 ∧ (f j).2.size ≤ 140737488355328) (hT : Lib.Utf8Tabs 1 2 w) :
    Calls Tryd.prog 10 #[.slice a n c] w (MkE f n w) := by
  have HC : Hid SortC := hSC
  have HL : Hid (Lm w a f n) := hL
  have HSz : Hid (∀ j, j < n → (f j).1.size ≤ 140737488355328 ∧ (f j).2.size ≤ 140737488355328) := hs
  have HT : Hid (Lib.Utf8Tabs 1 2 w) := hT
  have H2 : Hid (2 < w.heap.size) := tabs_size hT
  have hni : (n : Int) ≤ 1099511627776 := by omega
  have hmm := mk_run (n : Int)
  have HS0 : Hid (Sx w (w.alloc (.map #[] 0)) (esN f 0) 0 (.slice none 0 0) 0 (lcL (sel f 0))) := ⟨heap_alloc_new w _, World.ownsRow_nil _ _ _ _, (Below.refl _ w).alloc (Nat.le_refl _) _⟩
  have HG0 : Hid (Gd f 0) := (show Gd f 0 from fun j hj => absurd hj (by omega))
  have HM0 : Hid (0 = (sel f 0).length) := rfl
  clear hSC hL hs hT
  go_enter Tryd.func10, Tryd.ntmps10
  go_wp2_with fail
  clear hmm
  go_loopw [5, 15] (fun v t w' => ∃ (i m : Nat) (b : Option Addr) (d : Nat), t = .int .i64 (i : Nat) ∧ v = .slice b m d ∧ i ≤ n ∧ m ≤ i ∧ Hid (m = (sel f i).length) ∧ Hid (Gd f i) ∧ Hid (Sx w w' (esN f i) i (.slice b m d) m (lcL (sel f i)))) (fun _ t _ => n - (RowKit.intOf t).toNat)
  case atStart => exact ⟨0, 0, none, 0, rfl, rfl, by omega, by omega, HM0, HG0, HS0⟩
  case round =>
    obtain ⟨i, m, b, d, rfl, rfl, hi, hmi, HM, HG, HS⟩ := hrel
    by_cases hlt : i < n
    · have hii : (i : Int) < (n : Int) := by omega
      obtain ⟨g, o, rfl, hg, p0, p1⟩ := HL.out.at i hlt
      have q0 := bcell2 HS.out.2.2 p0
      have q1 := bcell2 HS.out.2.2 p1
      have hsn := seen f i (f i).1
      obtain ⟨s1, s2⟩ := HSz.out i hlt
      have k27 : Hid (∀ W, Calls Tryd.prog 27 #[.string (f i).1] W fun e w' => e = .returned (.bool (lbN (f i).1)) ∧ w' = W) := fun W => isLabel_any (f i).1 W s1
      have k28 : Hid (∀ W, Below w.heap.size w W → Calls Tryd.prog 28 #[.string (f i).2] W fun e w' => e = .returned (.bool (vld (f i).2 (f i).2.size 0)) ∧ Below W.heap.size W w') := (show ∀ W, _ → _ from fun W bb => valid_any (f i).2 W (by unfold maxLen; omega) (tabs_below HT.out H2.out bb))
      have k29 : Hid (∀ W, Calls Tryd.prog 29 #[lbV (f i)] W fun e w' => e = .returned (lbV (f i)) ∧ Below W.heap.size W w') := fun W => copied_any (f i) W s1 s2
      have HQ1 : Hid (lbN (f i).1 = false → mkE f n = 160) := (show _ → _ from fun h => mkE_name hlt HG.out (.inl h))
      have HQ2 : Hid ((∃ j v, Instr.findNow .string (.string (f i).1) (esN f i).toList 0 = some (some (j, v))) → mkE f n = 160) := (show _ → _ from fun ⟨j, v, h⟩ => mkE_name hlt HG.out (.inr (seen_yes h)))
      have HQ3 : Hid (lbN (f i).1 = true → (∀ j, j < i → ((f i).1 == (f j).1) = false) → vld (f i).2 (f i).2.size 0 = false → mkE f n = 4) := (show _ → _ from fun h1 h2 h3 => mkE_val hlt HG.out h1 h2 h3)
      have HGN : Hid (lbN (f i).1 = true → vld (f i).2 (f i).2.size 0 = true → (∀ j, j < i → ((f i).1 == (f j).1) = false) → Gd f (i + 1)) := (show _ → _ from fun h1 h2 h3 j hj => by
        rcases Nat.lt_or_ge j i with h | h
        · exact HG.out j h
        · obtain rfl : j = i := by omega
          exact ⟨h1, h2, h3⟩)
      have HE1 : Hid (esN f (i + 1) = (esN f i).push (mE (f i).1 i)) := (show _ = _ from rfl)
      have HX : Hid (sel f (i + 1) = sel f i ++ (if (f i).2.toList.isEmpty then [] else [f i])) := (show _ = _ from rfl)
      obtain ⟨x, hx⟩ : ∃ x, f i = x := ⟨_, rfl⟩
      rw [hx] at q0 q1 hsn k27 k28 k29 HGN HE1 HX HQ1 HQ2 HQ3
      clear hx p0 p1 s1 s2
      obtain ⟨x1, x2⟩ := x
      dsimp only at q0 q1 hsn k27 k28 k29 HGN HE1 HX HQ1 HQ2 HQ3
      have S1 := HS.out.below ((Below.refl _ wr).alloc (Nat.le_refl _) (lbX (x1, x2)))
      have HB1 : Hid (Below w.heap.size w ((wr.alloc (lbX (x1, x2))).alloc (.cells #[] 62))) := (show Below _ _ _ from (S1.below ((Below.refl _ _).alloc (Nat.le_refl _) (.cells #[] 62))).2.2)
      rcases hsn with ⟨hno, hne⟩ | ⟨j, hyes⟩
      · have hlk := look_run S1.1 hno
        obtain ⟨A, hA⟩ : ∃ A, lbN x1 = A := ⟨_, rfl⟩
        have HA : Hid (lbN x1 = A) := hA
        rw [hA] at k27
        clear hA
        cases A
        · clear S1
          go_wp2_with fail
          go_fit (k27.out _)
          rintro e w2 ⟨rfl, rfl⟩
          go_wp2
          go_ret2
          exact ⟨_, by rw [HQ1.out HA.out]; rfl, HB1.out, .inl ⟨by rw [HQ1.out HA.out]; decide, rfl⟩⟩
        · obtain ⟨V, hV⟩ : ∃ V, vld x2 x2.size 0 = V := ⟨_, rfl⟩
          have HVV : Hid (vld x2 x2.size 0 = V) := hV
          rw [hV] at k28
          clear hV
          have S2 := S1.below ((Below.refl _ (wr.alloc (lbX (x1, x2)))).alloc (Nat.le_refl _) (.cells #[] 62))
          have e1 : (wr.alloc (lbX (x1, x2))).heap[wr.heap.size]? = some (lbX (x1, x2)) := heap_alloc_new wr _
          have HBX : Hid (∀ w', Below ((wr.alloc (lbX (x1, x2))).alloc (.cells #[] 62)).heap.size ((wr.alloc (lbX (x1, x2))).alloc (.cells #[] 62)) w' → w'.cell? ⟨wr.heap.size, 0, none⟩ = some (.string x1) ∧ w'.cell? ⟨wr.heap.size, 1, none⟩ = some (.string x2)) := fun w' b => by
            have b2 : Below (wr.alloc (lbX (x1, x2))).heap.size (wr.alloc (lbX (x1, x2))) ((wr.alloc (lbX (x1, x2))).alloc (.cells #[] 62)) := (Below.refl _ _).alloc (Nat.le_refl _) _
            have b3 := b2.trans (b.mono b2.size)
            exact ⟨bcell2 b3 (by unfold World.cell?; rw [e1]; rfl), bcell2 b3 (by unfold World.cell?; rw [e1]; rfl)⟩
          have HMl : Hid (w.heap.size < wr.heap.size) := HS.out.lt
          have HNO : Hid (Instr.findNow .string (.string x1) (esN f i).toList 0 = some none ∧ ∀ j, j < i → (x1 == (f j).1) = false) := ⟨hno, hne⟩
          have HS2 : Hid (Sx w ((wr.alloc (lbX (x1, x2))).alloc (.cells #[] 62)) (esN f i) i (.slice b m d) m (lcL (sel f i))) := S2
          clear S1 S2 e1 hno hne
          go_wp2_with fail
          go_fit (k27.out _)
          rintro e w2 ⟨rfl, rfl⟩
          clear hlk q0 q1
          go_wp2_with fail
          go_fit (k28.out _ HB1.out)
          rintro e w3 ⟨rfl, b3⟩
          cases V
          · have HB3 : Hid (Below w.heap.size w w3) := HB1.out.trans (b3.mono HB1.out.size)
            clear b3
            go_wp2
            go_ret2
            exact ⟨_, by rw [HQ3.out HA.out HNO.out.2 HVV.out]; rfl, HB3.out, .inl ⟨by rw [HQ3.out HA.out HNO.out.2 HVV.out]; decide, rfl⟩⟩
          · have S3 := HS2.out.below b3
            obtain ⟨c0, c1⟩ := HBX.out w3 b3
            have hup := upd_run S3.1 HNO.out.1
            rw [← HE1.out] at hup
            have S4 := S3.upd (esN f (i + 1)) (i + 1)
            have kp4 := upM_kp w3 w.heap.size (.map (esN f (i + 1)) (i + 1))
            have hne4 : ¬ wr.heap.size = w.heap.size := by have := HMl.out; omega
            have d0 : (upM w3 w.heap.size (.map (esN f (i + 1)) (i + 1))).cell? ⟨wr.heap.size, 0, none⟩ = some (.string x1) := by
              rw [World.cell?_of_block (w := w3) (kp4.block wr.heap.size (World.block_lt_of_cell? w3 _ c0) hne4)]; exact c0
            have d1 : (upM w3 w.heap.size (.map (esN f (i + 1)) (i + 1))).cell? ⟨wr.heap.size, 1, none⟩ = some (.string x2) := by
              rw [World.cell?_of_block (w := w3) (kp4.block wr.heap.size (World.block_lt_of_cell? w3 _ c0) hne4)]; exact c1
            have HS4 : Hid (Sx w (upM w3 w.heap.size (.map (esN f (i + 1)) (i + 1))) (esN f (i + 1)) (i + 1) (.slice b m d) m (lcL (sel f i))) := S4
            have HG1 : Hid (Gd f (i + 1)) := HGN.out HA.out HVV.out HNO.out.2
            clear S3 S4 b3 HBX kp4 hne4
            generalize upM w3 w.heap.size (.map (esN f (i + 1)) (i + 1)) = W4 at *
            by_cases hem : x2.toList = []
            · have HX2 : Hid (sel f (i + 1) = sel f i) := (show _ = _ from HX.out.trans (by rw [hem]; simp))
              have HM2 : Hid (m = (sel f (i + 1)).length) := (show _ = _ by rw [HX2.out]; exact HM.out)
              have HS5 : Hid (Sx w W4 (esN f (i + 1)) (i + 1) (.slice b m d) m (lcL (sel f (i + 1)))) := (show Sx _ _ _ _ _ _ _ by rw [HX2.out]; exact HS4.out)
              clear HS4 HS
              go_wp2
              exact ⟨⟨i + 1, m, b, d, by go_num, rfl, by omega, by omega, HM2, HG1, HS5⟩, by simp [RowKit.intOf]; omega⟩
            · have hie : x2.toList.isEmpty = false := by cases h : x2.toList <;> simp_all
              have HX2 : Hid (sel f (i + 1) = sel f i ++ [(x1, x2)]) := (show _ = _ from HX.out.trans (by rw [hie]; rfl))
              go_wp2_with fail
              go_fit (k29.out _)
              rintro e w5 ⟨rfl, b5⟩
              have S5 := HS4.out.below b5
              obtain ⟨G, cc, w6, r, o6, kp6⟩ := ap_lb w5 (w.heap.size + 1) (.slice b m d) m (lcL (sel f i)) (x1, x2) (by have := S5.lt; omega) (by omega) S5.2.1
              have HS6 : Hid (Sx w w6 (esN f (i + 1)) (i + 1) (.slice (some ⟨G, 0, none⟩) (m + 1) cc) (m + 1) (lcL (sel f (i + 1)))) := by
                have hbd := own_bd S5.2.1
                refine ⟨(kp6.block _ S5.lt (fun e => by have := (hbd _ e).1; omega)).trans S5.1, ?_, S5.2.2.trans (kp6.below S5.2.2.size (fun k hk e => by have := (hbd k e).1; omega))⟩
                rw [HX2.out, lcL_app]
                exact o6
              have HM2 : Hid (m + 1 = (sel f (i + 1)).length) := (show _ = _ by rw [HX2.out, List.length_append, ← HM.out]; rfl)
              clear b5 S5 o6 kp6 c0 c1 d0 d1 HS4 HS hup
              go_wp2_with (at_builtin; refine wpList_append_run rfl (.tmp 44) (.tmp 47) 22 22 rfl _ _ rfl rfl r ?_)
              exact ⟨⟨i + 1, m + 1, _, _, by go_num, rfl, by omega, by omega, HM2, HG1, HS6⟩, by simp [RowKit.intOf]; omega⟩
      · have hlk := look_yes S1.1 hyes
        have HY : Hid (∃ j v, Instr.findNow .string (.string x1) (esN f i).toList 0 = some (some (j, v))) := ⟨_, _, hyes⟩
        clear S1 hyes
        go_wp2
        go_ret2
        exact ⟨_, by rw [HQ2.out HY.out]; rfl, HB1.out, .inl ⟨by rw [HQ2.out HY.out]; decide, rfl⟩⟩
    · have hii : ¬ (i : Int) < (n : Int) := by omega
      obtain rfl : n = i := by omega
      obtain ⟨sm, so, sb⟩ := HS.out
      have so2 := so
      rw [HM.out] at so2
      have ks := HC.out wr (w.heap.size + 1) (.slice b m d) (sel f n) (by rw [← HM.out]; omega) (by rw [HM.out]; exact so2)
      have HBk : Hid (∀ w', Kp (fun k => (Value.slice b m d).ownBlock = some k) wr w' → Below w.heap.size w w') := (show ∀ w', _ → _ from fun w' k => sb.trans (k.below sb.size (fun i hi e => by have := (own_bd so i e).1; omega)))
      clear sm so so2 sb HS
      go_wp2_with fail
      go_fit ks
      rintro e w7 ⟨rfl, ks', hp, hs2, o7, k7⟩
      have HR : Hid (Below w.heap.size w w7 ∧ ∃ ks : List Lb, ks.Perm (sel f n) ∧ ks.Pairwise (fun x y => Op.bytesLess y.1.toList x.1.toList = false) ∧ w7.ownsRow (w.heap.size + 1) 26 2 (.slice b m d) ks.length (lcL ks)) := ⟨HBk.out w7 k7, ks', hp, hs2, o7⟩
      clear ks hp hs2 o7 k7 HBk
      go_wp2
      go_ret2
      exact ⟨_, by rw [gd_mkE.1 HG.out]; rfl, HR.out.1, .inr ⟨gd_mkE.1 HG.out, HG.out, HR.out.2⟩⟩
theorem makeE_any (a : Option Addr) (f : Nat → Lb) (n c : Nat) (w : World) (hL : Lm w a f n) (hn : n ≤ 1099511627776) (hs : ∀ j, j < n → (f j).1.size ≤ 140737488355328 ∧ (f j).2.size ≤ 140737488355328) (hT : Lib.Utf8Tabs 1 2 w) :
    Calls Tryd.prog 10 #[.slice a n c] w (MkE f n w) := makeE_gen sort_c a f n c w hL hn hs hT
end Go.Proofs.YtjmninjaoemhjaaDoor
