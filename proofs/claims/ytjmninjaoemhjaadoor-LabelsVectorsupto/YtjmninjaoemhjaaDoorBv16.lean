/- A bundle of texts. -/
import Derived.Test.YtjmninjaoemhjaaDoorBv15
import Derived.Test.YtjmninjaoemhjaaDoorBv03
import Derived.BigQuiet
import Derived.Test.YtjmninjaoemhjaaDoorBv13
/- The reference: named, Get, Valid. -/
namespace Go.Proofs.YtjmninjaoemhjaaDoor.R
open Go.RowKit Go.Lib

/-- A label of that name among the first ones? -/
def nmd (f : Nat → Lb) (nm : ByteArray) (n : Nat) : Bool := (List.range n).any fun j => (f j).1.toList == nm.toList
theorem nmd_iff (f : Nat → Lb) (nm : ByteArray) (n : Nat) : nmd f nm n = true ↔ ∃ j, j < n ∧ (f j).1 = nm := by
  unfold nmd
  simp only [List.any_eq_true, List.mem_range, teq]
set_option maxHeartbeats 2000000 in
set_option maxRecDepth 100000 in
theorem named_any (a : Option Addr) (f : Nat → Lb) (n c : Nat) (nm : ByteArray) (w : World) (hL : Lm w a f n) (hn : n ≤ 140737488355328) :
    Calls Tryd.prog 48 #[.slice a n c, .string nm] w fun e w' => e = .returned (.bool (nmd f nm n)) ∧ w' = w := by
  have HL : Hid (Lm w a f n) := hL
  have hni : (n : Int) ≤ 140737488355328 := by omega
  obtain ⟨v, hv⟩ : ∃ v, nmd f nm n = v := ⟨_, rfl⟩
  rw [hv]
  have HV : Hid (nmd f nm n = v) := hv
  clear hL hv
  go_enter Tryd.func48, Tryd.ntmps48
  go_wp2_with fail
  go_loopw [5] (fun t w' => ∃ i : Nat, t = .int .i64 (i : Nat) ∧ i ≤ n ∧ Hid (∀ j, j < i → (f j).1 ≠ nm) ∧ w' = w) (fun t _ => n - (RowKit.intOf t).toNat)
  case atStart => exact ⟨0, rfl, by omega, fun j h => absurd h (by omega), rfl⟩
  case round =>
    obtain ⟨i, rfl, hi, HI, rfl⟩ := hrel
    by_cases hlt : i < n
    · have hii : (i : Int) < (n : Int) := by omega
      have i0 : (0 : Int) ≤ (i : Int) := by omega
      obtain ⟨g, o, rfl, hg, c0, c1⟩ := HL.out.at i hlt
      by_cases he : ((f i).1.toList == nm.toList) = true
      · have HE : Hid (v = true) := (show _ = _ by rw [← HV.out]; exact (nmd_iff f nm n).2 ⟨i, hlt, (teq _ _).1 he⟩)
        go_wp2
        go_ret
        exact ⟨by rw [HE.out]; rfl, rfl⟩
      · have he2 : ((f i).1.toList == nm.toList) = false := by simpa using he
        have HI2 : Hid (∀ j, j < i + 1 → (f j).1 ≠ nm) := (show ∀ j, _ → _ from fun j hj h => by
          by_cases hji : j = i
          · rw [hji] at h
            exact he ((teq _ _).2 h)
          · exact HI.out j (by omega) h)
        clear he
        go_wp2
        exact ⟨⟨i + 1, by go_num, by omega, HI2, trivial⟩, by simp [RowKit.intOf]; omega⟩
    · have hii : ¬ (i : Int) < (n : Int) := by omega
      obtain rfl : i = n := by omega
      have HE : Hid (v = false) := (show _ = _ by
        rw [← HV.out]
        cases hq : nmd f nm i
        · rfl
        · obtain ⟨j, hj, h⟩ := (nmd_iff f nm i).1 hq
          exact absurd h (HI.out j hj))
      go_wp2
      go_ret
      exact ⟨by rw [HE.out]; rfl, rfl⟩
set_option maxHeartbeats 2000000 in
set_option maxRecDepth 100000 in
theorem rget_any (a : Option Addr) (f : Nat → Lb) (n c : Nat) (nm : ByteArray) (w : World) (hL : Lm w a f n) (hn : n ≤ 140737488355328) :
    Calls Tryd.prog 24 #[.slice a n c, .string nm] w fun e w' => e = .returned (.string (gvF f nm n 0)) ∧ w' = w := by
  have HL : Hid (Lm w a f n) := hL
  have hni : (n : Int) ≤ 140737488355328 := by omega
  obtain ⟨v, hv⟩ : ∃ v, gvF f nm n 0 = v := ⟨_, rfl⟩
  rw [hv]
  have HV : Hid (gvF f nm n 0 = v) := hv
  clear hL hv
  go_enter Tryd.func24, Tryd.ntmps24
  go_wp2_with fail
  go_loopw [5] (fun t w' => ∃ i k : Nat, t = .int .i64 (i : Nat) ∧ i + k = n ∧ Hid (gvF f nm k i = v) ∧ w' = w) (fun t _ => n - (RowKit.intOf t).toNat)
  case atStart => exact ⟨0, n, rfl, by omega, HV, rfl⟩
  case round =>
    obtain ⟨i, k, rfl, hik, hv, rfl⟩ := hrel
    by_cases hlt : i < n
    · have hii : (i : Int) < (n : Int) := by omega
      have i0 : (0 : Int) ≤ (i : Int) := by omega
      obtain ⟨m, rfl⟩ : ∃ m, k = m + 1 := ⟨k - 1, by omega⟩
      obtain ⟨g, o, rfl, hg, c0, c1⟩ := HL.out.at i hlt
      have HG : Hid ((if (f i).1.toList == nm.toList then (f i).2 else gvF f nm m (i + 1)) = v) := hv
      clear hv
      by_cases he : ((f i).1.toList == nm.toList) = true
      · have HE : Hid ((f i).2 = v) := by
          have := HG.out
          rw [if_pos he] at this
          exact this
        go_wp2
        go_ret
        exact ⟨by rw [← HE.out]; rfl, rfl⟩
      · have HE : Hid (gvF f nm m (i + 1) = v) := by
          have := HG.out
          rw [if_neg he] at this
          exact this
        have he2 : ((f i).1.toList == nm.toList) = false := by simpa using he
        clear he
        go_wp2
        exact ⟨⟨i + 1, m, by go_num, by omega, HE, trivial⟩, by simp [RowKit.intOf]; omega⟩
    · have hii : ¬ (i : Int) < (n : Int) := by omega
      obtain rfl : k = 0 := by omega
      have HE : Hid (v = ⟨#[]⟩) := hv.out.symm
      clear hv
      go_wp2
      go_ret
      exact ⟨by rw [HE.out]; rfl, rfl⟩
set_option maxHeartbeats 4000000 in
set_option maxRecDepth 100000 in
theorem rvalid_any (a : Option Addr) (f : Nat → Lb) (n c : Nat) (w : World) (hL : Lm w a f n) (hn : n ≤ 140737488355328) (hs : ∀ j, j < n → (f j).1.size ≤ 140737488355328 ∧ (f j).2.size ≤ 140737488355328) :
    Calls Tryd.prog 23 #[.slice a n c] w fun e w' => e = .returned (.bool (vaF f n 0)) ∧ Below w.heap.size w w' := by
  have HL : Hid (Lm w a f n) := hL
  have HS : Hid (∀ j, j < n → (f j).1.size ≤ 140737488355328 ∧ (f j).2.size ≤ 140737488355328) := hs
  have hni : (n : Int) ≤ 140737488355328 := by omega
  obtain ⟨v, hv⟩ : ∃ v, vaF f n 0 = v := ⟨_, rfl⟩
  rw [hv]
  have HV : Hid (vaF f n 0 = v) := hv
  clear hL hv hs
  go_enter Tryd.func23, Tryd.ntmps23
  go_wp2_with fail
  go_loopw [3] (fun t w' => ∃ i k : Nat, t = .int .i64 (i : Nat) ∧ i + k = n ∧ Hid (vaF f k i = v) ∧ Hid (Below w.heap.size w w')) (fun t _ => n - (RowKit.intOf t).toNat)
  case atStart => exact ⟨0, n, rfl, by omega, HV, Below.refl _ _⟩
  case round =>
    obtain ⟨i, k, rfl, hik, hv, HB⟩ := hrel
    by_cases hlt : i < n
    · have hii : (i : Int) < (n : Int) := by omega
      have i0 : (0 : Int) ≤ (i : Int) := by omega
      obtain ⟨m, rfl⟩ : ∃ m, k = m + 1 := ⟨k - 1, by omega⟩
      obtain ⟨g, o, rfl, hg, c0, c1⟩ := (HL.out.below HB.out).at i hlt
      obtain ⟨s1, s2⟩ := HS.out i hlt
      have HG : Hid ((okL f i && vaF f m (i + 1)) = v) := hv
      clear hv
      have kA := rlabel_any (f i).1 wr s1
      have kV : Hid (∀ W, Below wr.heap.size wr W → Calls Tryd.prog 49 #[.string (f i).2] W fun e w' => e = .returned (.bool (vld (f i).2 (f i).2.size 0)) ∧ Below W.heap.size W w') := fun W _ => rvalidT_any (f i).2 W (by unfold maxLen; omega)
      have HP : Hid (0 < i → ∃ j, i = j + 1 ∧ ∀ W, Below wr.heap.size wr W → W.cell? ⟨g, o + j * 2, none⟩ = some (.string (f j).1)) := (show _ → _ from fun h => by
        obtain ⟨g', o', e', _, d0, _⟩ := (HL.out.below HB.out).at (i - 1) (by omega)
        cases e'
        exact ⟨i - 1, by omega, fun W b => bcell2 b d0⟩)
      have HO : Hid (okL f i = (lbN (f i).1 && (!(f i).2.toList.isEmpty && (vld (f i).2 (f i).2.size 0 && (decide (i = 0) || Op.bytesLess (f (i - 1)).1.toList (f i).1.toList))))) := (show _ = _ from rfl)
      obtain ⟨x, hx⟩ : ∃ x, f i = x := ⟨_, rfl⟩
      rw [hx] at c0 c1 HO kA kV s1 s2
      clear hx
      obtain ⟨x1, x2⟩ := x
      dsimp only at c0 c1 kA kV
      obtain ⟨A, hA⟩ : ∃ A, lbN x1 = A := ⟨_, rfl⟩
      obtain ⟨V, hVV⟩ : ∃ V, vld x2 x2.size 0 = V := ⟨_, rfl⟩
      dsimp only at HO
      rw [hA] at kA HO
      rw [hVV] at kV HO
      clear hA hVV s1 s2
      cases A
      · have HE : Hid (v = false) := (show _ = _ from HG.out.symm.trans (by rw [HO.out]; rfl))
        go_wp2_with fail
        go_fit kA
        rintro e w1 ⟨rfl, rfl⟩
        go_wp2
        go_ret
        exact ⟨by rw [HE.out]; rfl, HB.out⟩
      · by_cases hem : x2.toList = []
        · have HE : Hid (v = false) := (show _ = _ from HG.out.symm.trans (by rw [HO.out, hem]; rfl))
          go_wp2_with fail
          go_fit kA
          rintro e w1 ⟨rfl, rfl⟩
          go_wp2
          go_ret
          exact ⟨by rw [HE.out]; rfl, HB.out⟩
        · have hie : x2.toList.isEmpty = false := by cases h : x2.toList <;> simp_all
          cases V
          · have HE : Hid (v = false) := (show _ = _ from HG.out.symm.trans (by rw [HO.out]; simp))
            go_wp2_with fail
            go_fit kA
            rintro e w1 ⟨rfl, rfl⟩
            have kV2 := kV.out w1 (Below.refl _ _)
            go_wp2_with fail
            go_fit kV2
            rintro e w2 ⟨rfl, b2⟩
            have HN2 : Hid (Below w.heap.size w w2) := HB.out.trans (b2.mono HB.out.size)
            clear b2
            go_wp2
            go_ret
            exact ⟨by rw [HE.out]; rfl, HN2.out⟩
          · go_wp2_with fail
            go_fit kA
            rintro e w1 ⟨rfl, rfl⟩
            have kV2 := kV.out w1 (Below.refl _ _)
            go_wp2_with fail
            go_fit kV2
            rintro e w2 ⟨rfl, b2⟩
            have HN2 : Hid (∀ q, Hid (Below w.heap.size w (w2.drewN q))) := (show ∀ q, _ from fun q => (show Below _ _ _ from (HB.out.trans (b2.mono HB.out.size)).trans ⟨rfl, rfl, rfl, Nat.le_refl _, fun _ _ => rfl⟩))
            have HBW : Hid (Below w1.heap.size w1 w2) := b2
            have e0 := bcell2 b2 c0
            have c1 := bcell2 b2 c1
            clear b2 kA kV kV2 c0
            rcases Nat.eq_zero_or_pos i with h0 | h0
            · subst h0
              have HE : Hid (vaF f m (0 + 1) = v) := (show _ = _ from by
                have := HG.out
                rw [HO.out] at this
                simpa [hie] using this)
              have hi1 : ¬ (0 : Int) < 0 := by omega
              go_upto_region 6 with fail
              go_big_quiet (fail)
              have HN3 : Hid (Below w.heap.size w (w2.drewN nq)) := HN2.out nq
              go_wp2
              exact ⟨⟨1, m, by go_num, by omega, HE, HN3⟩, by simp [RowKit.intOf]; omega⟩
            · obtain ⟨j, hj, d0⟩ := HP.out h0
              have d2 := d0 w2 HBW.out
              subst hj
              have hi1 : (0 : Int) < (j : Int) + 1 := by omega
              have q1 : IntKind.i64.wrap ((j : Int) + 1 - 1) = (j : Nat) := by rw [IntKind.wrap_i64]; omega
              have q2 : (0 : Int) ≤ (j : Int) + 1 := by omega
              have q3 : (j : Int) < (n : Int) := by omega
              have q4 : IntKind.i64.wrap (j : Int) = (j : Nat) := by rw [IntKind.wrap_i64]; omega
              have q5 : (0 : Int) ≤ (j : Int) := by omega
              obtain ⟨y1, hy1⟩ : ∃ y1, (f j).1 = y1 := ⟨_, rfl⟩
              rw [show j + 1 - 1 = j from rfl, hy1] at HO
              rw [hy1] at d2
              obtain ⟨bl, hbl⟩ : ∃ bl, Op.bytesLess y1.toList x1.toList = bl := ⟨_, rfl⟩
              have HBL : Hid (Op.bytesLess y1.toList x1.toList = bl) := hbl
              have HI0 : Hid (decide (j + 1 = 0) = false) := (show _ = _ from decide_eq_false (by omega))
              clear hy1 d0 HBW HP
              cases bl
              · have HE : Hid (v = false) := (show _ = _ from HG.out.symm.trans (by rw [HO.out, HI0.out, HBL.out]; simp))
                go_upto_region 6 with fail
                go_big_quiet (fail)
                have HN3 : Hid (Below w.heap.size w (w2.drewN nq)) := HN2.out nq
                go_wp2
                go_ret
                exact ⟨by rw [HE.out]; rfl, HN3.out⟩
              · have HE : Hid (vaF f m (j + 1 + 1) = v) := (show _ = _ from by
                  have := HG.out
                  rw [HO.out, HBL.out] at this
                  simpa [hie] using this)
                go_upto_region 6 with fail
                go_big_quiet (fail)
                have HN3 : Hid (Below w.heap.size w (w2.drewN nq)) := HN2.out nq
                go_wp2
                exact ⟨⟨j + 2, m, by go_num, by omega, HE, HN3⟩, by simp [RowKit.intOf]; omega⟩
    · have hii : ¬ (i : Int) < (n : Int) := by omega
      obtain rfl : k = 0 := by omega
      have HE : Hid (v = true) := hv.out.symm
      clear hv
      go_wp2
      go_ret
      exact ⟨by rw [HE.out]; rfl, HB.out⟩
end Go.Proofs.YtjmninjaoemhjaaDoor.R
/- The reference's Vector. -/
namespace Go.Proofs.YtjmninjaoemhjaaDoor
open Go.RowKit Go.Lib Go.Shelf Go.Sort

attribute [local go_sem] Oper.semAt_some run_store_float

/-- What the reference's Vector answers. -/
def RVR (q : Nat → El) (n : Nat) (w : World) (e : Ending) (w' : World) : Prop := ∃ v E, e = .returned (.tuple #[v, .int .i64 E]) ∧ Below w.heap.size w w' ∧
  ((E = 5 ∧ v = .slice none 0 0 ∧ ((∃ j, j < n ∧ okE (q j) = false) ∨ ¬ (elL q n).Pairwise (fun x y => cfE x y ≠ 0))) ∨
   (E = 0 ∧ (∀ j, j < n → okE (q j) = true) ∧ ∃ ks : List El, ks.Perm (elL q n) ∧ ks.Pairwise (fun x y => cfE x y < 0) ∧ w'.ownsRow w.heap.size 45 2 v ks.length (fl e2 ks)))
theorem pair_leE {ks : List El} (h : ks.Pairwise leE) : ks.Pairwise (fun x y => ¬ cfE y x < 0) := h.imp fun {x y} h => by
  have := cm_anti x.f y.f x.n y.n
  unfold leE cfE at *
  omega
set_option maxHeartbeats 8000000 in
set_option maxRecDepth 100000 in
theorem rvector_any (a : Option Addr) (n c : Nat) (q : Nat → El) (w : World) (hE : Em w a q n) (hz : a = none → n = 0 ∧ c = 0) (hnc : n ≤ c) (hcm : c ≤ 9223372036854775807) (hn : n ≤ 1099511627776) (hO : ∀ j, j < n → Eo w (q j)) :
    Calls Tryd.prog 16 #[.slice a n c] w (RVR q n w) := by
  have HE : Hid (Em w a q n) := hE
  have HO : Hid (∀ j, j < n → Eo w (q j)) := hO
  have hni : (n : Int) ≤ 1099511627776 := by omega
  have HK : Hid (∀ W, Below w.heap.size w W → Calls Tryd.prog 44 #[.slice a n c] W (SR (elL q n) W)) := (show ∀ W, _ → _ from fun W b => rsorted_any n a c q W (hE.below b) hz hnc hcm hn (fun j hj => ⟨(hO j hj).1.below b, (hO j hj).2.1⟩))
  clear hE hO hz
  go_enter Tryd.func16, Tryd.ntmps16
  go_wp2_with fail
  go_loopw [4] (fun t w' => ∃ i : Nat, t = .int .i64 (i : Int) ∧ i ≤ n ∧ Hid ((∀ j, j < i → okE (q j) = true) ∧ Below w.heap.size w w')) (fun t _ => n - (RowKit.intOf t).toNat)
  case atStart => exact ⟨0, rfl, by omega, fun j hj => absurd hj (by omega), Below.refl _ _⟩
  case round =>
    obtain ⟨i, rfl, hi, HI⟩ := hrel
    by_cases hlt : i < n
    · have hii : (i : Int) < n := by omega
      have i0 : (0 : Int) ≤ (i : Int) := by omega
      obtain ⟨g, o, rfl, hg, x0, x1⟩ := (HE.out.below HI.out.2).at i hlt
      have hEo := (HO.out i hlt).below HI.out.2
      have k := R.rvalid_any (q i).a (q i).f (q i).n (q i).c wr hEo.1 (by have := hEo.2.1; omega) hEo.2.2
      obtain ⟨V, hV⟩ : ∃ V, okE (q i) = V := ⟨_, rfl⟩
      have HV : Hid (okE (q i) = V) := hV
      unfold okE at hV
      rw [hV] at k
      have HIL : Hid (i + 1 ≤ n) := hlt
      clear hV hEo x1
      generalize (q i).a = ea at *
      generalize (q i).n = en at *
      generalize (q i).c = ec at *
      cases V
      · go_wp2_with fail
        go_fit k
        rintro e w2 ⟨rfl, b2⟩
        have B2 : Hid (Below w.heap.size w w2) := HI.out.2.trans (b2.mono HI.out.2.size)
        clear k b2
        go_wp2
        go_ret2
        exact ⟨_, _, rfl, B2.out, .inl ⟨rfl, rfl, .inl ⟨i, hlt, HV.out⟩⟩⟩
      · go_wp2_with fail
        go_fit k
        rintro e w2 ⟨rfl, b2⟩
        have B2 : Hid ((∀ j, j < i + 1 → okE (q j) = true) ∧ Below w.heap.size w w2) := (show _ ∧ _ from ⟨fun j hj => by
          by_cases hji : j = i
          · rw [hji]; exact HV.out
          · exact HI.out.1 j (by omega), HI.out.2.trans (b2.mono HI.out.2.size)⟩)
        clear k b2
        go_wp2
        exact ⟨⟨i + 1, by go_num, HIL.out, B2⟩, by simp [RowKit.intOf]; omega⟩
    · have hii : ¬ (i : Int) < n := by omega
      obtain rfl : i = n := by omega
      have k := HK.out wr HI.out.2
      have hii2 : ¬ (i : Int) < i := by omega
      go_wp2_with fail
      go_fit k
      rintro e w2 ⟨v, ks, rfl, hp, hs, o2, b2⟩
      have B2 : Hid (Below w.heap.size w w2) := HI.out.2.trans (b2.mono HI.out.2.size)
      have HOK : Hid (∀ j, j < i → okE (q j) = true) := HI.out.1
      have hkl : ks.length = i := by rw [hp.length_eq, elL_len]
      obtain ⟨a2, c2, hv⟩ := row_sl o2
      subst hv
      have HKS : Hid (ks.Perm (elL q i) ∧ ks.Pairwise leE) := ⟨hp, hs⟩
      have HRW : Hid (∀ W, Below w2.heap.size w2 W → W.ownsRow wr.heap.size 45 2 (.slice a2 ks.length c2) ks.length (fl e2 ks)) := (show ∀ W, _ → _ from fun W b => kept_rowE o2 b)
      have HEM : Hid (∀ W, Below w2.heap.size w2 W → Em W a2 (gE ks) ks.length) := (show ∀ W, _ → _ from fun W b => by
        have r := kept_rowE o2 b
        rw [← elL_gE ks, elL_len] at r
        exact elM_row r)
      have HX : Hid (∀ j, j < ks.length → Lm w (gE ks j).a (gE ks j).f (gE ks j).n ∧ (gE ks j).n ≤ 4294967296) := (show ∀ j, _ → _ from fun j hj => by
        rw [gE_at ks j hj]
        obtain ⟨m, hm, e⟩ : ∃ m, m < i ∧ q m = ks[j] := by simpa [elL] using hp.subset (List.getElem_mem hj)
        rw [← e]
        exact ⟨(HO.out m hm).1, (HO.out m hm).2.1⟩)
      have HSZ : Hid (w.heap.size ≤ wr.heap.size) := HI.out.2.size
      have hki : (ks.length : Int) ≤ 1099511627776 := by omega
      clear k hp hs o2 b2 HI HK hkl
      go_wp2_with fail
      go_loopw [6] (fun t w' => ∃ k : Nat, t = .int .i64 ((k : Int) + 1) ∧ (k + 1 ≤ ks.length ∨ k = 0) ∧ Hid ((∀ j, j < k → cfE (gE ks j) (gE ks (j + 1)) ≠ 0) ∧ Below w2.heap.size w2 w')) (fun t _ => ks.length - (RowKit.intOf t).toNat)
      case atStart => exact ⟨0, rfl, .inr rfl, fun j hj => absurd hj (by omega), Below.refl _ _⟩
      case round =>
        obtain ⟨k, rfl, hk, HJ⟩ := hrel
        by_cases hkn : k + 1 < ks.length
        · have g0 : (k : Int) + 1 < (ks.length : Int) := by omega
          have g1 : IntKind.i64.wrap ((k : Int) + 1 - 1) = (k : Int) := by rw [IntKind.wrap_i64]; omega
          have g5 : IntKind.i64.wrap (k : Int) = (k : Int) := by rw [IntKind.wrap_i64]; omega
          have g2 : (k : Int) < (ks.length : Int) := by omega
          have g3 : (0 : Int) ≤ (k : Int) := by omega
          have g4 : (0 : Int) ≤ (k : Int) + 1 := by omega
          have HKN : Hid (k + 2 ≤ ks.length) := hkn
          obtain ⟨g, o, rfl, hg, x0, _⟩ := (HEM.out _ HJ.out.2).at k (by omega)
          obtain ⟨g', o', e9, _, y0, _⟩ := (HEM.out _ HJ.out.2).at (k + 1) hkn
          cases e9
          have HKE : Hid (∀ W, Below wr.heap.size wr W → Calls Tryd.prog 45 #[.slice (gE ks k).a (gE ks k).n (gE ks k).c, .slice (gE ks (k + 1)).a (gE ks (k + 1)).n (gE ks (k + 1)).c] W fun e w' => e = .returned (.int .i64 (cfE (gE ks k) (gE ks (k + 1)))) ∧ Below W.heap.size W w') := (show ∀ W, _ → _ from fun W b => by
            have hb := B2.out.trans ((HJ.out.2.trans (b.mono HJ.out.2.size)).mono B2.out.size)
            obtain ⟨l1, n1⟩ := HX.out k (by omega)
            obtain ⟨l2, n2⟩ := HX.out (k + 1) hkn
            exact rcompare_any _ _ _ _ _ _ _ _ W (l1.below hb) (l2.below hb) (by omega) (by omega))
          obtain ⟨CF, hCF⟩ : ∃ C, cfE (gE ks k) (gE ks (k + 1)) = C := ⟨_, rfl⟩
          have HCF : Hid (cfE (gE ks k) (gE ks (k + 1)) = CF) := hCF
          rw [hCF] at HKE
          have HSX : Hid (∀ W, Below wr.heap.size wr W → (W.cell? ⟨g, o + k * 2, none⟩ = some (.slice (gE ks k).a (gE ks k).n (gE ks k).c) ∧ W.cell? ⟨g, o + (k + 1) * 2, none⟩ = some (.slice (gE ks (k + 1)).a (gE ks (k + 1)).n (gE ks (k + 1)).c)) ∧ Below wr.heap.size wr W) := (show ∀ W, _ → _ from fun W b => ⟨⟨bcell2 b x0, bcell2 b y0⟩, b⟩)
          clear hCF
          generalize (gE ks k).a = xa at *
          generalize (gE ks k).n = xn at *
          generalize (gE ks k).c = xc at *
          generalize (gE ks (k + 1)).a = ya at *
          generalize (gE ks (k + 1)).n = yn at *
          generalize (gE ks (k + 1)).c = yc at *
          have bd : Below wr.heap.size wr wr.drew := (Below.refl _ _).drew
          go_upto_region 10 with fail
          go_region_held3 (fun w2 => (w2.cell? ⟨g, o + k * 2, none⟩ = some (.slice xa xn xc) ∧ w2.cell? ⟨g, o + (k + 1) * 2, none⟩ = some (.slice ya yn yc)) ∧ Below wr.heap.size wr w2) (first | exact HSX.out _ (by assumption) | exact HSX.out _ (Below.drew (by assumption))) (first | (go_at_call 45; go_fit (HKE.out _ (by first | exact bd | exact Below.refl _ _)); rintro e w12 ⟨rfl, b12⟩; have bc : Below wr.heap.size wr w12 := by first | exact bd.trans (b12.mono bd.size) | exact b12))
          rename_i hh
          have HB12 : Hid (Below w2.heap.size w2 w12) := HJ.out.2.trans (bc.mono HJ.out.2.size)
          have HW12 : Hid (Below w.heap.size w w12) := B2.out.trans (HB12.out.mono B2.out.size)
          clear hh HSX HKE bc b12 bd x0 y0
          by_cases hc : CF = 0
          · subst hc
            go_wp2
            go_ret2
            refine ⟨_, _, rfl, HW12.out, .inl ⟨rfl, rfl, .inr fun hpw => ?_⟩⟩
            have h9 := pair_perm HKS.out.1.symm hpw
            rw [List.pairwise_iff_getElem] at h9
            have h8 := h9 k (k + 1) (by omega) hkn (by omega)
            rw [← gE_at ks k (by omega), ← gE_at ks (k + 1) hkn] at h8
            exact h8 HCF.out
          · go_wp2
            refine ⟨⟨k + 1, by go_num, .inl (by omega), (show _ ∧ _ from ⟨fun j hj => ?_, HB12.out⟩)⟩, by simp [RowKit.intOf]; omega⟩
            by_cases e : j = k
            · rw [e, HCF.out]
              exact hc
            · exact HJ.out.1 j (by omega)
        · have g0 : ¬ (k : Int) + 1 < (ks.length : Int) := by omega
          have HF : Hid (RVR q i w (.returned (.tuple #[.slice a2 ks.length c2, .int .i64 0])) wr) := (show RVR _ _ _ _ _ from ⟨_, _, rfl, B2.out.trans (HJ.out.2.mono B2.out.size), .inr ⟨rfl, HOK.out, ks, HKS.out.1, pair_lt (pair_leE HKS.out.2) (fun j hj => by
            rw [← gE_at ks j (by omega), ← gE_at ks (j + 1) hj]
            exact HJ.out.1 j (by omega)), World.ownsRow.mono (HRW.out wr HJ.out.2) HSZ.out⟩⟩)
          go_wp2
          go_ret2
          exact HF.out
end Go.Proofs.YtjmninjaoemhjaaDoor
