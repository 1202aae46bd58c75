/- A bundle of texts. -/
import Derived.Test.YtjmninjaoemhjaaDoorBv01
import Derived.Test.YtjmninjaoemhjaaDoorBv04
import Derived.Shelf.SlSortCmp.WholeK
import Derived.Shelf.SlSortCmp.NoneTotal
/- Labels: the sort by name. -/
namespace Go.Proofs.YtjmninjaoemhjaaDoor
open Go.RowKit Go.Lib Go.Shelf Go.Sort

def cfN (x y : Lb) : Int := od x.1 y.1
theorem lt_cfN (x y : Lb) : ltOf cfN x y = Op.bytesLess x.1.toList y.1.toList := by
  unfold ltOf cfN
  rcases od_cases x.1 y.1 with ⟨h, h2, _⟩ | ⟨h, h2, _⟩ | ⟨h, h2, _⟩ <;> rw [h, h2] <;> decide
theorem swoN : SWO (ltOf cfN) where
  irrefl x := by
    have := (od_od.eq x.1 x.1).2 rfl
    simp [ltOf, cfN, this]
  trans x y z h1 h2 := by
    have h1 : od x.1 y.1 < 0 := of_decide_eq_true h1
    have h2 : od y.1 z.1 < 0 := of_decide_eq_true h2
    have h := od_od.lt x.1 y.1 z.1 (by omega) (by omega)
    have a := od_od.anti x.1 y.1
    refine decide_eq_true (show od x.1 z.1 < 0 from ?_)
    by_cases e : od x.1 z.1 = 0
    · rw [← (od_od.eq _ _).1 e] at h2
      omega
    · omega
  ntrans x y z h1 h2 := by
    have h1 : ¬ od x.1 y.1 < 0 := of_decide_eq_false h1
    have h2 : ¬ od y.1 z.1 < 0 := of_decide_eq_false h2
    have a1 := od_od.anti x.1 y.1
    have a2 := od_od.anti y.1 z.1
    have a3 := od_od.anti x.1 z.1
    have := od_od.lt z.1 y.1 x.1 (by omega) (by omega)
    exact decide_eq_false (show ¬ od x.1 z.1 < 0 by omega)
set_option maxHeartbeats 1000000 in
theorem byName_x (x y : Lb) (W : World) : Calls Tryd.prog 31 #[lbV x, lbV y] W fun e w' => e = .returned (.int .i64 (cfN x y)) ∧ ∃ q os', w' = grow (W.drewN q) os' := by
  obtain ⟨x1, x2⟩ := x
  obtain ⟨y1, y2⟩ := y
  have k := fun W' => compare_any x1 y1 W'
  show Calls Tryd.prog 31 _ _ fun e w' => e = .returned (.int .i64 (od x1 y1)) ∧ _
  generalize od x1 y1 = C at *
  go_enter Tryd.func31, Tryd.ntmps31
  go_wp2_with fail
  go_fit (k _)
  rintro e w1 ⟨rfl, rfl⟩
  clear k
  go_wp2
  go_ret
  exact ⟨rfl, 0, _, by rw [alloc_eq_grow, alloc_eq_grow, grow_grow]; rfl⟩
theorem lcL_len : ∀ ks : List Lb, (lcL ks).length = ks.length * 2
  | [] => rfl
  | x :: ks => by
    show (l2 x ++ lcL ks).length = _
    rw [List.length_append, lcL_len ks]
    simp [l2]
    omega
theorem lcL_get : ∀ (ks : List Lb) (j k : Nat), k < 2 → (lcL ks)[j * 2 + k]? = (ks[j]?).bind fun x => (l2 x)[k]?
  | [], _, _, _ => by simp [lcL]
  | x :: ks, 0, k, h => by
    show (l2 x ++ lcL ks)[0 * 2 + k]? = _
    rw [List.getElem?_append_left (by simp [l2]; omega)]
    simp
  | x :: ks, j + 1, k, h => by
    show (l2 x ++ lcL ks)[(j + 1) * 2 + k]? = _
    rw [List.getElem?_append_right (by simp [l2]; omega), show (j + 1) * 2 + k - (l2 x).length = j * 2 + k by simp [l2]; omega, lcL_get ks j k h]
    simp
theorem flat_lc (d : Array Lb) : (flatK l2 2 d).toList = lcL d.toList := by
  apply List.ext_getElem?
  intro t
  by_cases h : t < d.size * 2
  · have e : (flatK l2 2 d)[t]? = some (flatK l2 2 d)[t]! := by
      rw [getElem!_pos _ _ (by simpa using h)]
      exact Array.getElem?_eq_getElem (by simpa using h)
    have hj : t / 2 < d.size := by omega
    have ht : t = t / 2 * 2 + t % 2 := by omega
    have hm : t % 2 < 2 := by omega
    rw [Array.getElem?_toList, e, get_flatK _ _ _ _ h]
    conv => rhs; rw [ht, lcL_get _ _ _ hm]
    rw [Array.getElem?_toList, Array.getElem?_eq_getElem hj, getElem!_pos d _ hj]
    show _ = (l2 d[t / 2])[t % 2]?
    rw [List.getElem?_eq_getElem (by simpa [l2] using hm), getElem!_pos _ _ (by simpa [l2] using hm)]
  · rw [List.getElem?_eq_none (by simp; omega), List.getElem?_eq_none (by rw [lcL_len]; simp; omega)]
theorem heap_put {w : World} {g n : Nat} {os : Array Obj} {cur : Array Value} {e : TypeId} {fr : Nat × Nat} (F : Array Value) (hb : w.heap[g]? = some (.cells cur e fr)) :
    (grow (putRow id (Sort.ahead w n) g 0 F) os).heap[g]? = some (.cells (putCells id 0 F cur) e fr) := by
  have hg : g < w.heap.size := (Array.getElem?_eq_some_iff.1 hb).1
  rw [heap_grow_old _ _ (by simpa using hg)]
  simp [putRow, mapBlock, Sort.ahead, Array.getElem?_modify, hb, onCells]
theorem kp_put {w : World} {g n : Nat} {os : Array Obj} (F : Array Value) : Kp (fun b => some g = some b) w (grow (putRow id (Sort.ahead w n) g 0 F) os) := by
  refine ⟨rfl, rfl, rfl, by simp, fun k hk hne => ?_⟩
  rw [heap_grow_old _ _ (by simpa using hk)]
  have : g ≠ k := fun e => hne (by rw [e])
  simp [putRow, mapBlock, Sort.ahead, Array.getElem?_modify, this]
theorem take_put (cur F : Array Value) (h : F.size ≤ cur.size) : (putCells id 0 F cur).toList.take F.size = F.toList := by
  apply List.ext_getElem?
  intro j
  by_cases hj : j < F.size
  · rw [List.getElem?_take_of_lt hj, Array.getElem?_toList, Array.getElem?_toList]
    simp [putCells, hj, show j < cur.size by omega]
  · rw [List.getElem?_take_eq_none (by omega), List.getElem?_eq_none (by simp; omega)]
theorem holds_cells {w : World} {g : Nat} {cur : Array Value} {e : TypeId} {ks : List Lb} (hb : w.heap[g]? = some (.cells cur e (0, 0))) (ht : cur.toList.take (ks.length * 2) = lcL ks) : HoldsK l2 2 w g 0 ks.toArray := by
  intro j hj
  have hj' : j < ks.length * 2 := by simpa using hj
  refine ⟨?_, by simp [World.frozen?, hb]⟩
  have hf : (flatK l2 2 ks.toArray)[j]? = (lcL ks)[j]? := by
    rw [← Array.getElem?_toList, flat_lc]
  rw [← ht, List.getElem?_take_of_lt hj', Array.getElem?_toList] at hf
  simp only [World.cell?, hb, Nat.zero_add]
  simp only [Option.isSome_none, Bool.false_eq_true, if_false]
  rw [← hf]
  show _ = some (flatK l2 2 ks.toArray)[j]!
  rw [getElem!_pos (flatK l2 2 ks.toArray) j hj]
  exact Array.getElem?_eq_getElem hj
set_option maxHeartbeats 1000000 in
/-- The sort of a list that lies in a block of its own. -/
theorem sort_some (W : World) (S g cap : Nat) (cur : Array Value) (ks : List Lb) (hn : ks.length ≤ 1099511627776) (hS : S ≤ g) (hg : W.heap[g]? = some (.cells cur 26 (0, 0))) (h1 : ks.length ≤ cap) (h2 : cap ≤ maxLen) (h3 : cur.size = cap * 2) (h4 : cur.toList.take (ks.length * 2) = lcL ks) :
    Calls Tryd.prog 30 #[.slice (some ⟨g, 0, none⟩) ks.length cap, .func (.func 31) #[] #[]] W fun e W' => e = .returned (.tuple #[]) ∧ ∃ ks' : List Lb, ks'.Perm ks ∧ ks'.Pairwise (fun x y => Op.bytesLess y.1.toList x.1.toList = false) ∧ W'.ownsRow S 26 2 (.slice (some ⟨g, 0, none⟩) ks.length cap) ks'.length (lcL ks') ∧ Kp (fun b => some g = some b) W W' := by
  have hgs : g < W.heap.size := (Array.getElem?_eq_some_iff.1 hg).1
  have eg : ∀ args w, (callFunc 31 args).run Tryd.prog w = .ok (.enter 31 args) w := enters_of Tryd.func31 (by kernel_rfl) rfl
  have h := AnyQ.slices_SortFunc Tryd.sortLb 2 Tryd.isAgg26 Tryd.sizeOf26 l2 (fun _ => rfl) (fun x v hv => by simp [l2] at hv; rcases hv with rfl | rfl <;> rfl) cfN swoN 31 #[] g 0 cap ks.toArray W eg (fun _ _ _ _ x y => byName_x x y _) (holds_cells hg h4) hgs (by simp; omega)
  change Calls Tryd.prog 30 _ _ _ at h
  refine h.mono ?_
  rintro e w' ⟨rfl, d', m, os, ⟨p1, _, p3⟩, hs, rfl⟩
  have hz : d'.size = ks.length := by simpa using p1
  refine ⟨rfl, d'.toList, ?_, ?_, ⟨by rw [lcL_len], .inr ⟨g, cap, putCells id 0 (flatK l2 2 d') cur, by simp [hz], hS, heap_put _ hg, by simpa [hz] using h1, h2, by simp [putCells, h3], ?_⟩⟩, kp_put _⟩
  · have e1 : d'.extract 0 ks.toArray.size = d' := by rw [← p1]; simp
    have e2 : ks.toArray.extract 0 ks.toArray.size = ks.toArray := by simp
    rw [e1, e2] at p3
    exact p3
  · rw [List.pairwise_iff_getElem]
    intro i j hi hj hij
    have hi' : i < d'.size := by simpa using hi
    have hj' : j < d'.size := by simpa using hj
    have := hs i j (Nat.zero_le _) hij (by simpa [hz] using hj')
    rw [lt_cfN, getElem!_pos d' j hj', getElem!_pos d' i hi'] at this
    simpa using this
  · have e : d'.toList.length * 2 = (flatK l2 2 d').size := by simp
    rw [e, take_put cur _ (by simp; omega), flat_lc]
end Go.Proofs.YtjmninjaoemhjaaDoor
/- Labels: Make of any pairs, the walk. -/
namespace Go.Proofs.YtjmninjaoemhjaaDoor
open Go.RowKit Go.Lib

theorem lcL_app (a : List Lb) (x : Lb) : lcL (a ++ [x]) = lcL a ++ l2 x := by simp [lcL]
theorem row_sl {w : World} {S e s n : Nat} {v : Value} {xs : List Value} (o : w.ownsRow S e s v n xs) : ∃ a c, v = .slice a n c := by
  rcases o.2 with ⟨e, e2⟩ | ⟨g, c, cur, e, _⟩
  · exact ⟨none, 0, by rw [e, e2]⟩
  · exact ⟨_, c, e⟩
set_option maxHeartbeats 8000000 in
set_option maxRecDepth 100000 in
theorem make_gen (hSC : SortC) (a : Option Addr) (f : Nat → Lb) (n c : Nat) (w : World) (hL : Lm w a f n) (hn : n ≤ 1099511627776) (hs : ∀ j, j < n → (f j).1.size ≤ 140737488355328 ∧ (f j).2.size ≤ 140737488355328) (hT : Lib.Utf8Tabs 1 2 w) :
    Calls Tryd.prog 10 #[.slice a n c] w (MkR f n w) := by
  have HC : Hid SortC := hSC
  have HL : Hid (Lm w a f n) := hL
  have HSz : Hid (∀ j, j < n → (f j).1.size ≤ 140737488355328 ∧ (f j).2.size ≤ 140737488355328) := hs
  have HT : Hid (Lib.Utf8Tabs 1 2 w) := hT
  have H2 : Hid (2 < w.heap.size) := tabs_size hT
  have hni : (n : Int) ≤ 1099511627776 := by omega
  have hmm := mk_run (n : Int)
  have HS0 : Hid (Sx w (w.alloc (.map #[] 0)) (esN f 0) 0 (.slice none 0 0) 0 (lcL (sel f 0))) := ⟨heap_alloc_new w _, World.ownsRow_nil _ _ _ _, (Below.refl _ w).alloc (Nat.le_refl _) _⟩
  have HG0 : Hid (Gd f 0) := (show Gd f 0 from fun j hj => absurd hj (by omega))
  have HM0 : Hid (0 = (sel f 0).length) := rfl
  clear hSC hL hs hT
  go_enter Tryd.func10, Tryd.ntmps10
  go_wp2_with fail
  clear hmm
  go_loopw [5, 15] (fun v t w' => ∃ (i m : Nat) (b : Option Addr) (d : Nat), t = .int .i64 (i : Nat) ∧ v = .slice b m d ∧ i ≤ n ∧ m ≤ i ∧ Hid (m = (sel f i).length) ∧ Hid (Gd f i) ∧ Hid (Sx w w' (esN f i) i (.slice b m d) m (lcL (sel f i)))) (fun _ t _ => n - (RowKit.intOf t).toNat)
  case atStart => exact ⟨0, 0, none, 0, rfl, rfl, by omega, by omega, HM0, HG0, HS0⟩
  case round =>
    obtain ⟨i, m, b, d, rfl, rfl, hi, hmi, HM, HG, HS⟩ := hrel
    by_cases hlt : i < n
    · have hii : (i : Int) < (n : Int) := by omega
      obtain ⟨g, o, rfl, hg, p0, p1⟩ := HL.out.at i hlt
      have q0 := bcell2 HS.out.2.2 p0
      have q1 := bcell2 HS.out.2.2 p1
      have hsn := seen f i (f i).1
      obtain ⟨s1, s2⟩ := HSz.out i hlt
      have k27 : Hid (∀ W, Calls Tryd.prog 27 #[.string (f i).1] W fun e w' => e = .returned (.bool (lbN (f i).1)) ∧ w' = W) := fun W => isLabel_any (f i).1 W s1
      have k28 : Hid (∀ W, Below w.heap.size w W → Calls Tryd.prog 28 #[.string (f i).2] W fun e w' => e = .returned (.bool (vld (f i).2 (f i).2.size 0)) ∧ Below W.heap.size W w') := (show ∀ W, _ → _ from fun W bb => valid_any (f i).2 W (by unfold maxLen; omega) (tabs_below HT.out H2.out bb))
      have k29 : Hid (∀ W, Calls Tryd.prog 29 #[lbV (f i)] W fun e w' => e = .returned (lbV (f i)) ∧ Below W.heap.size W w') := fun W => copied_any (f i) W s1 s2
      have HGN : Hid (lbN (f i).1 = true → vld (f i).2 (f i).2.size 0 = true → (∀ j, j < i → ((f i).1 == (f j).1) = false) → Gd f (i + 1)) := (show _ → _ from fun h1 h2 h3 j hj => by
        rcases Nat.lt_or_ge j i with h | h
        · exact HG.out j h
        · obtain rfl : j = i := by omega
          exact ⟨h1, h2, h3⟩)
      have HE1 : Hid (esN f (i + 1) = (esN f i).push (mE (f i).1 i)) := (show _ = _ from rfl)
      have HX : Hid (sel f (i + 1) = sel f i ++ (if (f i).2.toList.isEmpty then [] else [f i])) := (show _ = _ from rfl)
      obtain ⟨x, hx⟩ : ∃ x, f i = x := ⟨_, rfl⟩
      rw [hx] at q0 q1 hsn k27 k28 k29 HGN HE1 HX
      clear hx p0 p1 s1 s2
      obtain ⟨x1, x2⟩ := x
      dsimp only at q0 q1 hsn k27 k28 k29 HGN HE1 HX
      have S1 := HS.out.below ((Below.refl _ wr).alloc (Nat.le_refl _) (lbX (x1, x2)))
      have HB1 : Hid (Below w.heap.size w ((wr.alloc (lbX (x1, x2))).alloc (.cells #[] 62))) := (show Below _ _ _ from (S1.below ((Below.refl _ _).alloc (Nat.le_refl _) (.cells #[] 62))).2.2)
      rcases hsn with ⟨hno, hne⟩ | ⟨j, hyes⟩
      · have hlk := look_run S1.1 hno
        obtain ⟨A, hA⟩ : ∃ A, lbN x1 = A := ⟨_, rfl⟩
        have HA : Hid (lbN x1 = A) := hA
        rw [hA] at k27
        clear hA
        cases A
        · clear S1
          go_wp2_with fail
          go_fit (k27.out _)
          rintro e w2 ⟨rfl, rfl⟩
          go_wp2
          go_ret2
          exact ⟨_, _, rfl, HB1.out, .inl ⟨by decide, rfl⟩⟩
        · obtain ⟨V, hV⟩ : ∃ V, vld x2 x2.size 0 = V := ⟨_, rfl⟩
          have HVV : Hid (vld x2 x2.size 0 = V) := hV
          rw [hV] at k28
          clear hV
          have S2 := S1.below ((Below.refl _ (wr.alloc (lbX (x1, x2)))).alloc (Nat.le_refl _) (.cells #[] 62))
          have e1 : (wr.alloc (lbX (x1, x2))).heap[wr.heap.size]? = some (lbX (x1, x2)) := heap_alloc_new wr _
          have HBX : Hid (∀ w', Below ((wr.alloc (lbX (x1, x2))).alloc (.cells #[] 62)).heap.size ((wr.alloc (lbX (x1, x2))).alloc (.cells #[] 62)) w' → w'.cell? ⟨wr.heap.size, 0, none⟩ = some (.string x1) ∧ w'.cell? ⟨wr.heap.size, 1, none⟩ = some (.string x2)) := fun w' b => by
            have b2 : Below (wr.alloc (lbX (x1, x2))).heap.size (wr.alloc (lbX (x1, x2))) ((wr.alloc (lbX (x1, x2))).alloc (.cells #[] 62)) := (Below.refl _ _).alloc (Nat.le_refl _) _
            have b3 := b2.trans (b.mono b2.size)
            exact ⟨bcell2 b3 (by unfold World.cell?; rw [e1]; rfl), bcell2 b3 (by unfold World.cell?; rw [e1]; rfl)⟩
          have HMl : Hid (w.heap.size < wr.heap.size) := HS.out.lt
          have HNO : Hid (Instr.findNow .string (.string x1) (esN f i).toList 0 = some none ∧ ∀ j, j < i → (x1 == (f j).1) = false) := ⟨hno, hne⟩
          have HS2 : Hid (Sx w ((wr.alloc (lbX (x1, x2))).alloc (.cells #[] 62)) (esN f i) i (.slice b m d) m (lcL (sel f i))) := S2
          clear S1 S2 e1 hno hne
          go_wp2_with fail
          go_fit (k27.out _)
          rintro e w2 ⟨rfl, rfl⟩
          clear hlk q0 q1
          go_wp2_with fail
          go_fit (k28.out _ HB1.out)
          rintro e w3 ⟨rfl, b3⟩
          cases V
          · have HB3 : Hid (Below w.heap.size w w3) := HB1.out.trans (b3.mono HB1.out.size)
            clear b3
            go_wp2
            go_ret2
            exact ⟨_, _, rfl, HB3.out, .inl ⟨by decide, rfl⟩⟩
          · have S3 := HS2.out.below b3
            obtain ⟨c0, c1⟩ := HBX.out w3 b3
            have hup := upd_run S3.1 HNO.out.1
            rw [← HE1.out] at hup
            have S4 := S3.upd (esN f (i + 1)) (i + 1)
            have kp4 := upM_kp w3 w.heap.size (.map (esN f (i + 1)) (i + 1))
            have hne4 : ¬ wr.heap.size = w.heap.size := by have := HMl.out; omega
            have d0 : (upM w3 w.heap.size (.map (esN f (i + 1)) (i + 1))).cell? ⟨wr.heap.size, 0, none⟩ = some (.string x1) := by
              rw [World.cell?_of_block (w := w3) (kp4.block wr.heap.size (World.block_lt_of_cell? w3 _ c0) hne4)]; exact c0
            have d1 : (upM w3 w.heap.size (.map (esN f (i + 1)) (i + 1))).cell? ⟨wr.heap.size, 1, none⟩ = some (.string x2) := by
              rw [World.cell?_of_block (w := w3) (kp4.block wr.heap.size (World.block_lt_of_cell? w3 _ c0) hne4)]; exact c1
            have HS4 : Hid (Sx w (upM w3 w.heap.size (.map (esN f (i + 1)) (i + 1))) (esN f (i + 1)) (i + 1) (.slice b m d) m (lcL (sel f i))) := S4
            have HG1 : Hid (Gd f (i + 1)) := HGN.out HA.out HVV.out HNO.out.2
            clear S3 S4 b3 HBX kp4 hne4
            generalize upM w3 w.heap.size (.map (esN f (i + 1)) (i + 1)) = W4 at *
            by_cases hem : x2.toList = []
            · have HX2 : Hid (sel f (i + 1) = sel f i) := (show _ = _ from HX.out.trans (by rw [hem]; simp))
              have HM2 : Hid (m = (sel f (i + 1)).length) := (show _ = _ by rw [HX2.out]; exact HM.out)
              have HS5 : Hid (Sx w W4 (esN f (i + 1)) (i + 1) (.slice b m d) m (lcL (sel f (i + 1)))) := (show Sx _ _ _ _ _ _ _ by rw [HX2.out]; exact HS4.out)
              clear HS4 HS
              go_wp2
              exact ⟨⟨i + 1, m, b, d, by go_num, rfl, by omega, by omega, HM2, HG1, HS5⟩, by simp [RowKit.intOf]; omega⟩
            · have hie : x2.toList.isEmpty = false := by cases h : x2.toList <;> simp_all
              have HX2 : Hid (sel f (i + 1) = sel f i ++ [(x1, x2)]) := (show _ = _ from HX.out.trans (by rw [hie]; rfl))
              go_wp2_with fail
              go_fit (k29.out _)
              rintro e w5 ⟨rfl, b5⟩
              have S5 := HS4.out.below b5
              obtain ⟨G, cc, w6, r, o6, kp6⟩ := ap_lb w5 (w.heap.size + 1) (.slice b m d) m (lcL (sel f i)) (x1, x2) (by have := S5.lt; omega) (by omega) S5.2.1
              have HS6 : Hid (Sx w w6 (esN f (i + 1)) (i + 1) (.slice (some ⟨G, 0, none⟩) (m + 1) cc) (m + 1) (lcL (sel f (i + 1)))) := by
                have hbd := own_bd S5.2.1
                refine ⟨(kp6.block _ S5.lt (fun e => by have := (hbd _ e).1; omega)).trans S5.1, ?_, S5.2.2.trans (kp6.below S5.2.2.size (fun k hk e => by have := (hbd k e).1; omega))⟩
                rw [HX2.out, lcL_app]
                exact o6
              have HM2 : Hid (m + 1 = (sel f (i + 1)).length) := (show _ = _ by rw [HX2.out, List.length_append, ← HM.out]; rfl)
              clear b5 S5 o6 kp6 c0 c1 d0 d1 HS4 HS hup
              go_wp2_with (at_builtin; refine wpList_append_run rfl (.tmp 44) (.tmp 47) 22 22 rfl _ _ rfl rfl r ?_)
              exact ⟨⟨i + 1, m + 1, _, _, by go_num, rfl, by omega, by omega, HM2, HG1, HS6⟩, by simp [RowKit.intOf]; omega⟩
      · have hlk := look_yes S1.1 hyes
        clear S1 hyes
        go_wp2
        go_ret2
        exact ⟨_, _, rfl, HB1.out, .inl ⟨by decide, rfl⟩⟩
    · have hii : ¬ (i : Int) < (n : Int) := by omega
      obtain rfl : n = i := by omega
      obtain ⟨sm, so, sb⟩ := HS.out
      have so2 := so
      rw [HM.out] at so2
      have ks := HC.out wr (w.heap.size + 1) (.slice b m d) (sel f n) (by rw [← HM.out]; omega) (by rw [HM.out]; exact so2)
      have HBk : Hid (∀ w', Kp (fun k => (Value.slice b m d).ownBlock = some k) wr w' → Below w.heap.size w w') := (show ∀ w', _ → _ from fun w' k => sb.trans (k.below sb.size (fun i hi e => by have := (own_bd so i e).1; omega)))
      clear sm so so2 sb HS
      go_wp2_with fail
      go_fit ks
      rintro e w7 ⟨rfl, ks', hp, hs2, o7, k7⟩
      have HR : Hid (Below w.heap.size w w7 ∧ ∃ ks : List Lb, ks.Perm (sel f n) ∧ ks.Pairwise (fun x y => Op.bytesLess y.1.toList x.1.toList = false) ∧ w7.ownsRow (w.heap.size + 1) 26 2 (.slice b m d) ks.length (lcL ks)) := ⟨HBk.out w7 k7, ks', hp, hs2, o7⟩
      clear ks hp hs2 o7 k7 HBk
      go_wp2
      go_ret2
      exact ⟨_, _, rfl, HR.out.1, .inr ⟨rfl, HG.out, HR.out.2⟩⟩
end Go.Proofs.YtjmninjaoemhjaaDoor
/- Labels: Make of any pairs. -/
namespace Go.Proofs.YtjmninjaoemhjaaDoor
open Go.RowKit Go.Lib Go.Shelf Go.Sort

set_option maxHeartbeats 1000000 in
theorem sort_c : SortC := by
  intro W S v ks hn ho
  rcases ho.2 with ⟨h0, h1⟩ | ⟨g, cap, cur, h0, hS, hg, h1, h2, h3, h4⟩
  · subst h0
    have e0 : ks = [] := List.length_eq_zero_iff.1 h1
    subst e0
    have h := AnyF.slices_SortFunc_none Tryd.sortLb none 0 (.func (.func 31) #[] #[]) W
    change Calls Tryd.prog 30 _ _ _ at h
    exact h.mono fun e w' ⟨he, hw⟩ => ⟨he, [], .refl _, .nil, by rw [hw]; exact ho, by rw [hw]; exact Kp.refl _ _⟩
  · subst h0
    exact sort_some W S g cap cur ks hn hS hg h1 h2 h3 h4
theorem make_any (a : Option Addr) (f : Nat → Lb) (n c : Nat) (w : World) (hL : Lm w a f n) (hn : n ≤ 1099511627776) (hs : ∀ j, j < n → (f j).1.size ≤ 140737488355328 ∧ (f j).2.size ≤ 140737488355328) (hT : Lib.Utf8Tabs 1 2 w) :
    Calls Tryd.prog 10 #[.slice a n c] w (MkR f n w) := make_gen sort_c a f n c w hL hn hs hT
end Go.Proofs.YtjmninjaoemhjaaDoor
/- Labels: one against another. -/
namespace Go.Proofs.YtjmninjaoemhjaaDoor
open Go.RowKit

set_option maxHeartbeats 4000000 in
theorem compareLabels_any (x y : Lb) (w : World) : Calls Tryd.prog 26 #[lbV x, lbV y] w fun e w' => e = .returned (.int .i64 (o2 x y)) ∧ Below w.heap.size w w' := by
  obtain ⟨x1, x2⟩ := x
  obtain ⟨y1, y2⟩ := y
  have K1 : Hid (∀ W, Calls Tryd.prog 52 #[.string x1, .string y1] W fun e w' => e = .returned (.int .i64 (od x1 y1)) ∧ w' = W) := fun W => compare_any x1 y1 W
  have K2 : Hid (∀ W, Calls Tryd.prog 52 #[.string x2, .string y2] W fun e w' => e = .returned (.int .i64 (od x2 y2)) ∧ w' = W) := fun W => compare_any x2 y2 W
  show Calls Tryd.prog 26 _ _ fun e w' => e = .returned (.int .i64 (if od x1 y1 = 0 then od x2 y2 else od x1 y1)) ∧ _
  generalize od x1 y1 = C at *
  generalize od x2 y2 = D at *
  obtain ⟨E, hE⟩ : ∃ E, E = if C = 0 then D else C := ⟨_, rfl⟩
  rw [← hE]
  have K3 : Hid (∀ (W : World) (g : Nat), g = W.heap.size → Calls Tryd.prog 51 #[.slice (some ⟨g, 0, none⟩) 2 2] (W.alloc (.cells #[.int .i64 C, .int .i64 D] 3)).drew fun e w' => e = .returned (.int .i64 E) ∧ w' = (W.alloc (.cells #[.int .i64 C, .int .i64 D] 3)).drew) := fun W g hg => by
    subst hg
    have e : ((W.alloc (.cells #[.int .i64 C, .int .i64 D] 3)).drew).heap[W.heap.size]? = some (.cells #[.int .i64 C, .int .i64 D] 3) := heap_alloc_new W _
    rw [hE]
    exact or_two _ C D _ (by unfold World.cell?; rw [e]; rfl) (by unfold World.cell?; rw [e]; rfl)
  have HB : Hid (Below w.heap.size w ((w.alloc (lbX (x1, x2))).alloc (lbX (y1, y2)))) := ((Below.refl _ w).alloc (Nat.le_refl _) _).alloc (by simp) _
  have h1 : (w.alloc (lbX (x1, x2))).heap[w.heap.size]? = some (lbX (x1, x2)) := heap_alloc_new w _
  have h2 : ((w.alloc (lbX (x1, x2))).alloc (lbX (y1, y2))).heap[w.heap.size + 1]? = some (lbX (y1, y2)) := by have := heap_alloc_new (w.alloc (lbX (x1, x2))) (lbX (y1, y2)); simpa using this
  have b1 : Below (w.alloc (lbX (x1, x2))).heap.size (w.alloc (lbX (x1, x2))) ((w.alloc (lbX (x1, x2))).alloc (lbX (y1, y2))) := (Below.refl _ _).alloc (Nat.le_refl _) _
  have c0 : ((w.alloc (lbX (x1, x2))).alloc (lbX (y1, y2))).cell? ⟨w.heap.size, 0, none⟩ = some (.string x1) := bcell2 b1 (by unfold World.cell?; rw [h1]; rfl)
  have c1 : ((w.alloc (lbX (x1, x2))).alloc (lbX (y1, y2))).cell? ⟨w.heap.size, 1, none⟩ = some (.string x2) := bcell2 b1 (by unfold World.cell?; rw [h1]; rfl)
  have d0 : ((w.alloc (lbX (x1, x2))).alloc (lbX (y1, y2))).cell? ⟨w.heap.size + 1, 0, none⟩ = some (.string y1) := by unfold World.cell?; rw [h2]; rfl
  have d1 : ((w.alloc (lbX (x1, x2))).alloc (lbX (y1, y2))).cell? ⟨w.heap.size + 1, 1, none⟩ = some (.string y2) := by unfold World.cell?; rw [h2]; rfl
  have hsz : ((w.alloc (lbX (x1, x2))).alloc (lbX (y1, y2))).heap.size = w.heap.size + 2 := by simp
  clear hE h1 h2 b1
  go_enter Tryd.func26, Tryd.ntmps26
  go_wp2_with fail
  generalize hWW : (w.alloc (lbX (x1, x2))).alloc (lbX (y1, y2)) = W at *
  have bb : Below W.heap.size W (W.alloc (.cells #[.int .i64 C, .int .i64 D] 3)).drew := ((Below.refl _ W).alloc (Nat.le_refl _) _).drew
  have HF : Hid (Below w.heap.size w (W.alloc (.cells #[.int .i64 C, .int .i64 D] 3)).drew) := HB.out.trans (bb.mono HB.out.size)
  have HS : Hid ((W.alloc (.cells #[.int .i64 C, .int .i64 D] 3)).drew.cell? ⟨w.heap.size, 0, none⟩ = some (.string x1) ∧ (W.alloc (.cells #[.int .i64 C, .int .i64 D] 3)).drew.cell? ⟨w.heap.size, 1, none⟩ = some (.string x2) ∧ (W.alloc (.cells #[.int .i64 C, .int .i64 D] 3)).drew.cell? ⟨w.heap.size + 1, 0, none⟩ = some (.string y1) ∧ (W.alloc (.cells #[.int .i64 C, .int .i64 D] 3)).drew.cell? ⟨w.heap.size + 1, 1, none⟩ = some (.string y2)) := ⟨bcell2 bb c0, bcell2 bb c1, bcell2 bb d0, bcell2 bb d1⟩
  have k3 := K3.out W W.heap.size rfl
  clear bb HB hWW hsz K3
  go_region_held3 (fun w' => w'.cell? ⟨w.heap.size, 0, none⟩ = some (.string x1) ∧ w'.cell? ⟨w.heap.size, 1, none⟩ = some (.string x2) ∧ w'.cell? ⟨w.heap.size + 1, 0, none⟩ = some (.string y1) ∧ w'.cell? ⟨w.heap.size + 1, 1, none⟩ = some (.string y2)) (first | exact ⟨c0, c1, d0, d1⟩ | exact HS.out) (first | (go_at_call 52; go_fit (K1.out _); rintro e w1 ⟨rfl, rfl⟩) | (go_at_call 52; go_fit (K2.out _); rintro e w1 ⟨rfl, rfl⟩) | (go_at_call 51; go_fit k3; rintro e w1 ⟨rfl, rfl⟩))
  go_wp2
  go_ret
  exact ⟨rfl, HF.out⟩
end Go.Proofs.YtjmninjaoemhjaaDoor
