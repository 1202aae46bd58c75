/- Labels: the sort by name. -/
import Derived.Test.YtjmninjaoemhjaaDoorSy
import Derived.Test.YtjmninjaoemhjaaDoorEy
import Derived.Test.YtjmninjaoemhjaaDoorDa
import Derived.Shelf.SlSortCmp.WholeK
namespace Go.Proofs.YtjmninjaoemhjaaDoor
open Go.RowKit Go.Lib Go.Shelf Go.Sort

def cfN (x y : Lb) : Int := od x.1 y.1
theorem lt_cfN (x y : Lb) : ltOf cfN x y = Op.bytesLess x.1.toList y.1.toList := by
  unfold ltOf cfN
  rcases od_cases x.1 y.1 with ⟨h, h2, _⟩ | ⟨h, h2, _⟩ | ⟨h, h2, _⟩ <;> rw [h, h2] <;> decide
theorem swoN : SWO (ltOf cfN) where
  irrefl x := by
    have := (od_od.eq x.1 x.1).2 rfl
    simp [ltOf, cfN, this]
  trans x y z h1 h2 := by
    have h1 : od x.1 y.1 < 0 := of_decide_eq_true h1
    have h2 : od y.1 z.1 < 0 := of_decide_eq_true h2
    have h := od_od.lt x.1 y.1 z.1 (by omega) (by omega)
    have a := od_od.anti x.1 y.1
    refine decide_eq_true (show od x.1 z.1 < 0 from ?_)
    by_cases e : od x.1 z.1 = 0
    · rw [← (od_od.eq _ _).1 e] at h2
      omega
    · omega
  ntrans x y z h1 h2 := by
    have h1 : ¬ od x.1 y.1 < 0 := of_decide_eq_false h1
    have h2 : ¬ od y.1 z.1 < 0 := of_decide_eq_false h2
    have a1 := od_od.anti x.1 y.1
    have a2 := od_od.anti y.1 z.1
    have a3 := od_od.anti x.1 z.1
    have := od_od.lt z.1 y.1 x.1 (by omega) (by omega)
    exact decide_eq_false (show ¬ od x.1 z.1 < 0 by omega)
set_option maxHeartbeats 1000000 in
theorem byName_x (x y : Lb) (W : World) : Calls Tryd.prog 31 #[lbV x, lbV y] W fun e w' => e = .returned (.int .i64 (cfN x y)) ∧ ∃ q os', w' = grow (W.drewN q) os' := by
  obtain ⟨x1, x2⟩ := x
  obtain ⟨y1, y2⟩ := y
  have k := fun W' => compare_any x1 y1 W'
  show Calls Tryd.prog 31 _ _ fun e w' => e = .returned (.int .i64 (od x1 y1)) ∧ _
  generalize od x1 y1 = C at *
  go_enter Tryd.func31, Tryd.ntmps31
  go_wp2_with fail
  go_fit (k _)
  rintro e w1 ⟨rfl, rfl⟩
  clear k
  go_wp2
  go_ret
  exact ⟨rfl, 0, _, by rw [alloc_eq_grow, alloc_eq_grow, grow_grow]; rfl⟩
theorem lcL_len : ∀ ks : List Lb, (lcL ks).length = ks.length * 2
  | [] => rfl
  | x :: ks => by
    show (l2 x ++ lcL ks).length = _
    rw [List.length_append, lcL_len ks]
    simp [l2]
    omega
theorem lcL_get : ∀ (ks : List Lb) (j k : Nat), k < 2 → (lcL ks)[j * 2 + k]? = (ks[j]?).bind fun x => (l2 x)[k]?
  | [], _, _, _ => by simp [lcL]
  | x :: ks, 0, k, h => by
    show (l2 x ++ lcL ks)[0 * 2 + k]? = _
    rw [List.getElem?_append_left (by simp [l2]; omega)]
    simp
  | x :: ks, j + 1, k, h => by
    show (l2 x ++ lcL ks)[(j + 1) * 2 + k]? = _
    rw [List.getElem?_append_right (by simp [l2]; omega), show (j + 1) * 2 + k - (l2 x).length = j * 2 + k by simp [l2]; omega, lcL_get ks j k h]
    simp
theorem flat_lc (d : Array Lb) : (flatK l2 2 d).toList = lcL d.toList := by
  apply List.ext_getElem?
  intro t
  by_cases h : t < d.size * 2
  · have e : (flatK l2 2 d)[t]? = some (flatK l2 2 d)[t]! := by
      rw [getElem!_pos _ _ (by simpa using h)]
      exact Array.getElem?_eq_getElem (by simpa using h)
    have hj : t / 2 < d.size := by omega
    have ht : t = t / 2 * 2 + t % 2 := by omega
    have hm : t % 2 < 2 := by omega
    rw [Array.getElem?_toList, e, get_flatK _ _ _ _ h]
    conv => rhs; rw [ht, lcL_get _ _ _ hm]
    rw [Array.getElem?_toList, Array.getElem?_eq_getElem hj, getElem!_pos d _ hj]
    show _ = (l2 d[t / 2])[t % 2]?
    rw [List.getElem?_eq_getElem (by simpa [l2] using hm), getElem!_pos _ _ (by simpa [l2] using hm)]
  · rw [List.getElem?_eq_none (by simp; omega), List.getElem?_eq_none (by rw [lcL_len]; simp; omega)]
theorem heap_put {w : World} {g n : Nat} {os : Array Obj} {cur : Array Value} {e : TypeId} {fr : Nat × Nat} (F : Array Value) (hb : w.heap[g]? = some (.cells cur e fr)) :
    (grow (putRow id (Sort.ahead w n) g 0 F) os).heap[g]? = some (.cells (putCells id 0 F cur) e fr) := by
  have hg : g < w.heap.size := (Array.getElem?_eq_some_iff.1 hb).1
  rw [heap_grow_old _ _ (by simpa using hg)]
  simp [putRow, mapBlock, Sort.ahead, Array.getElem?_modify, hb, onCells]
theorem kp_put {w : World} {g n : Nat} {os : Array Obj} (F : Array Value) : Kp (fun b => some g = some b) w (grow (putRow id (Sort.ahead w n) g 0 F) os) := by
  refine ⟨rfl, rfl, rfl, by simp, fun k hk hne => ?_⟩
  rw [heap_grow_old _ _ (by simpa using hk)]
  have : g ≠ k := fun e => hne (by rw [e])
  simp [putRow, mapBlock, Sort.ahead, Array.getElem?_modify, this]
theorem take_put (cur F : Array Value) (h : F.size ≤ cur.size) : (putCells id 0 F cur).toList.take F.size = F.toList := by
  apply List.ext_getElem?
  intro j
  by_cases hj : j < F.size
  · rw [List.getElem?_take_of_lt hj, Array.getElem?_toList, Array.getElem?_toList]
    simp [putCells, hj, show j < cur.size by omega]
  · rw [List.getElem?_take_eq_none (by omega), List.getElem?_eq_none (by simp; omega)]
theorem holds_cells {w : World} {g : Nat} {cur : Array Value} {e : TypeId} {ks : List Lb} (hb : w.heap[g]? = some (.cells cur e (0, 0))) (ht : cur.toList.take (ks.length * 2) = lcL ks) : HoldsK l2 2 w g 0 ks.toArray := by
  intro j hj
  have hj' : j < ks.length * 2 := by simpa using hj
  refine ⟨?_, by simp [World.frozen?, hb]⟩
  have hf : (flatK l2 2 ks.toArray)[j]? = (lcL ks)[j]? := by
    rw [← Array.getElem?_toList, flat_lc]
  rw [← ht, List.getElem?_take_of_lt hj', Array.getElem?_toList] at hf
  simp only [World.cell?, hb, Nat.zero_add]
  simp only [Option.isSome_none, Bool.false_eq_true, if_false]
  rw [← hf]
  show _ = some (flatK l2 2 ks.toArray)[j]!
  rw [getElem!_pos (flatK l2 2 ks.toArray) j hj]
  exact Array.getElem?_eq_getElem hj
set_option maxHeartbeats 1000000 in
/-- The sort of a list that lies in a block of its own. -/
theorem sort_some (W : World) (S g cap : Nat) (cur : Array Value) (ks : List Lb) (hn : ks.length ≤ 1099511627776) (hS : S ≤ g) (hg : W.heap[g]? = some (.cells cur 26 (0, 0))) (h1 : ks.length ≤ cap) (h2 : cap ≤ maxLen) (h3 : cur.size = cap * 2) (h4 : cur.toList.take (ks.length * 2) = lcL ks) :
    Calls Tryd.prog 30 #[.slice (some ⟨g, 0, none⟩) ks.length cap, .func (.func 31) #[] #[]] W fun e W' => e = .returned (.tuple #[]) ∧ ∃ ks' : List Lb, ks'.Perm ks ∧ ks'.Pairwise (fun x y => Op.bytesLess y.1.toList x.1.toList = false) ∧ W'.ownsRow S 26 2 (.slice (some ⟨g, 0, none⟩) ks.length cap) ks'.length (lcL ks') ∧ Kp (fun b => some g = some b) W W' := by
  have hgs : g < W.heap.size := (Array.getElem?_eq_some_iff.1 hg).1
  have eg : ∀ args w, (callFunc 31 args).run Tryd.prog w = .ok (.enter 31 args) w := enters_of Tryd.func31 (by kernel_rfl) rfl
  have h := AnyQ.slices_SortFunc Tryd.sortLb 2 Tryd.isAgg26 Tryd.sizeOf26 l2 (fun _ => rfl) (fun x v hv => by simp [l2] at hv; rcases hv with rfl | rfl <;> rfl) cfN swoN 31 #[] g 0 cap ks.toArray W eg (fun _ _ _ _ x y => byName_x x y _) (holds_cells hg h4) hgs (by simp; omega)
  change Calls Tryd.prog 30 _ _ _ at h
  refine h.mono ?_
  rintro e w' ⟨rfl, d', m, os, ⟨p1, _, p3⟩, hs, rfl⟩
  have hz : d'.size = ks.length := by simpa using p1
  refine ⟨rfl, d'.toList, ?_, ?_, ⟨by rw [lcL_len], .inr ⟨g, cap, putCells id 0 (flatK l2 2 d') cur, by simp [hz], hS, heap_put _ hg, by simpa [hz] using h1, h2, by simp [putCells, h3], ?_⟩⟩, kp_put _⟩
  · have e1 : d'.extract 0 ks.toArray.size = d' := by rw [← p1]; simp
    have e2 : ks.toArray.extract 0 ks.toArray.size = ks.toArray := by simp
    rw [e1, e2] at p3
    exact p3
  · rw [List.pairwise_iff_getElem]
    intro i j hi hj hij
    have hi' : i < d'.size := by simpa using hi
    have hj' : j < d'.size := by simpa using hj
    have := hs i j (Nat.zero_le _) hij (by simpa [hz] using hj')
    rw [lt_cfN, getElem!_pos d' j hj', getElem!_pos d' i hi'] at this
    simpa using this
  · have e : d'.toList.length * 2 = (flatK l2 2 d').size := by simp
    rw [e, take_put cur _ (by simp; omega), flat_lc]
end Go.Proofs.YtjmninjaoemhjaaDoor
