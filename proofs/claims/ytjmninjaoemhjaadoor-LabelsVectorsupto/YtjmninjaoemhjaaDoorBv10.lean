/- A bundle of texts. -/
import Derived.Test.YtjmninjaoemhjaaDoorBv09
import Derived.Shelf.Spec.SlicesInsert
import Derived.Lib.Overlaps
/- slices.Insert of one label, with room. -/
namespace Go.Proofs.YtjmninjaoemhjaaDoor.K
open Go.RowKit Go.Lib

attribute [local go_sem] Oper.semAt_some

theorem lcL_take : ∀ (ks : List Lb) (i : Nat), (lcL ks).take (i * 2) = lcL (ks.take i)
  | [], i => by simp [lcL]
  | k :: ks, 0 => by simp [lcL]
  | k :: ks, i + 1 => by
    have ih := lcL_take ks i
    have e : lcL (k :: ks) = .string k.1 :: .string k.2 :: lcL ks := by simp [lcL, l2]
    rw [e, show (i + 1) * 2 = i * 2 + 2 by omega, List.take_succ_cons, List.take_succ_cons, ih]
    simp [lcL, l2]
theorem lcL_drop : ∀ (ks : List Lb) (i : Nat), (lcL ks).drop (i * 2) = lcL (ks.drop i)
  | [], i => by simp [lcL]
  | k :: ks, 0 => by simp
  | k :: ks, i + 1 => by
    have ih := lcL_drop ks i
    have e : lcL (k :: ks) = .string k.1 :: .string k.2 :: lcL ks := by simp [lcL, l2]
    rw [e, show (i + 1) * 2 = i * 2 + 2 by omega, List.drop_succ_cons, List.drop_succ_cons, ih]
    simp
theorem lcL_len (ks : List Lb) : (lcL ks).length = ks.length * 2 := by rw [lcL_lc, lc_len]
theorem lcL_one (ks : List Lb) : ∀ u ∈ lcL ks, u.oneCell' = true := by rw [lcL_lc]; exact lc_one _ _
theorem copyC (w : World) (g d dn dc : Nat) (cur : Array Value) (sa : Addr) (sn sc m : Nat) (cs : List Value) (ty : TypeId) (hg : w.heap[g]? = some (.cells cur 26 (0, 0))) (hm : Nat.min sn dn = m) (hcl : cs.length = m * 2) (hcs : ∀ j v, cs[j]? = some v → w.cell? (sa.add j) = some v) (hd : d + cs.length ≤ cur.size) (h1 : ∀ v ∈ cs, v.oneCell' = true) :
    (Builtin.copy_ #[22, 22] ty #[.slice (some ⟨g, d, none⟩) dn dc, .slice (some sa) sn sc]).run Tryd.prog w = .ok (goInt m) (w.setRow g (cur.toList.take d ++ cs ++ cur.toList.drop (d + cs.length)).toArray) := by
  obtain ⟨i0, hi, hz0, hz1, hz2⟩ := info_parts infL
  have hl := run_loadCells_list (P := Tryd.prog) w sa cs hcs
  have hst := run_storeCells_at (P := Tryd.prog) g d 26 cs 0 cur w hg (by omega) h1
  rw [hcl] at hl
  simp [Builtin.copy_, run_underlying Tryd.underlying22, Builtin.lenOf, Builtin.firstCells, sizeOf, typeInfo, hi, hz1, hm, hl]
  rw [Nat.add_zero] at hst
  rw [hst]
  simp only [List.append_assoc]
  rfl
set_option maxHeartbeats 4000000 in
set_option maxRecDepth 100000 in
theorem insert_mid (w : World) (S g cap i vb : Nat) (ks : List Lb) (x : Lb) (hi : i < ks.length) (hroom : ks.length + 1 ≤ cap) (hn : cap ≤ 2199023255552) (hvb : vb ≠ g) (hv : w.heap[vb]? = some (lbX x)) (hrow : w.ownsRow S 26 2 (.slice (some ⟨g, 0, none⟩) ks.length cap) ks.length (lcL ks)) :
    Calls Tryd.prog 34 #[.slice (some ⟨g, 0, none⟩) ks.length cap, .int .i64 i, .slice (some ⟨vb, 0, none⟩) 1 1] w fun e w' => e = .returned (.slice (some ⟨g, 0, none⟩) (ks.length + 1) cap) ∧ w'.ownsRow S 26 2 (.slice (some ⟨g, 0, none⟩) (ks.length + 1) cap) (ks.length + 1) (lcL (ks.take i ++ x :: ks.drop i)) ∧ Kp (· = g) w w' := by
  rcases hrow.2 with ⟨h0, _⟩ | ⟨g', cap', cur, hv', hbase, hgg, h1, h2, h3, h4⟩
  · cases h0
  cases hv'
  obtain ⟨n, hnl⟩ : ∃ n, n = ks.length := ⟨_, rfl⟩
  rw [← hnl] at hi hroom h1 h4 ⊢
  have hmid : lcL (ks.drop i) = (cur.toList.take (n * 2)).drop (i * 2) := by rw [h4, lcL_drop]
  have hmidl : (lcL (ks.drop i)).length = (n - i) * 2 := by rw [lcL_len, List.length_drop, hnl]
  have hcell : ∀ W : World, W.heap[g]? = some (.cells cur 26 (0, 0)) → ∀ j v, (lcL (ks.drop i))[j]? = some v → W.cell? ((⟨g, i * 2, none⟩ : Addr).add j) = some v := fun W hW j v hj => by
    rw [Go.WideShapes.add_plain]
    unfold World.cell?
    rw [hW]
    rw [hmid, List.getElem?_drop] at hj
    have hjl : i * 2 + j < n * 2 := by
      have := (List.getElem?_eq_some_iff.1 hj).1
      simp at this
      omega
    rw [List.getElem?_take_of_lt hjl] at hj
    simpa using hj
  have hov : ∀ lb cb, (callFunc 58 #[.slice (some ⟨vb, 0, none⟩) 1 1, .slice (some ⟨g, (i + 1) * 2, none⟩) lb cb]).run Tryd.prog w = .ok (.value (.bool false)) w := fun lb cb => by
    rw [run_callFunc_extern Tryd.func58 (by kernel_rfl) (by kernel_rfl) (by kernel_rfl) (e := Extern.SlicesOverlaps.overlaps #[22, 22] #[4]) (by kernel_rfl),
      Lib.run_overlaps_apart w 22 4 26 Tryd.underlying22 2 Tryd.sizeOf26 ⟨vb, 0, none⟩ ⟨g, (i + 1) * 2, none⟩ 1 1 lb cb hvb 26 26 2 (cap * 2) (by unfold World.shape?; rw [hv]; rfl) (by unfold World.shape?; rw [hgg, ← h3]) (by omega) (by unfold World.frozen?; rw [hv]; rfl) (by unfold World.frozen?; rw [hv]; rfl)]
    rfl
  obtain ⟨cur1, hc1⟩ : ∃ c : Array Value, c = (cur.toList.take ((i + 1) * 2) ++ lcL (ks.drop i) ++ cur.toList.drop ((i + 1) * 2 + (lcL (ks.drop i)).length)).toArray := ⟨_, rfl⟩
  have hcp1 : ∀ ty dc sc, (Builtin.copy_ #[22, 22] ty #[.slice (some ⟨g, (i + 1) * 2, none⟩) (n - i) dc, .slice (some ⟨g, i * 2, none⟩) (n + 1 - i) sc]).run Tryd.prog w.drew = .ok (goInt ((n - i : Nat) : Int)) (w.drew.setRow g cur1) := fun ty dc sc => by
    rw [hc1]
    exact copyC w.drew g ((i + 1) * 2) (n - i) dc cur ⟨g, i * 2, none⟩ (n + 1 - i) sc (n - i) (lcL (ks.drop i)) ty hgg (by show min (n + 1 - i) (n - i) = n - i; omega) hmidl (hcell w.drew hgg) (by rw [hmidl, h3]; omega) (lcL_one _)
  have hc1s : cur1.size = cap * 2 := by
    rw [hc1]
    simp [hmidl, h3]
    omega
  obtain ⟨cur2, hc2⟩ : ∃ c : Array Value, c = (cur1.toList.take (i * 2) ++ l2 x ++ cur1.toList.drop (i * 2 + (l2 x).length)).toArray := ⟨_, rfl⟩
  have hcp2 : ∀ W : World, W.heap[g]? = some (.cells cur1 26 (0, 0)) → W.heap[vb]? = some (lbX x) → ∀ ty dc, (Builtin.copy_ #[22, 22] ty #[.slice (some ⟨g, i * 2, none⟩) (n + 1 - i) dc, .slice (some ⟨vb, 0, none⟩) 1 1]).run Tryd.prog W = .ok (goInt ((1 : Nat) : Int)) (W.setRow g cur2) := fun W hW hWv ty dc => by
    rw [hc2]
    refine copyC W g (i * 2) (n + 1 - i) dc cur1 ⟨vb, 0, none⟩ 1 1 1 (l2 x) ty hW (by show min 1 (n + 1 - i) = 1; omega) rfl (fun j v hj => ?_) (by rw [hc1s]; simp [l2]; omega) (by intro u hu; simp [l2] at hu; rcases hu with rfl | rfl <;> rfl)
    rw [Go.WideShapes.add_plain, Nat.zero_add]
    unfold World.cell?
    rw [hWv]
    simpa [l2] using hj
  have hg1 : (w.drew.setRow g cur1).heap[g]? = some (.cells cur1 26 (0, 0)) := setRow_heap w.drew g cur cur1 26 _ hgg
  have hv1 : (w.drew.setRow g cur1).heap[vb]? = some (lbX x) := (setRow_other w.drew g vb cur1 hvb).trans hv
  have hfin : Hid (((w.drew.setRow g cur1).setRow g cur2).ownsRow S 26 2 (.slice (some ⟨g, 0, none⟩) (n + 1) cap) (n + 1) (lcL (ks.take i ++ x :: ks.drop i)) ∧ Kp (· = g) w ((w.drew.setRow g cur1).setRow g cur2)) := by
    refine ⟨⟨?_, .inr ⟨g, cap, cur2, rfl, hbase, setRow_heap _ g cur1 cur2 26 _ hg1, hroom, h2, ?_, ?_⟩⟩, ⟨rfl, rfl, rfl, by simp, fun k _ hk => (setRow_other _ g k _ hk).trans (setRow_other w.drew g k _ hk)⟩⟩
    · rw [lcL_len]
      simp
      omega
    · rw [hc2]
      simp [hc1s, l2]
      omega
    · have e0 : lcL (ks.take i ++ x :: ks.drop i) = lcL (ks.take i) ++ l2 x ++ lcL (ks.drop i) := by simp [lcL]
      have e1 : cur1.toList.take (i * 2) = lcL (ks.take i) := by
        rw [hc1, ← lcL_take, ← h4, List.take_take]
        simp only [List.append_assoc]
        rw [List.take_append_of_le_length (by simp [h3]; omega), List.take_take]
        congr 1
        omega
      have e2 : cur1.toList.drop (i * 2 + (l2 x).length) = lcL (ks.drop i) ++ cur.toList.drop ((i + 1) * 2 + (lcL (ks.drop i)).length) := by
        rw [hc1]
        simp only [List.append_assoc]
        rw [List.drop_append_of_le_length (by simp [h3, l2]; omega), List.drop_take, show (i + 1) * 2 - (i * 2 + (l2 x).length) = 0 by simp [l2]; omega]
        rfl
      rw [hc2, e1, e2, e0]
      simp only [List.append_assoc]
      rw [← List.append_assoc, ← List.append_assoc]
      rw [List.take_append_of_le_length (by simp [lcL_len, l2]; omega), List.take_of_length_le (by simp [lcL_len, l2]; omega)]
      simp only [List.append_assoc]
  have mixed : Tryd.prog.follows .mixedOrders = true := by kernel_rfl
  have hb1 : (0 : Int) ≤ (i : Int) + 1 := by omega
  have hin : i ≤ n := by omega
  have hz2 : ¬ ((i : Int) = (n : Int)) := by omega
  have hw1 : IntKind.i64.wrap ((i : Int) + 1) = (i : Int) + 1 := by rw [IntKind.wrap_i64]; omega
  have hb3 : (i : Int) ≤ (n : Int) + 1 := by omega
  have hiI : (i : Int) < n := by omega
  have hcI : (n : Int) + 1 ≤ cap := by omega
  have hnI : (cap : Int) ≤ 2199023255552 := by omega
  have htn : ((i : Int) + 1).toNat = i + 1 := by omega
  have hb2 : ¬ (cap = i + 1) := by omega
  have hb4 : ¬ (cap = i) := by omega
  clear hrow hv hgg h1 h2 h3 h4 hmid hmidl hcell hc1 hc1s hc2 hnl
  go_enter Tryd.func34, Tryd.ntmps34
  go_wp2_with (simp only [hov])
  go_region_law_o (refine step_copy_runI rfl _ _ 22 22 rfl _ _ (by simp [Act.eval, Act.put]) (by simp [Act.eval, Act.put]) (hcp1 _ _ _) ?_)
  go_wp2_with (at_builtin; refine wpList_copy_runI _ rfl _ _ 22 22 rfl _ _ rfl rfl (hcp2 _ hg1 hv1 _ _) ?_)
  go_ret
  exact ⟨rfl, hfin.out⟩
end Go.Proofs.YtjmninjaoemhjaaDoor.K
/- slices.Insert at the end; With. -/
namespace Go.Proofs.YtjmninjaoemhjaaDoor.K
open Go.RowKit Go.Lib

attribute [local go_sem] Oper.semAt_some

theorem fits_lb (w : World) (S g cap vb : Nat) (ks : List Lb) (x : Lb) (hroom : ks.length + 1 ≤ cap) (hv : w.heap[vb]? = some (lbX x)) (hrow : w.ownsRow S 26 2 (.slice (some ⟨g, 0, none⟩) ks.length cap) ks.length (lcL ks)) :
    ∃ w', (Builtin.append_ #[22, 22] 22 #[.slice (some ⟨g, 0, none⟩) ks.length cap, .slice (some ⟨vb, 0, none⟩) 1 1]).run Tryd.prog w = .ok (.slice (some ⟨g, 0, none⟩) (ks.length + 1) cap) w' ∧ w'.ownsRow S 26 2 (.slice (some ⟨g, 0, none⟩) (ks.length + 1) cap) (ks.length + 1) (lcL (ks ++ [x])) ∧ Kp (· = g) w w' := by
  obtain ⟨i0, hi, hz0, hz1, hz2⟩ := info_parts infL
  obtain ⟨w', r, o, gr⟩ := run_append_fits (P := Tryd.prog) w S 22 22 26 i0 2 Tryd.underlying22 hi hz1 g ks.length cap (lcL ks) hrow ⟨vb, 0, none⟩ 1 1 (l2 x) rfl (fun j u hj => by
    rw [Go.WideShapes.add_plain, Nat.zero_add]
    unfold World.cell?
    rw [hv]
    simpa [l2] using hj) (by intro u hu; simp [l2] at hu; rcases hu with rfl | rfl <;> rfl) hroom
  refine ⟨w', r, ?_, (Kp.refl _ w).grown gr (fun k e _ => (Option.some.inj e).symm)⟩
  have e1 : lcL (ks ++ [x]) = lcL ks ++ l2 x := by simp [lcL]
  rw [e1]
  exact o
set_option maxHeartbeats 4000000 in
set_option maxRecDepth 100000 in
theorem insert_end (w : World) (S g cap vb : Nat) (ks : List Lb) (x : Lb) (hroom : ks.length + 1 ≤ cap) (hn : cap ≤ 2199023255552) (hv : w.heap[vb]? = some (lbX x)) (hrow : w.ownsRow S 26 2 (.slice (some ⟨g, 0, none⟩) ks.length cap) ks.length (lcL ks)) :
    Calls Tryd.prog 34 #[.slice (some ⟨g, 0, none⟩) ks.length cap, .int .i64 (ks.length : Int), .slice (some ⟨vb, 0, none⟩) 1 1] w fun e w' => e = .returned (.slice (some ⟨g, 0, none⟩) (ks.length + 1) cap) ∧ w'.ownsRow S 26 2 (.slice (some ⟨g, 0, none⟩) (ks.length + 1) cap) (ks.length + 1) (lcL (ks ++ [x])) ∧ Kp (· = g) w w' := by
  obtain ⟨w', r, o, k⟩ := fits_lb w S g cap vb ks x hroom hv hrow
  have HE : Hid (w'.ownsRow S 26 2 (.slice (some ⟨g, 0, none⟩) (ks.length + 1) cap) (ks.length + 1) (lcL (ks ++ [x])) ∧ Kp (· = g) w w') := ⟨o, k⟩
  obtain ⟨n, hnl⟩ : ∃ n, n = ks.length := ⟨_, rfl⟩
  rw [← hnl] at r HE hroom ⊢
  have hcI : (n : Int) + 1 ≤ cap := by omega
  have hnI : (cap : Int) ≤ 2199023255552 := by omega
  clear o k hv hrow hnl
  go_enter Tryd.func34, Tryd.ntmps34
  go_wp2_with (at_builtin; refine wpList_append_run rfl (.tmp 23) (.tmp 24) 22 22 rfl _ _ rfl rfl r ?_)
  go_ret
  exact ⟨rfl, HE.out⟩
/-- The labels of other names. -/
def dropL (f : Nat → Lb) (nm : ByteArray) (n : Nat) : List Lb := (ll f n).filter fun l => !(l.1.toList == nm.toList)
theorem dropL_succ (f : Nat → Lb) (nm : ByteArray) (n : Nat) : dropL f nm (n + 1) = dropL f nm n ++ if (f n).1.toList == nm.toList then [] else [f n] := by
  unfold dropL
  rw [ll_succ, List.filter_append]
  congr 1
  split <;> rename_i h <;> simp [h]
theorem dropL_le (f : Nat → Lb) (nm : ByteArray) (n : Nat) : (dropL f nm n).length ≤ n := by
  have := List.length_filter_le (fun l : Lb => !(l.1.toList == nm.toList)) (ll f n)
  rw [ll_len] at this
  exact this
/-- A label put in its place. -/
def insL (nm vl : ByteArray) (ks : List Lb) : List Lb := (ks.takeWhile fun l => !gtB l.1 nm) ++ (nm, vl) :: ks.dropWhile fun l => !gtB l.1 nm
def wthL (f : Nat → Lb) (nm vl : ByteArray) (n : Nat) : List Lb := if vl.toList.isEmpty then dropL f nm n else insL nm vl (dropL f nm n)
end Go.Proofs.YtjmninjaoemhjaaDoor.K
/- With. -/
namespace Go.Proofs.YtjmninjaoemhjaaDoor.K
open Go.RowKit Go.Lib

attribute [local go_sem] Oper.semAt_some

theorem make_w (w : World) (S k : Nat) (hS : S ≤ w.heap.size) (hk : k * 32 ≤ 281474976710656) : ∃ w', (Instr.makeSlice 22 (.int .i64 0) (.int .i64 (k : Int))).run Tryd.prog w = .ok (.slice (some ⟨w.heap.size, 0, none⟩) 0 k) w' ∧ w'.ownsRow S 26 2 (.slice (some ⟨w.heap.size, 0, none⟩) 0 k) 0 (lcL []) ∧ Below w.heap.size w w' := by
  obtain ⟨i0, hi, hz0, hz1, hz2⟩ := info_parts infL
  obtain ⟨w1, r, o, g⟩ := run_make_own (P := Tryd.prog) w S 22 26 i0 _ 2 Tryd.underlying22 hi hz0 hz1 .i64 .i64 k (by rw [hz2]; omega) (by unfold maxLen; omega) hS
  exact ⟨w1, r, o, (Below.refl _ w).grown g (Nat.le_refl _) (fun k hk => by cases hk)⟩
theorem row_lm {W : World} {S c : Nat} {a : Option Addr} {ks : List Lb} (h : W.ownsRow S 26 2 (.slice a ks.length c) ks.length (lcL ks)) : Lm W a (gL ks) ks.length := by
  rw [lcL_lc] at h
  exact Lm.of_row h
theorem tw_at (nm : ByteArray) (ks : List Lb) (i : Nat) (hi : i < ks.length) (h1 : gtB (gL ks i).1 nm = true) (h2 : ∀ j, j < i → gtB (gL ks j).1 nm = false) : (ks.takeWhile fun l => !gtB l.1 nm) = ks.take i ∧ (ks.dropWhile fun l => !gtB l.1 nm) = ks.drop i := by
  induction ks generalizing i with
  | nil => simp at hi
  | cons k ks ih =>
    cases i with
    | zero =>
      have : gtB k.1 nm = true := h1
      simp [this]
    | succ i =>
      have h0 : gtB k.1 nm = false := h2 0 (by omega)
      obtain ⟨e1, e2⟩ := ih i (by simpa using hi) h1 (fun j hj => h2 (j + 1) (by omega))
      simp [h0, e1, e2]
theorem tw_all (nm : ByteArray) (ks : List Lb) (h : ∀ j, j < ks.length → gtB (gL ks j).1 nm = false) : (ks.takeWhile fun l => !gtB l.1 nm) = ks ∧ (ks.dropWhile fun l => !gtB l.1 nm) = [] := by
  induction ks with
  | nil => simp
  | cons k ks ih =>
    have h0 : gtB k.1 nm = false := h 0 (by simp)
    obtain ⟨e1, e2⟩ := ih (fun j hj => h (j + 1) (by simpa using hj))
    simp [h0, e1, e2]
set_option maxRecDepth 100000 in
set_option maxHeartbeats 8000000 in
theorem with_any (a : Option Addr) (f : Nat → Lb) (n c : Nat) (nm vl : ByteArray) (w : World) (hn : n ≤ 2000000000) (hs : ∀ j, j < n → (f j).1.size ≤ 140737488355328 ∧ (f j).2.size ≤ 140737488355328) (hnm : nm.size ≤ 140737488355328) (hvl : vl.size ≤ 140737488355328) (hL : Lm w a f n) :
    Calls Tryd.prog 11 #[.slice a n c, .string nm, .string vl] w fun e w' => ∃ v, e = .returned v ∧ w'.ownsRow w.heap.size 26 2 v (wthL f nm vl n).length (lcL (wthL f nm vl n)) ∧ Below w.heap.size w w' := by
  have HL : Hid (Lm w a f n) := hL
  have HS : Hid (∀ j, j < n → (f j).1.size ≤ 140737488355328 ∧ (f j).2.size ≤ 140737488355328) := hs
  have KN : Hid (∀ W, Calls Tryd.prog 29 #[lbV (nm, vl)] W fun e w' => e = .returned (lbV (nm, vl)) ∧ Below W.heap.size W w') := fun W => copied_any (nm, vl) W hnm hvl
  have hnI : (n : Int) ≤ 2000000000 := by omega
  obtain ⟨W0, hW0⟩ : ∃ W0, W0 = w.alloc (.cells #[.string nm] 9) := ⟨_, rfl⟩
  have HW0 : Hid (W0 = w.alloc (.cells #[.string nm] 9)) := hW0
  have hb0 : Below w.heap.size w W0 := by rw [hW0]; exact (Below.refl _ w).alloc (Nat.le_refl _) _
  have hz0 : W0.heap.size = w.heap.size + 1 := by rw [hW0]; simp
  have hc0 : W0.cell? ⟨w.heap.size, 0, none⟩ = some (.string nm) := by rw [hW0]; exact c_new _ _ _
  obtain ⟨w1, r1, o1, b1⟩ := make_w W0 W0.heap.size (n + 1) (Nat.le_refl _) (by omega)
  obtain ⟨G, hG⟩ : ∃ G, G = W0.heap.size := ⟨_, rfl⟩
  have r1 : (Instr.makeSlice 22 (.int .i64 0) (.int .i64 ((n : Int) + 1))).run Tryd.prog W0 = .ok (.slice (some ⟨G, 0, none⟩) 0 (n + 1)) w1 := by
    rw [show (n : Int) + 1 = ((n + 1 : Nat) : Int) by omega, hG]
    exact r1
  rw [← hG] at o1 b1
  have HGw : Hid (G = w.heap.size + 1) := hG.trans hz0
  have HB1 : Hid (Below w.heap.size w w1) := hb0.trans (b1.mono (by omega))
  have HC1 : Hid (w1.cell? ⟨w.heap.size, 0, none⟩ = some (.string nm)) := (b1.cell (p := ⟨w.heap.size, 0, none⟩) (by show w.heap.size < G; omega)).trans hc0
  have HO1 : Hid (w1.ownsRow G 26 2 (.slice (some ⟨G, 0, none⟩) 0 (n + 1)) 0 (lcL [])) := o1
  clear hL hs hnm hvl hW0 hb0 hz0 hc0 o1 b1 hG
  go_enter Tryd.func11, Tryd.ntmps11
  go_upto_region 1 with fail
  rw [← HW0.out]
  clear HW0
  go_wp2
  clear r1
  go_loopw [7, 17] (fun sv ivv w' => ∃ i : Nat, ivv = .int .i64 (i : Int) ∧ sv = .slice (some ⟨G, 0, none⟩) (dropL f nm i).length (n + 1) ∧ i ≤ n ∧ Hid (w'.ownsRow G 26 2 (.slice (some ⟨G, 0, none⟩) (dropL f nm i).length (n + 1)) (dropL f nm i).length (lcL (dropL f nm i))) ∧ Hid (Below G w1 w')) (fun _ ivv _ => n - (RowKit.intOf ivv).toNat)
  case atStart => exact ⟨0, rfl, rfl, by omega, HO1, Below.refl _ _⟩
  case round =>
    clear HO1
    obtain ⟨i, rfl, rfl, hi, hrow, hbw⟩ := hrel
    have hbr : Below w.heap.size w wr := HB1.out.trans (hbw.out.mono (by have := HGw.out; omega))
    have hcn : wr.cell? ⟨w.heap.size, 0, none⟩ = some (.string nm) := (hbw.out.cell (p := ⟨w.heap.size, 0, none⟩) (by have := HGw.out; show w.heap.size < G; omega)).trans HC1.out
    by_cases hlt : i < n
    · have hii : (i : Int) < n := by omega
      obtain ⟨g, o, rfl, hg, c0, c1⟩ := (HL.out.below hbr).at i hlt
      obtain ⟨h1, h2⟩ := HS.out i hlt
      obtain ⟨⟨x1, x2⟩, hx⟩ : ∃ x, f i = x := ⟨_, rfl⟩
      rw [hx] at c0 c1 h1 h2
      dsimp only at c0 c1 h1 h2
      have HK : Hid (dropL f nm (i + 1) = dropL f nm i ++ if x1.toList == nm.toList then [] else [(x1, x2)]) := by unfold Hid; rw [dropL_succ, hx]
      have hkl := dropL_le f nm i
      generalize dropL f nm i = ks at hrow HK hkl ⊢
      have hal : Below wr.heap.size wr (wr.alloc (lbX (x1, x2))) := (Below.refl _ wr).alloc (Nat.le_refl _) _
      have hgz : G ≤ wr.heap.size := by have := (own_bd hrow.out G rfl).2; omega
      have hcn2 := bcell2 hal hcn
      have e : (wr.alloc (lbX (x1, x2))).heap[wr.heap.size]? = some (lbX (x1, x2)) := heap_alloc_new wr _
      have d0 : (wr.alloc (lbX (x1, x2))).cell? ⟨wr.heap.size, 0, none⟩ = some (.string x1) := by unfold World.cell?; rw [e]; rfl
      have d1 : (wr.alloc (lbX (x1, x2))).cell? ⟨wr.heap.size, 1, none⟩ = some (.string x2) := by unfold World.cell?; rw [e]; rfl
      have HRA : Hid ((wr.alloc (lbX (x1, x2))).ownsRow G 26 2 (.slice (some ⟨G, 0, none⟩) ks.length (n + 1)) ks.length (lcL ks)) := hrow.out.alloc _
      have HBA : Hid (Below G w1 (wr.alloc (lbX (x1, x2)))) := hbw.out.trans (hal.mono hgz)
      have k4 := copied_any (x1, x2) (wr.alloc (lbX (x1, x2))) h1 h2
      clear hrow hbw hbr hcn hx h1 h2 e hal hgz
      cases heq : (x1.toList == nm.toList)
      · rw [heq] at HK
        go_wp2_with fail
        go_fit k4
        rintro e w4 ⟨rfl, b4⟩
        have hr4 := (Kp.of (M := fun _ => False) b4).row HRA.out (fun _ _ => id)
        have hb4 := HBA.out.trans (b4.mono (by have := (own_bd HRA.out G rfl).2; omega))
        have ha5 : Below w4.heap.size w4 (w4.alloc (lbX (x1, x2))) := (Below.refl _ w4).alloc (Nat.le_refl _) _
        have hgz4 := (own_bd hr4 G rfl).2
        obtain ⟨w6, r, o6, kp6⟩ := fits_lb (w4.alloc (lbX (x1, x2))) G G (n + 1) w4.heap.size ks (x1, x2) (by omega) (World.alloc_heap_new w4 _) (hr4.alloc _)
        have HAP : Hid (w6.ownsRow G 26 2 (.slice (some ⟨G, 0, none⟩) (ks.length + 1) (n + 1)) (ks.length + 1) (lcL (ks ++ [(x1, x2)])) ∧ Below G w1 w6) := ⟨o6, (hb4.trans (ha5.mono (by omega))).trans (kp6.below (by simp; omega) (fun k hk e => by omega))⟩
        clear hr4 hb4 b4 k4 o6 kp6 d0 d1 ha5 hgz4 HRA HBA
        go_wp2_with (at_builtin; refine wpList_append_run rfl (.tmp 25) (.tmp 28) 22 22 rfl _ _ rfl rfl r ?_)
        have HK3 : Hid (dropL f nm (i + 1) = ks ++ [(x1, x2)]) := HK.out
        refine ⟨⟨i + 1, by go_num, ?_, by omega, ?_, HAP.out.2⟩, by simp [RowKit.intOf]; omega⟩
        · rw [HK3.out]; simp
        · unfold Hid
          rw [HK3.out, List.length_append]
          exact HAP.out.1
      · rw [heq] at HK
        have HK3 : Hid (dropL f nm (i + 1) = ks) := by unfold Hid; rw [HK.out]; simp
        clear k4
        go_wp2
        refine ⟨⟨i + 1, by go_num, ?_, by omega, ?_, HBA.out⟩, by simp [RowKit.intOf]; omega⟩
        · rw [HK3.out]
        · unfold Hid
          rw [HK3.out]
          exact HRA.out
    · obtain rfl : i = n := by omega
      have hii : ¬ (i : Int) < i := by omega
      have hkl := dropL_le f nm i
      have HWt : Hid (wthL f nm vl i = if vl.toList.isEmpty then dropL f nm i else insL nm vl (dropL f nm i)) := rfl
      generalize dropL f nm i = ks at hrow hkl HWt ⊢
      have HRO : Hid (wr.ownsRow G 26 2 (.slice (some ⟨G, 0, none⟩) ks.length (i + 1)) ks.length (lcL ks)) := hrow
      have HBR : Hid (Below w.heap.size w wr) := hbr
      have hklI : (ks.length : Int) ≤ 2000000000 := by omega
      clear hbw hbr r1
      cases hve : vl.toList.isEmpty
      · rw [hve] at HWt
        have kI := index_any (some ⟨G, 0, none⟩) (gL ks) ks.length (i + 1) w.heap.size nm wr (by omega) (row_lm hrow.out) hcn
        go_wp2_with fail
        go_fit kI
        rintro e w3 ⟨hcase, b3⟩
        rcases hcase with ⟨j, rfl, hj, hg1, hg2⟩ | ⟨rfl, hall⟩
        · obtain ⟨e1, e2⟩ := tw_at nm ks j hj hg1 hg2
          have HW2 : Hid (wthL f nm vl i = ks.take j ++ (nm, vl) :: ks.drop j) := by
            unfold Hid
            rw [HWt.out]
            show insL nm vl ks = _
            unfold insL
            rw [e1, e2]
          have hj0 : ¬ (j : Int) < 0 := by omega
          clear e1 e2 hg1 hg2
          have hcn3 := bcell2 b3 hcn
          have kC := KN.out w3
          have HR3 : Hid (w3.ownsRow G 26 2 (.slice (some ⟨G, 0, none⟩) ks.length (i + 1)) ks.length (lcL ks)) := (Kp.of (M := fun _ => False) b3).row HRO.out (fun _ _ => id)
          have HB3 : Hid (Below w.heap.size w w3) := HBR.out.trans (b3.mono HBR.out.size)
          clear b3 kI hcn hrow
          go_wp2_with fail
          go_fit kC
          rintro e w4 ⟨rfl, b4⟩
          have hr4 := (Kp.of (M := fun _ => False) b4).row HR3.out (fun _ _ => id)
          have hb4 := HB3.out.trans (b4.mono HB3.out.size)
          have hgz4 := (own_bd hr4 G rfl).2
          have ha5 : Below w4.heap.size w4 (w4.alloc (lbX (nm, vl))) := (Below.refl _ w4).alloc (Nat.le_refl _) _
          have HB5 : Hid (Below w.heap.size w (w4.alloc (lbX (nm, vl)))) := hb4.trans (ha5.mono hb4.size)
          have kN := insert_mid (w4.alloc (lbX (nm, vl))) G G (i + 1) j w4.heap.size ks (nm, vl) hj (by omega) (by omega) (by omega) (World.alloc_heap_new w4 _) (hr4.alloc _)
          clear hr4 hb4 b4 ha5 kC hcn3
          go_wp2_with fail
          go_fit kN
          rintro e w6 ⟨rfl, o6, k6⟩
          have HE : Hid (w6.ownsRow w.heap.size 26 2 (.slice (some ⟨G, 0, none⟩) (ks.length + 1) (i + 1)) (wthL f nm vl i).length (lcL (wthL f nm vl i)) ∧ Below w.heap.size w w6) := by
            refine ⟨?_, HB5.out.trans (k6.below HB5.out.size (fun k hk e => by have := HGw.out; omega))⟩
            rw [HW2.out]
            have := o6.mono (base' := w.heap.size) (by have := HGw.out; omega)
            have el : (ks.take j ++ (nm, vl) :: ks.drop j).length = ks.length + 1 := by simp; try omega
            rw [el]
            exact this
          clear o6 k6 kN
          go_wp2
          go_ret
          exact ⟨_, rfl, HE.out.1, HE.out.2⟩
        · obtain ⟨e1, e2⟩ := tw_all nm ks hall
          have HW2 : Hid (wthL f nm vl i = ks ++ [(nm, vl)]) := by
            unfold Hid
            rw [HWt.out]
            show insL nm vl ks = _
            unfold insL
            rw [e1, e2]
          clear e1 e2 hall
          have hcn3 := bcell2 b3 hcn
          have kC := KN.out w3
          have HR3 : Hid (w3.ownsRow G 26 2 (.slice (some ⟨G, 0, none⟩) ks.length (i + 1)) ks.length (lcL ks)) := (Kp.of (M := fun _ => False) b3).row HRO.out (fun _ _ => id)
          have HB3 : Hid (Below w.heap.size w w3) := HBR.out.trans (b3.mono HBR.out.size)
          clear b3 kI hcn hrow
          go_wp2_with fail
          go_fit kC
          rintro e w4 ⟨rfl, b4⟩
          have hr4 := (Kp.of (M := fun _ => False) b4).row HR3.out (fun _ _ => id)
          have hb4 := HB3.out.trans (b4.mono HB3.out.size)
          have hgz4 := (own_bd hr4 G rfl).2
          have ha5 : Below w4.heap.size w4 (w4.alloc (lbX (nm, vl))) := (Below.refl _ w4).alloc (Nat.le_refl _) _
          have HB5 : Hid (Below w.heap.size w (w4.alloc (lbX (nm, vl)))) := hb4.trans (ha5.mono hb4.size)
          have kN := insert_end (w4.alloc (lbX (nm, vl))) G G (i + 1) w4.heap.size ks (nm, vl) (by omega) (by omega) (World.alloc_heap_new w4 _) (hr4.alloc _)
          clear hr4 hb4 b4 ha5 kC hcn3
          go_wp2_with fail
          go_fit kN
          rintro e w6 ⟨rfl, o6, k6⟩
          have HE : Hid (w6.ownsRow w.heap.size 26 2 (.slice (some ⟨G, 0, none⟩) (ks.length + 1) (i + 1)) (wthL f nm vl i).length (lcL (wthL f nm vl i)) ∧ Below w.heap.size w w6) := by
            refine ⟨?_, HB5.out.trans (k6.below HB5.out.size (fun k hk e => by have := HGw.out; omega))⟩
            rw [HW2.out]
            have := o6.mono (base' := w.heap.size) (by have := HGw.out; omega)
            have el : (ks ++ [(nm, vl)]).length = ks.length + 1 := by simp; try omega
            rw [el]
            exact this
          clear o6 k6 kN
          go_wp2
          go_ret
          exact ⟨_, rfl, HE.out.1, HE.out.2⟩
      · rw [hve] at HWt
        have HE : Hid (wr.ownsRow w.heap.size 26 2 (.slice (some ⟨G, 0, none⟩) ks.length (i + 1)) (wthL f nm vl i).length (lcL (wthL f nm vl i))) := by
          unfold Hid
          rw [HWt.out]
          exact HRO.out.mono (by have := HGw.out; omega)
        clear hrow HRO HWt
        go_wp2
        go_ret
        exact ⟨_, rfl, HE.out, HBR.out⟩
end Go.Proofs.YtjmninjaoemhjaaDoor.K
