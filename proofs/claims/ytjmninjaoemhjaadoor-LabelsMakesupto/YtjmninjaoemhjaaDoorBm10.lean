/- A bundle of texts. -/
import Derived.Test.YtjmninjaoemhjaaDoorBm09
import Derived.Shelf.Spec.SlicesInsert
import Derived.Lib.Overlaps
/- With: where the label stands. -/
namespace Go.Proofs.YtjmninjaoemhjaaDoor.K
open Go.RowKit Go.Lib

attribute [local go_sem] Oper.semAt_some

set_option maxHeartbeats 2000000 in
theorem with1_any (x : Lb) (nm : ByteArray) (Bn : Nat) (W : World) (hB : W.cell? ⟨Bn, 0, none⟩ = some (.string nm)) :
    Calls Tryd.prog 33 #[lbV x, .pointer (some ⟨Bn, 0, none⟩)] W fun e w' => e = .returned (.bool (gtB x.1 nm)) ∧ Below W.heap.size W w' := by
  obtain ⟨x1, x2⟩ := x
  have hal : Below W.heap.size W (W.alloc (lbX (x1, x2))) := (Below.refl _ W).alloc (Nat.le_refl _) _
  have hb' := bcell2 hal hB
  have e : (W.alloc (lbX (x1, x2))).heap[W.heap.size]? = some (lbX (x1, x2)) := heap_alloc_new W _
  have d0 : (W.alloc (lbX (x1, x2))).cell? ⟨W.heap.size, 0, none⟩ = some (.string x1) := by unfold World.cell?; rw [e]; rfl
  have HB : Hid (Below W.heap.size W (W.alloc (lbX (x1, x2)))) := hal
  have HG : Hid (gtB x1 nm = (!Op.bytesLess x1.toList nm.toList && !(x1.toList == nm.toList))) := by unfold Hid gtB; rw [Bool.not_or]
  clear e hal hB
  go_enter Tryd.func33, Tryd.ntmps33
  go_wp2
  go_ret
  exact ⟨by rw [HG.out]; rfl, HB.out⟩
set_option maxRecDepth 100000 in
set_option maxHeartbeats 4000000 in
theorem index_any (a : Option Addr) (f : Nat → Lb) (n c Bn : Nat) (nm : ByteArray) (w : World) (hn : n ≤ 1152921504606846976) (hL : Lm w a f n) (hB : w.cell? ⟨Bn, 0, none⟩ = some (.string nm)) :
    Calls Tryd.prog 32 #[.slice a n c, .func (.func 33) #[] #[.pointer (some ⟨Bn, 0, none⟩)]] w fun e w' => ((∃ i : Nat, e = .returned (.int .i64 (i : Int)) ∧ i < n ∧ gtB (f i).1 nm = true ∧ ∀ j, j < i → gtB (f j).1 nm = false) ∨ (e = .returned (.int .i64 (-1)) ∧ ∀ j, j < n → gtB (f j).1 nm = false)) ∧ Below w.heap.size w w' := by
  have HL : Hid (Lm w a f n) := hL
  have HB : Hid (w.cell? ⟨Bn, 0, none⟩ = some (.string nm)) := hB
  have hnI : (n : Int) ≤ 1152921504606846976 := by omega
  clear hL hB
  go_enter Tryd.func32, Tryd.ntmps32
  go_wp2
  go_loopw [8] (fun ivv w' => ∃ i : Nat, ivv = .int .i64 (i : Int) ∧ i ≤ n ∧ Hid (∀ j, j < i → gtB (f j).1 nm = false) ∧ Hid (Below w.heap.size w w')) (fun ivv _ => n - (RowKit.intOf ivv).toNat)
  case atStart => exact ⟨0, rfl, by omega, fun j hj => by omega, Below.refl _ _⟩
  case round =>
    obtain ⟨i, rfl, hi, hf, hbw⟩ := hrel
    by_cases hlt : i < n
    · have hii : (i : Int) < n := by omega
      obtain ⟨g, o, rfl, hg, c0, c1⟩ := (HL.out.below hbw.out).at i hlt
      have kW := with1_any (f i) nm Bn wr (bcell2 hbw.out HB.out)
      obtain ⟨⟨x1, x2⟩, hx⟩ : ∃ x, f i = x := ⟨_, rfl⟩
      have HX : Hid (f i = (x1, x2)) := hx
      rw [hx] at c0 c1 kW
      dsimp only at c0 c1 kW
      have HBW : Hid (∀ W, Below wr.heap.size wr W → Below w.heap.size w W) := fun W b => hbw.out.trans (b.mono hbw.out.size)
      clear hx hbw
      cases hgt : gtB x1 nm
      · rw [hgt] at kW
        have HF : Hid (∀ j, j < i + 1 → gtB (f j).1 nm = false) := fun j hj => by
          by_cases e : j = i
          · subst e; rw [HX.out]; exact hgt
          · exact hf.out j (by omega)
        go_wp2_with fail
        go_fit kW
        rintro e w3 ⟨rfl, b3⟩
        have HB3 : Hid (Below w.heap.size w w3) := HBW.out w3 b3
        clear b3 kW
        go_wp2
        exact ⟨⟨i + 1, by go_num, by omega, HF, HB3⟩, by simp [RowKit.intOf]; omega⟩
      · rw [hgt] at kW
        go_wp2_with fail
        go_fit kW
        rintro e w3 ⟨rfl, b3⟩
        have HB3 : Hid (Below w.heap.size w w3) := HBW.out w3 b3
        clear b3 kW
        go_wp2
        go_ret
        exact ⟨.inl ⟨i, rfl, hlt, by rw [HX.out]; exact hgt, hf.out⟩, HB3.out⟩
    · obtain rfl : i = n := by omega
      have hii : ¬ (i : Int) < i := by omega
      go_wp2
      go_ret
      exact ⟨.inr ⟨rfl, hf.out⟩, hbw.out⟩
end Go.Proofs.YtjmninjaoemhjaaDoor.K
/- slices.Insert of one label, with room. -/
namespace Go.Proofs.YtjmninjaoemhjaaDoor.K
open Go.RowKit Go.Lib

attribute [local go_sem] Oper.semAt_some

theorem lcL_take : ∀ (ks : List Lb) (i : Nat), (lcL ks).take (i * 2) = lcL (ks.take i)
  | [], i => by simp [lcL]
  | k :: ks, 0 => by simp [lcL]
  | k :: ks, i + 1 => by
    have ih := lcL_take ks i
    have e : lcL (k :: ks) = .string k.1 :: .string k.2 :: lcL ks := by simp [lcL, l2]
    rw [e, show (i + 1) * 2 = i * 2 + 2 by omega, List.take_succ_cons, List.take_succ_cons, ih]
    simp [lcL, l2]
theorem lcL_drop : ∀ (ks : List Lb) (i : Nat), (lcL ks).drop (i * 2) = lcL (ks.drop i)
  | [], i => by simp [lcL]
  | k :: ks, 0 => by simp
  | k :: ks, i + 1 => by
    have ih := lcL_drop ks i
    have e : lcL (k :: ks) = .string k.1 :: .string k.2 :: lcL ks := by simp [lcL, l2]
    rw [e, show (i + 1) * 2 = i * 2 + 2 by omega, List.drop_succ_cons, List.drop_succ_cons, ih]
    simp
theorem lcL_len (ks : List Lb) : (lcL ks).length = ks.length * 2 := by rw [lcL_lc, lc_len]
theorem lcL_one (ks : List Lb) : ∀ u ∈ lcL ks, u.oneCell' = true := by rw [lcL_lc]; exact lc_one _ _
theorem copyC (w : World) (g d dn dc : Nat) (cur : Array Value) (sa : Addr) (sn sc m : Nat) (cs : List Value) (ty : TypeId) (hg : w.heap[g]? = some (.cells cur 26 (0, 0))) (hm : Nat.min sn dn = m) (hcl : cs.length = m * 2) (hcs : ∀ j v, cs[j]? = some v → w.cell? (sa.add j) = some v) (hd : d + cs.length ≤ cur.size) (h1 : ∀ v ∈ cs, v.oneCell' = true) :
    (Builtin.copy_ #[22, 22] ty #[.slice (some ⟨g, d, none⟩) dn dc, .slice (some sa) sn sc]).run Tryd.prog w = .ok (goInt m) (w.setRow g (cur.toList.take d ++ cs ++ cur.toList.drop (d + cs.length)).toArray) := by
  obtain ⟨i0, hi, hz0, hz1, hz2⟩ := info_parts infL
  have hl := run_loadCells_list (P := Tryd.prog) w sa cs hcs
  have hst := run_storeCells_at (P := Tryd.prog) g d 26 cs 0 cur w hg (by omega) h1
  rw [hcl] at hl
  simp [Builtin.copy_, run_underlying Tryd.underlying22, Builtin.lenOf, Builtin.firstCells, sizeOf, typeInfo, hi, hz1, hm, hl]
  rw [Nat.add_zero] at hst
  rw [hst]
  simp only [List.append_assoc]
  rfl
set_option maxHeartbeats 4000000 in
set_option maxRecDepth 100000 in
theorem insert_mid (w : World) (S g cap i vb : Nat) (ks : List Lb) (x : Lb) (hi : i < ks.length) (hroom : ks.length + 1 ≤ cap) (hn : cap ≤ 2199023255552) (hvb : vb ≠ g) (hv : w.heap[vb]? = some (lbX x)) (hrow : w.ownsRow S 26 2 (.slice (some ⟨g, 0, none⟩) ks.length cap) ks.length (lcL ks)) :
    Calls Tryd.prog 34 #[.slice (some ⟨g, 0, none⟩) ks.length cap, .int .i64 i, .slice (some ⟨vb, 0, none⟩) 1 1] w fun e w' => e = .returned (.slice (some ⟨g, 0, none⟩) (ks.length + 1) cap) ∧ w'.ownsRow S 26 2 (.slice (some ⟨g, 0, none⟩) (ks.length + 1) cap) (ks.length + 1) (lcL (ks.take i ++ x :: ks.drop i)) ∧ Kp (· = g) w w' := by
  rcases hrow.2 with ⟨h0, _⟩ | ⟨g', cap', cur, hv', hbase, hgg, h1, h2, h3, h4⟩
  · cases h0
  cases hv'
  obtain ⟨n, hnl⟩ : ∃ n, n = ks.length := ⟨_, rfl⟩
  rw [← hnl] at hi hroom h1 h4 ⊢
  have hmid : lcL (ks.drop i) = (cur.toList.take (n * 2)).drop (i * 2) := by rw [h4, lcL_drop]
  have hmidl : (lcL (ks.drop i)).length = (n - i) * 2 := by rw [lcL_len, List.length_drop, hnl]
  have hcell : ∀ W : World, W.heap[g]? = some (.cells cur 26 (0, 0)) → ∀ j v, (lcL (ks.drop i))[j]? = some v → W.cell? ((⟨g, i * 2, none⟩ : Addr).add j) = some v := fun W hW j v hj => by
    rw [Go.WideShapes.add_plain]
    unfold World.cell?
    rw [hW]
    rw [hmid, List.getElem?_drop] at hj
    have hjl : i * 2 + j < n * 2 := by
      have := (List.getElem?_eq_some_iff.1 hj).1
      simp at this
      omega
    rw [List.getElem?_take_of_lt hjl] at hj
    simpa using hj
  have hov : ∀ lb cb, (callFunc 58 #[.slice (some ⟨vb, 0, none⟩) 1 1, .slice (some ⟨g, (i + 1) * 2, none⟩) lb cb]).run Tryd.prog w = .ok (.value (.bool false)) w := fun lb cb => by
    rw [run_callFunc_extern Tryd.func58 (by kernel_rfl) (by kernel_rfl) (by kernel_rfl) (e := Extern.SlicesOverlaps.overlaps #[22, 22] #[4]) (by kernel_rfl),
      Lib.run_overlaps_apart w 22 4 26 Tryd.underlying22 2 Tryd.sizeOf26 ⟨vb, 0, none⟩ ⟨g, (i + 1) * 2, none⟩ 1 1 lb cb hvb 26 26 2 (cap * 2) (by unfold World.shape?; rw [hv]; rfl) (by unfold World.shape?; rw [hgg, ← h3]) (by omega) (by unfold World.frozen?; rw [hv]; rfl) (by unfold World.frozen?; rw [hv]; rfl)]
    rfl
  obtain ⟨cur1, hc1⟩ : ∃ c : Array Value, c = (cur.toList.take ((i + 1) * 2) ++ lcL (ks.drop i) ++ cur.toList.drop ((i + 1) * 2 + (lcL (ks.drop i)).length)).toArray := ⟨_, rfl⟩
  have hcp1 : ∀ ty dc sc, (Builtin.copy_ #[22, 22] ty #[.slice (some ⟨g, (i + 1) * 2, none⟩) (n - i) dc, .slice (some ⟨g, i * 2, none⟩) (n + 1 - i) sc]).run Tryd.prog w.drew = .ok (goInt ((n - i : Nat) : Int)) (w.drew.setRow g cur1) := fun ty dc sc => by
    rw [hc1]
    exact copyC w.drew g ((i + 1) * 2) (n - i) dc cur ⟨g, i * 2, none⟩ (n + 1 - i) sc (n - i) (lcL (ks.drop i)) ty hgg (by show min (n + 1 - i) (n - i) = n - i; omega) hmidl (hcell w.drew hgg) (by rw [hmidl, h3]; omega) (lcL_one _)
  have hc1s : cur1.size = cap * 2 := by
    rw [hc1]
    simp [hmidl, h3]
    omega
  obtain ⟨cur2, hc2⟩ : ∃ c : Array Value, c = (cur1.toList.take (i * 2) ++ l2 x ++ cur1.toList.drop (i * 2 + (l2 x).length)).toArray := ⟨_, rfl⟩
  have hcp2 : ∀ W : World, W.heap[g]? = some (.cells cur1 26 (0, 0)) → W.heap[vb]? = some (lbX x) → ∀ ty dc, (Builtin.copy_ #[22, 22] ty #[.slice (some ⟨g, i * 2, none⟩) (n + 1 - i) dc, .slice (some ⟨vb, 0, none⟩) 1 1]).run Tryd.prog W = .ok (goInt ((1 : Nat) : Int)) (W.setRow g cur2) := fun W hW hWv ty dc => by
    rw [hc2]
    refine copyC W g (i * 2) (n + 1 - i) dc cur1 ⟨vb, 0, none⟩ 1 1 1 (l2 x) ty hW (by show min 1 (n + 1 - i) = 1; omega) rfl (fun j v hj => ?_) (by rw [hc1s]; simp [l2]; omega) (by intro u hu; simp [l2] at hu; rcases hu with rfl | rfl <;> rfl)
    rw [Go.WideShapes.add_plain, Nat.zero_add]
    unfold World.cell?
    rw [hWv]
    simpa [l2] using hj
  have hg1 : (w.drew.setRow g cur1).heap[g]? = some (.cells cur1 26 (0, 0)) := setRow_heap w.drew g cur cur1 26 _ hgg
  have hv1 : (w.drew.setRow g cur1).heap[vb]? = some (lbX x) := (setRow_other w.drew g vb cur1 hvb).trans hv
  have hfin : Hid (((w.drew.setRow g cur1).setRow g cur2).ownsRow S 26 2 (.slice (some ⟨g, 0, none⟩) (n + 1) cap) (n + 1) (lcL (ks.take i ++ x :: ks.drop i)) ∧ Kp (· = g) w ((w.drew.setRow g cur1).setRow g cur2)) := by
    refine ⟨⟨?_, .inr ⟨g, cap, cur2, rfl, hbase, setRow_heap _ g cur1 cur2 26 _ hg1, hroom, h2, ?_, ?_⟩⟩, ⟨rfl, rfl, rfl, by simp, fun k _ hk => (setRow_other _ g k _ hk).trans (setRow_other w.drew g k _ hk)⟩⟩
    · rw [lcL_len]
      simp
      omega
    · rw [hc2]
      simp [hc1s, l2]
      omega
    · have e0 : lcL (ks.take i ++ x :: ks.drop i) = lcL (ks.take i) ++ l2 x ++ lcL (ks.drop i) := by simp [lcL]
      have e1 : cur1.toList.take (i * 2) = lcL (ks.take i) := by
        rw [hc1, ← lcL_take, ← h4, List.take_take]
        simp only [List.append_assoc]
        rw [List.take_append_of_le_length (by simp [h3]; omega), List.take_take]
        congr 1
        omega
      have e2 : cur1.toList.drop (i * 2 + (l2 x).length) = lcL (ks.drop i) ++ cur.toList.drop ((i + 1) * 2 + (lcL (ks.drop i)).length) := by
        rw [hc1]
        simp only [List.append_assoc]
        rw [List.drop_append_of_le_length (by simp [h3, l2]; omega), List.drop_take, show (i + 1) * 2 - (i * 2 + (l2 x).length) = 0 by simp [l2]; omega]
        rfl
      rw [hc2, e1, e2, e0]
      simp only [List.append_assoc]
      rw [← List.append_assoc, ← List.append_assoc]
      rw [List.take_append_of_le_length (by simp [lcL_len, l2]; omega), List.take_of_length_le (by simp [lcL_len, l2]; omega)]
      simp only [List.append_assoc]
  have mixed : Tryd.prog.follows .mixedOrders = true := by kernel_rfl
  have hb1 : (0 : Int) ≤ (i : Int) + 1 := by omega
  have hin : i ≤ n := by omega
  have hz2 : ¬ ((i : Int) = (n : Int)) := by omega
  have hw1 : IntKind.i64.wrap ((i : Int) + 1) = (i : Int) + 1 := by rw [IntKind.wrap_i64]; omega
  have hb3 : (i : Int) ≤ (n : Int) + 1 := by omega
  have hiI : (i : Int) < n := by omega
  have hcI : (n : Int) + 1 ≤ cap := by omega
  have hnI : (cap : Int) ≤ 2199023255552 := by omega
  have htn : ((i : Int) + 1).toNat = i + 1 := by omega
  have hb2 : ¬ (cap = i + 1) := by omega
  have hb4 : ¬ (cap = i) := by omega
  clear hrow hv hgg h1 h2 h3 h4 hmid hmidl hcell hc1 hc1s hc2 hnl
  go_enter Tryd.func34, Tryd.ntmps34
  go_wp2_with (simp only [hov])
  go_region_law_o (refine step_copy_runI rfl _ _ 22 22 rfl _ _ (by simp [Act.eval, Act.put]) (by simp [Act.eval, Act.put]) (hcp1 _ _ _) ?_)
  go_wp2_with (at_builtin; refine wpList_copy_runI _ rfl _ _ 22 22 rfl _ _ rfl rfl (hcp2 _ hg1 hv1 _ _) ?_)
  go_ret
  exact ⟨rfl, hfin.out⟩
end Go.Proofs.YtjmninjaoemhjaaDoor.K
/- slices.Insert at the end; With. -/
namespace Go.Proofs.YtjmninjaoemhjaaDoor.K
open Go.RowKit Go.Lib

attribute [local go_sem] Oper.semAt_some

theorem fits_lb (w : World) (S g cap vb : Nat) (ks : List Lb) (x : Lb) (hroom : ks.length + 1 ≤ cap) (hv : w.heap[vb]? = some (lbX x)) (hrow : w.ownsRow S 26 2 (.slice (some ⟨g, 0, none⟩) ks.length cap) ks.length (lcL ks)) :
    ∃ w', (Builtin.append_ #[22, 22] 22 #[.slice (some ⟨g, 0, none⟩) ks.length cap, .slice (some ⟨vb, 0, none⟩) 1 1]).run Tryd.prog w = .ok (.slice (some ⟨g, 0, none⟩) (ks.length + 1) cap) w' ∧ w'.ownsRow S 26 2 (.slice (some ⟨g, 0, none⟩) (ks.length + 1) cap) (ks.length + 1) (lcL (ks ++ [x])) ∧ Kp (· = g) w w' := by
  obtain ⟨i0, hi, hz0, hz1, hz2⟩ := info_parts infL
  obtain ⟨w', r, o, gr⟩ := run_append_fits (P := Tryd.prog) w S 22 22 26 i0 2 Tryd.underlying22 hi hz1 g ks.length cap (lcL ks) hrow ⟨vb, 0, none⟩ 1 1 (l2 x) rfl (fun j u hj => by
    rw [Go.WideShapes.add_plain, Nat.zero_add]
    unfold World.cell?
    rw [hv]
    simpa [l2] using hj) (by intro u hu; simp [l2] at hu; rcases hu with rfl | rfl <;> rfl) hroom
  refine ⟨w', r, ?_, (Kp.refl _ w).grown gr (fun k e _ => (Option.some.inj e).symm)⟩
  have e1 : lcL (ks ++ [x]) = lcL ks ++ l2 x := by simp [lcL]
  rw [e1]
  exact o
set_option maxHeartbeats 4000000 in
set_option maxRecDepth 100000 in
theorem insert_end (w : World) (S g cap vb : Nat) (ks : List Lb) (x : Lb) (hroom : ks.length + 1 ≤ cap) (hn : cap ≤ 2199023255552) (hv : w.heap[vb]? = some (lbX x)) (hrow : w.ownsRow S 26 2 (.slice (some ⟨g, 0, none⟩) ks.length cap) ks.length (lcL ks)) :
    Calls Tryd.prog 34 #[.slice (some ⟨g, 0, none⟩) ks.length cap, .int .i64 (ks.length : Int), .slice (some ⟨vb, 0, none⟩) 1 1] w fun e w' => e = .returned (.slice (some ⟨g, 0, none⟩) (ks.length + 1) cap) ∧ w'.ownsRow S 26 2 (.slice (some ⟨g, 0, none⟩) (ks.length + 1) cap) (ks.length + 1) (lcL (ks ++ [x])) ∧ Kp (· = g) w w' := by
  obtain ⟨w', r, o, k⟩ := fits_lb w S g cap vb ks x hroom hv hrow
  have HE : Hid (w'.ownsRow S 26 2 (.slice (some ⟨g, 0, none⟩) (ks.length + 1) cap) (ks.length + 1) (lcL (ks ++ [x])) ∧ Kp (· = g) w w') := ⟨o, k⟩
  obtain ⟨n, hnl⟩ : ∃ n, n = ks.length := ⟨_, rfl⟩
  rw [← hnl] at r HE hroom ⊢
  have hcI : (n : Int) + 1 ≤ cap := by omega
  have hnI : (cap : Int) ≤ 2199023255552 := by omega
  clear o k hv hrow hnl
  go_enter Tryd.func34, Tryd.ntmps34
  go_wp2_with (at_builtin; refine wpList_append_run rfl (.tmp 23) (.tmp 24) 22 22 rfl _ _ rfl rfl r ?_)
  go_ret
  exact ⟨rfl, HE.out⟩
/-- The labels of other names. -/
def dropL (f : Nat → Lb) (nm : ByteArray) (n : Nat) : List Lb := (ll f n).filter fun l => !(l.1.toList == nm.toList)
theorem dropL_succ (f : Nat → Lb) (nm : ByteArray) (n : Nat) : dropL f nm (n + 1) = dropL f nm n ++ if (f n).1.toList == nm.toList then [] else [f n] := by
  unfold dropL
  rw [ll_succ, List.filter_append]
  congr 1
  split <;> rename_i h <;> simp [h]
theorem dropL_le (f : Nat → Lb) (nm : ByteArray) (n : Nat) : (dropL f nm n).length ≤ n := by
  have := List.length_filter_le (fun l : Lb => !(l.1.toList == nm.toList)) (ll f n)
  rw [ll_len] at this
  exact this
/-- A label put in its place. -/
def insL (nm vl : ByteArray) (ks : List Lb) : List Lb := (ks.takeWhile fun l => !gtB l.1 nm) ++ (nm, vl) :: ks.dropWhile fun l => !gtB l.1 nm
def wthL (f : Nat → Lb) (nm vl : ByteArray) (n : Nat) : List Lb := if vl.toList.isEmpty then dropL f nm n else insL nm vl (dropL f nm n)
end Go.Proofs.YtjmninjaoemhjaaDoor.K
