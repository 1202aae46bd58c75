/- A bundle of texts. -/
import Derived.Test.YtjmninjaoemhjaaDoorBm09
import Derived.Test.YtjmninjaoemhjaaDoorBm07
import Derived.Test.YtjmninjaoemhjaaDoorBm11
import Derived.Test.YtjmninjaoemhjaaDoorBm12
/- The reference's With, walked. -/
namespace Go.Proofs.YtjmninjaoemhjaaDoor.K
open Go.RowKit Go.Lib

attribute [local go_sem] Oper.semAt_some
set_option maxRecDepth 100000 in
set_option maxHeartbeats 8000000 in
theorem rwith_any (a : Option Addr) (f : Nat → Lb) (n c : Nat) (nm vl : ByteArray) (w : World) (hn : n ≤ 2199023255552) (hL : Lm w a f n) :
    Calls Tryd.prog 50 #[.slice a n c, .string nm, .string vl] w fun e w' => ∃ v, e = .returned v ∧ w'.ownsRow w.heap.size 26 2 v (rwL f nm vl n).length (lcL (rwL f nm vl n)) ∧ Below w.heap.size w w' := by
  have HL : Hid (Lm w a f n) := hL
  have hnI : (n : Int) ≤ 2199023255552 := by omega
  clear hL
  go_enter Tryd.func50, Tryd.ntmps50
  go_wp2
  go_loopw [7, 8, 9] (fun sv pv ivv w' => ∃ i : Nat, ivv = .int .i64 (i : Int) ∧ pv = .bool (rwF f nm vl i).2 ∧ i ≤ n ∧ Hid (w'.ownsRow w.heap.size 26 2 sv (rwF f nm vl i).1.length (lcL (rwF f nm vl i).1)) ∧ Hid (Below w.heap.size w w')) (fun _ _ ivv _ => n - (RowKit.intOf ivv).toNat)
  case atStart => exact ⟨0, rfl, by first | rfl | simp [rwF], by omega, World.ownsRow_nil _ _ _ _, Below.refl _ _⟩
  case round =>
    obtain ⟨i, rfl, rfl, hi, hrow, hbw⟩ := hrel
    by_cases hlt : i < n
    · have hii : (i : Int) < n := by omega
      obtain ⟨g, o, rfl, hg, y0, y1⟩ := HL.out.at i hlt
      obtain ⟨⟨x1, x2⟩, hx⟩ : ∃ x, f i = x := ⟨_, rfl⟩
      rw [hx] at y0 y1
      dsimp only at y0 y1
      have HC : Hid (∀ W, Below w.heap.size w W → W.cell? ⟨g, o + i * 2, none⟩ = some (.string x1) ∧ W.cell? ⟨g, o + i * 2 + 1, none⟩ = some (.string x2)) := fun W b => ⟨(b.cell (p := ⟨g, o + i * 2, none⟩) hg).trans y0, (b.cell (p := ⟨g, o + i * 2 + 1, none⟩) hg).trans y1⟩
      obtain ⟨c0, c1⟩ := HC.out wr hbw.out
      clear y0 y1
      have hle := rwF_le f nm vl i
      have HK : Hid (rwF f nm vl (i + 1) = rwS nm vl (rwF f nm vl i) (x1, x2)) := by unfold Hid; rw [← hx]; rfl
      obtain ⟨⟨ks, pt⟩, hks⟩ : ∃ s, rwF f nm vl i = s := ⟨_, rfl⟩
      rw [hks] at hrow HK hle ⊢
      dsimp only at hrow hle ⊢
      clear hx hks
      have hle2 : ks.length ≤ i + 1 := by
        cases pt
        · simp at hle; omega
        · simpa using hle
      have HR : Hid (wr.ownsRow w.heap.size 26 2 u7 ks.length (lcL ks)) := hrow
      have HB : Hid (Below w.heap.size w wr) := hbw
      have HAP : Hid (∀ W v ks', Below w.heap.size w W → W.ownsRow w.heap.size 26 2 v ks'.length (lcL ks') → ks'.length ≤ i + 3 → ∀ x, ∃ G cc w6, (Builtin.append_ #[22, 22] 22 #[v, .slice (some ⟨W.heap.size, 0, none⟩) 1 1]).run Tryd.prog (W.alloc (lbX x)) = .ok (.slice (some ⟨G, 0, none⟩) (ks'.length + 1) cc) w6 ∧ Below w.heap.size w w6 ∧ w6.ownsRow w.heap.size 26 2 (.slice (some ⟨G, 0, none⟩) (ks'.length + 1) cc) (ks' ++ [x]).length (lcL (ks' ++ [x]))) := fun W v ks' hb hr hl x => by
        obtain ⟨G, cc, w6, r, o6, kp6⟩ := ap_lb W w.heap.size v ks'.length (lcL ks') x hb.size (by omega) hr
        refine ⟨G, cc, w6, r, hb.trans (kp6.below hb.size (fun k hk e => by have := (own_bd hr k e).1; omega)), ?_⟩
        have e1 : lcL (ks' ++ [x]) = lcL ks' ++ l2 x := by simp [lcL]
        rw [e1, List.length_append]
        exact o6
      clear hrow hle
      cases heq : (x1.toList == nm.toList)
      · obtain ⟨G1, k1, w1, r1, b1, o1⟩ := HAP.out wr u7 ks HB.out HR.out (by omega) (x1, x2)
        have HE1 : Hid (Below w.heap.size w w1 ∧ w1.ownsRow w.heap.size 26 2 (.slice (some ⟨G1, 0, none⟩) (ks.length + 1) k1) (ks ++ [(x1, x2)]).length (lcL (ks ++ [(x1, x2)]))) := ⟨b1, o1⟩
        clear b1 o1
        cases pt
        · cases hls : Op.bytesLess x1.toList nm.toList
          · have HK2 : Hid (rwF f nm vl (i + 1) = (ks ++ [(nm, vl)] ++ [(x1, x2)], true)) := by unfold Hid; rw [HK.out]; unfold rwS gtB; simp only [heq, hls]; rfl
            obtain ⟨G2, k2, w2, r2, b2, o2⟩ := HAP.out wr u7 ks HB.out HR.out (by omega) (nm, vl)
            obtain ⟨G3, k3, w3, r3, b3, o3⟩ := HAP.out w2 _ (ks ++ [(nm, vl)]) b2 o2 (by simp; omega) (x1, x2)
            have el : (ks ++ [(nm, vl)]).length = ks.length + 1 := by simp
            rw [el] at r3 o3
            obtain ⟨d0, d1⟩ := HC.out w2 b2
            have HE3 : Hid (Below w.heap.size w w3 ∧ w3.ownsRow w.heap.size 26 2 (.slice (some ⟨G3, 0, none⟩) (ks.length + 1 + 1) k3) (ks ++ [(nm, vl)] ++ [(x1, x2)]).length (lcL (ks ++ [(nm, vl)] ++ [(x1, x2)]))) := ⟨b3, o3⟩
            clear b2 o2 b3 o3 r1 HE1 HAP HC HK HR
            go_wp2_with (first | (at_builtin; refine wpList_append_run rfl (.tmp 36) (.tmp 40) 22 22 rfl _ _ rfl rfl r2 ?_) | (at_builtin; refine wpList_append_run rfl (.tmp 42) (.tmp 47) 22 22 rfl _ _ rfl rfl r3 ?_))
            exact ⟨⟨i + 1, by go_num, by rw [HK2.out], by omega, by unfold Hid; rw [HK2.out]; exact HE3.out.2, HE3.out.1⟩, by simp [RowKit.intOf]; omega⟩
          · have HK2 : Hid (rwF f nm vl (i + 1) = (ks ++ [(x1, x2)], false)) := by unfold Hid; rw [HK.out]; unfold rwS gtB; simp only [heq, hls]; rfl
            clear HAP HC HK HR
            go_wp2_with (at_builtin; refine wpList_append_run rfl (.tmp 42) (.tmp 47) 22 22 rfl _ _ rfl rfl r1 ?_)
            exact ⟨⟨i + 1, by go_num, by rw [HK2.out], by omega, by unfold Hid; rw [HK2.out]; exact HE1.out.2, HE1.out.1⟩, by simp [RowKit.intOf]; omega⟩
        · have HK2 : Hid (rwF f nm vl (i + 1) = (ks ++ [(x1, x2)], true)) := by unfold Hid; rw [HK.out]; unfold rwS; simp only [heq]; rfl
          clear HAP HC HK HR
          go_wp2_with (at_builtin; refine wpList_append_run rfl (.tmp 42) (.tmp 47) 22 22 rfl _ _ rfl rfl r1 ?_)
          exact ⟨⟨i + 1, by go_num, by rw [HK2.out], by omega, by unfold Hid; rw [HK2.out]; exact HE1.out.2, HE1.out.1⟩, by simp [RowKit.intOf]; omega⟩
      · have HK2 : Hid (rwF f nm vl (i + 1) = (ks, pt)) := by unfold Hid; rw [HK.out]; unfold rwS; simp only [heq]; rfl
        clear HAP HC HK
        go_wp2
        exact ⟨⟨i + 1, by go_num, by rw [HK2.out], by omega, by unfold Hid; rw [HK2.out]; exact HR.out, HB.out⟩, by simp [RowKit.intOf]; omega⟩
    · obtain rfl : i = n := by omega
      have hii : ¬ (i : Int) < i := by omega
      have hle := rwF_le f nm vl i
      obtain ⟨⟨ks, pt⟩, hks⟩ : ∃ s, rwF f nm vl i = s := ⟨_, rfl⟩
      have HW : Hid (rwL f nm vl i = if pt then ks else ks ++ [(nm, vl)]) := by unfold Hid rwL; rw [hks]
      rw [hks] at hrow hle ⊢
      dsimp only at hrow hle ⊢
      clear hks
      cases pt
      · obtain ⟨G, cc, w6, r, o6, kp6⟩ := ap_lb wr w.heap.size u7 ks.length (lcL ks) (nm, vl) hbw.out.size (by simp at hle; omega) hrow.out
        have HE : Hid (Below w.heap.size w w6 ∧ w6.ownsRow w.heap.size 26 2 (.slice (some ⟨G, 0, none⟩) (ks.length + 1) cc) (rwL f nm vl i).length (lcL (rwL f nm vl i))) := by
          refine ⟨hbw.out.trans (kp6.below hbw.out.size (fun k hk e => by have := (own_bd hrow.out k e).1; omega)), ?_⟩
          rw [HW.out]
          have e1 : lcL (ks ++ [(nm, vl)]) = lcL ks ++ l2 (nm, vl) := by simp [lcL]
          simp only [Bool.false_eq_true, if_false]
          rw [e1, List.length_append]
          exact o6
        clear hrow hbw o6 kp6 HW hle
        go_wp2_with (at_builtin; refine wpList_append_run rfl (.tmp 51) (.tmp 55) 22 22 rfl _ _ rfl rfl r ?_)
        go_ret
        exact ⟨_, rfl, HE.out.2, HE.out.1⟩
      · have HE : Hid (Below w.heap.size w wr ∧ wr.ownsRow w.heap.size 26 2 u7 (rwL f nm vl i).length (lcL (rwL f nm vl i))) := ⟨hbw.out, by rw [HW.out]; exact hrow.out⟩
        clear hrow hbw HW hle
        go_wp2
        go_ret
        exact ⟨_, rfl, HE.out.2, HE.out.1⟩
end Go.Proofs.YtjmninjaoemhjaaDoor.K
/- Labels: Make's answer is a label set; Get and Valid over a row. -/
namespace Go.Proofs.YtjmninjaoemhjaaDoor
open Go.RowKit Go.Lib

theorem sel_mem (f : Nat → Lb) : ∀ n x, x ∈ sel f n → ∃ j, j < n ∧ x = f j ∧ x.2 ≠ ⟨#[]⟩
  | n + 1, x, h => by
    unfold sel at h
    rcases List.mem_append.1 h with h | h
    · obtain ⟨j, hj, e⟩ := sel_mem f n x h
      exact ⟨j, by omega, e⟩
    · split at h
      · simp at h
      · rename_i hne
        have e : x = f n := by simpa using h
        refine ⟨n, by omega, e, fun h0 => hne ?_⟩
        rw [← e]
        exact (tempty _).2 h0
theorem sel_ne (f : Nat → Lb) : ∀ n, Gd f n → (sel f n).Pairwise fun x y => x.1 ≠ y.1
  | 0, _ => .nil
  | n + 1, hG => by
    have ih := sel_ne f n (fun j hj => hG j (by omega))
    unfold sel
    rw [List.pairwise_append]
    refine ⟨ih, ?_, fun x hx y hy => ?_⟩
    · split
      · exact .nil
      · simp
    · split at hy
      · simp at hy
      · have e : y = f n := by simpa using hy
        obtain ⟨j, hj, ex, _⟩ := sel_mem f n x hx
        have := (hG n (by omega)).2.2 j hj
        rw [e, ex]
        intro h
        rw [h] at this
        have e2 : ((f n).1 == (f n).1) = true := by
          obtain ⟨d⟩ := (f n).1
          first
          | exact beq_self_eq_true _
          | exact (show (d == d) = true from beq_self_eq_true _)
          | (unfold BEq.beq; exact (show (d == d) = true from beq_self_eq_true _))
          | decide
        rw [this] at e2
        cases e2
/-- What Make answers is a label set. -/
theorem ls_make {f : Nat → Lb} {n : Nat} {ks : List Lb} (hG : Gd f n) (hp : ks.Perm (sel f n)) (hs : ks.Pairwise fun x y => Op.bytesLess y.1.toList x.1.toList = false) : Ls ks := by
  refine ⟨fun x hx => ?_, ?_⟩
  · obtain ⟨j, hj, e, hne⟩ := sel_mem f n x (hp.mem_iff.1 hx)
    have := hG j hj
    rw [← e] at this
    exact ⟨this.1, hne, this.2.1⟩
  · have hd : ks.Pairwise fun x y => x.1 ≠ y.1 := (hp.pairwise_iff (fun h => fun e => h e.symm)).2 (sel_ne f n hG)
    refine (hs.and hd).imp ?_
    rintro x y ⟨h1, h2⟩
    have a := od_od.anti x.1 y.1
    rcases od_cases x.1 y.1 with ⟨_, h, _⟩ | ⟨_, _, h⟩ | ⟨h, _, _⟩
    · exact h
    · exact absurd ((teq _ _).1 h) h2
    · rcases od_cases y.1 x.1 with ⟨_, g, _⟩ | ⟨g, _, _⟩ | ⟨g, _, _⟩
      · rw [g] at h1; cases h1
      · omega
      · omega
theorem ls_mem {f : Nat → Lb} {n : Nat} {ks : List Lb} (hp : ks.Perm (sel f n)) {x : Lb} (hx : x ∈ ks) : ∃ j, j < n ∧ x = f j := by
  obtain ⟨j, hj, e, _⟩ := sel_mem f n x (hp.mem_iff.1 hx)
  exact ⟨j, hj, e⟩
theorem ls_len {f : Nat → Lb} {n : Nat} {ks : List Lb} (hp : ks.Perm (sel f n)) : ks.length ≤ n := by
  rw [hp.length_eq]
  exact sel_len f n
theorem gL_at (ks : List Lb) (j : Nat) (h : j < ks.length) : K.gL ks j = ks[j] := by
  unfold K.gL
  simp [h]
theorem gL_mem (ks : List Lb) (j : Nat) (h : j < ks.length) : K.gL ks j ∈ ks := by
  rw [gL_at ks j h]
  exact List.getElem_mem h
theorem va_all (f : Nat → Lb) : ∀ k i, (∀ j, i ≤ j → j < i + k → okL f j = true) → vaF f k i = true
  | 0, _, _ => rfl
  | k + 1, i, h => by
    unfold vaF
    rw [h i (by omega) (by omega), va_all f k (i + 1) (fun j h1 h2 => h j (by omega) (by omega))]
    rfl
theorem Ls.valid {ks : List Lb} (h : Ls ks) : vaF (K.gL ks) ks.length 0 = true := by
  refine va_all _ _ _ fun j _ hj => ?_
  have hj : j < ks.length := by omega
  have hx := h.1 _ (gL_mem ks j hj)
  have h2 : (K.gL ks j).2.toList.isEmpty = false := by
    rw [← Bool.not_eq_true, tempty]
    exact hx.2.1
  unfold okL
  rw [hx.1, h2, hx.2.2]
  by_cases h0 : j = 0
  · simp [h0]
  · have := (List.pairwise_iff_getElem.1 h.2) (j - 1) j (by omega) hj (by omega)
    rw [gL_at ks j hj, gL_at ks (j - 1) (by omega), this]
    simp
/-- Get over a row of one's own. -/
theorem get_row (W : World) (S c : Nat) (a : Option Addr) (ks : List Lb) (k : ByteArray) (o : W.ownsRow S 26 2 (.slice a ks.length c) ks.length (lcL ks)) (hn : ks.length ≤ 140737488355328) (hs : ∀ x ∈ ks, x.2.size ≤ 140737488355328) :
    Calls Tryd.prog 12 #[.slice a ks.length c, .string k] W fun e w' => e = .returned (.string (gvL k ks)) ∧ Below W.heap.size W w' := by
  have h := get_any a (K.gL ks) ks.length c k W (K.row_lm o) hn (fun j hj => hs _ (gL_mem ks j hj))
  rw [gvF_gL] at h
  exact h
theorem valid_row (W : World) (S c : Nat) (a : Option Addr) (ks : List Lb) (o : W.ownsRow S 26 2 (.slice a ks.length c) ks.length (lcL ks)) (hn : ks.length ≤ 140737488355328) (hs : ∀ x ∈ ks, x.1.size ≤ 140737488355328 ∧ x.2.size ≤ 140737488355328) (h : Ls ks) (hT : Lib.Utf8Tabs 1 2 W) :
    Calls Tryd.prog 14 #[.slice a ks.length c] W fun e w' => e = .returned (.bool true) ∧ Below W.heap.size W w' := by
  have k := validL_any a (K.gL ks) ks.length c W (K.row_lm o) hn (fun j hj => hs _ (gL_mem ks j hj)) hT
  rw [h.valid] at k
  exact k
end Go.Proofs.YtjmninjaoemhjaaDoor
/- The reference's Make: mathematics. -/
namespace Go.Proofs.YtjmninjaoemhjaaDoor
open Go.RowKit Go.Lib

theorem rwF_fold (f : Nat → Lb) (nm vl : ByteArray) : ∀ n, K.rwF f nm vl n = (K.ll f n).foldl (K.rwS nm vl) ([], vl.toList.isEmpty)
  | 0 => rfl
  | n + 1 => by
    rw [K.ll_succ, List.foldl_append, ← rwF_fold f nm vl n]
    rfl
theorem fold_put (nm vl : ByteArray) : ∀ (l acc : List Lb), (∀ x ∈ l, x.1 ≠ nm) → l.foldl (K.rwS nm vl) (acc, true) = (acc ++ l, true)
  | [], acc, _ => by simp
  | x :: l, acc, h => by
    rw [List.foldl_cons]
    have e : K.rwS nm vl (acc, true) x = (acc ++ [x], true) := by
      unfold K.rwS
      rw [if_neg (by rw [teq]; exact h x (by simp)), if_neg (by simp)]
    rw [e, fold_put nm vl l (acc ++ [x]) fun y hy => h y (List.mem_cons_of_mem _ hy)]
    simp
theorem fold_new (nm vl : ByteArray) : ∀ (l acc : List Lb), (∀ x ∈ l, x.1 ≠ nm) → (if (l.foldl (K.rwS nm vl) (acc, false)).2 then (l.foldl (K.rwS nm vl) (acc, false)).1 else (l.foldl (K.rwS nm vl) (acc, false)).1 ++ [(nm, vl)]) = acc ++ (l.takeWhile fun x => !K.gtB x.1 nm) ++ (nm, vl) :: (l.dropWhile fun x => !K.gtB x.1 nm)
  | [], acc, _ => by simp
  | x :: l, acc, h => by
    have h2 : ∀ y ∈ l, y.1 ≠ nm := fun y hy => h y (List.mem_cons_of_mem _ hy)
    rw [List.foldl_cons]
    cases hg : K.gtB x.1 nm
    · have e : K.rwS nm vl (acc, false) x = (acc ++ [x], false) := by
        unfold K.rwS
        rw [if_neg (by rw [teq]; exact h x (by simp)), if_neg (by simp [hg])]
      rw [e, fold_new nm vl l (acc ++ [x]) h2, List.takeWhile_cons, List.dropWhile_cons]
      simp [hg]
    · have e : K.rwS nm vl (acc, false) x = (acc ++ [(nm, vl)] ++ [x], true) := by
        unfold K.rwS
        rw [if_neg (by rw [teq]; exact h x (by simp)), if_pos (by simp [hg])]
      rw [e, fold_put nm vl l _ h2, List.takeWhile_cons, List.dropWhile_cons]
      simp [hg]
theorem rwL_new (ks : List Lb) (nm vl : ByteArray) (h : ∀ x ∈ ks, x.1 ≠ nm) : K.rwL (K.gL ks) nm vl ks.length = if vl.toList.isEmpty then ks else (ks.takeWhile fun x => !K.gtB x.1 nm) ++ (nm, vl) :: (ks.dropWhile fun x => !K.gtB x.1 nm) := by
  unfold K.rwL
  rw [rwF_fold, K.ll_gL]
  cases vl.toList.isEmpty
  · have := fold_new nm vl ks [] h
    simpa using this
  · rw [fold_put nm vl ks [] h]
    simp
theorem bl_lt : ∀ x y : List UInt8, Op.bytesLess x y = true ↔ x < y
  | [], [] => by simp [Op.bytesLess]
  | _ :: _, [] => by simp [Op.bytesLess]
  | [], _ :: _ => by simp [Op.bytesLess]
  | a :: x, b :: y => by
    have ih := bl_lt x y
    rw [Op.bytesLess, List.cons_lt_cons_iff]
    by_cases h1 : a < b
    · simp [h1]
    · by_cases h2 : a = b
      · simp [h2, ih]
      · simp [h1, h2]
theorem bl_trans {a b c : ByteArray} (h1 : Op.bytesLess a.toList b.toList = true) (h2 : Op.bytesLess b.toList c.toList = true) : Op.bytesLess a.toList c.toList = true := by
  rw [bl_lt] at h1 h2 ⊢
  exact List.lt_trans h1 h2
theorem gt_less {a b : ByteArray} (h : K.gtB a b = true) : Op.bytesLess b.toList a.toList = true := by
  unfold K.gtB at h
  rcases od_cases b a with ⟨_, h1, _⟩ | ⟨_, _, h3⟩ | ⟨h0, h2, h3⟩
  · exact h1
  · rw [(teq _ _).1 h3, (teq a a).2 rfl] at h
    simp at h
  · rcases od_cases a b with ⟨_, q, _⟩ | ⟨_, _, q⟩ | ⟨q0, q, q1⟩
    · rw [q] at h; simp at h
    · rw [q] at h; simp at h
    · rw [← Bool.not_eq_true, bl_lt] at q h2
      exact absurd (List.le_antisymm (List.not_lt.1 h2) (List.not_lt.1 q)) (by
        intro e
        rw [e] at q1
        simp at q1)
theorem ngt_less {a b : ByteArray} (h : K.gtB a b = false) (hn : a ≠ b) : Op.bytesLess a.toList b.toList = true := by
  unfold K.gtB at h
  rw [(tne _ _).2 hn] at h
  simpa using h
theorem ls_ins {ks : List Lb} (h : Ls ks) (nm vl : ByteArray) (hn : ∀ x ∈ ks, x.1 ≠ nm) (h1 : lbN nm = true) (h2 : vl ≠ ⟨#[]⟩) (h3 : vld vl vl.size 0 = true) : Ls ((ks.takeWhile fun x => !K.gtB x.1 nm) ++ (nm, vl) :: (ks.dropWhile fun x => !K.gtB x.1 nm)) ∧ ((ks.takeWhile fun x => !K.gtB x.1 nm) ++ (nm, vl) :: (ks.dropWhile fun x => !K.gtB x.1 nm)).Perm (ks ++ [(nm, vl)]) := by
  have e : (ks.takeWhile fun x => !K.gtB x.1 nm) ++ (ks.dropWhile fun x => !K.gtB x.1 nm) = ks := List.takeWhile_append_dropWhile
  have hT : ∀ x ∈ ks.takeWhile fun x => !K.gtB x.1 nm, K.gtB x.1 nm = false := fun x hx => by
    have := List.all_takeWhile (p := fun x : Lb => !K.gtB x.1 nm) (l := ks)
    rw [List.all_eq_true] at this
    simpa using this x hx
  have hd : ∀ y l, (ks.dropWhile fun x => !K.gtB x.1 nm) = y :: l → K.gtB y.1 nm = true := fun y l he => by
    have := List.head_dropWhile_not (fun x : Lb => !K.gtB x.1 nm) (l := ks) (by rw [he]; simp)
    simp only [he, List.head_cons] at this
    simpa using this
  generalize (ks.takeWhile fun x => !K.gtB x.1 nm) = T at *
  generalize (ks.dropWhile fun x => !K.gtB x.1 nm) = D at *
  subst e
  have hp : (T ++ (nm, vl) :: D).Perm (T ++ D ++ [(nm, vl)]) := List.perm_middle.trans (List.perm_append_comm (l₁ := [(nm, vl)]) (l₂ := T ++ D))
  have hs := List.pairwise_append.1 h.2
  have hTn : ∀ x ∈ T, Op.bytesLess x.1.toList nm.toList = true := fun x hx => ngt_less (hT x hx) (hn x (List.mem_append_left _ hx))
  have hDn : ∀ x ∈ D, Op.bytesLess nm.toList x.1.toList = true := fun x hx => by
    rcases D with _ | ⟨y, l⟩
    · simp at hx
    · have hy := gt_less (hd y l rfl)
      rcases List.mem_cons.1 hx with rfl | hx
      · exact hy
      · exact bl_trans hy ((List.pairwise_cons.1 hs.2.1).1 x hx)
  refine ⟨⟨fun x hx => ?_, ?_⟩, hp⟩
  · rcases List.mem_append.1 (hp.subset hx) with hx | hx
    · exact h.1 x hx
    · obtain rfl := List.mem_singleton.1 hx
      exact ⟨h1, h2, h3⟩
  · refine List.pairwise_append.2 ⟨hs.1, List.pairwise_cons.2 ⟨hDn, hs.2.1⟩, fun x hx y hy => ?_⟩
    rcases List.mem_cons.1 hy with rfl | hy
    · exact hTn x hx
    · exact hs.2.2 x hx y hy
/-- What the reference's Make has gathered of the first pairs. -/
def rmL (f : Nat → Lb) : Nat → List Lb
  | 0 => []
  | n + 1 => K.rwL (K.gL (rmL f n)) (f n).1 (f n).2 (rmL f n).length
theorem rmL_ok (f : Nat → Lb) : ∀ n, Gd f n → Ls (rmL f n) ∧ (rmL f n).Perm (sel f n)
  | 0, _ => ⟨⟨by simp [rmL], List.Pairwise.nil⟩, List.Perm.refl _⟩
  | n + 1, h => by
    obtain ⟨hl, hp⟩ := rmL_ok f n fun j hj => h j (by omega)
    obtain ⟨h1, h2, h3⟩ := h n (by omega)
    have hn : ∀ x ∈ rmL f n, x.1 ≠ (f n).1 := fun x hx e => by
      obtain ⟨j, hj, rfl, _⟩ := sel_mem f n x (hp.subset hx)
      have := h3 j hj
      rw [← e, (beq_ba _ _).2 rfl] at this
      cases this
    unfold rmL sel
    rw [rwL_new _ _ _ hn]
    by_cases he : (f n).2.toList.isEmpty = true
    · rw [if_pos he, if_pos he, List.append_nil]
      exact ⟨hl, hp⟩
    · rw [if_neg he, if_neg he]
      obtain ⟨a, b⟩ := ls_ins hl (f n).1 (f n).2 hn h1 (fun e => he ((tempty _).2 e)) h2
      exact ⟨a, b.trans (hp.append_right _)⟩
theorem ls_uniq {a b : List Lb} (ha : Ls a) (hb : Ls b) (h : a.Perm b) : a = b := by
  refine List.Perm.eq_of_pairwise (le := fun x y : Lb => Op.bytesLess x.1.toList y.1.toList = true) (fun x y _ _ h1 h2 => ?_) ha.2 hb.2 h
  exact absurd rfl (bl_ne (bl_trans h1 h2))
theorem rmL_len (f : Nat → Lb) (n : Nat) (h : Gd f n) : (rmL f n).length ≤ n := by
  rw [(rmL_ok f n h).2.length_eq]
  exact sel_len f n
end Go.Proofs.YtjmninjaoemhjaaDoor
