/- Labels: Make of any pairs, the walk. -/
import Derived.Test.YtjmninjaoemhjaaDoorEy
namespace Go.Proofs.YtjmninjaoemhjaaDoor
open Go.RowKit Go.Lib

theorem lcL_app (a : List Lb) (x : Lb) : lcL (a ++ [x]) = lcL a ++ l2 x := by simp [lcL]
theorem row_sl {w : World} {S e s n : Nat} {v : Value} {xs : List Value} (o : w.ownsRow S e s v n xs) : ∃ a c, v = .slice a n c := by
  rcases o.2 with ⟨e, e2⟩ | ⟨g, c, cur, e, _⟩
  · exact ⟨none, 0, by rw [e, e2]⟩
  · exact ⟨_, c, e⟩
set_option maxHeartbeats 8000000 in
set_option maxRecDepth 100000 in
theorem make_gen (hSC : SortC) (a : Option Addr) (f : Nat → Lb) (n c : Nat) (w : World) (hL : Lm w a f n) (hn : n ≤ 1099511627776) (hs : ∀ j, j < n → (f j).1.size ≤ 140737488355328 ∧ (f j).2.size ≤ 140737488355328) (hT : Lib.Utf8Tabs 1 2 w) :
    Calls Tryd.prog 10 #[.slice a n c] w (MkR f n w) := by
  have HC : Hid SortC := hSC
  have HL : Hid (Lm w a f n) := hL
  have HSz : Hid (∀ j, j < n → (f j).1.size ≤ 140737488355328 ∧ (f j).2.size ≤ 140737488355328) := hs
  have HT : Hid (Lib.Utf8Tabs 1 2 w) := hT
  have H2 : Hid (2 < w.heap.size) := tabs_size hT
  have hni : (n : Int) ≤ 1099511627776 := by omega
  have hmm := mk_run (n : Int)
  have HS0 : Hid (Sx w (w.alloc (.map #[] 0)) (esN f 0) 0 (.slice none 0 0) 0 (lcL (sel f 0))) := ⟨heap_alloc_new w _, World.ownsRow_nil _ _ _ _, (Below.refl _ w).alloc (Nat.le_refl _) _⟩
  have HG0 : Hid (Gd f 0) := (show Gd f 0 from fun j hj => absurd hj (by omega))
  have HM0 : Hid (0 = (sel f 0).length) := rfl
  clear hSC hL hs hT
  go_enter Tryd.func10, Tryd.ntmps10
  go_wp2_with fail
  clear hmm
  go_loopw [5, 15] (fun v t w' => ∃ (i m : Nat) (b : Option Addr) (d : Nat), t = .int .i64 (i : Nat) ∧ v = .slice b m d ∧ i ≤ n ∧ m ≤ i ∧ Hid (m = (sel f i).length) ∧ Hid (Gd f i) ∧ Hid (Sx w w' (esN f i) i (.slice b m d) m (lcL (sel f i)))) (fun _ t _ => n - (RowKit.intOf t).toNat)
  case atStart => exact ⟨0, 0, none, 0, rfl, rfl, by omega, by omega, HM0, HG0, HS0⟩
  case round =>
    obtain ⟨i, m, b, d, rfl, rfl, hi, hmi, HM, HG, HS⟩ := hrel
    by_cases hlt : i < n
    · have hii : (i : Int) < (n : Int) := by omega
      obtain ⟨g, o, rfl, hg, p0, p1⟩ := HL.out.at i hlt
      have q0 := bcell2 HS.out.2.2 p0
      have q1 := bcell2 HS.out.2.2 p1
      have hsn := seen f i (f i).1
      obtain ⟨s1, s2⟩ := HSz.out i hlt
      have k27 : Hid (∀ W, Calls Tryd.prog 27 #[.string (f i).1] W fun e w' => e = .returned (.bool (lbN (f i).1)) ∧ w' = W) := fun W => isLabel_any (f i).1 W s1
      have k28 : Hid (∀ W, Below w.heap.size w W → Calls Tryd.prog 28 #[.string (f i).2] W fun e w' => e = .returned (.bool (vld (f i).2 (f i).2.size 0)) ∧ Below W.heap.size W w') := (show ∀ W, _ → _ from fun W bb => valid_any (f i).2 W (by unfold maxLen; omega) (tabs_below HT.out H2.out bb))
      have k29 : Hid (∀ W, Calls Tryd.prog 29 #[lbV (f i)] W fun e w' => e = .returned (lbV (f i)) ∧ Below W.heap.size W w') := fun W => copied_any (f i) W s1 s2
      have HGN : Hid (lbN (f i).1 = true → vld (f i).2 (f i).2.size 0 = true → (∀ j, j < i → ((f i).1 == (f j).1) = false) → Gd f (i + 1)) := (show _ → _ from fun h1 h2 h3 j hj => by
        rcases Nat.lt_or_ge j i with h | h
        · exact HG.out j h
        · obtain rfl : j = i := by omega
          exact ⟨h1, h2, h3⟩)
      have HE1 : Hid (esN f (i + 1) = (esN f i).push (mE (f i).1 i)) := (show _ = _ from rfl)
      have HX : Hid (sel f (i + 1) = sel f i ++ (if (f i).2.toList.isEmpty then [] else [f i])) := (show _ = _ from rfl)
      obtain ⟨x, hx⟩ : ∃ x, f i = x := ⟨_, rfl⟩
      rw [hx] at q0 q1 hsn k27 k28 k29 HGN HE1 HX
      clear hx p0 p1 s1 s2
      obtain ⟨x1, x2⟩ := x
      dsimp only at q0 q1 hsn k27 k28 k29 HGN HE1 HX
      have S1 := HS.out.below ((Below.refl _ wr).alloc (Nat.le_refl _) (lbX (x1, x2)))
      have HB1 : Hid (Below w.heap.size w ((wr.alloc (lbX (x1, x2))).alloc (.cells #[] 62))) := (show Below _ _ _ from (S1.below ((Below.refl _ _).alloc (Nat.le_refl _) (.cells #[] 62))).2.2)
      rcases hsn with ⟨hno, hne⟩ | ⟨j, hyes⟩
      · have hlk := look_run S1.1 hno
        obtain ⟨A, hA⟩ : ∃ A, lbN x1 = A := ⟨_, rfl⟩
        have HA : Hid (lbN x1 = A) := hA
        rw [hA] at k27
        clear hA
        cases A
        · clear S1
          go_wp2_with fail
          go_fit (k27.out _)
          rintro e w2 ⟨rfl, rfl⟩
          go_wp2
          go_ret2
          exact ⟨_, _, rfl, HB1.out, .inl ⟨by decide, rfl⟩⟩
        · obtain ⟨V, hV⟩ : ∃ V, vld x2 x2.size 0 = V := ⟨_, rfl⟩
          have HVV : Hid (vld x2 x2.size 0 = V) := hV
          rw [hV] at k28
          clear hV
          have S2 := S1.below ((Below.refl _ (wr.alloc (lbX (x1, x2)))).alloc (Nat.le_refl _) (.cells #[] 62))
          have e1 : (wr.alloc (lbX (x1, x2))).heap[wr.heap.size]? = some (lbX (x1, x2)) := heap_alloc_new wr _
          have HBX : Hid (∀ w', Below ((wr.alloc (lbX (x1, x2))).alloc (.cells #[] 62)).heap.size ((wr.alloc (lbX (x1, x2))).alloc (.cells #[] 62)) w' → w'.cell? ⟨wr.heap.size, 0, none⟩ = some (.string x1) ∧ w'.cell? ⟨wr.heap.size, 1, none⟩ = some (.string x2)) := fun w' b => by
            have b2 : Below (wr.alloc (lbX (x1, x2))).heap.size (wr.alloc (lbX (x1, x2))) ((wr.alloc (lbX (x1, x2))).alloc (.cells #[] 62)) := (Below.refl _ _).alloc (Nat.le_refl _) _
            have b3 := b2.trans (b.mono b2.size)
            exact ⟨bcell2 b3 (by unfold World.cell?; rw [e1]; rfl), bcell2 b3 (by unfold World.cell?; rw [e1]; rfl)⟩
          have HMl : Hid (w.heap.size < wr.heap.size) := HS.out.lt
          have HNO : Hid (Instr.findNow .string (.string x1) (esN f i).toList 0 = some none ∧ ∀ j, j < i → (x1 == (f j).1) = false) := ⟨hno, hne⟩
          have HS2 : Hid (Sx w ((wr.alloc (lbX (x1, x2))).alloc (.cells #[] 62)) (esN f i) i (.slice b m d) m (lcL (sel f i))) := S2
          clear S1 S2 e1 hno hne
          go_wp2_with fail
          go_fit (k27.out _)
          rintro e w2 ⟨rfl, rfl⟩
          clear hlk q0 q1
          go_wp2_with fail
          go_fit (k28.out _ HB1.out)
          rintro e w3 ⟨rfl, b3⟩
          cases V
          · have HB3 : Hid (Below w.heap.size w w3) := HB1.out.trans (b3.mono HB1.out.size)
            clear b3
            go_wp2
            go_ret2
            exact ⟨_, _, rfl, HB3.out, .inl ⟨by decide, rfl⟩⟩
          · have S3 := HS2.out.below b3
            obtain ⟨c0, c1⟩ := HBX.out w3 b3
            have hup := upd_run S3.1 HNO.out.1
            rw [← HE1.out] at hup
            have S4 := S3.upd (esN f (i + 1)) (i + 1)
            have kp4 := upM_kp w3 w.heap.size (.map (esN f (i + 1)) (i + 1))
            have hne4 : ¬ wr.heap.size = w.heap.size := by have := HMl.out; omega
            have d0 : (upM w3 w.heap.size (.map (esN f (i + 1)) (i + 1))).cell? ⟨wr.heap.size, 0, none⟩ = some (.string x1) := by
              rw [World.cell?_of_block (w := w3) (kp4.block wr.heap.size (World.block_lt_of_cell? w3 _ c0) hne4)]; exact c0
            have d1 : (upM w3 w.heap.size (.map (esN f (i + 1)) (i + 1))).cell? ⟨wr.heap.size, 1, none⟩ = some (.string x2) := by
              rw [World.cell?_of_block (w := w3) (kp4.block wr.heap.size (World.block_lt_of_cell? w3 _ c0) hne4)]; exact c1
            have HS4 : Hid (Sx w (upM w3 w.heap.size (.map (esN f (i + 1)) (i + 1))) (esN f (i + 1)) (i + 1) (.slice b m d) m (lcL (sel f i))) := S4
            have HG1 : Hid (Gd f (i + 1)) := HGN.out HA.out HVV.out HNO.out.2
            clear S3 S4 b3 HBX kp4 hne4
            generalize upM w3 w.heap.size (.map (esN f (i + 1)) (i + 1)) = W4 at *
            by_cases hem : x2.toList = []
            · have HX2 : Hid (sel f (i + 1) = sel f i) := (show _ = _ from HX.out.trans (by rw [hem]; simp))
              have HM2 : Hid (m = (sel f (i + 1)).length) := (show _ = _ by rw [HX2.out]; exact HM.out)
              have HS5 : Hid (Sx w W4 (esN f (i + 1)) (i + 1) (.slice b m d) m (lcL (sel f (i + 1)))) := (show Sx _ _ _ _ _ _ _ by rw [HX2.out]; exact HS4.out)
              clear HS4 HS
              go_wp2
              exact ⟨⟨i + 1, m, b, d, by go_num, rfl, by omega, by omega, HM2, HG1, HS5⟩, by simp [RowKit.intOf]; omega⟩
            · have hie : x2.toList.isEmpty = false := by cases h : x2.toList <;> simp_all
              have HX2 : Hid (sel f (i + 1) = sel f i ++ [(x1, x2)]) := (show _ = _ from HX.out.trans (by rw [hie]; rfl))
              go_wp2_with fail
              go_fit (k29.out _)
              rintro e w5 ⟨rfl, b5⟩
              have S5 := HS4.out.below b5
              obtain ⟨G, cc, w6, r, o6, kp6⟩ := ap_lb w5 (w.heap.size + 1) (.slice b m d) m (lcL (sel f i)) (x1, x2) (by have := S5.lt; omega) (by omega) S5.2.1
              have HS6 : Hid (Sx w w6 (esN f (i + 1)) (i + 1) (.slice (some ⟨G, 0, none⟩) (m + 1) cc) (m + 1) (lcL (sel f (i + 1)))) := by
                have hbd := own_bd S5.2.1
                refine ⟨(kp6.block _ S5.lt (fun e => by have := (hbd _ e).1; omega)).trans S5.1, ?_, S5.2.2.trans (kp6.below S5.2.2.size (fun k hk e => by have := (hbd k e).1; omega))⟩
                rw [HX2.out, lcL_app]
                exact o6
              have HM2 : Hid (m + 1 = (sel f (i + 1)).length) := (show _ = _ by rw [HX2.out, List.length_append, ← HM.out]; rfl)
              clear b5 S5 o6 kp6 c0 c1 d0 d1 HS4 HS hup
              go_wp2_with (at_builtin; refine wpList_append_run rfl (.tmp 44) (.tmp 47) 22 22 rfl _ _ rfl rfl r ?_)
              exact ⟨⟨i + 1, m + 1, _, _, by go_num, rfl, by omega, by omega, HM2, HG1, HS6⟩, by simp [RowKit.intOf]; omega⟩
      · have hlk := look_yes S1.1 hyes
        clear S1 hyes
        go_wp2
        go_ret2
        exact ⟨_, _, rfl, HB1.out, .inl ⟨by decide, rfl⟩⟩
    · have hii : ¬ (i : Int) < (n : Int) := by omega
      obtain rfl : n = i := by omega
      obtain ⟨sm, so, sb⟩ := HS.out
      have so2 := so
      rw [HM.out] at so2
      have ks := HC.out wr (w.heap.size + 1) (.slice b m d) (sel f n) (by rw [← HM.out]; omega) (by rw [HM.out]; exact so2)
      have HBk : Hid (∀ w', Kp (fun k => (Value.slice b m d).ownBlock = some k) wr w' → Below w.heap.size w w') := (show ∀ w', _ → _ from fun w' k => sb.trans (k.below sb.size (fun i hi e => by have := (own_bd so i e).1; omega)))
      clear sm so so2 sb HS
      go_wp2_with fail
      go_fit ks
      rintro e w7 ⟨rfl, ks', hp, hs2, o7, k7⟩
      have HR : Hid (Below w.heap.size w w7 ∧ ∃ ks : List Lb, ks.Perm (sel f n) ∧ ks.Pairwise (fun x y => Op.bytesLess y.1.toList x.1.toList = false) ∧ w7.ownsRow (w.heap.size + 1) 26 2 (.slice b m d) ks.length (lcL ks)) := ⟨HBk.out w7 k7, ks', hp, hs2, o7⟩
      clear ks hp hs2 o7 k7 HBk
      go_wp2
      go_ret2
      exact ⟨_, _, rfl, HR.out.1, .inr ⟨rfl, HG.out, HR.out.2⟩⟩
end Go.Proofs.YtjmninjaoemhjaaDoor
