/- A bundle of texts. -/
import Derived.Test.YtebjklppbkkinaaGreatDoorBp30
import Derived.Deep.RegionLaw
import Derived.Lib.QuietBelow
import Derived.BigQuiet
/- Pair: the reference's Mixed, walked. -/
namespace Go.Proofs.YtebjklppbkkinaaGreatDoor
open Go.RowKit Go.Lib Go.Shelf Go.Sort

attribute [local go_sem] Oper.semAt_some run_store_float

/-- An element of the argument. -/
def Hq (w : World) (e : El) : Prop := Lm w e.a e.f e.n ∧ e.n ≤ 1048576 ∧ e.x < 18446744073709551616 ∧ ∀ t, t < e.n → (e.f t).1.size ≤ 1048576 ∧ (e.f t).2.size ≤ 1048576
theorem Hq.eo {w : World} {e : El} (h : Hq w e) : Eo w e := ⟨h.1, by have := h.2.1; omega, fun j hj => by have := h.2.2.2 j hj; omega⟩
theorem Hq.below {w w' : World} {e : El} (h : Hq w e) (b : Below w.heap.size w w') : Hq w' e := ⟨h.1.below b, h.2⟩
theorem row_none {W : World} {S n c : Nat} {a : Option Addr} {xs : List Value} (h : W.ownsRow S 31 2 (.slice a n c) n xs) : (a = none → n = 0 ∧ c = 0) ∧ n ≤ c ∧ c ≤ 9223372036854775807 := by
  rcases h.2 with ⟨e, h0⟩ | ⟨g, cap, cur, e, _, _, h1, h2, _⟩
  · cases e
    exact ⟨fun _ => ⟨rfl, rfl⟩, Nat.le_refl _, by omega⟩
  · cases e
    unfold maxLen at h2
    exact ⟨fun h => (by cases h), h1, h2⟩
/-- The end of the reference's Mixed and Negate. -/
theorem rend_any {wB wr w : World} {l : List Kc} {i : Nat} {qo : Nat → El} {ov : Value} (h : RI wB l i qo ov wr) (hi : i ≤ 1099511627776) (hb : Below w.heap.size w wr) :
    Calls Tryz.prog 34 #[ov] wr fun e w9 => ∃ a' c' N' r' E', e = .returned (.tuple #[.slice a' N' c', .int .i64 E']) ∧ Below w.heap.size w w9 ∧ Em w9 a' r' N' ∧ N' ≤ 1099511627776 ∧ (∀ m, m < N' → Lm w9 (r' m).a (r' m).f (r' m).n ∧ (r' m).n ≤ 4294967296) ∧ DV l E' ((elL r' N').map kc) := by
  obtain ⟨a, c, rfl, _⟩ := K.row_sl h.row
  obtain ⟨h1, h2, h3⟩ := row_none h.row
  refine (done_any a i c qo wr (elM_row h.row) h1 h2 h3 hi (fun j hj => (h.lab j hj).1) (fun j hj => (h.lab j hj).2.1)).mono fun e w9 hd => ?_
  obtain ⟨a', c', N', r', E', rfl, b, hm, hN, hmem, hD⟩ := hd
  rw [h.kcs] at hD
  exact ⟨a', c', N', r', E', rfl, hb.trans (b.mono hb.size), hm, by omega, fun m hm' => by
    obtain ⟨k, hk, e⟩ := hmem m hm'
    rw [← e]
    exact ⟨(h.lab k hk).1.1.below b, (h.lab k hk).1.2.1⟩, hD⟩
set_option maxRecDepth 100000 in
set_option maxHeartbeats 16000000 in
theorem rmixed_any (s : ByteArray) (k : Nat) (hk : k < 16) (hop : F.OpK s k) (V : Nat → Nat → Option Nat) (hV : k < 6 → ∀ x y, x < 18446744073709551616 → y < 18446744073709551616 → F.BothV 50 60 s x y (V x y)) (X : Nat) (hX : X < 18446744073709551616) (left yes : Bool)
    (a : Option Addr) (n c : Nat) (q : Nat → El) (w : World) (hE : Em w a q n) (hz : a = none → n = 0 ∧ c = 0) (hnc : n ≤ c) (hcm : c ≤ 9223372036854775807) (hn : n ≤ 1048576) (hq : ∀ j, j < n → Hq w (q j)) :
    Calls Tryz.prog 13 #[.string s, .slice a n c, .float .f64 X, .bool left, .bool yes] w (AN (MX ((elL q n).map core) (decide (k < 12)) (outC V k yes left X)) w) := by
  have kv := rvector_any a n c q w hE hz hnc hcm (by omega) (fun j hj => (hq j hj).eo)
  have HQ : Hid (∀ j, j < n → Hq w (q j)) := hq
  have HOP : Hid (F.OpK s k) := hop
  have HV : Hid (k < 6 → ∀ x y, x < 18446744073709551616 → y < 18446744073709551616 → F.BothV 50 60 s x y (V x y)) := hV
  have HXB : Hid (X < 18446744073709551616) := hX
  have HK16 : Hid (k < 16) := hk
  clear hop hV hX hq hk hE hz hnc hcm
  go_enter Tryz.func13, Tryz.ntmps13
  go_wp2_with fail
  go_fit kv
  rintro e w1 hR
  obtain ⟨E, N, aR, cR, r, rfl, b1, oR, hNn, hmem, hCV⟩ := RVR.wa hR
  have HB1 : Hid (Below w.heap.size w w1) := b1
  have HCV : Hid (CV ((elL q n).map core) E ((elL r N).map core)) := hCV
  have HRQ : Hid (∀ W, Below w.heap.size w W → ∀ j, j < N → Hq W (r j)) := (show ∀ W, _ → ∀ j, _ → _ from fun W b j hj => by
    obtain ⟨i, hi, e⟩ := hmem j hj
    rw [← e]
    exact (HQ.out i hi).below b)
  have HEM : Hid (∀ W, Below w1.heap.size w1 W → Em W aR r N) := (show ∀ W, _ → _ from fun W b => elM_row (kept_row oR b))
  clear kv hR b1 oR hmem
  rcases hCV with ⟨rfl, hnil, hbad⟩ | ⟨rfl, hok, hp, hs⟩
  · have HBAD : Hid (CV ((elL q n).map core) 5 []) := .inl ⟨rfl, rfl, hbad⟩
    clear hnil hbad
    go_wp2
    go_ret2
    exact ⟨none, 0, 0, r, 5, rfl, HB1.out, .inl rfl, by omega, fun j hj => absurd hj (by omega), .inl ⟨HBAD.out, rfl, rfl⟩⟩
  · have HLS : Hid (∀ j, j < N → Ls (K.ll (r j).f (r j).n)) := (show ∀ j, _ → _ from fun j hj => by
      have h1 : core (r j) ∈ (elL q n).map core := hp.subset (List.mem_map.2 ⟨r j, List.mem_of_getElem? (elL_get r N j hj), rfl⟩)
      have h2 := hok _ h1
      rw [← okE_core] at h2
      exact ls_of_va _ _ h2)
    have kK := F.rkind_k s k HK16.out HOP.out w1
    clear hok hp hs
    go_wp2_with fail
    go_fit kK
    rintro e w2 ⟨rfl, rfl⟩
    obtain ⟨tk, htk⟩ : ∃ t, decide (k < 12) = t := ⟨_, rfl⟩
    have HTK : Hid (decide (k < 12) = tk) := htk
    have hcase : (tk = false ∧ (F.knN k = 3 ∨ F.knN k = 0)) ∨ (tk = true ∧ (F.knN k = 1 ∨ F.knN k = 2)) := by
      rw [← htk]
      rcases F.knN_vals k with ⟨h, e⟩ | ⟨h0, h, e⟩ | ⟨h0, h, e⟩ | ⟨h0, e⟩
      · exact .inr ⟨decide_eq_true (by omega), .inl e⟩
      · exact .inr ⟨decide_eq_true (by omega), .inr e⟩
      · exact .inl ⟨decide_eq_false (by omega), .inl e⟩
      · exact .inl ⟨decide_eq_false (by omega), .inr e⟩
    rw [htk]
    clear htk kK
    rcases hcase with ⟨rfl, hkn⟩ | ⟨rfl, hkn⟩
    · have HBE : Hid (Below w.heap.size w w2) := HB1
      rcases hkn with hkn | hkn
      all_goals
        rw [hkn]
        clear hkn
        go_wp2
        go_ret2
        exact ⟨none, 0, 0, r, 7, rfl, HBE.out, .inl rfl, by omega, fun j hj => absurd hj (by omega), .inr (.inl ⟨⟨_, HCV.out⟩, HTK.out, rfl, rfl⟩)⟩
    · have HK12 : Hid (k < 12) := (show k < 12 from of_decide_eq_true HTK.out)
      have HM0 : Hid (RI w2 [] 0 (fun _ => zE) (.slice none 0 0) w2) := (show RI _ _ _ _ _ _ from ⟨World.ownsRow_nil _ _ _ _, fun m hm => absurd hm (by omega), rfl, Below.refl _ _⟩)
      have hNi : (N : Int) ≤ 1048576 := by omega
      have hNb : N ≤ 1048576 := by omega
      rcases hkn with hkn | hkn
      all_goals
        rw [hkn]
        clear hkn
        go_wp2_with fail
        go_loopw [14, 15] (fun ov t W => ∃ (j i : Nat) (qo : Nat → El), t = .int .i64 (j : Int) ∧ j ≤ N ∧ i ≤ j ∧ Hid (RI w2 (((elL r j).map core).filterMap (outC V k yes left X)) i qo ov W)) (fun _ t _ => N - (RowKit.intOf t).toNat)
        case atStart => exact ⟨0, 0, _, rfl, by omega, by omega, HM0⟩
        case round =>
          obtain ⟨j, i, qo, rfl, hj, hij, HM⟩ := hrel
          have HBW : Hid (Below w.heap.size w wr) := HB1.out.trans (HM.out.bel.mono HB1.out.size)
          by_cases hlt : j < N
          · have hjj : (j : Int) < N := by omega
            have j0 : (0 : Int) ≤ (j : Int) := by omega
            obtain ⟨g, o, rfl, _, x0, x1⟩ := (HEM.out wr HM.out.bel).at j hlt
            have HJ : Hid (j < N) := hlt
            have HIJ : Hid (i ≤ j) := hij
            have hrq := HRQ.out wr HBW.out j hlt
            have hls := HLS.out j hlt
            have HON : Hid (∀ W, Below wr.heap.size wr W → Calls Tryz.prog 33 #[.string s, .agg #[.slice (r j).a (r j).n (r j).c, .float .f64 (r j).x], .float .f64 (if left = true then X else (r j).x), .float .f64 (if left = true then (r j).x else X), .bool yes] W (ON V k yes (if left = true then X else (r j).x) (if left = true then (r j).x else X) (r j).x (K.ll (r j).f (r j).n) W)) := (show ∀ W, _ → _ from fun W b => one_any s k HK12.out HOP.out V HV.out yes _ _ (r j).x (r j).a (r j).f (r j).n (r j).c W (by split; exact HXB.out; exact hrq.2.2.1) (by split; exact hrq.2.2.1; exact HXB.out) (by have := hrq.2.1; omega) (hrq.1.below b) hls)
            have HSK : Hid (∀ W, Below wr.heap.size wr W → outP V k yes (if left = true then X else (r j).x) (if left = true then (r j).x else X) (r j).x (K.ll (r j).f (r j).n) = none → RI w2 (((elL r (j + 1)).map core).filterMap (outC V k yes left X)) i qo u14 W) := (show ∀ W, _ → _ → _ from fun W b ho => by
              have e1 : ((elL r (j + 1)).map core).filterMap (outC V k yes left X) = ((elL r j).map core).filterMap (outC V k yes left X) := by
                rw [elL_succ, List.map_append, List.filterMap_append]
                have : outC V k yes left X (core (r j)) = none := ho
                simp [this]
              rw [e1]
              exact HM.out.below b)
            have HST : Hid (∀ w7 a' m c' f' z, Below wr.heap.size wr w7 → Lm w7 a' f' m → (K.ll f' m = K.ll (r j).f (r j).n ∨ K.ll f' m = drN (K.ll (r j).f (r j).n)) → (∀ b o, a' = some ⟨b, o, none⟩ → wr.heap.size ≤ b) → outP V k yes (if left = true then X else (r j).x) (if left = true then (r j).x else X) (r j).x (K.ll (r j).f (r j).n) = some (K.ll f' m, F.cl z) → ∃ g3 c3 w9, (Builtin.append_ #[22, 22] 22 #[u14, .slice (some ⟨w7.heap.size + 1, 0, none⟩) 1 1]).run Tryz.prog ((w7.alloc (.cells #[.slice a' m c', .float .f64 z] 31)).alloc (elX ⟨a', m, c', f', z⟩)) = .ok (.slice (some ⟨g3, 0, none⟩) (i + 1) c3) w9 ∧ RI w2 (((elL r (j + 1)).map core).filterMap (outC V k yes left X)) (i + 1) (up qo i ⟨a', m, c', f', z⟩) (.slice (some ⟨g3, 0, none⟩) (i + 1) c3) w9) := (show ∀ w7 a' m c' f' z, _ → _ → _ → _ → _ → _ from fun w7 a' m c' f' z b hl hor hlo ho => by
              have b1 : Below wr.heap.size wr (w7.alloc (.cells #[.slice a' m c', .float .f64 z] 31)) := b.alloc b.size _
              have bx : Below w7.heap.size w7 (w7.alloc (.cells #[.slice a' m c', .float .f64 z] 31)) := (Below.refl _ w7).alloc (Nat.le_refl _) _
              have hs8 : w2.heap.size ≤ (w7.alloc (.cells #[.slice a' m c', .float .f64 z] 31)).heap.size := Nat.le_trans HM.out.bel.size b1.size
              obtain ⟨g3, c3, w9, r9, o9, k9, hg9⟩ := ap_el3 (w7.alloc (.cells #[.slice a' m c', .float .f64 z] 31)) w2.heap.size u14 i _ ⟨a', m, c', f', z⟩ hs8 (by have := HIJ.out; have := HJ.out; omega) (kept_row HM.out.row b1)
              obtain ⟨hEo, hLs⟩ := eo_of (f := (r j).f) (c' := c') (z := z) (hl.below bx) hrq.2.1 hrq.2.2.2 hls hor
              have hst := HM.out.step (x := ⟨a', m, c', f', z⟩) b1 hEo hLs hlo o9 k9 hg9
              have e1 : ((elL r (j + 1)).map core).filterMap (outC V k yes left X) = ((elL r j).map core).filterMap (outC V k yes left X) ++ [kc ⟨a', m, c', f', z⟩] := by
                rw [elL_succ, List.map_append, List.filterMap_append]
                have : outC V k yes left X (core (r j)) = some (kc ⟨a', m, c', f', z⟩) := ho
                simp [this]
              rw [e1]
              have hsz : (w7.alloc (.cells #[.slice a' m c', .float .f64 z] 31)).heap.size = w7.heap.size + 1 := by simp
              rw [hsz] at r9
              exact ⟨g3, c3, w9, r9, hst⟩)
            clear HM hls hij
            obtain ⟨⟨ea, en, ec, ef, ex⟩, hre⟩ : ∃ x, r j = x := ⟨_, rfl⟩
            rw [hre] at x0 x1 HON HST HSK
            dsimp only at x0 x1 HON HST HSK
            clear hre hrq
            cases left
            · simp only [Bool.false_eq_true, if_false] at HON HST HSK
              have kB := HON.out wr (Below.refl _ _)
              clear HON
              go_wp2_with fail
              go_fit kB
              rintro e w7 ⟨a', m, c', f', z, ok, rfl, b7, hl7, hout, hor, hlo⟩
              have b7' : Below wr.heap.size wr w7 := b7
              cases ok
              · have HN : Hid (RI _ _ _ _ _ _) := HSK.out (w7.alloc (.cells #[.slice a' m c', .float .f64 z] 31)) (b7'.alloc b7'.size _) (by simpa using hout)
                clear kB HST HSK hl7 hout hor hlo b7 b7' x0 x1
                go_wp2
                exact ⟨⟨j + 1, i, qo, by go_num, by have := HJ.out; omega, by have := HIJ.out; omega, HN⟩, by simp [RowKit.intOf]; have := HJ.out; omega⟩
              · obtain ⟨g3, c3, w9, r9, hri⟩ := HST.out w7 a' m c' f' z b7' hl7 hor (fun b o e => hlo b o e) (by simpa using hout)
                have HN : Hid (RI _ _ _ _ _ _) := hri
                clear kB HST HSK hl7 hout hor hlo b7 b7' hri x0 x1
                unfold elX at r9
                dsimp only at r9
                go_wp2_with (at_builtin; refine wpList_append_run rfl (.tmp 67) (.tmp 69) 22 22 rfl _ _ rfl rfl r9 ?_)
                exact ⟨⟨j + 1, i + 1, _, by go_num, by have := HJ.out; omega, by have := HIJ.out; omega, HN⟩, by simp [RowKit.intOf]; have := HJ.out; omega⟩
            · simp only [if_true] at HON HST HSK
              go_upto_region 13 with fail
              go_big_quiet (fail)
              have bW : Below wr.heap.size wr (wr.drewN nq) := below_drewN (Below.refl _ _) nq
              have e0 := bcell2 bW x0
              have e1 := bcell2 bW x1
              have kB := HON.out _ bW
              have HSZ : Hid (Below wr.heap.size wr (wr.drewN nq) ∧ (wr.drewN nq).heap.size = wr.heap.size) := (show _ ∧ _ from ⟨bW, rfl⟩)
              clear HON bW
              generalize wr.drewN nq = W2 at *
              go_wp2_with fail
              go_fit kB
              rintro e w7 ⟨a', m, c', f', z, ok, rfl, b7, hl7, hout, hor, hlo⟩
              have b7' : Below wr.heap.size wr w7 := HSZ.out.1.trans (b7.mono HSZ.out.1.size)
              cases ok
              · have HN : Hid (RI _ _ _ _ _ _) := HSK.out (w7.alloc (.cells #[.slice a' m c', .float .f64 z] 31)) (b7'.alloc b7'.size _) (by simpa using hout)
                clear kB HST HSK hl7 hout hor hlo b7 b7' x0 x1
                go_wp2
                exact ⟨⟨j + 1, i, qo, by go_num, by have := HJ.out; omega, by have := HIJ.out; omega, HN⟩, by simp [RowKit.intOf]; have := HJ.out; omega⟩
              · obtain ⟨g3, c3, w9, r9, hri⟩ := HST.out w7 a' m c' f' z b7' hl7 hor (fun b o e => by have := hlo b o e; have := HSZ.out.2; omega) (by simpa using hout)
                have HN : Hid (RI _ _ _ _ _ _) := hri
                clear kB HST HSK hl7 hout hor hlo b7 b7' hri x0 x1
                unfold elX at r9
                dsimp only at r9
                go_wp2_with (at_builtin; refine wpList_append_run rfl (.tmp 67) (.tmp 69) 22 22 rfl _ _ rfl rfl r9 ?_)
                exact ⟨⟨j + 1, i + 1, _, by go_num, by have := HJ.out; omega, by have := HIJ.out; omega, HN⟩, by simp [RowKit.intOf]; have := HJ.out; omega⟩
          · obtain rfl : N = j := by omega
            have hjj : ¬ (N : Int) < N := by omega
            have kO := rend_any HM.out (by omega) HBW.out
            clear HM HM0
            go_wp2_with fail
            go_fit kO
            rintro e w9 ⟨a', c', N', r', E', rfl, h1, h2, h3, h4, h5⟩
            have HF : Hid (_ ∧ _ ∧ _ ∧ _ ∧ _) := ⟨h1, h2, h3, h4, h5⟩
            clear kO h1 h2 h3 h4 h5
            go_wp2
            go_ret2
            exact ⟨a', c', N', r', E', rfl, HF.out.1, HF.out.2.1, HF.out.2.2.1, HF.out.2.2.2.1, .inr (.inr ⟨HTK.out, _, HCV.out, HF.out.2.2.2.2⟩)⟩
end Go.Proofs.YtebjklppbkkinaaGreatDoor
/- Pair: copied; same. -/
namespace Go.Proofs.YtebjklppbkkinaaGreatDoor
open Go.RowKit Go.Lib Go.Shelf Go.Sort

attribute [local go_sem] Oper.semAt_some run_store_float

theorem lc_one (f : Nat → Lb) (n : Nat) : ∀ u ∈ lc f n, u.oneCell' = true := by
  intro u hu
  unfold lc at hu
  rw [List.mem_flatMap] at hu
  obtain ⟨j, _, hu⟩ := hu
  simp [l2] at hu
  rcases hu with rfl | rfl <;> rfl
/-- append([]T{}, a...). -/
theorem fresh_copy {P : Program} (w : World) (t e : TypeId) (z : Value) (size bytes : Nat) (ht : P.underlying t = some (.slice e)) (hin : (P.info? e).map (fun i => (i.zero, i.size, i.bytes)) = some (some z, size, bytes)) (hzs : z.cells.size = size) (hsz : 0 < size)
    (a : Option Addr) (m c : Nat) (news : List Value) (ha : a = none → m = 0 ∧ c = 0) (hl : news.length = m * size) (hnews : ∀ p, a = some p → ∀ j u, news[j]? = some u → w.cell? (p.add j) = some u) (h1 : ∀ u ∈ news, u.oneCell' = true) (hm : m ≤ maxLen) (hby : m * bytes ≤ 140737488355328) :
    ∃ g cap w', (Builtin.append_ #[t, t] t #[.slice (some ⟨w.heap.size, 0, none⟩) 0 0, .slice a m c]).run P (w.alloc (.cells #[] e)) = .ok (.slice (some ⟨g, 0, none⟩) m cap) w' ∧ w'.ownsRow w.heap.size e size (.slice (some ⟨g, 0, none⟩) m cap) m news ∧ Below w.heap.size w w' ∧ w.heap.size ≤ g ∧ g < w'.heap.size := by
  obtain ⟨i, hi, hz, hs, hb⟩ := info_parts hin
  have o0 : (w.alloc (.cells #[] e)).ownsRow w.heap.size e size (.slice (some ⟨w.heap.size, 0, none⟩) 0 0) 0 [] := World.ownsRow_lit w #[] 0 (Nat.le_refl _) (Nat.zero_le _) (by simp)
  have b0 : Below w.heap.size w (w.alloc (.cells #[] e)) := (Below.refl _ w).alloc (Nat.le_refl _) _
  cases a with
  | none =>
    obtain ⟨rfl, rfl⟩ := ha rfl
    have hn : news = [] := List.eq_nil_of_length_eq_zero (by simpa using hl)
    subst hn
    exact ⟨w.heap.size, 0, _, run_append_owned_none _ w.heap.size t t e i size ht hi _ 0 [] o0, o0, b0, Nat.le_refl _, by simp⟩
  | some p =>
    obtain ⟨v', w', r, o', gb, hv, _⟩ := run_append_own_at (P := P) (w.alloc (.cells #[] e)) w.heap.size t t e i z size bytes ht hi hz hs hb hzs hsz _ 0 [] o0 p m c news hl (fun j u hj => bcell2 b0 (hnews p rfl j u hj)) h1 (by omega) (by rw [Nat.zero_add]; exact hby) b0.size
    rw [Nat.zero_add, List.nil_append] at o'
    have hB : Below w.heap.size w w' := b0.trans ⟨gb.os, gb.tape, gb.output, gb.size, fun k hk => gb.block k (Nat.lt_of_lt_of_le hk b0.size) (fun e => by
      have e' : k = w.heap.size := Option.some.inj e
      omega)⟩
    rcases o'.2 with ⟨h0, _⟩ | ⟨g, cap, cur, rfl, hg, hh, _⟩
    · have := (hv.1 h0).1
      cases this
    · exact ⟨g, cap, w', r, o', hB, hg, (Array.getElem?_eq_some_iff.1 hh).1⟩
/-- append([]Label{}, ls...). -/
theorem copy_ls (w : World) (a : Option Addr) (n c : Nat) (f : Nat → Lb) (h : Lm w a f n) (ha : a = none → n = 0 ∧ c = 0) (hn : n ≤ 4294967296) :
    ∃ g cap w', (Builtin.append_ #[29, 29] 29 #[.slice (some ⟨w.heap.size, 0, none⟩) 0 0, .slice a n c]).run Tryz.prog (w.alloc (.cells #[] 61)) = .ok (.slice (some ⟨g, 0, none⟩) n cap) w' ∧ w'.ownsRow w.heap.size 61 2 (.slice (some ⟨g, 0, none⟩) n cap) n (lc f n) ∧ Below w.heap.size w w' ∧ w.heap.size ≤ g ∧ g < w'.heap.size :=
  fresh_copy (P := Tryz.prog) w 29 61 _ 2 32 Tryz.underlying29 infL (by rfl) (by decide) a n c (lc f n) ha (by rw [lc_len]) (fun p hp j u hj => by
    subst hp
    exact h.cells j u hj) (lc_one f n) (by unfold maxLen; omega) (by omega)
/-- Elements copied so far. -/
structure CI (wB : World) (q : Nat → El) (i : Nat) (qo : Nat → El) (ov : Value) (W : World) : Prop where
  row : W.ownsRow wB.heap.size 31 2 ov i (fl e2 (elL qo i))
  lab : ∀ m, m < i → Hq W (qo m) ∧ core (qo m) = core (q m) ∧ ∀ b o, (qo m).a = some ⟨b, o, none⟩ → ov.ownBlock ≠ some b ∧ b < W.heap.size
  bel : Below wB.heap.size wB W
theorem CI.step {wB W W1 W2 : World} {i g c : Nat} {q qo : Nat → El} {ov : Value} {x : El} (h : CI wB q i qo ov W) (b1 : Below W.heap.size W W1) (hx : Hq W1 x) (hc : core x = core (q i)) (hlo : ∀ b o, x.a = some ⟨b, o, none⟩ → W.heap.size ≤ b ∧ b < W1.heap.size)
    (o3 : W2.ownsRow wB.heap.size 31 2 (.slice (some ⟨g, 0, none⟩) (i + 1) c) (i + 1) (fl e2 (elL qo i) ++ e2 x)) (k3 : Kp (fun b => ov.ownBlock = some b) W1 W2) (hg : ov.ownBlock = some g ∨ W1.heap.size < g) :
    CI wB q (i + 1) (up qo i x) (.slice (some ⟨g, 0, none⟩) (i + 1) c) W2 := by
  have e : elL (up qo i x) (i + 1) = elL qo i ++ [x] := by
    rw [elL_succ, up_at]
    congr 1
    simp only [elL]
    exact List.map_congr_left fun m hm => up_ne _ _ _ _ (by have := List.mem_range.1 hm; omega)
  have hov : ∀ b, ov.ownBlock = some b → wB.heap.size ≤ b ∧ b < W.heap.size := own_bd h.row
  have hxd : ∀ b o, x.a = some ⟨b, o, none⟩ → ov.ownBlock ≠ some b := fun b o ea h1 => by
    have := (hov b h1).2
    have := (hlo b o ea).1
    omega
  refine ⟨?_, fun m hm => ?_, ?_⟩
  · rw [e]
    have e' : fl e2 (elL qo i ++ [x]) = fl e2 (elL qo i) ++ e2 x := by simp [fl]
    rw [e']
    exact o3
  · by_cases em : m = i
    · rw [em, up_at]
      refine ⟨⟨lm_kp hx.1 k3 fun b o ea h1 => hxd b o ea h1, hx.2⟩, hc, fun b o ea => ⟨fun h1 => ?_, Nat.lt_of_lt_of_le (hlo b o ea).2 k3.size⟩⟩
      obtain rfl : g = b := Option.some.inj h1
      rcases hg with hg | hg
      · exact hxd g o ea hg
      · have := (hlo g o ea).2; omega
    · rw [up_ne _ _ _ _ em]
      obtain ⟨h1, h2, h3⟩ := h.lab m (by omega)
      have h1' := h1.below b1
      refine ⟨⟨lm_kp h1'.1 k3 fun b o ea h5 => (h3 b o ea).1 h5, h1.2⟩, h2, fun b o ea => ⟨fun h4 => ?_, Nat.lt_of_lt_of_le (h3 b o ea).2 (Nat.le_trans b1.size k3.size)⟩⟩
      obtain rfl : g = b := Option.some.inj h4
      rcases hg with hg | hg
      · exact (h3 g o ea).1 hg
      · have := (h3 g o ea).2; have := b1.size; omega
  · have b2 : Below wB.heap.size wB W1 := h.bel.trans (b1.mono h.bel.size)
    exact b2.trans (k3.below b2.size fun b hb h1 => by have := (hov b h1).1; omega)
set_option maxRecDepth 100000 in
set_option maxHeartbeats 8000000 in
theorem copied14_any (a : Option Addr) (n c : Nat) (q : Nat → El) (w : World) (h : Em w a q n) (hH : ∀ j, j < n → Hq w (q j)) (hz : ∀ j, j < n → (q j).a = none → (q j).n = 0 ∧ (q j).c = 0) (hn : n ≤ 1048576) :
    Calls Tryz.prog 14 #[.slice a n c] w fun e w' => ∃ a' c' r, e = .returned (.slice a' n c') ∧ CI w q n r (.slice a' n c') w' := by
  have HE : Hid (Em w a q n) := h
  have HH : Hid (∀ j, j < n → Hq w (q j) ∧ ((q j).a = none → (q j).n = 0 ∧ (q j).c = 0)) := (show ∀ j, _ → _ from fun j hj => ⟨hH j hj, hz j hj⟩)
  have HC0 : Hid (CI w q 0 (fun _ => zE) (.slice none 0 0) w) := (show CI _ _ _ _ _ _ from ⟨World.ownsRow_nil _ _ _ _, fun m hm => absurd hm (by omega), Below.refl _ _⟩)
  have hni : (n : Int) ≤ 1048576 := by omega
  clear h hH hz
  go_enter Tryz.func14, Tryz.ntmps14
  go_wp2
  go_loopw [3, 4] (fun ov t W => ∃ (i : Nat) (qo : Nat → El), t = .int .i64 (i : Int) ∧ i ≤ n ∧ Hid (CI w q i qo ov W)) (fun _ t _ => n - (RowKit.intOf t).toNat)
  case atStart => exact ⟨0, _, rfl, by omega, HC0⟩
  case round =>
    obtain ⟨i, qo, rfl, hi, HC⟩ := hrel
    by_cases hlt : i < n
    · have hii : (i : Int) < n := by omega
      have i0 : (0 : Int) ≤ (i : Int) := by omega
      obtain ⟨g, o, rfl, hg, x0, x1⟩ := (HE.out.below HC.out.bel).at i hlt
      obtain ⟨hy0, hyz⟩ := HH.out i hlt
      have hy := hy0.below HC.out.bel
      have bdr : Below wr.heap.size wr wr.drew := (Below.refl _ _).drew
      obtain ⟨g', cap', w6, r1, o6, b6, hg1, hg2⟩ := copy_ls wr.drew (q i).a (q i).n (q i).c (q i).f (hy.1.below bdr) hyz (by have := hy.2.1; omega)
      have hg1' : wr.heap.size ≤ g' := hg1
      have b6' : Below wr.heap.size wr w6 := bdr.trans b6
      have hLm : Lm w6 (some ⟨g', 0, none⟩) (q i).f (q i).n := Lm.of_row o6
      obtain ⟨g3, c3, w9, r2, o9, k9, hg9⟩ := ap_el3 w6 w.heap.size u3 i (fl e2 (elL qo i)) ⟨some ⟨g', 0, none⟩, (q i).n, cap', (q i).f, (q i).x⟩ (by have := HC.out.bel.size; have := b6'.size; omega) (by omega) (kept_row HC.out.row b6')
      have hst := HC.out.step (x := ⟨some ⟨g', 0, none⟩, (q i).n, cap', (q i).f, (q i).x⟩) b6' ⟨hLm, hy.2⟩ rfl (fun b o' e => by cases e; exact ⟨hg1', hg2⟩) o9 k9 hg9
      have HST : Hid (CI _ _ _ _ _ _) := hst
      have y0 := bcell2 b6' x0
      have y1 := bcell2 b6' x1
      have r1' : (Builtin.append_ #[29, 29] 29 #[.slice (some ⟨wr.heap.size, 0, none⟩) 0 0, .slice (q i).a (q i).n (q i).c]).run Tryz.prog (wr.drew.alloc (.cells #[] 61)) = .ok (.slice (some ⟨g', 0, none⟩) (q i).n cap') w6 := r1
      have bA0 : Below wr.heap.size wr (wr.alloc (.cells #[] 61)) := (Below.refl _ wr).alloc (Nat.le_refl _) _
      have s0 := bcell2 bA0 x0
      have s1 := bcell2 bA0 x1
      clear hst hLm o9 k9 hg9 o6 b6 b6' bdr hg1 hg1' hg2 hy hy0 hyz HC hg r1
      unfold elX at r2
      obtain ⟨⟨ea, en, ec, ef, ex⟩, hre⟩ : ∃ x, q i = x := ⟨_, rfl⟩
      rw [hre] at x0 x1 y0 y1 s0 s1 r1' r2 HST
      dsimp only at x0 x1 y0 y1 s0 s1 r1' r2 HST
      clear hre
      go_upto_region 5 with fail
      go_region_law (first | refine step_append_run rfl (.tmp 12) (.tmp 17) 29 29 rfl _ _ rfl rfl r1' ?_ | refine step_append_run rfl (.tmp 11) (.tmp 25) 22 22 rfl _ _ rfl rfl r2 ?_)
      all_goals go_wp2
      all_goals exact ⟨⟨i + 1, _, by go_num, by omega, HST⟩, by simp [RowKit.intOf]; omega⟩
    · obtain rfl : n = i := by omega
      have hii : ¬ (n : Int) < n := by omega
      obtain ⟨a', c', hu, _⟩ := K.row_sl HC.out.row
      subst hu
      go_wp2
      go_ret
      exact ⟨a', c', rfl, qo, HC.out⟩
end Go.Proofs.YtebjklppbkkinaaGreatDoor
