/- A bundle of texts. -/
import Derived.Test.YtebjklppbkkinaaGreatDoorBp07
import Derived.Test.YtebjklppbkkinaaGreatDoorBp09
import Derived.Test.YtebjklppbkkinaaGreatDoorBp04
import Derived.Test.YtebjklppbkkinaaGreatDoorBp03
/- The reference's Vector. -/
namespace Go.Proofs.YtebjklppbkkinaaGreatDoor
open Go.RowKit Go.Lib Go.Shelf Go.Sort

attribute [local go_sem] Oper.semAt_some run_store_float

/-- What the reference's Vector answers. -/
def RVR (q : Nat → El) (n : Nat) (w : World) (e : Ending) (w' : World) : Prop := ∃ v E, e = .returned (.tuple #[v, .int .i64 E]) ∧ Below w.heap.size w w' ∧
  ((E = 5 ∧ v = .slice none 0 0 ∧ ((∃ j, j < n ∧ okE (q j) = false) ∨ ¬ (elL q n).Pairwise (fun x y => cfE x y ≠ 0))) ∨
   (E = 0 ∧ (∀ j, j < n → okE (q j) = true) ∧ ∃ ks : List El, ks.Perm (elL q n) ∧ ks.Pairwise (fun x y => cfE x y < 0) ∧ w'.ownsRow w.heap.size 31 2 v ks.length (fl e2 ks)))
theorem pair_leE {ks : List El} (h : ks.Pairwise leE) : ks.Pairwise (fun x y => ¬ cfE y x < 0) := h.imp fun {x y} h => by
  have := cm_anti x.f y.f x.n y.n
  unfold leE cfE at *
  omega
set_option maxHeartbeats 8000000 in
set_option maxRecDepth 100000 in
theorem rvector_any (a : Option Addr) (n c : Nat) (q : Nat → El) (w : World) (hE : Em w a q n) (hz : a = none → n = 0 ∧ c = 0) (hnc : n ≤ c) (hcm : c ≤ 9223372036854775807) (hn : n ≤ 1099511627776) (hO : ∀ j, j < n → Eo w (q j)) :
    Calls Tryz.prog 31 #[.slice a n c] w (RVR q n w) := by
  have HE : Hid (Em w a q n) := hE
  have HO : Hid (∀ j, j < n → Eo w (q j)) := hO
  have hni : (n : Int) ≤ 1099511627776 := by omega
  have HK : Hid (∀ W, Below w.heap.size w W → Calls Tryz.prog 58 #[.slice a n c] W (SR (elL q n) W)) := (show ∀ W, _ → _ from fun W b => rsorted_any n a c q W (hE.below b) hz hnc hcm hn (fun j hj => ⟨(hO j hj).1.below b, (hO j hj).2.1⟩))
  clear hE hO hz
  go_enter Tryz.func31, Tryz.ntmps31
  go_wp2_with fail
  go_loopw [4] (fun t w' => ∃ i : Nat, t = .int .i64 (i : Int) ∧ i ≤ n ∧ Hid ((∀ j, j < i → okE (q j) = true) ∧ Below w.heap.size w w')) (fun t _ => n - (RowKit.intOf t).toNat)
  case atStart => exact ⟨0, rfl, by omega, fun j hj => absurd hj (by omega), Below.refl _ _⟩
  case round =>
    obtain ⟨i, rfl, hi, HI⟩ := hrel
    by_cases hlt : i < n
    · have hii : (i : Int) < n := by omega
      have i0 : (0 : Int) ≤ (i : Int) := by omega
      obtain ⟨g, o, rfl, hg, x0, x1⟩ := (HE.out.below HI.out.2).at i hlt
      have hEo := (HO.out i hlt).below HI.out.2
      have k := R.rvalid_any (q i).a (q i).f (q i).n (q i).c wr hEo.1 (by have := hEo.2.1; omega) hEo.2.2
      obtain ⟨V, hV⟩ : ∃ V, okE (q i) = V := ⟨_, rfl⟩
      have HV : Hid (okE (q i) = V) := hV
      unfold okE at hV
      rw [hV] at k
      have HIL : Hid (i + 1 ≤ n) := hlt
      clear hV hEo x1
      generalize (q i).a = ea at *
      generalize (q i).n = en at *
      generalize (q i).c = ec at *
      cases V
      · go_wp2_with fail
        go_fit k
        rintro e w2 ⟨rfl, b2⟩
        have B2 : Hid (Below w.heap.size w w2) := HI.out.2.trans (b2.mono HI.out.2.size)
        clear k b2
        go_wp2
        go_ret2
        exact ⟨_, _, rfl, B2.out, .inl ⟨rfl, rfl, .inl ⟨i, hlt, HV.out⟩⟩⟩
      · go_wp2_with fail
        go_fit k
        rintro e w2 ⟨rfl, b2⟩
        have B2 : Hid ((∀ j, j < i + 1 → okE (q j) = true) ∧ Below w.heap.size w w2) := (show _ ∧ _ from ⟨fun j hj => by
          by_cases hji : j = i
          · rw [hji]; exact HV.out
          · exact HI.out.1 j (by omega), HI.out.2.trans (b2.mono HI.out.2.size)⟩)
        clear k b2
        go_wp2
        exact ⟨⟨i + 1, by go_num, HIL.out, B2⟩, by simp [RowKit.intOf]; omega⟩
    · have hii : ¬ (i : Int) < n := by omega
      obtain rfl : i = n := by omega
      have k := HK.out wr HI.out.2
      have hii2 : ¬ (i : Int) < i := by omega
      go_wp2_with fail
      go_fit k
      rintro e w2 ⟨v, ks, rfl, hp, hs, o2, b2⟩
      have B2 : Hid (Below w.heap.size w w2) := HI.out.2.trans (b2.mono HI.out.2.size)
      have HOK : Hid (∀ j, j < i → okE (q j) = true) := HI.out.1
      have hkl : ks.length = i := by rw [hp.length_eq, elL_len]
      obtain ⟨a2, c2, hv⟩ := row_sl o2
      subst hv
      have HKS : Hid (ks.Perm (elL q i) ∧ ks.Pairwise leE) := ⟨hp, hs⟩
      have HRW : Hid (∀ W, Below w2.heap.size w2 W → W.ownsRow wr.heap.size 31 2 (.slice a2 ks.length c2) ks.length (fl e2 ks)) := (show ∀ W, _ → _ from fun W b => kept_rowE o2 b)
      have HEM : Hid (∀ W, Below w2.heap.size w2 W → Em W a2 (gE ks) ks.length) := (show ∀ W, _ → _ from fun W b => by
        have r := kept_rowE o2 b
        rw [← elL_gE ks, elL_len] at r
        exact elM_row r)
      have HX : Hid (∀ j, j < ks.length → Lm w (gE ks j).a (gE ks j).f (gE ks j).n ∧ (gE ks j).n ≤ 4294967296) := (show ∀ j, _ → _ from fun j hj => by
        rw [gE_at ks j hj]
        obtain ⟨m, hm, e⟩ : ∃ m, m < i ∧ q m = ks[j] := by simpa [elL] using hp.subset (List.getElem_mem hj)
        rw [← e]
        exact ⟨(HO.out m hm).1, (HO.out m hm).2.1⟩)
      have HSZ : Hid (w.heap.size ≤ wr.heap.size) := HI.out.2.size
      have hki : (ks.length : Int) ≤ 1099511627776 := by omega
      clear k hp hs o2 b2 HI HK hkl
      go_wp2_with fail
      go_loopw [6] (fun t w' => ∃ k : Nat, t = .int .i64 ((k : Int) + 1) ∧ (k + 1 ≤ ks.length ∨ k = 0) ∧ Hid ((∀ j, j < k → cfE (gE ks j) (gE ks (j + 1)) ≠ 0) ∧ Below w2.heap.size w2 w')) (fun t _ => ks.length - (RowKit.intOf t).toNat)
      case atStart => exact ⟨0, rfl, .inr rfl, fun j hj => absurd hj (by omega), Below.refl _ _⟩
      case round =>
        obtain ⟨k, rfl, hk, HJ⟩ := hrel
        by_cases hkn : k + 1 < ks.length
        · have g0 : (k : Int) + 1 < (ks.length : Int) := by omega
          have g1 : IntKind.i64.wrap ((k : Int) + 1 - 1) = (k : Int) := by rw [IntKind.wrap_i64]; omega
          have g5 : IntKind.i64.wrap (k : Int) = (k : Int) := by rw [IntKind.wrap_i64]; omega
          have g2 : (k : Int) < (ks.length : Int) := by omega
          have g3 : (0 : Int) ≤ (k : Int) := by omega
          have g4 : (0 : Int) ≤ (k : Int) + 1 := by omega
          have HKN : Hid (k + 2 ≤ ks.length) := hkn
          obtain ⟨g, o, rfl, hg, x0, _⟩ := (HEM.out _ HJ.out.2).at k (by omega)
          obtain ⟨g', o', e9, _, y0, _⟩ := (HEM.out _ HJ.out.2).at (k + 1) hkn
          cases e9
          have HKE : Hid (∀ W, Below wr.heap.size wr W → Calls Tryz.prog 59 #[.slice (gE ks k).a (gE ks k).n (gE ks k).c, .slice (gE ks (k + 1)).a (gE ks (k + 1)).n (gE ks (k + 1)).c] W fun e w' => e = .returned (.int .i64 (cfE (gE ks k) (gE ks (k + 1)))) ∧ Below W.heap.size W w') := (show ∀ W, _ → _ from fun W b => by
            have hb := B2.out.trans ((HJ.out.2.trans (b.mono HJ.out.2.size)).mono B2.out.size)
            obtain ⟨l1, n1⟩ := HX.out k (by omega)
            obtain ⟨l2, n2⟩ := HX.out (k + 1) hkn
            exact rcompare_any _ _ _ _ _ _ _ _ W (l1.below hb) (l2.below hb) (by omega) (by omega))
          obtain ⟨CF, hCF⟩ : ∃ C, cfE (gE ks k) (gE ks (k + 1)) = C := ⟨_, rfl⟩
          have HCF : Hid (cfE (gE ks k) (gE ks (k + 1)) = CF) := hCF
          rw [hCF] at HKE
          have HSX : Hid (∀ W, Below wr.heap.size wr W → (W.cell? ⟨g, o + k * 2, none⟩ = some (.slice (gE ks k).a (gE ks k).n (gE ks k).c) ∧ W.cell? ⟨g, o + (k + 1) * 2, none⟩ = some (.slice (gE ks (k + 1)).a (gE ks (k + 1)).n (gE ks (k + 1)).c)) ∧ Below wr.heap.size wr W) := (show ∀ W, _ → _ from fun W b => ⟨⟨bcell2 b x0, bcell2 b y0⟩, b⟩)
          clear hCF
          generalize (gE ks k).a = xa at *
          generalize (gE ks k).n = xn at *
          generalize (gE ks k).c = xc at *
          generalize (gE ks (k + 1)).a = ya at *
          generalize (gE ks (k + 1)).n = yn at *
          generalize (gE ks (k + 1)).c = yc at *
          have bd : Below wr.heap.size wr wr.drew := (Below.refl _ _).drew
          go_upto_region 10 with fail
          go_region_held3 (fun w2 => (w2.cell? ⟨g, o + k * 2, none⟩ = some (.slice xa xn xc) ∧ w2.cell? ⟨g, o + (k + 1) * 2, none⟩ = some (.slice ya yn yc)) ∧ Below wr.heap.size wr w2) (first | exact HSX.out _ (by assumption) | exact HSX.out _ (Below.drew (by assumption))) (first | (go_at_call 59; go_fit (HKE.out _ (by first | exact bd | exact Below.refl _ _)); rintro e w12 ⟨rfl, b12⟩; have bc : Below wr.heap.size wr w12 := by first | exact bd.trans (b12.mono bd.size) | exact b12))
          rename_i hh
          have HB12 : Hid (Below w2.heap.size w2 w12) := HJ.out.2.trans (bc.mono HJ.out.2.size)
          have HW12 : Hid (Below w.heap.size w w12) := B2.out.trans (HB12.out.mono B2.out.size)
          clear hh HSX HKE bc b12 bd x0 y0
          by_cases hc : CF = 0
          · subst hc
            go_wp2
            go_ret2
            refine ⟨_, _, rfl, HW12.out, .inl ⟨rfl, rfl, .inr fun hpw => ?_⟩⟩
            have h9 := pair_perm HKS.out.1.symm hpw
            rw [List.pairwise_iff_getElem] at h9
            have h8 := h9 k (k + 1) (by omega) hkn (by omega)
            rw [← gE_at ks k (by omega), ← gE_at ks (k + 1) hkn] at h8
            exact h8 HCF.out
          · go_wp2
            refine ⟨⟨k + 1, by go_num, .inl (by omega), (show _ ∧ _ from ⟨fun j hj => ?_, HB12.out⟩)⟩, by simp [RowKit.intOf]; omega⟩
            by_cases e : j = k
            · rw [e, HCF.out]
              exact hc
            · exact HJ.out.1 j (by omega)
        · have g0 : ¬ (k : Int) + 1 < (ks.length : Int) := by omega
          have HF : Hid (RVR q i w (.returned (.tuple #[.slice a2 ks.length c2, .int .i64 0])) wr) := (show RVR _ _ _ _ _ from ⟨_, _, rfl, B2.out.trans (HJ.out.2.mono B2.out.size), .inr ⟨rfl, HOK.out, ks, HKS.out.1, pair_lt (pair_leE HKS.out.2) (fun j hj => by
            rw [← gE_at ks j (by omega), ← gE_at ks (j + 1) hj]
            exact HJ.out.1 j (by omega)), World.ownsRow.mono (HRW.out wr HJ.out.2) HSZ.out⟩⟩)
          go_wp2
          go_ret2
          exact HF.out
end Go.Proofs.YtebjklppbkkinaaGreatDoor
/- The reference's With, walked. -/
namespace Go.Proofs.YtebjklppbkkinaaGreatDoor.K
open Go.RowKit Go.Lib

attribute [local go_sem] Oper.semAt_some
set_option maxRecDepth 100000 in
set_option maxHeartbeats 8000000 in
theorem rwith_any (a : Option Addr) (f : Nat → Lb) (n c : Nat) (nm vl : ByteArray) (w : World) (hn : n ≤ 2199023255552) (hL : Lm w a f n) :
    Calls Tryz.prog 63 #[.slice a n c, .string nm, .string vl] w fun e w' => ∃ v, e = .returned v ∧ w'.ownsRow w.heap.size 61 2 v (rwL f nm vl n).length (lcL (rwL f nm vl n)) ∧ Below w.heap.size w w' := by
  have HL : Hid (Lm w a f n) := hL
  have hnI : (n : Int) ≤ 2199023255552 := by omega
  clear hL
  go_enter Tryz.func63, Tryz.ntmps63
  go_wp2
  go_loopw [7, 8, 9] (fun sv pv ivv w' => ∃ i : Nat, ivv = .int .i64 (i : Int) ∧ pv = .bool (rwF f nm vl i).2 ∧ i ≤ n ∧ Hid (w'.ownsRow w.heap.size 61 2 sv (rwF f nm vl i).1.length (lcL (rwF f nm vl i).1)) ∧ Hid (Below w.heap.size w w')) (fun _ _ ivv _ => n - (RowKit.intOf ivv).toNat)
  case atStart => exact ⟨0, rfl, by first | rfl | simp [rwF], by omega, World.ownsRow_nil _ _ _ _, Below.refl _ _⟩
  case round =>
    obtain ⟨i, rfl, rfl, hi, hrow, hbw⟩ := hrel
    by_cases hlt : i < n
    · have hii : (i : Int) < n := by omega
      obtain ⟨g, o, rfl, hg, y0, y1⟩ := HL.out.at i hlt
      obtain ⟨⟨x1, x2⟩, hx⟩ : ∃ x, f i = x := ⟨_, rfl⟩
      rw [hx] at y0 y1
      dsimp only at y0 y1
      have HC : Hid (∀ W, Below w.heap.size w W → W.cell? ⟨g, o + i * 2, none⟩ = some (.string x1) ∧ W.cell? ⟨g, o + i * 2 + 1, none⟩ = some (.string x2)) := fun W b => ⟨(b.cell (p := ⟨g, o + i * 2, none⟩) hg).trans y0, (b.cell (p := ⟨g, o + i * 2 + 1, none⟩) hg).trans y1⟩
      obtain ⟨c0, c1⟩ := HC.out wr hbw.out
      clear y0 y1
      have hle := rwF_le f nm vl i
      have HK : Hid (rwF f nm vl (i + 1) = rwS nm vl (rwF f nm vl i) (x1, x2)) := by unfold Hid; rw [← hx]; rfl
      obtain ⟨⟨ks, pt⟩, hks⟩ : ∃ s, rwF f nm vl i = s := ⟨_, rfl⟩
      rw [hks] at hrow HK hle ⊢
      dsimp only at hrow hle ⊢
      clear hx hks
      have hle2 : ks.length ≤ i + 1 := by
        cases pt
        · simp at hle; omega
        · simpa using hle
      have HR : Hid (wr.ownsRow w.heap.size 61 2 u7 ks.length (lcL ks)) := hrow
      have HB : Hid (Below w.heap.size w wr) := hbw
      have HAP : Hid (∀ W v ks', Below w.heap.size w W → W.ownsRow w.heap.size 61 2 v ks'.length (lcL ks') → ks'.length ≤ i + 3 → ∀ x, ∃ G cc w6, (Builtin.append_ #[29, 29] 29 #[v, .slice (some ⟨W.heap.size, 0, none⟩) 1 1]).run Tryz.prog (W.alloc (lbX x)) = .ok (.slice (some ⟨G, 0, none⟩) (ks'.length + 1) cc) w6 ∧ Below w.heap.size w w6 ∧ w6.ownsRow w.heap.size 61 2 (.slice (some ⟨G, 0, none⟩) (ks'.length + 1) cc) (ks' ++ [x]).length (lcL (ks' ++ [x]))) := fun W v ks' hb hr hl x => by
        obtain ⟨G, cc, w6, r, o6, kp6⟩ := ap_lb W w.heap.size v ks'.length (lcL ks') x hb.size (by omega) hr
        refine ⟨G, cc, w6, r, hb.trans (kp6.below hb.size (fun k hk e => by have := (own_bd hr k e).1; omega)), ?_⟩
        have e1 : lcL (ks' ++ [x]) = lcL ks' ++ l2 x := by simp [lcL]
        rw [e1, List.length_append]
        exact o6
      clear hrow hle
      cases heq : (x1.toList == nm.toList)
      · obtain ⟨G1, k1, w1, r1, b1, o1⟩ := HAP.out wr u7 ks HB.out HR.out (by omega) (x1, x2)
        have HE1 : Hid (Below w.heap.size w w1 ∧ w1.ownsRow w.heap.size 61 2 (.slice (some ⟨G1, 0, none⟩) (ks.length + 1) k1) (ks ++ [(x1, x2)]).length (lcL (ks ++ [(x1, x2)]))) := ⟨b1, o1⟩
        clear b1 o1
        cases pt
        · cases hls : Op.bytesLess x1.toList nm.toList
          · have HK2 : Hid (rwF f nm vl (i + 1) = (ks ++ [(nm, vl)] ++ [(x1, x2)], true)) := by unfold Hid; rw [HK.out]; unfold rwS gtB; simp only [heq, hls]; rfl
            obtain ⟨G2, k2, w2, r2, b2, o2⟩ := HAP.out wr u7 ks HB.out HR.out (by omega) (nm, vl)
            obtain ⟨G3, k3, w3, r3, b3, o3⟩ := HAP.out w2 _ (ks ++ [(nm, vl)]) b2 o2 (by simp; omega) (x1, x2)
            have el : (ks ++ [(nm, vl)]).length = ks.length + 1 := by simp
            rw [el] at r3 o3
            obtain ⟨d0, d1⟩ := HC.out w2 b2
            have HE3 : Hid (Below w.heap.size w w3 ∧ w3.ownsRow w.heap.size 61 2 (.slice (some ⟨G3, 0, none⟩) (ks.length + 1 + 1) k3) (ks ++ [(nm, vl)] ++ [(x1, x2)]).length (lcL (ks ++ [(nm, vl)] ++ [(x1, x2)]))) := ⟨b3, o3⟩
            clear b2 o2 b3 o3 r1 HE1 HAP HC HK HR
            go_wp2_with (first | (at_builtin; refine wpList_append_run rfl (.tmp 36) (.tmp 40) 29 29 rfl _ _ rfl rfl r2 ?_) | (at_builtin; refine wpList_append_run rfl (.tmp 42) (.tmp 47) 29 29 rfl _ _ rfl rfl r3 ?_))
            exact ⟨⟨i + 1, by go_num, by rw [HK2.out], by omega, by unfold Hid; rw [HK2.out]; exact HE3.out.2, HE3.out.1⟩, by simp [RowKit.intOf]; omega⟩
          · have HK2 : Hid (rwF f nm vl (i + 1) = (ks ++ [(x1, x2)], false)) := by unfold Hid; rw [HK.out]; unfold rwS gtB; simp only [heq, hls]; rfl
            clear HAP HC HK HR
            go_wp2_with (at_builtin; refine wpList_append_run rfl (.tmp 42) (.tmp 47) 29 29 rfl _ _ rfl rfl r1 ?_)
            exact ⟨⟨i + 1, by go_num, by rw [HK2.out], by omega, by unfold Hid; rw [HK2.out]; exact HE1.out.2, HE1.out.1⟩, by simp [RowKit.intOf]; omega⟩
        · have HK2 : Hid (rwF f nm vl (i + 1) = (ks ++ [(x1, x2)], true)) := by unfold Hid; rw [HK.out]; unfold rwS; simp only [heq]; rfl
          clear HAP HC HK HR
          go_wp2_with (at_builtin; refine wpList_append_run rfl (.tmp 42) (.tmp 47) 29 29 rfl _ _ rfl rfl r1 ?_)
          exact ⟨⟨i + 1, by go_num, by rw [HK2.out], by omega, by unfold Hid; rw [HK2.out]; exact HE1.out.2, HE1.out.1⟩, by simp [RowKit.intOf]; omega⟩
      · have HK2 : Hid (rwF f nm vl (i + 1) = (ks, pt)) := by unfold Hid; rw [HK.out]; unfold rwS; simp only [heq]; rfl
        clear HAP HC HK
        go_wp2
        exact ⟨⟨i + 1, by go_num, by rw [HK2.out], by omega, by unfold Hid; rw [HK2.out]; exact HR.out, HB.out⟩, by simp [RowKit.intOf]; omega⟩
    · obtain rfl : i = n := by omega
      have hii : ¬ (i : Int) < i := by omega
      have hle := rwF_le f nm vl i
      obtain ⟨⟨ks, pt⟩, hks⟩ : ∃ s, rwF f nm vl i = s := ⟨_, rfl⟩
      have HW : Hid (rwL f nm vl i = if pt then ks else ks ++ [(nm, vl)]) := by unfold Hid rwL; rw [hks]
      rw [hks] at hrow hle ⊢
      dsimp only at hrow hle ⊢
      clear hks
      cases pt
      · obtain ⟨G, cc, w6, r, o6, kp6⟩ := ap_lb wr w.heap.size u7 ks.length (lcL ks) (nm, vl) hbw.out.size (by simp at hle; omega) hrow.out
        have HE : Hid (Below w.heap.size w w6 ∧ w6.ownsRow w.heap.size 61 2 (.slice (some ⟨G, 0, none⟩) (ks.length + 1) cc) (rwL f nm vl i).length (lcL (rwL f nm vl i))) := by
          refine ⟨hbw.out.trans (kp6.below hbw.out.size (fun k hk e => by have := (own_bd hrow.out k e).1; omega)), ?_⟩
          rw [HW.out]
          have e1 : lcL (ks ++ [(nm, vl)]) = lcL ks ++ l2 (nm, vl) := by simp [lcL]
          simp only [Bool.false_eq_true, if_false]
          rw [e1, List.length_append]
          exact o6
        clear hrow hbw o6 kp6 HW hle
        go_wp2_with (at_builtin; refine wpList_append_run rfl (.tmp 51) (.tmp 55) 29 29 rfl _ _ rfl rfl r ?_)
        go_ret
        exact ⟨_, rfl, HE.out.2, HE.out.1⟩
      · have HE : Hid (Below w.heap.size w wr ∧ wr.ownsRow w.heap.size 61 2 u7 (rwL f nm vl i).length (lcL (rwL f nm vl i))) := ⟨hbw.out, by rw [HW.out]; exact hrow.out⟩
        clear hrow hbw HW hle
        go_wp2
        go_ret
        exact ⟨_, rfl, HE.out.2, HE.out.1⟩
end Go.Proofs.YtebjklppbkkinaaGreatDoor.K
