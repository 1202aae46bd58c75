/- A bundle of texts. -/
import Derived.Test.YtbciclnffokjjaaDoorBb38
import Derived.Test.YtbciclnffokjjaaDoorTie
import Derived.Test.YtbciclnffokjjaaDoorCards
import Derived.Lib.LaidU8
import Derived.PinnedBridge
import Derived.Lay
import Derived.ChangeMaps5
/- RxprogBegins: the walk. -/
namespace Go.Proofs.YtbciclnffokjjaaDoor
open Go.RowKit Go.Lib

set_option maxHeartbeats 1000000 in
set_option maxRecDepth 100000 in
theorem lit_any (w : World) : Calls Tryd.prog 5 #[.int .i32 97] w fun e w' => e = .returned (ndV ltN) ∧ Below w.heap.size w w' := by
  go_enter Tryd.func5, Tryd.ntmps5
  go_wp2
  have hc := ndX_cells (w := w) ltN (W := w.alloc (ndX ltN)) (Below.refl _ _)
  obtain ⟨q0, q1, q2, q3, q4, q5, q6, q7, q8⟩ := hc
  simp only [Nat.zero_add, ltN, ndX, rxX] at q0 q1 q2 q3 q4 q5 q6 q7 q8
  refine bodyPost_ret (v := ndV ltN) (by simp [results, Tryd.results5, go_sem, q0, q1, q2, q3, q4, q5, q6, q7, q8, ltN]) rfl ⟨rfl, (Below.refl _ _).alloc (Nat.le_refl _) _⟩
/-- What is said of the front and of what a program takes. -/
theorem begins_ok {t : Tr} {s : ByteArray} (h0 : 0 < sizF t) (h1 : sizF t ≤ 10000) (hm : Mn s 8195 t 0 s.size) : (preF t).length ≤ s.size ∧ s.extract 0 (preF t).length = bA (preF t) := by
  obtain ⟨hok, _, _⟩ := sizF_ok (t := t) (by omega) h1
  have hf := fr_ok cmC_sub cmC_self 8195 t (WF_ok hok) 0 s.size hm
  have hp : preF t = (frF cmC 8195 t).1 := by unfold preF; rw [if_pos ⟨h0, h1⟩]
  have hb : preF t <+: s.data.toList := by rw [hp]; have := hf.1; unfold Bg at this; rwa [List.drop_zero] at this
  refine ⟨by rw [← size_len]; exact hb.length_le, ?_⟩
  apply ByteArray.ext
  rw [ByteArray.data_extract]
  apply Array.toList_inj.1
  rw [Array.toList_extract, List.extract_eq_take_drop]
  simp
  exact (List.prefix_iff_eq_take.1 hb).symm

set_option maxHeartbeats 4000000 in
set_option maxRecDepth 100000 in
theorem begins_walk (t : Tr) (s : ByteArray) (w : World) (ht : Tat w.heap.size w t) (hs : s.size ≤ 140737488351232) (hT : Lib.Utf8Tabs 0 1 w) :
    Calls Tryd.prog 3 #[ndV (t []), .string s] w fun e w' => e = .returned (.bool true) ∧ Below w.heap.size w w' := by
  have hsz := tabs_size hT
  obtain ⟨W, hW⟩ : ∃ W, W = w.alloc (ndX (t [])) := ⟨_, rfl⟩
  have HW : Hid (W = w.alloc (ndX (t []))) := hW
  have hWz : W.heap.size = w.heap.size + 1 := by rw [hW]; simp
  have hb0 : Below w.heap.size w W := by rw [hW]; exact (Below.refl _ w).alloc (Nat.le_refl _) _
  have hc0 : Cs W w.heap.size 0 (t []) := ndX_cells (w := w) (t []) (by rw [hW]; exact Below.refl _ _)
  have HK : Hid (∀ w2, Below W.heap.size W w2 → Cs w2 w.heap.size 0 (t []) ∧ Tat w2.heap.size w2 t ∧ Lib.Utf8Tabs 0 1 w2 ∧ Below w.heap.size w w2 ∧ w.heap.size < w2.heap.size) := fun w2 b => ⟨hc0.below b (by omega), (((ht.below hb0).mono hb0.size).below b).mono b.size, tabs_below (tabs_below hT hsz hb0) (by omega) b, hb0.trans (b.mono hb0.size), by have := b.size; omega⟩
  have kL := lit_any W
  have HKP : Hid (∀ w1, Below W.heap.size W w1 → Calls Tryd.prog 4 #[ndV (rpN w1.heap.size)] (w1.alloc (ndX ltN)) fun e w' => e = .returned (.string ⟨#[97, 97, 97]⟩) ∧ Below W.heap.size W w') := fun w1 b1 => by
    have hal : Below w1.heap.size w1 (w1.alloc (ndX ltN)) := (Below.refl _ w1).alloc (Nat.le_refl _) _
    have hbb : Below W.heap.size W (w1.alloc (ndX ltN)) := b1.trans (hal.mono b1.size)
    have := prefix_any (rpT w1.heap.size) (w1.alloc (ndX ltN)) (rp_at (by simp) (ndX_cells (w := w1) ltN (Below.refl _ _))) (HK.out _ hbb).2.2.1
    rw [pre_rp] at this
    exact this.mono fun e w' ⟨h1, h2⟩ => ⟨h1, hbb.trans (h2.mono hbb.size)⟩
  clear hW hb0 hc0 hT
  by_cases hno : sizF t = 0 ∨ 10000 < sizF t
  · have hpe : preF t = [] := by unfold preF; rw [if_neg (by omega)]
    have HKC : Hid (∀ w3, Below W.heap.size W w3 → (Calls Tryd.prog 6 #[ndV (t [])] w3 fun e w' => e = .returned (.tuple #[prV none 0 0 0 0 none 0 0, .int .i64 (if sizF t = 0 then 2 else 90)]) ∧ Below W.heap.size W w')) := fun w3 b => (compile_no t w3 (HK.out w3 b).2.1 hno).mono fun e w' ⟨h1, h2⟩ => ⟨h1, b.trans (h2.mono b.size)⟩
    have HKX : Hid (∀ w3, Below W.heap.size W w3 → (Calls Tryd.prog 4 #[ndV (t [])] w3 fun e w' => e = .returned (.string ⟨#[]⟩) ∧ Below W.heap.size W w')) := fun w3 b => by
      have := prefix_any t w3 (HK.out w3 b).2.1 (HK.out w3 b).2.2.1
      rw [hpe] at this
      exact this.mono fun e w' ⟨h1, h2⟩ => ⟨h1, b.trans (h2.mono b.size)⟩
    obtain ⟨en, hen, hen0⟩ : ∃ en : Int, (if sizF t = 0 then (2 : Int) else 90) = en ∧ ¬ en = 0 := ⟨_, rfl, by split <;> decide⟩
    rw [hen] at HKC
    have hen1 : (en != 0) = true := by simpa using hen0
    have HKB : Hid (∀ w2, Below W.heap.size W w2 → Cs w2 w.heap.size 0 (t []) ∧ Below w.heap.size w w2) := fun w2 b => ⟨(HK.out w2 b).1, (HK.out w2 b).2.2.2.1⟩
    clear hno hpe hen hen0 ht HK
    generalize t [] = d at *
    go_enter Tryd.func3, Tryd.ntmps3
    go_upto_region 1 with fail
    rw [← HW.out]
    go_wp2_with fail
    go_fit kL
    rintro e w1 ⟨rfl, b1⟩
    have kP := HKP.out w1 b1
    clear kL HKP b1
    go_wp2_with fail
    go_fit kP
    rintro e w3 ⟨rfl, b3⟩
    have kC := HKC.out w3 b3
    obtain ⟨hc3, hb3⟩ := HKB.out w3 b3
    obtain ⟨q0, q1, q2, q3, q4, q5, q6, q7, q8⟩ := hc3
    simp only [Nat.zero_add] at q0 q1 q2 q3 q4 q5 q6 q7 q8
    clear kP HKC b3 hb3
    go_wp2_with fail
    go_fit kC
    rintro e w5 ⟨rfl, b5⟩
    obtain ⟨V, hV⟩ : ∃ V, V = w5.alloc (prX none 0 0 0 0 none 0 0) := ⟨_, rfl⟩
    have HV : Hid (V = w5.alloc (prX none 0 0 0 0 none 0 0)) := hV
    have bV : Below W.heap.size W V := by rw [hV]; exact b5.trans (((Below.refl _ w5).alloc (Nat.le_refl _) _).mono b5.size)
    have kX := HKX.out V bV
    obtain ⟨hc5, hb5⟩ := HKB.out V bV
    obtain ⟨s0, s1, s2, s3, s4, s5, s6, s7, s8⟩ := hc5
    simp only [Nat.zero_add] at s0 s1 s2 s3 s4 s5 s6 s7 s8
    have HFB : Hid (∀ w7, Below W.heap.size W w7 → Below w.heap.size w w7) := fun w7 b => (HKB.out w7 b).2
    clear hV bV b5 kC HKX HKB hb5
    go_upto_region 4 with fail
    rw [← HV.out]
    go_wp2_with fail
    go_fit kX
    rintro e w7 ⟨rfl, b7⟩
    have HB7 : Hid (Below w.heap.size w w7) := HFB.out w7 b7
    clear b7 kX HFB
    go_wp2
    go_ret
    exact ⟨rfl, HB7.out⟩
  · have h0 : ¬ sizF t = 0 := by omega
    have h1 : sizF t ≤ 10000 := by omega
    obtain ⟨hok, hlen, _⟩ := sizF_ok h0 h1
    have hwf := WF_ok hok
    have h0p : 0 < sizF t := by
      unfold sizF at h0 ⊢
      rw [if_pos hok] at h0 ⊢
      have := (lenF_bd 8195 t hwf).1
      omega
    have hcl := cod_len 8195 t 0 hwf (by omega)
    have hpl : (prgC t).length = (cod 8195 t 0).length + 1 := by unfold prgC; simp
    obtain ⟨N, hN⟩ : ∃ N, (prgC t).length = N := ⟨_, rfl⟩
    have hN1 : N ≤ 10001 := by omega
    have HKC : Hid (∀ w3, Below W.heap.size W w3 → (Calls Tryd.prog 6 #[ndV (t [])] w3 fun e w' => (∃ a cc gr na nn nc, e = .returned (.tuple #[prV a N cc 0 gr na nn nc, .int .i64 0]) ∧ Hid (∀ w5, Below w'.heap.size w' w5 → Calls Tryd.prog 7 #[prV a N cc 0 gr na nn nc, .string s] w5 fun e w'' => (∃ v, e = .returned (.int .i64 v) ∧ Hid (v = 1 → (preF t).length ≤ s.size ∧ s.extract 0 (preF t).length = bA (preF t))) ∧ Below w5.heap.size w5 w'')) ∧ Below W.heap.size W w')) := fun w3 b => (compile_yes t w3 (HK.out w3 b).2.1 h0 h1).mono fun e w' ⟨⟨iv, nv, s1, he, _, _, how, hnv⟩, hbw⟩ => by
      obtain ⟨a, cc, hiv, _⟩ := how.pg
      obtain ⟨na, nc, hnf⟩ := Sp.form hnv
      rw [hiv, hnf, hN] at he
      refine ⟨⟨a, cc, _, na, _, nc, he, fun w5 b5 => ?_⟩, b.trans (hbw.mono b.size)⟩
      have htW := (HK.out w3 b).2.1
      have := taken_tree (t := t) (S := w3.heap.size) (W := w3) (w := w5) (iv := iv) (nv := nv) (gr := (s1.n : Int)) s htW h0 h1 (how.below b5) (hnv.kept (grown_below b5) (by cases nv.ownBlock <;> simp)) (by omega)
      rw [hiv, hnf, hN] at this
      refine this.mono ?_
      rintro e' w'' ⟨⟨v, he', hv⟩, hb''⟩
      refine ⟨⟨v, he', fun hv1 => ?_⟩, hb''⟩
      rcases hv with ⟨hv2, _⟩ | ⟨_, ⟨_, hmn⟩ | ⟨hv0, _⟩⟩
      · omega
      · exact begins_ok h0p h1 hmn
      · omega
    have HKX : Hid (∀ w3, Below W.heap.size W w3 → (Calls Tryd.prog 4 #[ndV (t [])] w3 fun e w' => e = .returned (.string (bA (preF t))) ∧ Below w3.heap.size w3 w' ∧ Below W.heap.size W w')) := fun w3 b => (prefix_any t w3 (HK.out w3 b).2.1 (HK.out w3 b).2.2.1).mono fun e w' ⟨h1, h2⟩ => ⟨h1, h2, b.trans (h2.mono b.size)⟩
    have HKB : Hid (∀ w2, Below W.heap.size W w2 → Cs w2 w.heap.size 0 (t []) ∧ Below w.heap.size w w2) := fun w2 b => ⟨(HK.out w2 b).1, (HK.out w2 b).2.2.2.1⟩
    have hNI : (N : Int) ≤ 10001 := by omega
    have hsI : (s.size : Int) ≤ 140737488351232 := by omega
    clear hno ht HK h0 h1 hok hlen hwf h0p hcl hpl hN
    generalize preF t = PF at *
    generalize t [] = d at *
    go_enter Tryd.func3, Tryd.ntmps3
    go_upto_region 1 with fail
    rw [← HW.out]
    go_wp2_with fail
    go_fit kL
    rintro e w1 ⟨rfl, b1⟩
    have kP := HKP.out w1 b1
    clear kL HKP b1
    go_wp2_with fail
    go_fit kP
    rintro e w3 ⟨rfl, b3⟩
    have kC := HKC.out w3 b3
    obtain ⟨hc3, hb3⟩ := HKB.out w3 b3
    obtain ⟨q0, q1, q2, q3, q4, q5, q6, q7, q8⟩ := hc3
    simp only [Nat.zero_add] at q0 q1 q2 q3 q4 q5 q6 q7 q8
    clear kP HKC b3 hb3
    go_wp2_with fail
    go_fit kC
    rintro e w5 ⟨⟨a, cc, gr, na, nn, nc, rfl, HTK⟩, b5⟩
    obtain ⟨V, hV⟩ : ∃ V, V = w5.alloc (prX a N cc 0 gr na nn nc) := ⟨_, rfl⟩
    have HV : Hid (V = w5.alloc (prX a N cc 0 gr na nn nc)) := hV
    have b5V : Below w5.heap.size w5 V := by rw [hV]; exact (Below.refl _ w5).alloc (Nat.le_refl _) _
    have bV : Below W.heap.size W V := b5.trans (b5V.mono b5.size)
    have kX := HKX.out V bV
    obtain ⟨hc5, hb5⟩ := HKB.out V bV
    obtain ⟨s0, s1, s2, s3, s4, s5, s6, s7, s8⟩ := hc5
    simp only [Nat.zero_add] at s0 s1 s2 s3 s4 s5 s6 s7 s8
    have HPC : Hid (∀ w7, Below V.heap.size V w7 → (w7.cell? ⟨w5.heap.size, 0, none⟩ = some (.slice a N cc) ∧ w7.cell? ⟨w5.heap.size, 1, none⟩ = some (.int .i64 0) ∧ w7.cell? ⟨w5.heap.size, 2, none⟩ = some (.int .i64 gr) ∧ w7.cell? ⟨w5.heap.size, 3, none⟩ = some (.slice na nn nc)) ∧ Calls Tryd.prog 7 #[prV a N cc 0 gr na nn nc, .string s] w7 fun e w'' => (∃ v, e = .returned (.int .i64 v) ∧ Hid (v = 1 → PF.length ≤ s.size ∧ s.extract 0 PF.length = bA PF)) ∧ Below w7.heap.size w7 w'') := fun w7 b7 => ⟨prX_cells a N cc 0 gr na nn nc (by rw [← hV]; exact b7), HTK.out w7 (b5V.trans (b7.mono b5V.size))⟩
    have HFB : Hid (∀ w7, Below W.heap.size W w7 → Below w.heap.size w w7) := fun w7 b => (HKB.out w7 b).2
    clear hV bV b5 kC HKX HKB hb5 b5V HTK
    go_upto_region 4 with fail
    rw [← HV.out]
    go_wp2_with fail
    go_fit kX
    rintro e w7 ⟨rfl, b7V, b7⟩
    have HB7 : Hid (Below w.heap.size w w7) := HFB.out w7 b7
    obtain ⟨⟨x0, x1, x2, x3⟩, kT⟩ := HPC.out w7 b7V
    clear b7 kX HFB b7V HPC
    have hmul : 0 ≤ (s.size : Int) * N ∧ (s.size : Int) * N ≤ 140737488351232 * 10001 := ⟨Int.mul_nonneg (by omega) (by omega), Int.mul_le_mul hsI hNI (by omega) (by omega)⟩
    obtain ⟨hm0, hm1⟩ := hmul
    have HM : Hid ((s.size : Int) * N ≤ 140737488351232 * 10001) := hm1
    by_cases hbig : 1048576 < (s.size : Int) * N
    · clear kT
      go_wp2
      go_ret
      exact ⟨rfl, HB7.out⟩
    · go_wp2_with fail
      go_fit kT
      rintro e w9 ⟨⟨v, rfl, hv⟩, b9⟩
      have HB9 : Hid (Below w.heap.size w w9) := HB7.out.trans (b9.mono HB7.out.size)
      clear b9 kT
      by_cases h1 : v = 1
      · obtain ⟨hle, hex⟩ := hv.out h1
        have hleI : (PF.length : Int) ≤ s.size := by omega
        have hv1 : (v != 1) = false := by simpa using h1
        clear hv h1
        go_wp2
        go_ret
        exact ⟨rfl, HB9.out⟩
      · have hv1 : (v != 1) = true := by simpa using h1
        clear hv h1
        go_wp2
        go_ret
        exact ⟨rfl, HB9.out⟩
end Go.Proofs.YtbciclnffokjjaaDoor
/- RxprogBegins: the row and its card. -/
namespace Go.Proofs.YtbciclnffokjjaaDoor
open Go.ChangeShapes Go.WideShapes Go.ChangeAt Go.RowKit Go.Lib

theorem u8x : U8Extra Tryd.prog Tryd.lays260_ren := ⟨by kernel_rfl, by kernel_rfl, by kernel_rfl, by kernel_rfl, by kernel_rfl, by kernel_rfl, by kernel_rfl⟩
theorem acc_eq : (Rows.laid_unicode_utf8_acceptRanges : DataW Unit) = acceptData := by kernel_rfl
/-- The tables, as a plain name for the list that the row bears. -/
def laidL : List (String × DataW Unit) := Rows.rxprogBeginsRow.laid
theorem tabs_of {W : World} (h : laidMetH Tryd.prog laidL W) : Lib.Utf8Tabs 0 1 W := by
  rw [MakeChecks.laidMetH_plain _ _ _ (by kernel_rfl)] at h
  have h4 := Lib.laidMet.reads h (d := Rows.laid_unicode_utf8_acceptRanges) (.head _)
  have h3 := Lib.laidMet.reads h (d := Rows.laid_unicode_utf8_first) (.tail _ (.head _))
  rw [acc_eq] at h4
  have e3 : Rows.laid_unicode_utf8_first = firstData := Pinned.utf8First_eq
  rw [e3] at h3
  exact utf8Tabs_of_reads Tryd.lays260 u8x h3 h4

set_option maxRecDepth 100000 in
theorem begins_lifted (os : Os) (started : os.Started) (H : Type) (enc : TypeId × Value → H) :
    ReturnsInHanded {} Tryd.checked os 3 .any (fun w args => (Rows.rxprogBeginsSpec.pre enc Tryd.prog Tryd.f3 [] false w args ∧ laidMetH Tryd.prog laidL w) ∧ sizedMet enc Tryd.prog Tryd.f3 (OpenSpec.ofChange Rows.rxprogBeginsSpec) false w args)
      (Rows.rxprogBeginsSpec.post enc Tryd.prog Tryd.f3 false true false false) := by
  refine returnsInHanded_of_change_and (C := Tryd.checked) (X := fun w _ => laidMetH Tryd.prog laidL w) (fun _ _ _ hh h => h.of_heap hh) own started (by kernel_rfl) Tryd.func3
    (ChangeSpec.witness_shaped (enc := enc) (C := Tryd.checked) (os := os) (X := fun w _ => laidMetH Tryd.prog laidL w) false (World.laidAll Tryd.prog os laidL) #[ndV nd0, .string ⟨#[]⟩] 8 (World.laidAll_os _ _ _)
      (World.shaped_of_ZipB (by kernel_rfl) (by kernel_rfl)) (by kernel_rfl) (by kernel_rfl) (by kernel_rfl)
      (by rw [MakeChecks.laidMetH_plain _ _ _ (by kernel_rfl)]; exact laidMet_laidAll _ (by kernel_rfl) (by kernel_rfl))) ?_
  intro W base args ds gs before hval0 hW _ hz0 hL _
  have hval : ∀ (j : Nat) t v, Tryd.f3.params[j]? = some t → args[j]? = some v → Value.okWide Tryd.prog W .any base t v := hval0
  have hW' := hW
  obtain ⟨p, q, hA0, hV, rfl, _, _⟩ := hW
  have hA : DataW.TrodAll enc Tryd.prog W 0 (fun _ => true) true Tryd.f3.params.toList args.toList ds p := hA0
  have hsz : (DataW.weightsEach Tryd.prog (Tryd.f3.params.toList ++ Rows.rxprogBeginsSpec.plain.varTypes Tryd.prog) (ds ++ gs)).all (· ≤ reachBytes) = true := hz0
  rw [Tryd.params3] at hA hval hsz
  obtain ⟨v0, v1, d0, d1, p0, p1, rfl, rfl, rfl, h0, h1⟩ := trodAll_two hA
  obtain ⟨rfl, rfl⟩ := trodVars_none hV
  obtain ⟨cs, rfl, hcs⟩ := okWide_struct Tryd.underlying25 (hval 0 25 v0 rfl rfl)
  have k0 := h0
  have k1 := h1
  have lt0 : ∀ x ∈ p0, x.block < W.heap.size := by obtain ⟨m, hm⟩ := k0; exact DataW.trod_lt m _ _ _ hm
  have lt1 : ∀ x ∈ p1, x.block < W.heap.size := by obtain ⟨m, hm⟩ := k1; exact DataW.trod_lt m _ _ _ hm
  have z0 : ∀ n ∈ d0.weights Tryd.prog 25, n ≤ reachBytes := fun n hn => by
    have := List.all_eq_true.1 hsz _ (DataW.weights_mem_each (j := 0) (t := 25) (d := d0) rfl rfl n hn)
    simpa using this
  have z1 : ∀ n ∈ d1.weights Tryd.prog 9, n ≤ reachBytes := fun n hn => by
    have := List.all_eq_true.1 hsz _ (DataW.weights_mem_each (j := 1) (t := 9) (d := d1) rfl rfl n hn)
    simpa using this
  have hT := tabs_of hL
  have hr : reachBytes = 140737488351232 := by decide
  obtain ⟨s, rfl, rfl, rfl, hsa⟩ := Go.ChangeMaps.open_string Tryd.underlying9 (hval 1 9 v1 rfl rfl) h1
  have hs : s.size ≤ 140737488351232 := by
    have := z1 s.data.toList.length (by simp [DataW.weights])
    rw [size_len, hr] at this
    exact this
  have walk : Calls Tryd.prog 3 #[.agg cs, .string s] W fun e w' => e = .returned (.bool true) ∧ Below W.heap.size W w' := by
    obtain ⟨fuel, hf0⟩ := h0
    have hf : DataW.trod enc Tryd.prog W 0 (fun _ => true) true fuel 25 cs.toList = some (d0, p0) := hf0
    obtain ⟨t, ecl, ht⟩ := tree_open fuel cs.toList d0 p0 hf z0
    have ecs : cs = (ndC (t [])).toArray := by rw [← Array.toArray_toList (xs := cs), ecl]
    rw [ecs]
    exact begins_walk t s W ht hs hT
  refine walk.mono fun e W' ⟨he, bel⟩ => ?_
  subst he
  exact ⟨_, rfl, _, _, _, [], _, [], hW', trodAll_mk1 (shut_bool Tryd.underlying4 _), trodAll_mk2 (Below.trod laidOut (by kernel_rfl) (of_decide_eq_true (by kernel_rfl)) k0 bel lt0) (Below.trod laidOut (by kernel_rfl) (of_decide_eq_true (by kernel_rfl)) k1 bel lt1), rfl, bel.frame _, fun h => by cases h⟩

theorem begins_said : Rows.RxprogBeginsSaid :=
  OpenClaim.holds_of_wide 3 Tryd.f3 rfl rfl rfl rfl rfl rfl rfl ⟨rfl, rfl, rfl, rfl, rfl⟩ rfl rfl rfl rfl rfl (by kernel_rfl) Tryd.func3 (by kernel_rfl)
    (of_decide_eq_true (by kernel_rfl)) (by unfold Func.isWrapper; first | (rw [if_pos (by decide +kernel)]; kernel_rfl) | (rw [if_neg (by decide +kernel)]; exact ⟨rfl, rfl⟩))
    (fun os started H enc _ => begins_lifted os started H enc)

theorem begins_plain (f : FuncId) (fn : Func) (hf : Tryd.pinned.checked.prog.funcNamed Rows.rxprogBeginsRow.func = some f) (hfn : Tryd.pinned.checked.prog.funcs[f]? = some fn) :
    true = Tryd.pinned.checked.prog.looks [] ∧ ∀ (j : Nat) t, fn.params[j]? = some t → Tryd.pinned.checked.prog.wantsStandIn t = false := by
  obtain rfl : f = 3 := Option.some.inj ((show Tryd.prog.funcNamed Rows.rxprogBeginsRow.func = some 3 by kernel_rfl).symm.trans hf) |>.symm
  obtain rfl : fn = Tryd.f3 := (Option.some.inj (Tryd.func3.symm.trans hfn)).symm
  refine ⟨by kernel_rfl, fun j t ht => ?_⟩
  rw [Tryd.params3] at ht
  have hm : t ∈ [25, 9] := by simpa using Array.mem_of_getElem? ht
  have hall : ([25, 9].all fun u => !Tryd.prog.wantsStandIn u) = true := by kernel_rfl
  exact (show Tryd.prog.wantsStandIn t = false by simpa using List.all_eq_true.1 hall t hm)

theorem begins_card : Rows.RxprogBeginsCardSaid :=
  Claim7.holds_tied_plain_at .later [] _ _ _ _ begins_said (fun _ h => by cases h) (by kernel_rfl) (fun _ h => by cases h) rxprogBegins_row_tie rfl ⟨rfl, rfl⟩ (by kernel_rfl) rfl begins_plain (by kernel_rfl)
#print axioms begins_card
end Go.Proofs.YtbciclnffokjjaaDoor
