/- A bundle of texts. -/
import Derived.Test.YtmjenemjbpimcabGreatBc33
import Derived.Test.YtmjenemjbpimcabGreatBc22
/- Both sides of every function. -/
namespace Go.Proofs.YtmjenemjbpimcabGreat
open Go.RowKit

/-- What the reference's Call answers for a function of the table. -/
def GenR (k : Nat) (ss : Nat → Smp) (n : Nat) (args : List Nat) (R : Int → Int → Int → Option Nat) : Prop := ∀ (F T N : Int) (W : World) (a : Option Addr) (c : Nat) (aa : Option Addr) (ca : Nat), HypW a n ss W → n ≤ c → Fm W aa args → Calls Tryz.prog 12 #[.string (fnAt k).1, Wn a n c F T N, .slice aa args.length ca] W (RX W (args.length = (fnAt k).2.1 ∧ (fnAt k).2.2.1 ≤ n ∧ Snd ss n F T N) (R F T N))
theorem fn_both (k : Nat) (hk : k < 23) (ss : Nat → Smp) (n : Nat) (args : List Nat) (hl : 24 * n ≤ 140737488355328) : ∃ R, Gen k ss n args R ∧ GenR k ss n args R := by
  have hlen : (cs (vls ss n)).length * 8 ≤ 140737488355328 := by rw [cs_len, vls_len]; omega
  rcases (show k = 0 ∨ k = 1 ∨ k = 2 ∨ k = 3 ∨ k = 4 ∨ k = 5 ∨ k = 6 ∨ k = 7 ∨ k = 8 ∨ k = 9 ∨ k = 10 ∨ k = 11 ∨ k = 12 ∨ k = 13 ∨ k = 14 ∨ k = 15 ∨ k = 16 ∨ k = 17 ∨ k = 18 ∨ k = 19 ∨ k = 20 ∨ k = 21 ∨ k = 22 by omega) with rfl | rfl | rfl | rfl | rfl | rfl | rfl | rfl | rfl | rfl | rfl | rfl | rfl | rfl | rfl | rfl | rfl | rfl | rfl | rfl | rfl | rfl | rfl
  · exact ⟨fun F T N => some (nW n), fun F T N W a c aa ca h hc hA hn1 hn2 => count_fn a n c F T N _ W, fun F T N W a c aa ca h hc hA => rcall_plain 0 (by decide) (by decide) _ rfl a n c F T N ss aa ca args _ W h (fun hl hn W2 v S b hf => rplain_0 a n c F T N ss v S aa ca args W2 (h.below b) (hn) hf (hA.below b) hl)⟩
  · exact ⟨fun F T N => some 4607182418800017408, fun F T N W a c aa ca h hc hA hn1 hn2 => present_fn a n c F T N _ W, fun F T N W a c aa ca h hc hA => rcall_plain 1 (by decide) (by decide) _ rfl a n c F T N ss aa ca args _ W h (fun hl hn W2 v S b hf => rplain_1 a n c F T N ss v S aa ca args W2 (h.below b) (hn) hf (hA.below b) hl)⟩
  · exact ⟨fun F T N => cl (ss 0).v, fun F T N W a c aa ca h hc hA hn1 hn2 => first_fn a n c F T N ss _ W h hn2, fun F T N W a c aa ca h hc hA => rcall_plain 2 (by decide) (by decide) _ rfl a n c F T N ss aa ca args _ W h (fun hl hn W2 v S b hf => rplain_2 a n c F T N ss v S aa ca args W2 (h.below b) (hn) hf (hA.below b) hl)⟩
  · exact ⟨fun F T N => cl (ss (n - 1)).v, fun F T N W a c aa ca h hc hA hn1 hn2 => last_fn a n c F T N ss _ W h hn2, fun F T N W a c aa ca h hc hA => rcall_plain 3 (by decide) (by decide) _ rfl a n c F T N ss aa ca args _ W h (fun hl hn W2 v S b hf => rplain_3 a n c F T N ss v S aa ca args W2 (h.below b) (hn) hf (hA.below b) hl)⟩
  · exact ⟨fun F T N => sumF (cs (vls ss n)), fun F T N W a c aa ca h hc hA hn1 hn2 => sum_fn a n c F T N ss _ W h, fun F T N W a c aa ca h hc hA => rcall_plain 4 (by decide) (by decide) _ rfl a n c F T N ss aa ca args _ W h (fun hl hn W2 v S b hf => rplain_4 a n c F T N ss v S aa ca args W2 (h.below b) (hn) hf (hA.below b) hl)⟩
  · exact ⟨fun F T N => meanF (vls ss n), fun F T N W a c aa ca h hc hA hn1 hn2 => mean_fn a n c F T N ss _ W h, fun F T N W a c aa ca h hc hA => rcall_plain 5 (by decide) (by decide) _ rfl a n c F T N ss aa ca args _ W h (fun hl hn W2 v S b hf => rplain_5 a n c F T N ss v S aa ca args W2 (h.below b) (hn) hf (hA.below b) hl)⟩
  · exact ⟨fun F T N => sprF (vls ss n), fun F T N W a c aa ca h hc hA hn1 hn2 => spread_fn a n c F T N ss _ W h, fun F T N W a c aa ca h hc hA => rcall_plain 6 (by decide) (by decide) _ rfl a n c F T N ss aa ca args _ W h (fun hl hn W2 v S b hf => rplain_6 a n c F T N ss v S aa ca args W2 (h.below b) (hn) hf (hA.below b) hl)⟩
  · exact ⟨fun F T N => varF (vls ss n), fun F T N W a c aa ca h hc hA hn1 hn2 => variance_fn a n c F T N ss _ W h, fun F T N W a c aa ca h hc hA => rcall_plain 7 (by decide) (by decide) _ rfl a n c F T N ss aa ca args _ W h (fun hl hn W2 v S b hf => rplain_7 a n c F T N ss v S aa ca args W2 (h.below b) (hn) hf (hA.below b) hl)⟩
  · exact ⟨fun F T N => outI true (fun j => (ss j).v) (n - 1), fun F T N W a c aa ca h hc hA hn1 hn2 => highest_fn a n c F T N ss _ W h hn2 hc, fun F T N W a c aa ca h hc hA => rcall_plain 8 (by decide) (by decide) _ rfl a n c F T N ss aa ca args _ W h (fun hl hn W2 v S b hf => rplain_8 a n c F T N ss v S aa ca args W2 (h.below b) (hn) hf (hA.below b) hl)⟩
  · exact ⟨fun F T N => outI false (fun j => (ss j).v) (n - 1), fun F T N W a c aa ca h hc hA hn1 hn2 => lowest_fn a n c F T N ss _ W h hn2 hc, fun F T N W a c aa ca h hc hA => rcall_plain 9 (by decide) (by decide) _ rfl a n c F T N ss aa ca args _ W h (fun hl hn W2 v S b hf => rplain_9 a n c F T N ss v S aa ca args W2 (h.below b) (hn) hf (hA.below b) hl)⟩
  · obtain ⟨C, hC, hCr⟩ := quantile_cs2 (args.getD 0 0) (cs (vls ss n)) hlen
    exact ⟨fun F T N => C, fun F T N W a c aa ca h hc hA hn1 hn2 => quantile_fn a n c F T N ss aa ca args C W h hA hn1 hC, fun F T N W a c aa ca h hc hA => rcall_plain 10 (by decide) (by decide) _ rfl a n c F T N ss aa ca args _ W h (fun hl hn W2 v S b hf => rplain_10 a n c F T N ss v S aa ca args W2 (h.below b) (hn) hf (hA.below b) hl C hCr)⟩
  · obtain ⟨C1, h1, h1r⟩ := quantile_cs2 4602678819172646912 (cs (vls ss n)) hlen
    obtain ⟨C2, h2, h2r⟩ := quantile_cs2 4602678819172646912 ((List.range (vls ss n).length).map (dsF (vls ss n) C1)) (by rw [List.length_map, List.length_range, vls_len]; omega)
    exact ⟨fun F T N => C2, fun F T N W a c aa ca h hc hA hn1 hn2 => mad_fn a n c F T N ss _ C1 C2 W h hn2 h1 h2, fun F T N W a c aa ca h hc hA => rcall_plain 11 (by decide) (by decide) _ rfl a n c F T N ss aa ca args _ W h (fun hl hn W2 v S b hf => rplain_11 a n c F T N ss v S aa ca args W2 (h.below b) (hn) hf (hA.below b) hl C1 C2 h1r h2r)⟩
  · exact ⟨fun F T N => some (nW (ctI chB (fun j => (ss j).v) (n - 1))), fun F T N W a c aa ca h hc hA hn1 hn2 => changes_fn a n c F T N ss _ W h hn2 hc, fun F T N W a c aa ca h hc hA => rcall_plain 12 (by decide) (by decide) _ rfl a n c F T N ss aa ca args _ W h (fun hl hn W2 v S b hf => rplain_12 a n c F T N ss v S aa ca args W2 (h.below b) (hn) hf (hA.below b) hl)⟩
  · exact ⟨fun F T N => some (nW (ctI (fun x y => ltB y x) (fun j => (ss j).v) (n - 1))), fun F T N W a c aa ca h hc hA hn1 hn2 => resets_fn a n c F T N ss _ W h hn2 hc, fun F T N W a c aa ca h hc hA => rcall_plain 13 (by decide) (by decide) _ rfl a n c F T N ss aa ca args _ W h (fun hl hn W2 v S b hf => rplain_13 a n c F T N ss v S aa ca args W2 (h.below b) (hn) hf (hA.below b) hl)⟩
  · exact ⟨fun F T N => exF ss n F T true true, fun F T N W a c aa ca h hc hA hn1 hn2 => rate_fn a n c F T N ss _ W h hn2, fun F T N W a c aa ca h hc hA => rcall_14 a n c F T N ss aa ca args.length W h⟩
  · exact ⟨fun F T N => exF ss n F T true false, fun F T N W a c aa ca h hc hA hn1 hn2 => increase_fn a n c F T N ss _ W h hn2, fun F T N W a c aa ca h hc hA => rcall_15 a n c F T N ss aa ca args.length W h⟩
  · exact ⟨fun F T N => exF ss n F T false false, fun F T N W a c aa ca h hc hA hn1 hn2 => delta_fn a n c F T N ss _ W h hn2, fun F T N W a c aa ca h hc hA => rcall_16 a n c F T N ss aa ca args.length W h⟩
  · exact ⟨fun F T N => inF ss n true, fun F T N W a c aa ca h hc hA hn1 hn2 => irate_fn a n c F T N ss _ W h hn2, fun F T N W a c aa ca h hc hA => rcall_17 a n c F T N ss aa ca args.length W h⟩
  · exact ⟨fun F T N => inF ss n false, fun F T N W a c aa ca h hc hA hn1 hn2 => idelta_fn a n c F T N ss _ W h hn2, fun F T N W a c aa ca h hc hA => rcall_18 a n c F T N ss aa ca args.length W h⟩
  · exact ⟨fun F T N => liS (fun j => df (ss j).t (ss 0).t) (fun j => (ss j).v) n (lvB ss n), fun F T N W a c aa ca h hc hA hn1 hn2 => slope_fn a n c F T N ss _ W h (Nat.le_trans (by decide) hn2) hc, fun F T N W a c aa ca h hc hA => rcall_19 a n c F T N ss aa ca args.length W h hc⟩
  · exact ⟨fun F T N => fb .add (liV (fun j => df (ss j).t N) (fun j => (ss j).v) n (lvB ss n)) (fb .mul (liS (fun j => df (ss j).t N) (fun j => (ss j).v) n (lvB ss n)) (cl (args.getD 0 0))), fun F T N W a c aa ca h hc hA hn1 hn2 => predict_fn a n c F T N ss aa ca args W h hc hA hn1, fun F T N W a c aa ca h hc hA => rcall_20 a n c F T N ss aa ca args.length W h args hA rfl⟩
  · exact ⟨fun F T N => smoF (cl (args.getD 0 0)) (cl (args.getD 1 0)) (vls ss n), fun F T N W a c aa ca h hc hA hn1 hn2 => smooth_fn a n c F T N ss aa ca args W h hA hn1, fun F T N W a c aa ca h hc hA => rcall_plain 21 (by decide) (by decide) _ rfl a n c F T N ss aa ca args _ W h (fun hl hn W2 v S b hf => rplain_21 a n c F T N ss v S aa ca args W2 (h.below b) (Nat.le_trans (by decide) hn) hf (hA.below b) hl)⟩
  · exact ⟨fun F T N => btF ss n (cl (args.getD 0 0)), fun F T N W a c aa ca h hc hA hn1 hn2 => beat_fn a n c F T N ss aa ca args W h hA hn1, fun F T N W a c aa ca h hc hA => rcall_plain 22 (by decide) (by decide) _ rfl a n c F T N ss aa ca args _ W h (fun hl hn W2 v S b hf => rplain_22 a n c F T N ss v S aa ca args W2 (h.below b) (hn) hf (hA.below b) hl)⟩
/-- Both sides of Call, whatever the name. -/
theorem call_both (nm : ByteArray) (a : Option Addr) (n c : Nat) (F T N : Int) (ss : Nat → Smp) (args : List Nat) (w : World) (h : HypW a n ss w) (hc : n ≤ c) (hn9 : args.length ≤ 9223372036854775807) :
    ∃ (p : Prop) (C : Option Nat), ∀ W aa ca, Below w.heap.size w W → Fm W aa args → Calls Tryz.prog 12 #[.string nm, Wn a n c F T N, .slice aa args.length ca] W (RX W p C) ∧ Calls Tryz.prog 9 #[.string nm, Wn a n c F T N, .slice aa args.length ca] W (RX W p C) := by
  by_cases hk : Knw nm
  · obtain ⟨k, hk, rfl⟩ := hk
    obtain ⟨R, h1, h2⟩ := fn_both k hk ss n args h.2.2
    exact ⟨_, R F T N, fun W aa ca b hf => ⟨h2 F T N W a c aa ca (h.below b) hc hf, call_gen k hk _ rfl a n c F T N ss aa args.length ca args R h1 W (h.below b) hc hf rfl hn9⟩⟩
  · refine ⟨False, none, fun W aa ca b hf => ⟨(rcall_un nm hk a n c F T N aa args.length ca W).mono fun r w' hx => ?_, (call_any nm a n c F T N ss aa args.length ca (fun _ => none) W (h.below b).1 (by have := h.2.2; omega) hn9 (fun i hi e => absurd ⟨i, hi, e⟩ hk) (fun i hfit => absurd ⟨i, hfit.1, hfit.2.1⟩ hk)).mono fun r w' hx => ?_⟩⟩
    · obtain ⟨rfl, b2⟩ := hx
      exact ⟨0, false, rfl, ⟨fun h => (by cases h), fun h => h.elim⟩, b2, by decide, fun h => (by cases h), fun _ => rfl⟩
    · obtain ⟨z, bb, rfl, b2, hz, hx⟩ := hx
      rcases hx with ⟨rfl, rfl, _⟩ | ⟨_, i, hfit, _⟩
      · exact ⟨0, false, rfl, ⟨fun h => (by cases h), fun h => h.elim⟩, b2, by decide, fun h => (by cases h), fun _ => rfl⟩
      · exact absurd ⟨i, hfit.1, hfit.2.1⟩ hk
end Go.Proofs.YtmjenemjbpimcabGreat
/- The numbers of a function as a row of the call's own. -/
namespace Go.Proofs.YtmjenemjbpimcabGreat
open Go.RowKit

theorem fr_new1 (w : World) (a : Nat) : Fr (w.alloc (.cells #[.float .f64 a] 25)) w.heap.size (.slice (some ⟨w.heap.size, 0, none⟩) 1 1) [a] :=
  ⟨rfl, .inr ⟨w.heap.size, 1, _, rfl, Nat.le_refl _, heap_alloc_new w _, Nat.le_refl _, by decide, rfl, rfl⟩⟩
theorem fr_new2 (w : World) (a b : Nat) : Fr (w.alloc (.cells #[.float .f64 a, .float .f64 b] 25)) w.heap.size (.slice (some ⟨w.heap.size, 0, none⟩) 2 2) [a, b] :=
  ⟨rfl, .inr ⟨w.heap.size, 2, _, rfl, Nat.le_refl _, heap_alloc_new w _, Nat.le_refl _, by decide, rfl, rfl⟩⟩
set_option maxHeartbeats 4000000 in
set_option maxRecDepth 100000 in
theorem numbers_own (k : Nat) (hk : k < 23) (nm : ByteArray) (hnm : nm = (fnAt k).1) (a b : Nat) (w : World) : Calls Tryz.prog 10 #[.string nm, .float .f64 a, .float .f64 b] w fun r w' => Below w.heap.size w w' ∧ ∃ aa ca, r = .returned (.slice aa (fnAt k).2.1 ca) ∧ Fr w' w.heap.size (.slice aa (fnAt k).2.1 ca) (nums k a b) := by
  have hb0 := Below.refl w.heap.size w
  have hq := nm_q k hk
  rw [← hnm] at hq
  have hq9 : (fnAt k).2.1 = 0 ∨ (fnAt k).2.1 = 1 ∨ (fnAt k).2.1 = 2 := (show ∀ k, k < 23 → (fnAt k).2.1 = 0 ∨ (fnAt k).2.1 = 1 ∨ (fnAt k).2.1 = 2 by decide +kernel) k hk
  have HN : Hid (nums k a b = if (fnAt k).2.1 = 1 then [a] else if (fnAt k).2.1 = 2 then [a, b] else []) := rfl
  generalize nums k a b = L at *
  generalize (fnAt k).2.1 = sc at *
  obtain ⟨c1, e1, t1⟩ := eqB nm q1 [113, 117, 97, 110, 116, 105, 108, 101, 95, 111, 118, 101, 114, 95, 116, 105, 109, 101] (by rw [Lib.toList_data]; rfl)
  obtain ⟨c2, e2, t2⟩ := eqB nm q2 [112, 114, 101, 100, 105, 99, 116, 95, 108, 105, 110, 101, 97, 114] (by rw [Lib.toList_data]; rfl)
  obtain ⟨c3, e3, t3⟩ := eqB nm q3 [98, 101, 97, 116, 95, 111, 118, 101, 114, 95, 116, 105, 109, 101] (by rw [Lib.toList_data]; rfl)
  obtain ⟨c4, e4, t4⟩ := eqB nm q4 [100, 111, 117, 98, 108, 101, 95, 101, 120, 112, 111, 110, 101, 110, 116, 105, 97, 108, 95, 115, 109, 111, 111, 116, 104, 105, 110, 103] (by rw [Lib.toList_data]; rfl)
  rw [← t1, ← t2, ← t3, ← t4] at hq
  have H1 : Hid (∀ (w : World), sc = 1 → Fr (w.alloc (.cells #[.float .f64 a] 25)) w.heap.size (.slice (some ⟨w.heap.size, 0, none⟩) sc 1) L) := (show ∀ w, _ → _ from fun w h => by rw [HN.out, if_pos h, h]; exact fr_new1 w a)
  have H2 : Hid (∀ (w : World), sc = 2 → Fr (w.alloc (.cells #[.float .f64 a, .float .f64 b] 25)) w.heap.size (.slice (some ⟨w.heap.size, 0, none⟩) sc 2) L) := (show ∀ w, _ → _ from fun w h => by rw [HN.out, if_neg (by omega), if_pos h, h]; exact fr_new2 w a b)
  have H0 : Hid (∀ (w : World), sc = 0 → Fr w w.heap.size (.slice none sc 0) L) := (show ∀ w, _ → _ from fun w h => by rw [HN.out, if_neg (by omega), if_neg (by omega), h]; exact Fr.nil w _)
  clear HN t1 t2 t3 t4 hnm hk
  obtain ⟨h1, h2, h3⟩ := hq
  have HQ1 : Hid (sc = 1 ↔ c1 = true ∨ c2 = true ∨ c3 = true) := h1
  have HQ2 : Hid (sc = 2 ↔ c4 = true) := h2
  have HQ9 : Hid (sc = 0 ∨ sc = 1 ∨ sc = 2) := hq9
  clear h1 h2 h3 hq9
  have fin1 : Hid (sc = 1 → ∃ aa ca, (Ending.returned (.slice (some ⟨w.heap.size, 0, none⟩) 1 1) = .returned (.slice aa sc ca)) ∧ Fr (w.alloc (.cells #[.float .f64 a] 25)) w.heap.size (.slice aa sc ca) L) := fun h => ⟨_, 1, by rw [h], H1.out w h⟩
  have fin2 : Hid (sc = 2 → ∃ aa ca, (Ending.returned (.slice (some ⟨w.heap.size, 0, none⟩) 2 2) = .returned (.slice aa sc ca)) ∧ Fr (w.alloc (.cells #[.float .f64 a, .float .f64 b] 25)) w.heap.size (.slice aa sc ca) L) := fun h => ⟨_, 2, by rw [h], H2.out w h⟩
  have fin0 : Hid (sc = 0 → ∃ aa ca, (Ending.returned (.slice none 0 0) = .returned (.slice aa sc ca)) ∧ Fr w w.heap.size (.slice aa sc ca) L) := fun h => ⟨none, 0, by rw [h], H0.out w h⟩
  have B1 : Hid (∀ o, Below w.heap.size w (w.alloc o)) := fun o => hb0.alloc (Nat.le_refl _) o
  clear H0 H1 H2
  cases c1
  · cases c2
    · cases c3
      · cases c4
        · have hs : sc = 0 := by
            rcases HQ9.out with h | h | h
            · exact h
            · have := HQ1.out.1 h; simp at this
            · have := HQ2.out.1 h; cases this
          have F : Hid _ := fin0.out hs
          clear fin0 fin1 fin2 hs
          go_enter Tryz.func10, Tryz.ntmps10
          go_wp2
          go_ret
          exact ⟨hb0, F.out⟩
        · have F : Hid _ := fin2.out (HQ2.out.2 rfl)
          clear fin0 fin1 fin2
          go_enter Tryz.func10, Tryz.ntmps10
          go_wp2
          go_ret
          exact ⟨B1.out _, F.out⟩
      · have F : Hid _ := fin1.out (HQ1.out.2 (by simp))
        clear fin0 fin1 fin2
        go_enter Tryz.func10, Tryz.ntmps10
        go_wp2
        go_ret
        exact ⟨B1.out _, F.out⟩
    · have F : Hid _ := fin1.out (HQ1.out.2 (by simp))
      clear fin0 fin1 fin2
      go_enter Tryz.func10, Tryz.ntmps10
      go_wp2
      go_ret
      exact ⟨B1.out _, F.out⟩
  · have F : Hid _ := fin1.out (HQ1.out.2 (by simp))
    clear fin0 fin1 fin2
    go_enter Tryz.func10, Tryz.ntmps10
    go_wp2
    go_ret
    exact ⟨B1.out _, F.out⟩
end Go.Proofs.YtmjenemjbpimcabGreat
