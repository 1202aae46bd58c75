/- A bundle of texts. -/
import Derived.Test.YtmjenemjbpimcaaBe23
import Derived.Test.YtmjenemjbpimcaaBe22
/- OverMembers: the walk. -/
namespace Go.Proofs.Ytmjenemjbpimcaa
open Go.RowKit

abbrev nX6 : Obj := .cells #[.string ⟨#[109, 97, 120, 95, 111, 118, 101, 114, 95, 116, 105, 109, 101]⟩, .string ⟨#[109, 105, 110, 95, 111, 118, 101, 114, 95, 116, 105, 109, 101]⟩, .string ⟨#[102, 105, 114, 115, 116, 95, 111, 118, 101, 114, 95, 116, 105, 109, 101]⟩, .string ⟨#[108, 97, 115, 116, 95, 111, 118, 101, 114, 95, 116, 105, 109, 101]⟩, .string ⟨#[113, 117, 97, 110, 116, 105, 108, 101, 95, 111, 118, 101, 114, 95, 116, 105, 109, 101]⟩, .string ⟨#[113, 117, 97, 110, 116, 105, 108, 101, 95, 111, 118, 101, 114, 95, 116, 105, 109, 101]⟩] 9
set_option maxHeartbeats 16000000 in
set_option maxRecDepth 100000 in
theorem members_walk (a : Option Addr) (n c : Nat) (F T N : Int) (ss : Nat → Smp) (w : World) (h : HypW a n ss w) (hc : n ≤ c) :
    Calls Try.prog 5 #[Wn a n c F T N] w fun r w' => r = .returned (.bool true) ∧ Below w.heap.size w w' := by
  have HB0 : Hid (Below w.heap.size w (w.alloc (wnX a n c F T N))) := (Below.refl _ w).alloc (Nat.le_refl _) _
  have HC : Hid (∀ W, Below (w.alloc (wnX a n c F T N)).heap.size (w.alloc (wnX a n c F T N)) W → WnC a n c F T N w.heap.size W) := wnC_new a n c F T N w
  have HH : Hid (∀ W, Below w.heap.size w W → HypW a n ss W) := fun W b => h.below b
  have HL : Hid (n ≤ 9223372036854775807 ∧ n ≤ c ∧ 24 * n ≤ 140737488355328) := ⟨by have := h.2.2; omega, hc, h.2.2⟩
  clear h hc
  have KNO : Hid (∀ W, Below w.heap.size w W → ¬ (1 ≤ n ∧ Snd ss n F T N) → Calls Try.prog 10 #[.string ⟨#[109, 97, 120, 95, 111, 118, 101, 114, 95, 116, 105, 109, 101]⟩, Wn a n c F T N, .slice none 0 0] W fun r w' => r = .returned (.tuple #[.float .f64 0, .bool false]) ∧ Below W.heap.size W w') := (show ∀ W, _ → _ → _ from fun W b hno => by
    refine (call_at 8 (by decide) _ rfl a n c F T N ss none 0 0 none W (HH.out W b).1 HL.out.1 (by decide) (fun _ h1 h2 => absurd ⟨h1, h2⟩ hno)).mono fun r w' x => ?_
    exact rx_no (fun h => hno h.2) x)
  go_enter Try.func5, Try.ntmps5
  go_wp2_with fail
  go_fit (alive_any _)
  rintro e w1 ⟨rfl, b1⟩
  obtain ⟨x0, x1, x2, x3⟩ := HC.out w1 b1
  have B1 : Hid (Below (w.alloc (wnX a n c F T N)).heap.size (w.alloc (wnX a n c F T N)) w1) := b1
  have B1w : Hid (Below w.heap.size w w1) := HB0.out.trans (b1.mono HB0.out.size)
  clear b1
  have k13 := made_any a n c F T N ss w1 (HH.out w1 B1w.out).1 HL.out.1
  go_wp2_with fail
  go_fit k13
  rintro e w2 ⟨m1, rfl, hm1, b2⟩
  have HM1 : Hid (m1 = true ↔ Snd ss n F T N) := hm1
  have B2 : Hid (Below (w.alloc (wnX a n c F T N)).heap.size (w.alloc (wnX a n c F T N)) w2) := B1.out.trans (b2.mono B1.out.size)
  have B2w : Hid (Below w.heap.size w w2) := HB0.out.trans (B2.out.mono HB0.out.size)
  obtain ⟨y0, y1, y2, y3⟩ := HC.out w2 B2.out
  clear k13 x0 x1 x2 x3 hm1 b2 B1 B1w
  cases m1
  · have k := KNO.out w2 B2w.out (fun h => by have := HM1.out.2 h.2; cases this)
    clear KNO
    go_wp2_with fail
    go_fit k
    rintro e w3 ⟨rfl, b3⟩
    have B3w : Hid (Below w.heap.size w w3) := B2w.out.trans (b3.mono B2w.out.size)
    clear b3 k
    go_wp2
    go_ret
    exact ⟨rfl, B3w.out⟩
  by_cases hn0 : n = 0
  · subst hn0
    have k := KNO.out w2 B2w.out (fun h => by omega)
    clear KNO
    go_wp2_with fail
    go_fit k
    rintro e w3 ⟨rfl, b3⟩
    have B3w : Hid (Below w.heap.size w w3) := B2w.out.trans (b3.mono B2w.out.size)
    clear b3 k
    go_wp2
    go_ret
    exact ⟨rfl, B3w.out⟩
  have hnI : ((n : Int) == 0) = false := by rw [beq_eq_false_iff_ne]; omega
  rcases (HH.out w (Below.refl _ _)).1 with h0 | ⟨g, o, rfl, hg, hat⟩
  · exact absurd h0 hn0
  have HPV : Hid (∀ W, Below w.heap.size w W → ∀ i, i < n → W.cell? ⟨g, o + i * 3 + 1, none⟩ = some (.float .f64 (ss i).v)) := (show ∀ W, _ → ∀ i, _ → _ from fun W b i hi => bcell b (hat i hi).2.1 hg)
  clear hg hat
  have HN1 : Hid (1 ≤ n) := (show _ ≤ _ by omega)
  have HS : Hid (Snd ss n F T N) := (show Snd ss n F T N by simpa using HM1.out)
  clear KNO HM1 hn0
  go_wp2_with fail
  have e0 : (w2.alloc nX6).heap[w2.heap.size]? = some nX6 := heap_alloc_new w2 _
  have f0 : w2.heap.size < (w2.alloc nX6).heap.size := by simp
  have B0n : Below (w.alloc (wnX (some ⟨g, o, none⟩) n c F T N)).heap.size (w.alloc (wnX (some ⟨g, o, none⟩) n c F T N)) (w2.alloc nX6) := B2.out.alloc B2.out.size _
  have B0w : Below w.heap.size w (w2.alloc nX6) := B2w.out.alloc B2w.out.size _
  obtain ⟨W0, hW0⟩ : ∃ W0, W0 = w2.alloc nX6 := ⟨_, rfl⟩
  rw [← hW0] at e0 f0 B0n B0w
  have hW0' : w2.alloc (.cells #[.string ⟨#[109, 97, 120, 95, 111, 118, 101, 114, 95, 116, 105, 109, 101]⟩, .string ⟨#[109, 105, 110, 95, 111, 118, 101, 114, 95, 116, 105, 109, 101]⟩, .string ⟨#[102, 105, 114, 115, 116, 95, 111, 118, 101, 114, 95, 116, 105, 109, 101]⟩, .string ⟨#[108, 97, 115, 116, 95, 111, 118, 101, 114, 95, 116, 105, 109, 101]⟩, .string ⟨#[113, 117, 97, 110, 116, 105, 108, 101, 95, 111, 118, 101, 114, 95, 116, 105, 109, 101]⟩, .string ⟨#[113, 117, 97, 110, 116, 105, 108, 101, 95, 111, 118, 101, 114, 95, 116, 105, 109, 101]⟩] 9) = W0 := hW0.symm
  rw [hW0']
  clear hW0 hW0' y0 y1 y2 y3
  have HNM : Hid (∀ W, Below W0.heap.size W0 W → ∀ j, j < 6 → W.cell? ⟨w2.heap.size, j, none⟩ = some (.string (fnAt (mi j)).1)) := (show ∀ W, _ → ∀ j, _ → _ from fun W b j hj => by
    refine bcell b ?_ f0
    rcases (show j = 0 ∨ j = 1 ∨ j = 2 ∨ j = 3 ∨ j = 4 ∨ j = 5 by omega) with rfl | rfl | rfl | rfl | rfl | rfl <;> exact str_cell e0 _ _ rfl)
  have HCW : Hid (∀ W, Below W0.heap.size W0 W → WnC (some ⟨g, o, none⟩) n c F T N w.heap.size W) := (show ∀ W, _ → _ from fun W b => HC.out W (B0n.trans (b.mono B0n.size)))
  have HB : Hid (∀ W, Below W0.heap.size W0 W → Below w.heap.size w W) := (show ∀ W, _ → _ from fun W b => B0w.trans (b.mono B0w.size))
  clear e0 f0 B0n B0w HC B2 B2w HB0
  obtain ⟨gn, hgn⟩ : ∃ gn, gn = w2.heap.size := ⟨_, rfl⟩
  rw [← hgn] at HNM
  rw [← hgn]
  clear hgn
  go_loopw [6] (fun iv W => ∃ j : Nat, iv = .int .i64 (j : Nat) ∧ j ≤ 6 ∧ Hid (Below W0.heap.size W0 W)) (fun iv _ => 6 - (RowKit.intOf iv).toNat)
  case atStart => exact ⟨0, rfl, by omega, Below.refl _ _⟩
  case round =>
    obtain ⟨j, rfl, hj, hb⟩ := hrel
    by_cases hlt : j < 6
    · have HCall : Hid (∀ W aa ca, Below W0.heap.size W0 W → Fm W aa (mq j) → Calls Try.prog 10 #[.string (fnAt (mi j)).1, Wn (some ⟨g, o, none⟩) n c F T N, .slice aa (mq j).length ca] W fun r w' => ∃ z, r = .returned (.tuple #[.float .f64 z, .bool true]) ∧ z < 18446744073709551616 ∧ Below W.heap.size W w' ∧ Hid (Mm ss n j z)) := (show ∀ W aa ca, _ → _ → _ from fun W aa ca b hA => members_call j hlt _ n c F T N ss aa ca W (HH.out W (HB.out W b)) HN1.out HL.out.2.1 HS.out hA)
      have HNI : Hid (∀ W, Below W0.heap.size W0 W → W.cell? ⟨gn, j, none⟩ = some (.string (fnAt (mi j)).1)) := (show ∀ W, _ → _ from fun W b => HNM.out W b j hlt)
      rcases (show j = 0 ∨ j = 1 ∨ j = 2 ∨ j = 3 ∨ j = 4 ∨ j = 5 by omega) with rfl | rfl | rfl | rfl | rfl | rfl
      · have nI := HNI.out wr hb.out
        obtain ⟨nm, hnm⟩ : ∃ nm, nm = (fnAt (mi 0)).1 := ⟨_, rfl⟩
        rw [← hnm] at nI HNI HCall
        clear hnm
        have BA : Hid (Below W0.heap.size W0 wr) := hb.out
        have HS1 : Hid (∀ W, Below wr.heap.size wr W → (W.cell? ⟨gn, 0, none⟩ = some (.string nm) ∧ WnC (some ⟨g, o, none⟩) n c F T N w.heap.size W) ∧ Below wr.heap.size wr W) := (show ∀ W, _ → _ from fun W b => ⟨⟨HNI.out W (BA.out.trans (b.mono BA.out.size)), HCW.out W (BA.out.trans (b.mono BA.out.size))⟩, b⟩)
        obtain ⟨⟨_, y0, y1, y2, y3⟩, _⟩ := HS1.out wr (Below.refl _ _)
        have bd : Below wr.heap.size wr wr.drew := (Below.refl _ _).drew
        unfold WnC at HS1
        have kc : ∀ W, Below wr.heap.size wr W → Calls Try.prog 10 #[.string nm, Wn (some ⟨g, o, none⟩) n c F T N, .slice none 0 0] W fun r w' => ∃ z, r = .returned (.tuple #[.float .f64 z, .bool true]) ∧ z < 18446744073709551616 ∧ Below W.heap.size W w' ∧ Hid (Mm ss n 0 z) := fun W b => HCall.out W none 0 (BA.out.trans (b.mono BA.out.size)) (.inl rfl)
        clear HCall
        go_wp2_with fail
        go_region_held3 (fun w2 => (w2.cell? ⟨gn, 0, none⟩ = some (.string nm) ∧ w2.cell? ⟨w.heap.size, 0, none⟩ = some (.slice (some ⟨g, o, none⟩) n c) ∧ w2.cell? ⟨w.heap.size, 1, none⟩ = some (.int .i64 F) ∧ w2.cell? ⟨w.heap.size, 2, none⟩ = some (.int .i64 T) ∧ w2.cell? ⟨w.heap.size, 3, none⟩ = some (.int .i64 N)) ∧ Below wr.heap.size wr w2) (first | exact HS1.out _ (by assumption) | exact HS1.out _ (Below.drew (by assumption))) (first | (go_at_call 10; go_fit (kc _ (by first | exact bd | exact Below.refl _ _)); rintro e w7 ⟨z1, rfl, hl1, b7, hm7⟩; have bc : Below wr.heap.size wr w7 := by first | exact bd.trans (b7.mono bd.size) | exact b7))
        rename_i hh
        have B7 : Hid (Below W0.heap.size W0 w7) := BA.out.trans (bc.mono BA.out.size)
        clear hh kc bc b7 bd y0 y1 y2 y3 nI HS1 BA HNI
        have n1 : (n : Int) ≤ 9223372036854775807 := by have := HL.out.1; omega
        obtain ⟨y0, y1, y2, y3⟩ := HCW.out w7 B7.out
        go_wp2_with fail
        go_loopw [10, 11] (fun bv iv W => ∃ (i : Nat) (b : Bool), iv = .int .i64 (i : Nat) ∧ i ≤ n ∧ bv = .bool b ∧ Hid (b = true ↔ ∃ i', i' < i ∧ cl z1 = cl (ss i').v) ∧ w7 = W) (fun _ iv _ => n - (RowKit.intOf iv).toNat)
        case atStart => exact ⟨0, false, rfl, by omega, rfl, ⟨fun h => (by cases h), fun ⟨i, h, _⟩ => (by omega)⟩, rfl⟩
        case round =>
          obtain ⟨i, b, rfl, hi, rfl, hbi, rfl⟩ := hrel
          by_cases hlt2 : i < n
          · have hii : (i : Int) < (n : Int) := by omega
            have i0 : (0 : Int) ≤ (i : Int) := by omega
            have i1 : ¬ (i : Int) < 0 := by omega
            have HI : Hid (i + 1 ≤ n) := hlt2
            have q1 := HPV.out w7 (HB.out w7 B7.out) i hlt2
            have d1 := gtB_eq (ss i).v z1
            rw [hm7.out.2.1 rfl i hlt2] at d1
            have HZ : Hid (∀ b2 : Bool, (b2 = true ↔ b = true ∨ cl z1 = cl (ss i).v) → (b2 = true ↔ ∃ i', i' < i + 1 ∧ cl z1 = cl (ss i').v)) := (show ∀ b2 : Bool, _ → _ from fun b2 h => h.trans ⟨fun h => by
              rcases h with h | h
              · obtain ⟨i2, h1, h2⟩ := hbi.out.1 h
                exact ⟨i2, by omega, h2⟩
              · exact ⟨i, by omega, h⟩, fun ⟨i2, h1, h2⟩ => by
              by_cases h3 : i2 = i
              · subst h3
                exact .inr h2
              · exact .inl (hbi.out.2 ⟨i2, by omega, h2⟩)⟩)
            have k15 := fun W => same_any z1 (ss i).v W
            have HSm : Hid (smB (cl z1) (cl (ss i).v) = true ↔ cl z1 = cl (ss i).v) := (show _ ↔ _ by unfold smB; exact decide_eq_true_iff)
            generalize smB (cl z1) (cl (ss i).v) = s at *
            obtain ⟨v, hv⟩ : ∃ v, v = (ss i).v := ⟨_, rfl⟩
            rw [← hv] at q1 k15 HZ HSm d1
            clear hv hbi
            cases b
            · go_wp2_with fail
              go_fit (k15 _)
              rintro e w8 ⟨rfl, rfl⟩
              go_wp2
              exact ⟨⟨i + 1, s, by go_num, HI.out, rfl, HZ.out s ⟨fun h => .inr (HSm.out.1 h), fun h => h.elim (fun h => by cases h) HSm.out.2⟩, (by trivial)⟩, by simp [RowKit.intOf]; omega⟩
            · go_wp2
              exact ⟨⟨i + 1, true, by go_num, HI.out, rfl, HZ.out true ⟨fun _ => .inl rfl, fun _ => rfl⟩, (by trivial)⟩, by simp [RowKit.intOf]; omega⟩
          · have hii : ¬ (i : Int) < (n : Int) := by omega
            obtain rfl : i = n := by omega
            have hbt : b = true := hbi.out.2 hm7.out.1
            subst hbt
            clear hbi
            have d3 := fo_refl z1
            have q0 := HPV.out w7 (HB.out w7 B7.out) 0 HN1.out
            rw [show o + 0 * 3 + 1 = o + 1 by omega] at q0
            have d4 := fo_self (ss 0).v
            rw [nan_cl] at d4
            have HM4 : Hid (cl z1 = none → cl (ss 0).v = none) := hm7.out.2.2.2.1 (by omega)
            cases e : (cl z1).isNone
            · rw [e] at d3
              clear d4 q0 HM4 e
              go_wp2_with fail
              go_big_quiet (fail)
              go_wp2
              exact ⟨⟨0 + 1, by go_num, by omega, below_drewN B7.out _⟩, by simp [RowKit.intOf]⟩
            · rw [e] at d3
              have h0 : cl (ss 0).v = none := HM4.out (by simpa using e)
              rw [h0] at d4
              have d5 : (FloatKind.f64.format.order (ss 0).v (ss 0).v == some .eq) = false := by rw [d4]; rfl
              clear d4 HM4 e h0
              generalize (ss 0).v = v0 at *
              have z1n : 0 < i := HN1.out
              have z2n : decide (0 < i) = true := decide_eq_true z1n
              have z3n : (0 : Int) < (i : Int) := by omega
              have z4n : decide ((0 : Int) < (i : Int)) = true := decide_eq_true z3n
              go_wp2_with fail
              go_big_quiet (fail)
              go_wp2
              exact ⟨⟨0 + 1, by go_num, by omega, below_drewN B7.out _⟩, by simp [RowKit.intOf]⟩
      · have nI := HNI.out wr hb.out
        obtain ⟨nm, hnm⟩ : ∃ nm, nm = (fnAt (mi 1)).1 := ⟨_, rfl⟩
        rw [← hnm] at nI HNI HCall
        clear hnm
        have BA : Hid (Below W0.heap.size W0 wr) := hb.out
        have HS1 : Hid (∀ W, Below wr.heap.size wr W → (W.cell? ⟨gn, 1, none⟩ = some (.string nm) ∧ WnC (some ⟨g, o, none⟩) n c F T N w.heap.size W) ∧ Below wr.heap.size wr W) := (show ∀ W, _ → _ from fun W b => ⟨⟨HNI.out W (BA.out.trans (b.mono BA.out.size)), HCW.out W (BA.out.trans (b.mono BA.out.size))⟩, b⟩)
        obtain ⟨⟨_, y0, y1, y2, y3⟩, _⟩ := HS1.out wr (Below.refl _ _)
        have bd : Below wr.heap.size wr wr.drew := (Below.refl _ _).drew
        unfold WnC at HS1
        have kc : ∀ W, Below wr.heap.size wr W → Calls Try.prog 10 #[.string nm, Wn (some ⟨g, o, none⟩) n c F T N, .slice none 0 0] W fun r w' => ∃ z, r = .returned (.tuple #[.float .f64 z, .bool true]) ∧ z < 18446744073709551616 ∧ Below W.heap.size W w' ∧ Hid (Mm ss n 1 z) := fun W b => HCall.out W none 0 (BA.out.trans (b.mono BA.out.size)) (.inl rfl)
        clear HCall
        go_wp2_with fail
        go_region_held3 (fun w2 => (w2.cell? ⟨gn, 1, none⟩ = some (.string nm) ∧ w2.cell? ⟨w.heap.size, 0, none⟩ = some (.slice (some ⟨g, o, none⟩) n c) ∧ w2.cell? ⟨w.heap.size, 1, none⟩ = some (.int .i64 F) ∧ w2.cell? ⟨w.heap.size, 2, none⟩ = some (.int .i64 T) ∧ w2.cell? ⟨w.heap.size, 3, none⟩ = some (.int .i64 N)) ∧ Below wr.heap.size wr w2) (first | exact HS1.out _ (by assumption) | exact HS1.out _ (Below.drew (by assumption))) (first | (go_at_call 10; go_fit (kc _ (by first | exact bd | exact Below.refl _ _)); rintro e w7 ⟨z1, rfl, hl1, b7, hm7⟩; have bc : Below wr.heap.size wr w7 := by first | exact bd.trans (b7.mono bd.size) | exact b7))
        rename_i hh
        have B7 : Hid (Below W0.heap.size W0 w7) := BA.out.trans (bc.mono BA.out.size)
        clear hh kc bc b7 bd y0 y1 y2 y3 nI HS1 BA HNI
        have n1 : (n : Int) ≤ 9223372036854775807 := by have := HL.out.1; omega
        obtain ⟨y0, y1, y2, y3⟩ := HCW.out w7 B7.out
        go_wp2_with fail
        go_loopw [10, 11] (fun bv iv W => ∃ (i : Nat) (b : Bool), iv = .int .i64 (i : Nat) ∧ i ≤ n ∧ bv = .bool b ∧ Hid (b = true ↔ ∃ i', i' < i ∧ cl z1 = cl (ss i').v) ∧ w7 = W) (fun _ iv _ => n - (RowKit.intOf iv).toNat)
        case atStart => exact ⟨0, false, rfl, by omega, rfl, ⟨fun h => (by cases h), fun ⟨i, h, _⟩ => (by omega)⟩, rfl⟩
        case round =>
          obtain ⟨i, b, rfl, hi, rfl, hbi, rfl⟩ := hrel
          by_cases hlt2 : i < n
          · have hii : (i : Int) < (n : Int) := by omega
            have i0 : (0 : Int) ≤ (i : Int) := by omega
            have i1 : ¬ (i : Int) < 0 := by omega
            have HI : Hid (i + 1 ≤ n) := hlt2
            have q1 := HPV.out w7 (HB.out w7 B7.out) i hlt2
            have d1 := ltB_eq (ss i).v z1
            rw [hm7.out.2.2.1 rfl i hlt2] at d1
            have HZ : Hid (∀ b2 : Bool, (b2 = true ↔ b = true ∨ cl z1 = cl (ss i).v) → (b2 = true ↔ ∃ i', i' < i + 1 ∧ cl z1 = cl (ss i').v)) := (show ∀ b2 : Bool, _ → _ from fun b2 h => h.trans ⟨fun h => by
              rcases h with h | h
              · obtain ⟨i2, h1, h2⟩ := hbi.out.1 h
                exact ⟨i2, by omega, h2⟩
              · exact ⟨i, by omega, h⟩, fun ⟨i2, h1, h2⟩ => by
              by_cases h3 : i2 = i
              · subst h3
                exact .inr h2
              · exact .inl (hbi.out.2 ⟨i2, by omega, h2⟩)⟩)
            have k15 := fun W => same_any z1 (ss i).v W
            have HSm : Hid (smB (cl z1) (cl (ss i).v) = true ↔ cl z1 = cl (ss i).v) := (show _ ↔ _ by unfold smB; exact decide_eq_true_iff)
            generalize smB (cl z1) (cl (ss i).v) = s at *
            obtain ⟨v, hv⟩ : ∃ v, v = (ss i).v := ⟨_, rfl⟩
            rw [← hv] at q1 k15 HZ HSm d1
            clear hv hbi
            cases b
            · go_wp2_with fail
              go_fit (k15 _)
              rintro e w8 ⟨rfl, rfl⟩
              go_wp2
              exact ⟨⟨i + 1, s, by go_num, HI.out, rfl, HZ.out s ⟨fun h => .inr (HSm.out.1 h), fun h => h.elim (fun h => by cases h) HSm.out.2⟩, (by trivial)⟩, by simp [RowKit.intOf]; omega⟩
            · go_wp2
              exact ⟨⟨i + 1, true, by go_num, HI.out, rfl, HZ.out true ⟨fun _ => .inl rfl, fun _ => rfl⟩, (by trivial)⟩, by simp [RowKit.intOf]; omega⟩
          · have hii : ¬ (i : Int) < (n : Int) := by omega
            obtain rfl : i = n := by omega
            have hbt : b = true := hbi.out.2 hm7.out.1
            subst hbt
            clear hbi
            have d3 := fo_refl z1
            have q0 := HPV.out w7 (HB.out w7 B7.out) 0 HN1.out
            rw [show o + 0 * 3 + 1 = o + 1 by omega] at q0
            have d4 := fo_self (ss 0).v
            rw [nan_cl] at d4
            have HM4 : Hid (cl z1 = none → cl (ss 0).v = none) := hm7.out.2.2.2.1 (by omega)
            cases e : (cl z1).isNone
            · rw [e] at d3
              clear d4 q0 HM4 e
              go_wp2_with fail
              go_big_quiet (fail)
              go_wp2
              exact ⟨⟨1 + 1, by go_num, by omega, below_drewN B7.out _⟩, by simp [RowKit.intOf]⟩
            · rw [e] at d3
              have h0 : cl (ss 0).v = none := HM4.out (by simpa using e)
              rw [h0] at d4
              have d5 : (FloatKind.f64.format.order (ss 0).v (ss 0).v == some .eq) = false := by rw [d4]; rfl
              clear d4 HM4 e h0
              generalize (ss 0).v = v0 at *
              have z1n : 0 < i := HN1.out
              have z2n : decide (0 < i) = true := decide_eq_true z1n
              have z3n : (0 : Int) < (i : Int) := by omega
              have z4n : decide ((0 : Int) < (i : Int)) = true := decide_eq_true z3n
              go_wp2_with fail
              go_big_quiet (fail)
              go_wp2
              exact ⟨⟨1 + 1, by go_num, by omega, below_drewN B7.out _⟩, by simp [RowKit.intOf]⟩
      · have nI := HNI.out wr hb.out
        obtain ⟨nm, hnm⟩ : ∃ nm, nm = (fnAt (mi 2)).1 := ⟨_, rfl⟩
        rw [← hnm] at nI HNI HCall
        clear hnm
        have BA : Hid (Below W0.heap.size W0 wr) := hb.out
        have HS1 : Hid (∀ W, Below wr.heap.size wr W → (W.cell? ⟨gn, 2, none⟩ = some (.string nm) ∧ WnC (some ⟨g, o, none⟩) n c F T N w.heap.size W) ∧ Below wr.heap.size wr W) := (show ∀ W, _ → _ from fun W b => ⟨⟨HNI.out W (BA.out.trans (b.mono BA.out.size)), HCW.out W (BA.out.trans (b.mono BA.out.size))⟩, b⟩)
        obtain ⟨⟨_, y0, y1, y2, y3⟩, _⟩ := HS1.out wr (Below.refl _ _)
        have bd : Below wr.heap.size wr wr.drew := (Below.refl _ _).drew
        unfold WnC at HS1
        have kc : ∀ W, Below wr.heap.size wr W → Calls Try.prog 10 #[.string nm, Wn (some ⟨g, o, none⟩) n c F T N, .slice none 0 0] W fun r w' => ∃ z, r = .returned (.tuple #[.float .f64 z, .bool true]) ∧ z < 18446744073709551616 ∧ Below W.heap.size W w' ∧ Hid (Mm ss n 2 z) := fun W b => HCall.out W none 0 (BA.out.trans (b.mono BA.out.size)) (.inl rfl)
        clear HCall
        go_wp2_with fail
        go_region_held3 (fun w2 => (w2.cell? ⟨gn, 2, none⟩ = some (.string nm) ∧ w2.cell? ⟨w.heap.size, 0, none⟩ = some (.slice (some ⟨g, o, none⟩) n c) ∧ w2.cell? ⟨w.heap.size, 1, none⟩ = some (.int .i64 F) ∧ w2.cell? ⟨w.heap.size, 2, none⟩ = some (.int .i64 T) ∧ w2.cell? ⟨w.heap.size, 3, none⟩ = some (.int .i64 N)) ∧ Below wr.heap.size wr w2) (first | exact HS1.out _ (by assumption) | exact HS1.out _ (Below.drew (by assumption))) (first | (go_at_call 10; go_fit (kc _ (by first | exact bd | exact Below.refl _ _)); rintro e w7 ⟨z1, rfl, hl1, b7, hm7⟩; have bc : Below wr.heap.size wr w7 := by first | exact bd.trans (b7.mono bd.size) | exact b7))
        rename_i hh
        have B7 : Hid (Below W0.heap.size W0 w7) := BA.out.trans (bc.mono BA.out.size)
        clear hh kc bc b7 bd y0 y1 y2 y3 nI HS1 BA HNI
        have n1 : (n : Int) ≤ 9223372036854775807 := by have := HL.out.1; omega
        obtain ⟨y0, y1, y2, y3⟩ := HCW.out w7 B7.out
        go_wp2_with fail
        go_loopw [10, 11] (fun bv iv W => ∃ (i : Nat) (b : Bool), iv = .int .i64 (i : Nat) ∧ i ≤ n ∧ bv = .bool b ∧ Hid (b = true ↔ ∃ i', i' < i ∧ cl z1 = cl (ss i').v) ∧ w7 = W) (fun _ iv _ => n - (RowKit.intOf iv).toNat)
        case atStart => exact ⟨0, false, rfl, by omega, rfl, ⟨fun h => (by cases h), fun ⟨i, h, _⟩ => (by omega)⟩, rfl⟩
        case round =>
          obtain ⟨i, b, rfl, hi, rfl, hbi, rfl⟩ := hrel
          by_cases hlt2 : i < n
          · have hii : (i : Int) < (n : Int) := by omega
            have i0 : (0 : Int) ≤ (i : Int) := by omega
            have i1 : ¬ (i : Int) < 0 := by omega
            have HI : Hid (i + 1 ≤ n) := hlt2
            have q1 := HPV.out w7 (HB.out w7 B7.out) i hlt2
            have HZ : Hid (∀ b2 : Bool, (b2 = true ↔ b = true ∨ cl z1 = cl (ss i).v) → (b2 = true ↔ ∃ i', i' < i + 1 ∧ cl z1 = cl (ss i').v)) := (show ∀ b2 : Bool, _ → _ from fun b2 h => h.trans ⟨fun h => by
              rcases h with h | h
              · obtain ⟨i2, h1, h2⟩ := hbi.out.1 h
                exact ⟨i2, by omega, h2⟩
              · exact ⟨i, by omega, h⟩, fun ⟨i2, h1, h2⟩ => by
              by_cases h3 : i2 = i
              · subst h3
                exact .inr h2
              · exact .inl (hbi.out.2 ⟨i2, by omega, h2⟩)⟩)
            have k15 := fun W => same_any z1 (ss i).v W
            have HSm : Hid (smB (cl z1) (cl (ss i).v) = true ↔ cl z1 = cl (ss i).v) := (show _ ↔ _ by unfold smB; exact decide_eq_true_iff)
            generalize smB (cl z1) (cl (ss i).v) = s at *
            obtain ⟨v, hv⟩ : ∃ v, v = (ss i).v := ⟨_, rfl⟩
            rw [← hv] at q1 k15 HZ HSm
            clear hv hbi
            cases b
            · go_wp2_with fail
              go_fit (k15 _)
              rintro e w8 ⟨rfl, rfl⟩
              go_wp2
              exact ⟨⟨i + 1, s, by go_num, HI.out, rfl, HZ.out s ⟨fun h => .inr (HSm.out.1 h), fun h => h.elim (fun h => by cases h) HSm.out.2⟩, (by trivial)⟩, by simp [RowKit.intOf]; omega⟩
            · go_wp2
              exact ⟨⟨i + 1, true, by go_num, HI.out, rfl, HZ.out true ⟨fun _ => .inl rfl, fun _ => rfl⟩, (by trivial)⟩, by simp [RowKit.intOf]; omega⟩
          · have hii : ¬ (i : Int) < (n : Int) := by omega
            obtain rfl : i = n := by omega
            have hbt : b = true := hbi.out.2 hm7.out.1
            subst hbt
            clear hbi
            go_wp2_with fail
            go_big_quiet (fail)
            go_wp2
            exact ⟨⟨2 + 1, by go_num, by omega, below_drewN B7.out _⟩, by simp [RowKit.intOf]⟩
      · have nI := HNI.out wr hb.out
        obtain ⟨nm, hnm⟩ : ∃ nm, nm = (fnAt (mi 3)).1 := ⟨_, rfl⟩
        rw [← hnm] at nI HNI HCall
        clear hnm
        have BA : Hid (Below W0.heap.size W0 wr) := hb.out
        have HS1 : Hid (∀ W, Below wr.heap.size wr W → (W.cell? ⟨gn, 3, none⟩ = some (.string nm) ∧ WnC (some ⟨g, o, none⟩) n c F T N w.heap.size W) ∧ Below wr.heap.size wr W) := (show ∀ W, _ → _ from fun W b => ⟨⟨HNI.out W (BA.out.trans (b.mono BA.out.size)), HCW.out W (BA.out.trans (b.mono BA.out.size))⟩, b⟩)
        obtain ⟨⟨_, y0, y1, y2, y3⟩, _⟩ := HS1.out wr (Below.refl _ _)
        have bd : Below wr.heap.size wr wr.drew := (Below.refl _ _).drew
        unfold WnC at HS1
        have kc : ∀ W, Below wr.heap.size wr W → Calls Try.prog 10 #[.string nm, Wn (some ⟨g, o, none⟩) n c F T N, .slice none 0 0] W fun r w' => ∃ z, r = .returned (.tuple #[.float .f64 z, .bool true]) ∧ z < 18446744073709551616 ∧ Below W.heap.size W w' ∧ Hid (Mm ss n 3 z) := fun W b => HCall.out W none 0 (BA.out.trans (b.mono BA.out.size)) (.inl rfl)
        clear HCall
        go_wp2_with fail
        go_region_held3 (fun w2 => (w2.cell? ⟨gn, 3, none⟩ = some (.string nm) ∧ w2.cell? ⟨w.heap.size, 0, none⟩ = some (.slice (some ⟨g, o, none⟩) n c) ∧ w2.cell? ⟨w.heap.size, 1, none⟩ = some (.int .i64 F) ∧ w2.cell? ⟨w.heap.size, 2, none⟩ = some (.int .i64 T) ∧ w2.cell? ⟨w.heap.size, 3, none⟩ = some (.int .i64 N)) ∧ Below wr.heap.size wr w2) (first | exact HS1.out _ (by assumption) | exact HS1.out _ (Below.drew (by assumption))) (first | (go_at_call 10; go_fit (kc _ (by first | exact bd | exact Below.refl _ _)); rintro e w7 ⟨z1, rfl, hl1, b7, hm7⟩; have bc : Below wr.heap.size wr w7 := by first | exact bd.trans (b7.mono bd.size) | exact b7))
        rename_i hh
        have B7 : Hid (Below W0.heap.size W0 w7) := BA.out.trans (bc.mono BA.out.size)
        clear hh kc bc b7 bd y0 y1 y2 y3 nI HS1 BA HNI
        have n1 : (n : Int) ≤ 9223372036854775807 := by have := HL.out.1; omega
        obtain ⟨y0, y1, y2, y3⟩ := HCW.out w7 B7.out
        go_wp2_with fail
        go_loopw [10, 11] (fun bv iv W => ∃ (i : Nat) (b : Bool), iv = .int .i64 (i : Nat) ∧ i ≤ n ∧ bv = .bool b ∧ Hid (b = true ↔ ∃ i', i' < i ∧ cl z1 = cl (ss i').v) ∧ w7 = W) (fun _ iv _ => n - (RowKit.intOf iv).toNat)
        case atStart => exact ⟨0, false, rfl, by omega, rfl, ⟨fun h => (by cases h), fun ⟨i, h, _⟩ => (by omega)⟩, rfl⟩
        case round =>
          obtain ⟨i, b, rfl, hi, rfl, hbi, rfl⟩ := hrel
          by_cases hlt2 : i < n
          · have hii : (i : Int) < (n : Int) := by omega
            have i0 : (0 : Int) ≤ (i : Int) := by omega
            have i1 : ¬ (i : Int) < 0 := by omega
            have HI : Hid (i + 1 ≤ n) := hlt2
            have q1 := HPV.out w7 (HB.out w7 B7.out) i hlt2
            have HZ : Hid (∀ b2 : Bool, (b2 = true ↔ b = true ∨ cl z1 = cl (ss i).v) → (b2 = true ↔ ∃ i', i' < i + 1 ∧ cl z1 = cl (ss i').v)) := (show ∀ b2 : Bool, _ → _ from fun b2 h => h.trans ⟨fun h => by
              rcases h with h | h
              · obtain ⟨i2, h1, h2⟩ := hbi.out.1 h
                exact ⟨i2, by omega, h2⟩
              · exact ⟨i, by omega, h⟩, fun ⟨i2, h1, h2⟩ => by
              by_cases h3 : i2 = i
              · subst h3
                exact .inr h2
              · exact .inl (hbi.out.2 ⟨i2, by omega, h2⟩)⟩)
            have k15 := fun W => same_any z1 (ss i).v W
            have HSm : Hid (smB (cl z1) (cl (ss i).v) = true ↔ cl z1 = cl (ss i).v) := (show _ ↔ _ by unfold smB; exact decide_eq_true_iff)
            generalize smB (cl z1) (cl (ss i).v) = s at *
            obtain ⟨v, hv⟩ : ∃ v, v = (ss i).v := ⟨_, rfl⟩
            rw [← hv] at q1 k15 HZ HSm
            clear hv hbi
            cases b
            · go_wp2_with fail
              go_fit (k15 _)
              rintro e w8 ⟨rfl, rfl⟩
              go_wp2
              exact ⟨⟨i + 1, s, by go_num, HI.out, rfl, HZ.out s ⟨fun h => .inr (HSm.out.1 h), fun h => h.elim (fun h => by cases h) HSm.out.2⟩, (by trivial)⟩, by simp [RowKit.intOf]; omega⟩
            · go_wp2
              exact ⟨⟨i + 1, true, by go_num, HI.out, rfl, HZ.out true ⟨fun _ => .inl rfl, fun _ => rfl⟩, (by trivial)⟩, by simp [RowKit.intOf]; omega⟩
          · have hii : ¬ (i : Int) < (n : Int) := by omega
            obtain rfl : i = n := by omega
            have hbt : b = true := hbi.out.2 hm7.out.1
            subst hbt
            clear hbi
            go_wp2_with fail
            go_big_quiet (fail)
            go_wp2
            exact ⟨⟨3 + 1, by go_num, by omega, below_drewN B7.out _⟩, by simp [RowKit.intOf]⟩
      · have nI := HNI.out wr hb.out
        obtain ⟨nm, hnm⟩ : ∃ nm, nm = (fnAt (mi 4)).1 := ⟨_, rfl⟩
        rw [← hnm] at nI HNI HCall
        clear hnm
        go_wp2_with fail
        have hX : floatOfInt .f64 0 = 0 := by decide +kernel
        rw [hX]
        have fm : Fm (wr.alloc (.cells #[.float .f64 0] 25)) (some ⟨wr.heap.size, 0, none⟩) [0] := fm_new wr [0] 25
        have bA : Below W0.heap.size W0 (wr.alloc (.cells #[.float .f64 0] 25)) := hb.out.alloc hb.out.size _
        obtain ⟨WA, hWA⟩ : ∃ WA, WA = wr.alloc (.cells #[.float .f64 0] 25) := ⟨_, rfl⟩
        obtain ⟨gw, hgw⟩ : ∃ gw, gw = wr.heap.size := ⟨_, rfl⟩
        rw [← hWA, ← hgw] at fm
        rw [← hWA] at bA
        rw [← hWA, ← hgw]
        clear hWA hgw hX nI
        have nI := HNI.out WA bA
        have BA : Hid (Below W0.heap.size W0 WA) := bA
        have FM : Hid (Fm WA (some ⟨gw, 0, none⟩) (mq 4)) := fm
        clear fm bA
        have HS1 : Hid (∀ W, Below WA.heap.size WA W → (W.cell? ⟨gn, 4, none⟩ = some (.string nm) ∧ WnC (some ⟨g, o, none⟩) n c F T N w.heap.size W) ∧ Below WA.heap.size WA W) := (show ∀ W, _ → _ from fun W b => ⟨⟨HNI.out W (BA.out.trans (b.mono BA.out.size)), HCW.out W (BA.out.trans (b.mono BA.out.size))⟩, b⟩)
        obtain ⟨⟨_, y0, y1, y2, y3⟩, _⟩ := HS1.out WA (Below.refl _ _)
        have bd : Below WA.heap.size WA WA.drew := (Below.refl _ _).drew
        unfold WnC at HS1
        have kc : ∀ W, Below WA.heap.size WA W → Calls Try.prog 10 #[.string nm, Wn (some ⟨g, o, none⟩) n c F T N, .slice (some ⟨gw, 0, none⟩) 1 1] W fun r w' => ∃ z, r = .returned (.tuple #[.float .f64 z, .bool true]) ∧ z < 18446744073709551616 ∧ Below W.heap.size W w' ∧ Hid (Mm ss n 4 z) := fun W b => HCall.out W (some ⟨gw, 0, none⟩) 1 (BA.out.trans (b.mono BA.out.size)) (FM.out.below b)
        clear HCall
        go_wp2_with fail
        go_region_held3 (fun w2 => (w2.cell? ⟨gn, 4, none⟩ = some (.string nm) ∧ w2.cell? ⟨w.heap.size, 0, none⟩ = some (.slice (some ⟨g, o, none⟩) n c) ∧ w2.cell? ⟨w.heap.size, 1, none⟩ = some (.int .i64 F) ∧ w2.cell? ⟨w.heap.size, 2, none⟩ = some (.int .i64 T) ∧ w2.cell? ⟨w.heap.size, 3, none⟩ = some (.int .i64 N)) ∧ Below WA.heap.size WA w2) (first | exact HS1.out _ (by assumption) | exact HS1.out _ (Below.drew (by assumption))) (first | (go_at_call 10; go_fit (kc _ (by first | exact bd | exact Below.refl _ _)); rintro e w7 ⟨z1, rfl, hl1, b7, hm7⟩; have bc : Below WA.heap.size WA w7 := by first | exact bd.trans (b7.mono bd.size) | exact b7))
        rename_i hh
        have B7 : Hid (Below W0.heap.size W0 w7) := BA.out.trans (bc.mono BA.out.size)
        clear hh kc bc b7 bd y0 y1 y2 y3 nI HS1 BA HNI
        have n1 : (n : Int) ≤ 9223372036854775807 := by have := HL.out.1; omega
        obtain ⟨y0, y1, y2, y3⟩ := HCW.out w7 B7.out
        go_wp2_with fail
        go_loopw [10, 11] (fun bv iv W => ∃ (i : Nat) (b : Bool), iv = .int .i64 (i : Nat) ∧ i ≤ n ∧ bv = .bool b ∧ Hid (b = true ↔ ∃ i', i' < i ∧ cl z1 = cl (ss i').v) ∧ w7 = W) (fun _ iv _ => n - (RowKit.intOf iv).toNat)
        case atStart => exact ⟨0, false, rfl, by omega, rfl, ⟨fun h => (by cases h), fun ⟨i, h, _⟩ => (by omega)⟩, rfl⟩
        case round =>
          obtain ⟨i, b, rfl, hi, rfl, hbi, rfl⟩ := hrel
          by_cases hlt2 : i < n
          · have hii : (i : Int) < (n : Int) := by omega
            have i0 : (0 : Int) ≤ (i : Int) := by omega
            have i1 : ¬ (i : Int) < 0 := by omega
            have HI : Hid (i + 1 ≤ n) := hlt2
            have q1 := HPV.out w7 (HB.out w7 B7.out) i hlt2
            have HZ : Hid (∀ b2 : Bool, (b2 = true ↔ b = true ∨ cl z1 = cl (ss i).v) → (b2 = true ↔ ∃ i', i' < i + 1 ∧ cl z1 = cl (ss i').v)) := (show ∀ b2 : Bool, _ → _ from fun b2 h => h.trans ⟨fun h => by
              rcases h with h | h
              · obtain ⟨i2, h1, h2⟩ := hbi.out.1 h
                exact ⟨i2, by omega, h2⟩
              · exact ⟨i, by omega, h⟩, fun ⟨i2, h1, h2⟩ => by
              by_cases h3 : i2 = i
              · subst h3
                exact .inr h2
              · exact .inl (hbi.out.2 ⟨i2, by omega, h2⟩)⟩)
            have k15 := fun W => same_any z1 (ss i).v W
            have HSm : Hid (smB (cl z1) (cl (ss i).v) = true ↔ cl z1 = cl (ss i).v) := (show _ ↔ _ by unfold smB; exact decide_eq_true_iff)
            generalize smB (cl z1) (cl (ss i).v) = s at *
            obtain ⟨v, hv⟩ : ∃ v, v = (ss i).v := ⟨_, rfl⟩
            rw [← hv] at q1 k15 HZ HSm
            clear hv hbi
            cases b
            · go_wp2_with fail
              go_fit (k15 _)
              rintro e w8 ⟨rfl, rfl⟩
              go_wp2
              exact ⟨⟨i + 1, s, by go_num, HI.out, rfl, HZ.out s ⟨fun h => .inr (HSm.out.1 h), fun h => h.elim (fun h => by cases h) HSm.out.2⟩, (by trivial)⟩, by simp [RowKit.intOf]; omega⟩
            · go_wp2
              exact ⟨⟨i + 1, true, by go_num, HI.out, rfl, HZ.out true ⟨fun _ => .inl rfl, fun _ => rfl⟩, (by trivial)⟩, by simp [RowKit.intOf]; omega⟩
          · have hii : ¬ (i : Int) < (n : Int) := by omega
            obtain rfl : i = n := by omega
            have hbt : b = true := hbi.out.2 hm7.out.1
            subst hbt
            clear hbi
            go_wp2_with fail
            go_big_quiet (fail)
            go_wp2
            exact ⟨⟨4 + 1, by go_num, by omega, below_drewN B7.out _⟩, by simp [RowKit.intOf]⟩
      · have nI := HNI.out wr hb.out
        obtain ⟨nm, hnm⟩ : ∃ nm, nm = (fnAt (mi 5)).1 := ⟨_, rfl⟩
        rw [← hnm] at nI HNI HCall
        clear hnm
        go_wp2_with fail
        have hX : floatOfInt .f64 1 = 4607182418800017408 := by decide +kernel
        rw [hX]
        have fm : Fm (wr.alloc (.cells #[.float .f64 4607182418800017408] 25)) (some ⟨wr.heap.size, 0, none⟩) [4607182418800017408] := fm_new wr [4607182418800017408] 25
        have bA : Below W0.heap.size W0 (wr.alloc (.cells #[.float .f64 4607182418800017408] 25)) := hb.out.alloc hb.out.size _
        obtain ⟨WA, hWA⟩ : ∃ WA, WA = wr.alloc (.cells #[.float .f64 4607182418800017408] 25) := ⟨_, rfl⟩
        obtain ⟨gw, hgw⟩ : ∃ gw, gw = wr.heap.size := ⟨_, rfl⟩
        rw [← hWA, ← hgw] at fm
        rw [← hWA] at bA
        rw [← hWA, ← hgw]
        clear hWA hgw hX nI
        have nI := HNI.out WA bA
        have BA : Hid (Below W0.heap.size W0 WA) := bA
        have FM : Hid (Fm WA (some ⟨gw, 0, none⟩) (mq 5)) := fm
        clear fm bA
        have HS1 : Hid (∀ W, Below WA.heap.size WA W → (W.cell? ⟨gn, 5, none⟩ = some (.string nm) ∧ WnC (some ⟨g, o, none⟩) n c F T N w.heap.size W) ∧ Below WA.heap.size WA W) := (show ∀ W, _ → _ from fun W b => ⟨⟨HNI.out W (BA.out.trans (b.mono BA.out.size)), HCW.out W (BA.out.trans (b.mono BA.out.size))⟩, b⟩)
        obtain ⟨⟨_, y0, y1, y2, y3⟩, _⟩ := HS1.out WA (Below.refl _ _)
        have bd : Below WA.heap.size WA WA.drew := (Below.refl _ _).drew
        unfold WnC at HS1
        have kc : ∀ W, Below WA.heap.size WA W → Calls Try.prog 10 #[.string nm, Wn (some ⟨g, o, none⟩) n c F T N, .slice (some ⟨gw, 0, none⟩) 1 1] W fun r w' => ∃ z, r = .returned (.tuple #[.float .f64 z, .bool true]) ∧ z < 18446744073709551616 ∧ Below W.heap.size W w' ∧ Hid (Mm ss n 5 z) := fun W b => HCall.out W (some ⟨gw, 0, none⟩) 1 (BA.out.trans (b.mono BA.out.size)) (FM.out.below b)
        clear HCall
        go_wp2_with fail
        go_region_held3 (fun w2 => (w2.cell? ⟨gn, 5, none⟩ = some (.string nm) ∧ w2.cell? ⟨w.heap.size, 0, none⟩ = some (.slice (some ⟨g, o, none⟩) n c) ∧ w2.cell? ⟨w.heap.size, 1, none⟩ = some (.int .i64 F) ∧ w2.cell? ⟨w.heap.size, 2, none⟩ = some (.int .i64 T) ∧ w2.cell? ⟨w.heap.size, 3, none⟩ = some (.int .i64 N)) ∧ Below WA.heap.size WA w2) (first | exact HS1.out _ (by assumption) | exact HS1.out _ (Below.drew (by assumption))) (first | (go_at_call 10; go_fit (kc _ (by first | exact bd | exact Below.refl _ _)); rintro e w7 ⟨z1, rfl, hl1, b7, hm7⟩; have bc : Below WA.heap.size WA w7 := by first | exact bd.trans (b7.mono bd.size) | exact b7))
        rename_i hh
        have B7 : Hid (Below W0.heap.size W0 w7) := BA.out.trans (bc.mono BA.out.size)
        clear hh kc bc b7 bd y0 y1 y2 y3 nI HS1 BA HNI
        have n1 : (n : Int) ≤ 9223372036854775807 := by have := HL.out.1; omega
        obtain ⟨y0, y1, y2, y3⟩ := HCW.out w7 B7.out
        go_wp2_with fail
        go_loopw [10, 11] (fun bv iv W => ∃ (i : Nat) (b : Bool), iv = .int .i64 (i : Nat) ∧ i ≤ n ∧ bv = .bool b ∧ Hid (b = true ↔ ∃ i', i' < i ∧ cl z1 = cl (ss i').v) ∧ w7 = W) (fun _ iv _ => n - (RowKit.intOf iv).toNat)
        case atStart => exact ⟨0, false, rfl, by omega, rfl, ⟨fun h => (by cases h), fun ⟨i, h, _⟩ => (by omega)⟩, rfl⟩
        case round =>
          obtain ⟨i, b, rfl, hi, rfl, hbi, rfl⟩ := hrel
          by_cases hlt2 : i < n
          · have hii : (i : Int) < (n : Int) := by omega
            have i0 : (0 : Int) ≤ (i : Int) := by omega
            have i1 : ¬ (i : Int) < 0 := by omega
            have HI : Hid (i + 1 ≤ n) := hlt2
            have q1 := HPV.out w7 (HB.out w7 B7.out) i hlt2
            have HZ : Hid (∀ b2 : Bool, (b2 = true ↔ b = true ∨ cl z1 = cl (ss i).v) → (b2 = true ↔ ∃ i', i' < i + 1 ∧ cl z1 = cl (ss i').v)) := (show ∀ b2 : Bool, _ → _ from fun b2 h => h.trans ⟨fun h => by
              rcases h with h | h
              · obtain ⟨i2, h1, h2⟩ := hbi.out.1 h
                exact ⟨i2, by omega, h2⟩
              · exact ⟨i, by omega, h⟩, fun ⟨i2, h1, h2⟩ => by
              by_cases h3 : i2 = i
              · subst h3
                exact .inr h2
              · exact .inl (hbi.out.2 ⟨i2, by omega, h2⟩)⟩)
            have k15 := fun W => same_any z1 (ss i).v W
            have HSm : Hid (smB (cl z1) (cl (ss i).v) = true ↔ cl z1 = cl (ss i).v) := (show _ ↔ _ by unfold smB; exact decide_eq_true_iff)
            generalize smB (cl z1) (cl (ss i).v) = s at *
            obtain ⟨v, hv⟩ : ∃ v, v = (ss i).v := ⟨_, rfl⟩
            rw [← hv] at q1 k15 HZ HSm
            clear hv hbi
            cases b
            · go_wp2_with fail
              go_fit (k15 _)
              rintro e w8 ⟨rfl, rfl⟩
              go_wp2
              exact ⟨⟨i + 1, s, by go_num, HI.out, rfl, HZ.out s ⟨fun h => .inr (HSm.out.1 h), fun h => h.elim (fun h => by cases h) HSm.out.2⟩, (by trivial)⟩, by simp [RowKit.intOf]; omega⟩
            · go_wp2
              exact ⟨⟨i + 1, true, by go_num, HI.out, rfl, HZ.out true ⟨fun _ => .inl rfl, fun _ => rfl⟩, (by trivial)⟩, by simp [RowKit.intOf]; omega⟩
          · have hii : ¬ (i : Int) < (n : Int) := by omega
            obtain rfl : i = n := by omega
            have hbt : b = true := hbi.out.2 hm7.out.1
            subst hbt
            clear hbi
            go_wp2_with fail
            go_big_quiet (fail)
            go_wp2
            exact ⟨⟨5 + 1, by go_num, by omega, below_drewN B7.out _⟩, by simp [RowKit.intOf]⟩
    · have hjj : ¬ (j : Int) < 6 := by omega
      have hi6 : j = 6 := by omega
      subst hi6
      obtain ⟨y0, y1, y2, y3⟩ := HCW.out wr hb.out
      have n1 : (n : Int) ≤ 9223372036854775807 := by have := HL.out.1; omega
      have K2 : Hid (∀ W, Below W0.heap.size W0 W → Calls Try.prog 10 #[.string ⟨#[102, 105, 114, 115, 116, 95, 111, 118, 101, 114, 95, 116, 105, 109, 101]⟩, Wn (some ⟨g, o, none⟩) n c F T N, .slice none 0 0] W fun r w' => ∃ z, r = .returned (.tuple #[.float .f64 z, .bool true]) ∧ z < 18446744073709551616 ∧ Below W.heap.size W w' ∧ Hid (Mm ss n 2 z)) := (show ∀ W, _ → _ from fun W b => members_call 2 (by decide) _ n c F T N ss none 0 W (HH.out W (HB.out W b)) HN1.out HL.out.2.1 HS.out (.inl rfl))
      have K3 : Hid (∀ W, Below W0.heap.size W0 W → Calls Try.prog 10 #[.string ⟨#[108, 97, 115, 116, 95, 111, 118, 101, 114, 95, 116, 105, 109, 101]⟩, Wn (some ⟨g, o, none⟩) n c F T N, .slice none 0 0] W fun r w' => ∃ z, r = .returned (.tuple #[.float .f64 z, .bool true]) ∧ z < 18446744073709551616 ∧ Below W.heap.size W w' ∧ Hid (Mm ss n 3 z)) := (show ∀ W, _ → _ from fun W b => members_call 3 (by decide) _ n c F T N ss none 0 W (HH.out W (HB.out W b)) HN1.out HL.out.2.1 HS.out (.inl rfl))
      have k2 := K2.out wr hb.out
      go_wp2_with fail
      go_fit k2
      rintro e w7 ⟨z1, rfl, hl1, b7, hm7⟩
      have B7 : Hid (Below W0.heap.size W0 w7) := hb.out.trans (b7.mono hb.out.size)
      have k3 := K3.out w7 B7.out
      obtain ⟨u0, u1, u2, u3⟩ := HCW.out w7 B7.out
      clear k2 K2 b7 y0 y1 y2 y3
      go_wp2_with fail
      go_fit k3
      rintro e w8 ⟨z2, rfl, hl2, b8, hm8⟩
      have B8 : Hid (Below W0.heap.size W0 w8) := B7.out.trans (b8.mono B7.out.size)
      obtain ⟨y0, y1, y2, y3⟩ := HCW.out w8 B8.out
      clear k3 K3 b8 u0 u1 u2 u3
      have q0 := HPV.out w8 (HB.out w8 B8.out) 0 HN1.out
      rw [show o + 0 * 3 + 1 = o + 1 by omega] at q0
      obtain ⟨m, hm⟩ : ∃ m, n = m + 1 := ⟨n - 1, by have := HN1.out; omega⟩
      have qm := HPV.out w8 (HB.out w8 B8.out) m (by omega)
      have wm : IntKind.i64.wrap ((n : Int) - 1) = (m : Int) := by have := HL.out.1; rw [IntKind.wrap_i64]; omega
      have m0 : (0 : Int) ≤ (m : Int) := by omega
      have m1 : (m : Int) < (n : Int) := by omega
      have m2 : ¬ (m : Int) < 0 := by omega
      have ka : ∀ W, Calls Try.prog 15 #[.float .f64 z1, .float .f64 (ss 0).v] W fun r w' => r = .returned (.bool true) ∧ w' = W := fun W => (same_any z1 (ss 0).v W).mono (fun r w' hx => by
        have e : smB (cl z1) (cl (ss 0).v) = true := decide_eq_true (hm7.out.2.2.2.2.1 rfl)
        rw [e] at hx; exact hx)
      have kb : ∀ W, Calls Try.prog 15 #[.float .f64 z2, .float .f64 (ss m).v] W fun r w' => r = .returned (.bool true) ∧ w' = W := fun W => (same_any z2 (ss m).v W).mono (fun r w' hx => by
        have e : smB (cl z2) (cl (ss m).v) = true := decide_eq_true (by
          have := hm8.out.2.2.2.2.2 rfl
          rwa [show n - 1 = m by omega] at this)
        rw [e] at hx; exact hx)
      clear hm hm7 hm8
      generalize (ss 0).v = v0 at *
      generalize (ss m).v = vm at *
      go_wp2_with fail
      go_fit (ka _)
      rintro e w9 ⟨rfl, rfl⟩
      go_wp2_with fail
      go_fit (kb _)
      rintro e w10 ⟨rfl, rfl⟩
      have BE : Hid (Below w.heap.size w w10) := HB.out w10 B8.out
      go_wp2
      go_ret
      exact ⟨rfl, BE.out⟩
end Go.Proofs.Ytmjenemjbpimcaa
