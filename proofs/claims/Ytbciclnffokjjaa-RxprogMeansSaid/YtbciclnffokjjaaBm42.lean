/- A bundle of texts. -/
import Derived.Test.YtbciclnffokjjaaBm41
/- The reference's matching: times, walked. -/
namespace Go.Proofs.Ytbciclnffokjjaa
open Go.RowKit Go.Lib

/-- A row of truths that a sheet leaves alone. -/
structure NwP (MS : Nat → Prop) (L : Nat) (a : Option Addr) (u : Nat → Bool) (w : World) : Prop where
  ml : Bml w a u L
  off : ∀ p, a = some p → ¬ MS p.block ∧ p.block < w.heap.size
theorem NwP.kp {MS M : Nat → Prop} {L : Nat} {a : Option Addr} {u : Nat → Bool} {w w' : World} (h : NwP MS L a u w) (k : Kp M w w') (hM : ∀ p, a = some p → ¬ M p.block) : NwP MS L a u w' := ⟨h.ml.kp k hM, fun p e => ⟨(h.off p e).1, Nat.lt_of_lt_of_le (h.off p e).2 k.size⟩⟩
theorem row_bml {S g L c : Nat} {w : World} {u : Nat → Bool} (h : w.ownsRow S 4 1 (.slice (some ⟨g, 0, none⟩) L c) L (bcS u L)) : Bml w (some ⟨g, 0, none⟩) u L := .inr ⟨g, 0, rfl, (h.lt g rfl).2, fun j hj => by rw [Nat.zero_add, World.ownsRow.cellAt h j (by omega), bcS_get _ _ _ hj]⟩
theorem smB_eq {s u : Nat → Bool} {n : Nat} (h : smB s u n = true) : ∀ j, j < n → s j = u j := smB_iff.1 h
/-- The truths of a row, counted. -/
def cW (g L : Nat) (w : World) : Nat := cnF (fun j => match w.cell? ⟨g, j, none⟩ with | some (.bool b) => b | _ => false) L
theorem cn_congr {s u : Nat → Bool} : ∀ {n : Nat}, (∀ j, j < n → s j = u j) → cnF s n = cnF u n
  | 0, _ => rfl
  | n + 1, h => by
    unfold cnF
    rw [cn_congr (n := n) (fun j hj => h j (by omega)), h n (by omega)]
theorem cW_row {S g L c : Nat} {w : World} {u : Nat → Bool} (h : w.ownsRow S 4 1 (.slice (some ⟨g, 0, none⟩) L c) L (bcS u L)) : cW g L w = cnF u L := by
  unfold cW
  refine cn_congr (fun j hj => ?_)
  rw [World.ownsRow.cellAt h j (by omega), bcS_get _ _ _ hj]
theorem grB_congr {s u s' u' : Nat → Bool} : ∀ {n : Nat}, (∀ j, j < n → s j = s' j ∧ u j = u' j) → grB s u n = grB s' u' n
  | 0, _ => rfl
  | n + 1, h => by
    unfold grB
    rw [grB_congr (n := n) (fun j hj => h j (by omega)), (h n (by omega)).1, (h n (by omega)).2]
/-- What times answers, in memory. -/
def TmR (Sht : World → (Nat → Prop) → Prop) (MS Z : Nat → Prop) (L : Nat) (s : Nat → Bool) (F : Nat → Nat → Bool) (least : Nat) (most : Int) (w : World) (e : Ending) (w' : World) : Prop := (∃ g c u, e = .returned (.slice (some ⟨g, 0, none⟩) L c) ∧ w.heap.size ≤ g ∧ g < w'.heap.size ∧ w'.ownsRow w.heap.size 4 1 (.slice (some ⟨g, 0, none⟩) L c) L (bcS u L) ∧ (∀ j, j < L → (u j = true ↔ TmP s F L least most j)) ∧ Sht w' (fun b => Z b ∨ b = g)) ∧ Kp MS w w'
/-- times in its second loop. -/
structure T2 (Sht : World → (Nat → Prop) → Prop) (MS Z : Nat → Prop) (w : World) (S g L cc : Nat) (s : Nat → Bool) (F : Nat → Nat → Bool) (least d : Nat) (a : Option Addr) (w' : World) : Prop where
  now : ∃ u, NwP MS L a u w' ∧ (∀ j, j < L → u j = itB s F L (least + d) j) ∧ ∀ p, a = some p → p.block ≠ g
  out : ∃ v, w'.ownsRow S 4 1 (.slice (some ⟨g, 0, none⟩) L cc) L (bcS v L) ∧ ∀ j, j < L → v j = unB s F L least d j
  sh : Sht w' (fun b => Z b ∨ b = g)
  kp : Kp (fun b => MS b ∨ b = g) w w'
theorem T2.fin {Sht : World → (Nat → Prop) → Prop} {MS Z : Nat → Prop} {w : World} {g L cc : Nat} {s : Nat → Bool} {F : Nat → Nat → Bool} {least d : Nat} {most : Int} {a : Option Addr} {w' : World} (h : T2 Sht MS Z w w.heap.size g L cc s F least d a w') (hg : w.heap.size ≤ g) (hm : most = -1 ∨ ((least + d : Nat) : Int) ≤ most) (he : ¬ (most = -1 ∨ ((least + d : Nat) : Int) < most) ∨ ∀ j, j < L → itB s F L (least + (d + 1)) j = true → unB s F L least d j = true) : TmR Sht MS Z L s F least most w (.returned (.slice (some ⟨g, 0, none⟩) L cc)) w' := by
  obtain ⟨v, ho, hv⟩ := h.out
  refine ⟨⟨g, cc, v, rfl, hg, (ho.lt g rfl).2, ho, fun j hj => ?_, h.sh⟩, h.kp.mono (fun b hb e => e.elim id (fun e => by omega))⟩
  rw [hv j hj]
  exact tm_end hm he j hj
set_option maxHeartbeats 4000000 in
set_option maxRecDepth 100000 in
theorem times_any {Sht : World → (Nat → Prop) → Prop} {MS : Nat → Prop} (hA : ShA Sht MS) (H L nd : Nat) (F : Nat → Nat → Bool) (hF : FrC Sht MS H L nd F) (a : Option Addr) (c : Nat) (s : Nat → Bool) (w : World) (Z : Nat → Prop) (least : Nat) (most : Int) (hL1 : 1 ≤ L) (hL : L ≤ 1000000) (hl : least ≤ 1000) (hm : most = -1 ∨ (least : Int) ≤ most ∧ most ≤ 1000) (hs : Sht w Z) (hZ : ∀ b, Z b → b < w.heap.size) (ha : NwP MS L a s w) :
    Calls Try.prog 78 #[.pointer (some ⟨H, 0, none⟩), .int .i64 (nd : Int), .int .i64 (least : Int), .int .i64 most, .slice a L c] w (TmR Sht MS Z L s F least most w) := by
  have HAL : Hid (∀ (a : Option Addr) (c : Nat) (u : Nat → Bool) (w' : World) (Y : Nat → Prop), Sht w' Y → (∀ b, Y b → b < w'.heap.size) → NwP MS L a u w' → Calls Try.prog 76 #[.pointer (some ⟨H, 0, none⟩), .int .i64 (nd : Int), .slice a L c] w' fun e w2 => (∃ g, e = .returned (.slice (some ⟨g, 0, none⟩) L L) ∧ Hid (w'.heap.size ≤ g ∧ NwP MS L (some ⟨g, 0, none⟩) (alB u F L) w2 ∧ Sht w2 Y)) ∧ Hid (Kp MS w' w2)) := fun a c u w' Y h1 h2 h3 => (all_any hA H L nd F hF a c u w' Y hL h1 h2 h3.ml h3.off).mono fun e w2 ⟨⟨g, e1, hh⟩, hk⟩ => by
    obtain ⟨g1, g2, g3, g4⟩ := hh.out
    refine ⟨⟨g, e1, g1, ⟨row_bml g3, fun p ep => ?_⟩, hA.more _ _ _ g4 (fun b hb => .inl (.inl hb))⟩, hk⟩
    cases ep
    exact ⟨fun e => (hA.off _ _ g4 g e).1 (.inr rfl), g2⟩
  have HSK : Hid (∀ w2 w3, Sht w2 Z → Below w2.heap.size w2 w3 → Sht w3 Z) := fun w2 w3 h b => hA.kp _ _ _ h (Kp.of b)
  have HI0 : Hid (NwP MS L a s w ∧ (∀ j, j < L → s j = itB s F L 0 j) ∧ Sht w Z ∧ Kp MS w w) := ⟨ha, fun _ _ => rfl, hs, Kp.refl _ _⟩
  have HZ : Hid (∀ w', Kp MS w w' → ∀ b, Z b → b < w'.heap.size) := fun w' k b hb => Nat.lt_of_lt_of_le (hZ b hb) k.size
  have HCP : Hid (∀ (a : Option Addr) (c : Nat) (u : Nat → Bool) (w' : World), NwP MS L a u w' → (∀ j, j < L → u j = itB s F L least j) → Sht w' Z → Kp MS w w' → ∃ g cc w2, (Builtin.append_ #[72, 72] 72 #[.slice (some ⟨w'.heap.size, 0, none⟩) 0 0, .slice a L c]).run Try.prog (w'.alloc (.cells #[] 4)) = .ok (.slice (some ⟨g, 0, none⟩) L cc) w2 ∧ w.heap.size ≤ g ∧ Hid (T2 Sht MS Z w w.heap.size g L cc s F least 0 a w2)) := fun a c u w' h1 h2 h3 h4 => by
    obtain ⟨g, cc, w2, r, o, b, hg, hlt⟩ := fresh_copy (P := Try.prog) w' 72 4 _ 1 1 Try.underlying72 infB rfl (by decide) a L c (bcS u L) (fun e => by
      rcases h1.ml with h0 | ⟨g, o, e2, _⟩
      · omega
      · rw [e] at e2; cases e2) (by rw [bcS_len]; omega) (fun p ep j x hx => by
      rcases h1.ml with h0 | ⟨g, o, e2, _, hc⟩
      · omega
      · rw [ep] at e2
        cases e2
        have hj : j < L := by
          have := (List.getElem?_eq_some_iff.1 hx).1
          rw [bcS_len] at this
          exact this
        rw [bcS_get _ _ _ hj] at hx
        cases hx
        rw [Go.WideShapes.add_plain]
        exact hc j hj) (by
      intro x hx
      obtain ⟨j, _, rfl⟩ := List.mem_map.1 hx
      rfl) (by unfold maxLen; omega) (by omega)
    have hsz := h4.size
    refine ⟨g, cc, w2, r, by omega, ⟨u, h1.kp (M := fun _ => False) (Kp.of b) (fun _ _ => id), h2, fun p ep e => ?_⟩, ⟨u, row_mono o hsz, fun j hj => ?_⟩, ?_, ?_⟩
    · have := (h1.off p ep).2; omega
    · rw [h2 j hj]
      show _ = (false || itB s F L (least + 0) j)
      simp
    · exact hA.kp _ _ _ (hA.more _ _ (fun b => Z b ∨ b = g) h3 (fun b hb => hb.imp id (fun e => by omega))) (Kp.of b)
    · exact (h4.mono (fun b _ e => .inl e)).trans (Kp.of b)
  have HR2 : Hid (∀ (d g cc : Nat) (a : Option Addr) (c : Nat) (w' : World), w.heap.size ≤ g → T2 Sht MS Z w w.heap.size g L cc s F least d a w' → Calls Try.prog 76 #[.pointer (some ⟨H, 0, none⟩), .int .i64 (nd : Int), .slice a L c] w' fun e w2 => ∃ g2, e = .returned (.slice (some ⟨g2, 0, none⟩) L L) ∧ Hid (Calls Try.prog 77 #[.slice (some ⟨g, 0, none⟩) L cc, .slice (some ⟨g2, 0, none⟩) L L] w2 fun e w3 => ∃ b, e = .returned (.bool b) ∧ Hid (T2 Sht MS Z w w.heap.size g L cc s F least (d + 1) (some ⟨g2, 0, none⟩) w3 ∧ (b = true → cW g L w3 < cW g L w') ∧ (b = false → ∀ j, j < L → itB s F L (least + (d + 1 + 1)) j = true → unB s F L least (d + 1) j = true)))) := fun d g cc a c w' hg h => by
    obtain ⟨u, hn, hu, hne⟩ := h.now
    obtain ⟨v, ho, hv⟩ := h.out
    have hgs : g < w'.heap.size := (ho.lt g rfl).2
    refine (HAL.out a c u w' (fun b => Z b ∨ b = g) h.sh (fun b hb => by
      have := h.kp.size
      rcases hb with hb | hb
      · have := hZ b hb; omega
      · omega) hn).mono ?_
    rintro e w2 ⟨⟨g2, rfl, hh⟩, hk⟩
    obtain ⟨q1, q2, q3⟩ := hh.out
    have gM : ¬ MS g := fun e => (hA.off _ _ h.sh g e).1 (.inr rfl)
    have ho2 := hk.out.row ho (fun b e e2 => by cases e; exact gM e2)
    refine ⟨g2, rfl, (rAdd_any w.heap.size g L cc (some ⟨g2, 0, none⟩) L v (alB u F L) w2 ho2 q2.ml (fun p ep e => by cases ep; have e' : g2 = g := e; omega) hL).mono ?_⟩
    rintro e w3 ⟨rfl, ho3, hk3⟩
    have hit : ∀ j, j < L → alB u F L j = itB s F L (least + (d + 1)) j := fun j hj => by
      show _ = alB (itB s F L (least + d)) F L j
      rw [alB_congr hu]
    refine ⟨_, rfl, ⟨⟨alB u F L, q2.kp hk3 (fun p ep e => by cases ep; have e' : g2 = g := e; omega), hit, fun p ep e => by cases ep; have e' : g2 = g := e; omega⟩, ⟨orB v (alB u F L), ho3, fun j hj => ?_⟩, hA.kp _ _ _ q3 (hk3.mono (fun b _ e => .inr e)), (h.kp.trans (hk.out.mono (fun b _ e => .inl e))).trans (hk3.mono (fun b _ e => .inr e))⟩, fun hb => ?_, fun hb => ?_⟩
    · rw [unB_next]
      unfold orB
      rw [hv j hj, hit j hj]
    · rw [cW_row ho3, cW_row ho]
      exact cn_grow hb
    · have h0 : ∀ j, j < L → itB s F L (least + (d + 1)) j = true → unB s F L least d j = true := fun j hj e => by
        rw [← hv j hj]
        exact grB_no.1 hb j hj (by rw [hit j hj]; exact e)
      intro j hj e
      obtain ⟨n, n1, n2⟩ := unB_iff.1 (unB_fix h0 (d + 1 + 1) j hj e)
      exact unB_iff.2 ⟨n, by omega, n2⟩
  have HFN : Hid (∀ (d g cc : Nat) (a : Option Addr) (w' : World), w.heap.size ≤ g → T2 Sht MS Z w w.heap.size g L cc s F least d a w' → (most = -1 ∨ ((least + d : Nat) : Int) ≤ most) → (¬ (most = -1 ∨ ((least + d : Nat) : Int) < most) ∨ ∀ j, j < L → itB s F L (least + (d + 1)) j = true → unB s F L least d j = true) → TmR Sht MS Z L s F least most w (.returned (.slice (some ⟨g, 0, none⟩) L cc)) w') := fun d g cc a w' hg h h1 h2 => h.fin hg h1 h2
  have HCL : Hid (∀ g cc w' d a, T2 Sht MS Z w w.heap.size g L cc s F least d a w' → cW g L w' ≤ L) := fun g cc w' d a h => by
    obtain ⟨v, ho, _⟩ := h.out
    rw [cW_row ho]
    have : ∀ n, cnF v n ≤ n := fun n => by
      induction n with
      | zero => exact Nat.le_refl _
      | succ n ih => unfold cnF; split <;> omega
    exact this L
  have HMM : Hid (most = -1 ∨ (least : Int) ≤ most ∧ most ≤ 1000) := hm
  have HL1 : Hid (1 ≤ L ∧ L ≤ 1000000 ∧ least ≤ 1000) := ⟨hL1, hL, hl⟩
  have hLI : (L : Int) ≤ 1000000 := by omega
  have hlI : (least : Int) ≤ 1000 := by omega
  clear hA hF hs hZ ha hm hL1 hL hl
  go_enter Try.func78, Try.ntmps78
  go_wp2_with fail
  go_loopw [4, 11] (fun lv kv w' => ∃ (k : Nat) (a : Option Addr) (c : Nat), kv = .int .i64 (k : Int) ∧ k ≤ least ∧ lv = .slice a L c ∧ Hid (∃ u, NwP MS L a u w' ∧ (∀ j, j < L → u j = itB s F L k j) ∧ Sht w' Z ∧ Kp MS w w')) (fun _ kv _ => least - (RowKit.intOf kv).toNat)
  case atStart => exact ⟨0, a, c, rfl, Nat.zero_le _, rfl, s, HI0.out⟩
  case round =>
    clear HI0
    obtain ⟨k, an, cn, rfl, hk, rfl, hinv⟩ := hrel
    by_cases hlt : k < least
    · have hii : (k : Int) < least := by omega
      obtain ⟨u, h1, h2, h3, h4⟩ := hinv.out
      have kA := HAL.out an cn u wr Z h3 (HZ.out wr h4) h1
      have HH : Hid (NwP MS L an u wr ∧ (∀ j, j < L → u j = itB s F L k j) ∧ Sht wr Z ∧ Kp MS w wr) := ⟨h1, h2, h3, h4⟩
      clear h1 h2 h3 h4 hinv
      go_wp2_with fail
      go_fit kA
      rintro e w2 ⟨⟨g, rfl, hh⟩, hkk⟩
      have HO : Hid (NwP MS L an u w2) := HH.out.1.kp hkk.out (fun p ep => (HH.out.1.off p ep).1)
      have kS := rSame_any (some ⟨g, 0, none⟩) an L L cn (alB u F L) u w2 hh.out.2.1.ml HO.out.ml (by omega)
      have HIT : Hid (∀ j, j < L → alB u F L j = itB s F L (k + 1) j) := fun j hj => by
        show _ = alB (itB s F L k) F L j
        rw [alB_congr HH.out.2.1]
      clear kA
      cases hsm : smB (alB u F L) u L
      · rw [hsm] at kS
        clear hsm
        go_wp2_with fail
        go_fit kS
        rintro e w3 ⟨rfl, b3⟩
        have HN : Hid (∃ u, NwP MS L (some ⟨g, 0, none⟩) u w3 ∧ (∀ j, j < L → u j = itB s F L (k + 1) j) ∧ Sht w3 Z ∧ Kp MS w w3) := by
          exact ⟨alB u F L, hh.out.2.1.kp (M := fun _ => False) (Kp.of b3) (fun _ _ => id), HIT.out, HSK.out _ _ hh.out.2.2 b3, (HH.out.2.2.2.trans hkk.out).trans (Kp.of b3)⟩
        clear b3 kS
        go_wp2
        exact ⟨⟨k + 1, _, _, by go_num, by omega, rfl, HN⟩, by simp [RowKit.intOf]; omega⟩
      · rw [hsm] at kS
        have HQ0 : Hid (∀ w3, Below w2.heap.size w2 w3 → ∃ u, NwP MS L an u w3 ∧ (∀ j, j < L → u j = itB s F L least j) ∧ Sht w3 Z ∧ Kp MS w w3) := fun w3 b3 => ⟨u, HO.out.kp (M := fun _ => False) (Kp.of b3) (fun _ _ => id), fun j hj => by
          have hfx : ∀ j, j < L → itB s F L (k + 1) j = itB s F L k j := fun j hj => by
            rw [← HIT.out j hj, smB_eq hsm j hj, HH.out.2.1 j hj]
          have := itB_fix hfx (least - k) j hj
          rw [show k + (least - k) = least by omega] at this
          rw [this]
          exact HH.out.2.1 j hj, HSK.out _ _ hh.out.2.2 b3, (HH.out.2.2.2.trans hkk.out).trans (Kp.of b3)⟩
        clear hsm
        go_wp2_with fail
        go_fit kS
        rintro e W0 ⟨rfl, b3⟩
        have HQ : Hid _ := HQ0.out W0 b3
        clear b3 kS HQ0 HIT HO HH hh hkk
        obtain ⟨u0, d1, d2, d3, d4⟩ := HQ.out
        obtain ⟨go, cc, w7, r7, hgo, HT0⟩ := HCP.out an cn u0 W0 d1 d2 d3 d4
        have HGO : Hid (w.heap.size ≤ go) := hgo
        have HC0 : Hid (0 + cW go L w7 ≤ L) := by have := HCL.out _ _ _ _ _ HT0.out; unfold Hid; omega
        clear d1 d2 d3 d4 HQ HCP HAL HCL HSK HZ hgo
        go_wp2_with (at_builtin; refine wpList_append_run rfl (.tmp 28) (.tmp 29) 72 72 rfl _ _ rfl rfl r7 ?_)
        clear r7
        go_loopw [4, 14] (fun lv kv w' => ∃ (d : Nat) (a : Option Addr) (c : Nat), kv = .int .i64 ((least : Int) + (d : Int)) ∧ lv = .slice a L c ∧ (most = -1 ∨ (least : Int) + d ≤ most) ∧ Hid (d + cW go L w' ≤ L) ∧ Hid (T2 Sht MS Z w w.heap.size go L cc s F least d a w')) (fun _ _ w' => cW go L w')
        case atStart => exact ⟨0, _, _, by simp, rfl, by have := HMM.out; omega, HC0, HT0⟩
        case round =>
          obtain ⟨d, an2, cn2, rfl, rfl, hmd, HC, HT⟩ := hrel
          have hdL : (d : Int) ≤ 1000000 := by have := HC.out; have := HL1.out; omega
          by_cases hmm : most = -1
          · have tm2 : (most == -1) = true := by simpa using hmm
            have kA2 := HR2.out d go cc an2 cn2 wr HGO.out HT.out
            have HNX : Hid (most = -1 ∨ ((least + (d + 1) : Nat) : Int) ≤ most) := by unfold Hid; omega
            have HNX2 : Hid (most = -1 ∨ (least : Int) + ((d + 1 : Nat) : Int) ≤ most) := by unfold Hid; omega
            clear HT HT0 HC0 hmm
            go_wp2_with fail
            go_fit kA2
            rintro e w2 ⟨g2, rfl, HK⟩
            have kD := HK.out
            clear kA2 HK
            go_wp2_with fail
            go_fit kD
            rintro e w3 ⟨b, rfl, HN⟩
            clear kD
            cases b
            · have HEND : Hid (TmR Sht MS Z L s F least most w (.returned (.slice (some ⟨go, 0, none⟩) L cc)) w3) := HFN.out (d + 1) go cc _ w3 HGO.out HN.out.1 HNX.out (.inr (HN.out.2.2 rfl))
              clear HN HR2 HFN HC
              go_wp2
              go_ret
              exact HEND.out
            · have HDC : Hid (cW go L w3 < cW go L wr) := HN.out.2.1 rfl
              have HT3 : Hid (T2 Sht MS Z w w.heap.size go L cc s F least (d + 1) (some ⟨g2, 0, none⟩) w3) := HN.out.1
              have HC3 : Hid (d + 1 + cW go L w3 ≤ L) := by have e1 := HDC.out; have e2 := HC.out; unfold Hid; omega
              clear HN HR2 HFN HC
              go_wp2
              exact ⟨⟨d + 1, _, _, by congr 1, rfl, HNX2.out, HC3, HT3⟩, HDC.out⟩
          · have tm2 : (most == -1) = false := by simpa using hmm
            by_cases hlt2 : (least : Int) + d < most
            · skip
              have kA2 := HR2.out d go cc an2 cn2 wr HGO.out HT.out
              have HNX : Hid (most = -1 ∨ ((least + (d + 1) : Nat) : Int) ≤ most) := by unfold Hid; omega
              have HNX2 : Hid (most = -1 ∨ (least : Int) + ((d + 1 : Nat) : Int) ≤ most) := by unfold Hid; omega
              clear HT HT0 HC0 hmm
              go_wp2_with fail
              go_fit kA2
              rintro e w2 ⟨g2, rfl, HK⟩
              have kD := HK.out
              clear kA2 HK
              go_wp2_with fail
              go_fit kD
              rintro e w3 ⟨b, rfl, HN⟩
              clear kD
              cases b
              · have HEND : Hid (TmR Sht MS Z L s F least most w (.returned (.slice (some ⟨go, 0, none⟩) L cc)) w3) := HFN.out (d + 1) go cc _ w3 HGO.out HN.out.1 HNX.out (.inr (HN.out.2.2 rfl))
                clear HN HR2 HFN HC
                go_wp2
                go_ret
                exact HEND.out
              · have HDC : Hid (cW go L w3 < cW go L wr) := HN.out.2.1 rfl
                have HT3 : Hid (T2 Sht MS Z w w.heap.size go L cc s F least (d + 1) (some ⟨g2, 0, none⟩) w3) := HN.out.1
                have HC3 : Hid (d + 1 + cW go L w3 ≤ L) := by have e1 := HDC.out; have e2 := HC.out; unfold Hid; omega
                clear HN HR2 HFN HC
                go_wp2
                exact ⟨⟨d + 1, _, _, by congr 1, rfl, HNX2.out, HC3, HT3⟩, HDC.out⟩
            · have HEND : Hid (TmR Sht MS Z L s F least most w (.returned (.slice (some ⟨go, 0, none⟩) L cc)) wr) := HFN.out d go cc an2 wr HGO.out HT.out (by omega) (.inl (by omega))
              clear HT HT0 HC0 HR2 HFN HC hmm
              go_wp2
              go_ret
              exact HEND.out
    · have hii : ¬ (k : Int) < least := by omega
      have hke : least = k := by omega
      subst hke
      have HQ := hinv
      clear hinv
      generalize wr = W0 at *
      obtain ⟨u0, d1, d2, d3, d4⟩ := HQ.out
      obtain ⟨go, cc, w7, r7, hgo, HT0⟩ := HCP.out an cn u0 W0 d1 d2 d3 d4
      have HGO : Hid (w.heap.size ≤ go) := hgo
      have HC0 : Hid (0 + cW go L w7 ≤ L) := by have := HCL.out _ _ _ _ _ HT0.out; unfold Hid; omega
      clear d1 d2 d3 d4 HQ HCP HAL HCL HSK HZ hgo
      go_wp2_with (at_builtin; refine wpList_append_run rfl (.tmp 28) (.tmp 29) 72 72 rfl _ _ rfl rfl r7 ?_)
      clear r7
      go_loopw [4, 14] (fun lv kv w' => ∃ (d : Nat) (a : Option Addr) (c : Nat), kv = .int .i64 ((least : Int) + (d : Int)) ∧ lv = .slice a L c ∧ (most = -1 ∨ (least : Int) + d ≤ most) ∧ Hid (d + cW go L w' ≤ L) ∧ Hid (T2 Sht MS Z w w.heap.size go L cc s F least d a w')) (fun _ _ w' => cW go L w')
      case atStart => exact ⟨0, _, _, by simp, rfl, by have := HMM.out; omega, HC0, HT0⟩
      case round =>
        obtain ⟨d, an2, cn2, rfl, rfl, hmd, HC, HT⟩ := hrel
        have hdL : (d : Int) ≤ 1000000 := by have := HC.out; have := HL1.out; omega
        by_cases hmm : most = -1
        · have tm2 : (most == -1) = true := by simpa using hmm
          have kA2 := HR2.out d go cc an2 cn2 wr HGO.out HT.out
          have HNX : Hid (most = -1 ∨ ((least + (d + 1) : Nat) : Int) ≤ most) := by unfold Hid; omega
          have HNX2 : Hid (most = -1 ∨ (least : Int) + ((d + 1 : Nat) : Int) ≤ most) := by unfold Hid; omega
          clear HT HT0 HC0 hmm
          go_wp2_with fail
          go_fit kA2
          rintro e w2 ⟨g2, rfl, HK⟩
          have kD := HK.out
          clear kA2 HK
          go_wp2_with fail
          go_fit kD
          rintro e w3 ⟨b, rfl, HN⟩
          clear kD
          cases b
          · have HEND : Hid (TmR Sht MS Z L s F least most w (.returned (.slice (some ⟨go, 0, none⟩) L cc)) w3) := HFN.out (d + 1) go cc _ w3 HGO.out HN.out.1 HNX.out (.inr (HN.out.2.2 rfl))
            clear HN HR2 HFN HC
            go_wp2
            go_ret
            exact HEND.out
          · have HDC : Hid (cW go L w3 < cW go L wr) := HN.out.2.1 rfl
            have HT3 : Hid (T2 Sht MS Z w w.heap.size go L cc s F least (d + 1) (some ⟨g2, 0, none⟩) w3) := HN.out.1
            have HC3 : Hid (d + 1 + cW go L w3 ≤ L) := by have e1 := HDC.out; have e2 := HC.out; unfold Hid; omega
            clear HN HR2 HFN HC
            go_wp2
            exact ⟨⟨d + 1, _, _, by congr 1, rfl, HNX2.out, HC3, HT3⟩, HDC.out⟩
        · have tm2 : (most == -1) = false := by simpa using hmm
          by_cases hlt2 : (least : Int) + d < most
          · skip
            have kA2 := HR2.out d go cc an2 cn2 wr HGO.out HT.out
            have HNX : Hid (most = -1 ∨ ((least + (d + 1) : Nat) : Int) ≤ most) := by unfold Hid; omega
            have HNX2 : Hid (most = -1 ∨ (least : Int) + ((d + 1 : Nat) : Int) ≤ most) := by unfold Hid; omega
            clear HT HT0 HC0 hmm
            go_wp2_with fail
            go_fit kA2
            rintro e w2 ⟨g2, rfl, HK⟩
            have kD := HK.out
            clear kA2 HK
            go_wp2_with fail
            go_fit kD
            rintro e w3 ⟨b, rfl, HN⟩
            clear kD
            cases b
            · have HEND : Hid (TmR Sht MS Z L s F least most w (.returned (.slice (some ⟨go, 0, none⟩) L cc)) w3) := HFN.out (d + 1) go cc _ w3 HGO.out HN.out.1 HNX.out (.inr (HN.out.2.2 rfl))
              clear HN HR2 HFN HC
              go_wp2
              go_ret
              exact HEND.out
            · have HDC : Hid (cW go L w3 < cW go L wr) := HN.out.2.1 rfl
              have HT3 : Hid (T2 Sht MS Z w w.heap.size go L cc s F least (d + 1) (some ⟨g2, 0, none⟩) w3) := HN.out.1
              have HC3 : Hid (d + 1 + cW go L w3 ≤ L) := by have e1 := HDC.out; have e2 := HC.out; unfold Hid; omega
              clear HN HR2 HFN HC
              go_wp2
              exact ⟨⟨d + 1, _, _, by congr 1, rfl, HNX2.out, HC3, HT3⟩, HDC.out⟩
          · have HEND : Hid (TmR Sht MS Z L s F least most w (.returned (.slice (some ⟨go, 0, none⟩) L cc)) wr) := HFN.out d go cc an2 wr HGO.out HT.out (by omega) (.inl (by omega))
            clear HT HT0 HC0 HR2 HFN HC hmm
            go_wp2
            go_ret
            exact HEND.out
end Go.Proofs.Ytbciclnffokjjaa
