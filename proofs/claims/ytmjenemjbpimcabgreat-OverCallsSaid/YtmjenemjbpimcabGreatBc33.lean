/- A bundle of texts. -/
import Derived.Test.YtmjenemjbpimcabGreatBc32
/- The reference's Call: the functions that look at the window itself. -/
namespace Go.Proofs.YtmjenemjbpimcabGreat
open Go.RowKit

set_option maxHeartbeats 8000000 in
set_option maxRecDepth 100000 in
theorem rcall_14 (a : Option Addr) (n c : Nat) (F T N : Int) (ss : Nat → Smp) (aa : Option Addr) (ca na : Nat) (w : World) (h : HypW a n ss w) :
    Calls Tryz.prog 12 #[.string ⟨#[114, 97, 116, 101]⟩, Wn a n c F T N, .slice aa na ca] w (RX w (na = 0 ∧ 2 ≤ n ∧ Snd ss n F T N) (exF ss n F T true true)) := by
  have HB : Hid (Below w.heap.size w (w.alloc (wnX a n c F T N))) := (Below.refl _ w).alloc (Nat.le_refl _) _
  have HC : Hid (∀ W, Below (w.alloc (wnX a n c F T N)).heap.size (w.alloc (wnX a n c F T N)) W → WnC a n c F T N w.heap.size W) := wnC_new a n c F T N w
  have kS : Hid (∀ W, Below w.heap.size w W → Calls Tryz.prog 22 #[Wn a n c F T N] W (RP W (Snd ss n F T N))) := (show ∀ W, _ → _ from fun W b => rsound_any a n c F T N ss W (h.below b).1 (by have := h.2.2; omega))
  have kV : Hid (∀ W, Below w.heap.size w W → Calls Tryz.prog 23 #[Wn a n c F T N] W fun r w' => ∃ v, r = .returned v ∧ Fr w' (W.heap.size + 1) v (vls ss n) ∧ Below W.heap.size W w') := (show ∀ W, _ → _ from fun W b => rvalues_any a n c F T N ss W (h.below b).1 (by have := h.2.2; omega))
  have kX : Hid (∀ W, Below w.heap.size w W → Calls Tryz.prog 24 #[Wn a n c F T N, .bool true, .bool true] W (RX W (2 ≤ n ∧ Snd ss n F T N) (exF ss n F T true true))) := (show ∀ W, _ → _ from fun W b => rextrapolate_any a n c F T N ss true true W (h.below b).1 h.2.1 (by have := h.2.2; omega))
  generalize exF ss n F T true true = R at *
  have k1 := least_14
  have hn8 : n ≤ 9223372036854775807 := by have := h.2.2; omega
  obtain ⟨x0, x1, x2, x3⟩ := HC.out (w.alloc (wnX a n c F T N)) (Below.refl _ _)
  clear h
  go_enter Tryz.func12, Tryz.ntmps12
  go_wp2_with fail
  go_fit (k1 _)
  rintro e w1 ⟨rfl, rfl⟩
  by_cases hq : na = 0
  · have HQ : Hid (na = 0) := hq
    have eN : ((na : Int) != 0) = false := by simp [hq]
    have k2 := kS.out (w.alloc (wnX a n c F T N)) HB.out
    clear hq k1
    go_wp2_with fail
    go_fit k2
    rintro e w2 ⟨b, rfl, hb, b2⟩
    obtain ⟨x0, x1, x2, x3⟩ := HC.out w2 (b2.mono (Nat.le_refl _))
    have B2 : Hid (Below w.heap.size w w2) := HB.out.trans (b2.mono HB.out.size)
    have HC2 : Hid (∀ W, Below w2.heap.size w2 W → WnC a n c F T N w.heap.size W) := (show ∀ W, _ → _ from fun W b => HC.out W (b2.trans (b.mono b2.size)))
    have HS : Hid (b = true ↔ Snd ss n F T N) := hb
    clear hb b2 k2
    cases b
    · have HN : Hid (¬ (na = 0 ∧ 2 ≤ n ∧ Snd ss n F T N)) := fun h => (by have := HS.out.2 h.2.2; cases this)
      go_wp2
      go_ret2
      exact ⟨0, false, rfl, ⟨fun h => (by cases h), fun h => absurd h HN.out⟩, B2.out, by decide, fun h => (by cases h), fun _ => rfl⟩
    · by_cases hLn : 2 ≤ n
      · have hl2 : ¬ (n : Int) < 2 := by omega
        have HY : Hid (na = 0 ∧ 2 ≤ n ∧ Snd ss n F T N) := ⟨HQ.out, hLn, HS.out.1 rfl⟩
        have k3 := kV.out w2 B2.out
        clear hLn HS
        go_wp2_with fail
        go_fit k3
        rintro e w3 ⟨v, rfl, hf, b3⟩
        have C3 : Hid (∀ W, Below w3.heap.size w3 W → WnC a n c F T N w.heap.size W) := (show ∀ W, _ → _ from fun W b => HC2.out W (b3.trans (b.mono b3.size)))
        obtain ⟨x0, x1, x2, x3⟩ := C3.out w3 (Below.refl _ _)
        have B3 : Hid (Below w.heap.size w w3) := B2.out.trans (b3.mono B2.out.size)
        clear hf b3 k3
        have k4 := kX.out w3 B3.out
        go_wp2_with fail
        go_fit k4
        rintro e w4 ⟨z, b, rfl, hb, b4, hlz, hz, _⟩
        obtain rfl : b = true := hb.2 ⟨HY.out.2.1, HY.out.2.2⟩
        have B4 : Hid (Below w.heap.size w w4) := B3.out.trans (b4.mono B3.out.size)
        have HZ : Hid (cl z = R) := hz rfl
        clear b4 hz k4 hb
        go_wp2
        go_ret2
        exact ⟨z, true, rfl, ⟨fun _ => HY.out, fun _ => rfl⟩, B4.out, hlz, fun _ => HZ.out, fun h => (by cases h)⟩
      · have hl2 : (n : Int) < 2 := by omega
        have HN : Hid (¬ (na = 0 ∧ 2 ≤ n ∧ Snd ss n F T N)) := fun h => hLn h.2.1
        clear hLn
        go_wp2
        go_ret2
        exact ⟨0, false, rfl, ⟨fun h => (by cases h), fun h => absurd h HN.out⟩, B2.out, by decide, fun h => (by cases h), fun _ => rfl⟩
  · have HN : Hid (¬ (na = 0 ∧ 2 ≤ n ∧ Snd ss n F T N)) := fun h => hq h.1
    have eN : ((na : Int) != 0) = true := by simp; omega
    clear hq k1
    go_wp2
    go_ret2
    exact ⟨0, false, rfl, ⟨fun h => (by cases h), fun h => absurd h HN.out⟩, HB.out, by decide, fun h => (by cases h), fun _ => rfl⟩
set_option maxHeartbeats 8000000 in
set_option maxRecDepth 100000 in
theorem rcall_15 (a : Option Addr) (n c : Nat) (F T N : Int) (ss : Nat → Smp) (aa : Option Addr) (ca na : Nat) (w : World) (h : HypW a n ss w) :
    Calls Tryz.prog 12 #[.string ⟨#[105, 110, 99, 114, 101, 97, 115, 101]⟩, Wn a n c F T N, .slice aa na ca] w (RX w (na = 0 ∧ 2 ≤ n ∧ Snd ss n F T N) (exF ss n F T true false)) := by
  have HB : Hid (Below w.heap.size w (w.alloc (wnX a n c F T N))) := (Below.refl _ w).alloc (Nat.le_refl _) _
  have HC : Hid (∀ W, Below (w.alloc (wnX a n c F T N)).heap.size (w.alloc (wnX a n c F T N)) W → WnC a n c F T N w.heap.size W) := wnC_new a n c F T N w
  have kS : Hid (∀ W, Below w.heap.size w W → Calls Tryz.prog 22 #[Wn a n c F T N] W (RP W (Snd ss n F T N))) := (show ∀ W, _ → _ from fun W b => rsound_any a n c F T N ss W (h.below b).1 (by have := h.2.2; omega))
  have kV : Hid (∀ W, Below w.heap.size w W → Calls Tryz.prog 23 #[Wn a n c F T N] W fun r w' => ∃ v, r = .returned v ∧ Fr w' (W.heap.size + 1) v (vls ss n) ∧ Below W.heap.size W w') := (show ∀ W, _ → _ from fun W b => rvalues_any a n c F T N ss W (h.below b).1 (by have := h.2.2; omega))
  have kX : Hid (∀ W, Below w.heap.size w W → Calls Tryz.prog 24 #[Wn a n c F T N, .bool true, .bool false] W (RX W (2 ≤ n ∧ Snd ss n F T N) (exF ss n F T true false))) := (show ∀ W, _ → _ from fun W b => rextrapolate_any a n c F T N ss true false W (h.below b).1 h.2.1 (by have := h.2.2; omega))
  generalize exF ss n F T true false = R at *
  have k1 := least_15
  have hn8 : n ≤ 9223372036854775807 := by have := h.2.2; omega
  obtain ⟨x0, x1, x2, x3⟩ := HC.out (w.alloc (wnX a n c F T N)) (Below.refl _ _)
  clear h
  go_enter Tryz.func12, Tryz.ntmps12
  go_wp2_with fail
  go_fit (k1 _)
  rintro e w1 ⟨rfl, rfl⟩
  by_cases hq : na = 0
  · have HQ : Hid (na = 0) := hq
    have eN : ((na : Int) != 0) = false := by simp [hq]
    have k2 := kS.out (w.alloc (wnX a n c F T N)) HB.out
    clear hq k1
    go_wp2_with fail
    go_fit k2
    rintro e w2 ⟨b, rfl, hb, b2⟩
    obtain ⟨x0, x1, x2, x3⟩ := HC.out w2 (b2.mono (Nat.le_refl _))
    have B2 : Hid (Below w.heap.size w w2) := HB.out.trans (b2.mono HB.out.size)
    have HC2 : Hid (∀ W, Below w2.heap.size w2 W → WnC a n c F T N w.heap.size W) := (show ∀ W, _ → _ from fun W b => HC.out W (b2.trans (b.mono b2.size)))
    have HS : Hid (b = true ↔ Snd ss n F T N) := hb
    clear hb b2 k2
    cases b
    · have HN : Hid (¬ (na = 0 ∧ 2 ≤ n ∧ Snd ss n F T N)) := fun h => (by have := HS.out.2 h.2.2; cases this)
      go_wp2
      go_ret2
      exact ⟨0, false, rfl, ⟨fun h => (by cases h), fun h => absurd h HN.out⟩, B2.out, by decide, fun h => (by cases h), fun _ => rfl⟩
    · by_cases hLn : 2 ≤ n
      · have hl2 : ¬ (n : Int) < 2 := by omega
        have HY : Hid (na = 0 ∧ 2 ≤ n ∧ Snd ss n F T N) := ⟨HQ.out, hLn, HS.out.1 rfl⟩
        have k3 := kV.out w2 B2.out
        clear hLn HS
        go_wp2_with fail
        go_fit k3
        rintro e w3 ⟨v, rfl, hf, b3⟩
        have C3 : Hid (∀ W, Below w3.heap.size w3 W → WnC a n c F T N w.heap.size W) := (show ∀ W, _ → _ from fun W b => HC2.out W (b3.trans (b.mono b3.size)))
        obtain ⟨x0, x1, x2, x3⟩ := C3.out w3 (Below.refl _ _)
        have B3 : Hid (Below w.heap.size w w3) := B2.out.trans (b3.mono B2.out.size)
        clear hf b3 k3
        have k4 := kX.out w3 B3.out
        go_wp2_with fail
        go_fit k4
        rintro e w4 ⟨z, b, rfl, hb, b4, hlz, hz, _⟩
        obtain rfl : b = true := hb.2 ⟨HY.out.2.1, HY.out.2.2⟩
        have B4 : Hid (Below w.heap.size w w4) := B3.out.trans (b4.mono B3.out.size)
        have HZ : Hid (cl z = R) := hz rfl
        clear b4 hz k4 hb
        go_wp2
        go_ret2
        exact ⟨z, true, rfl, ⟨fun _ => HY.out, fun _ => rfl⟩, B4.out, hlz, fun _ => HZ.out, fun h => (by cases h)⟩
      · have hl2 : (n : Int) < 2 := by omega
        have HN : Hid (¬ (na = 0 ∧ 2 ≤ n ∧ Snd ss n F T N)) := fun h => hLn h.2.1
        clear hLn
        go_wp2
        go_ret2
        exact ⟨0, false, rfl, ⟨fun h => (by cases h), fun h => absurd h HN.out⟩, B2.out, by decide, fun h => (by cases h), fun _ => rfl⟩
  · have HN : Hid (¬ (na = 0 ∧ 2 ≤ n ∧ Snd ss n F T N)) := fun h => hq h.1
    have eN : ((na : Int) != 0) = true := by simp; omega
    clear hq k1
    go_wp2
    go_ret2
    exact ⟨0, false, rfl, ⟨fun h => (by cases h), fun h => absurd h HN.out⟩, HB.out, by decide, fun h => (by cases h), fun _ => rfl⟩
set_option maxHeartbeats 8000000 in
set_option maxRecDepth 100000 in
theorem rcall_16 (a : Option Addr) (n c : Nat) (F T N : Int) (ss : Nat → Smp) (aa : Option Addr) (ca na : Nat) (w : World) (h : HypW a n ss w) :
    Calls Tryz.prog 12 #[.string ⟨#[100, 101, 108, 116, 97]⟩, Wn a n c F T N, .slice aa na ca] w (RX w (na = 0 ∧ 2 ≤ n ∧ Snd ss n F T N) (exF ss n F T false false)) := by
  have HB : Hid (Below w.heap.size w (w.alloc (wnX a n c F T N))) := (Below.refl _ w).alloc (Nat.le_refl _) _
  have HC : Hid (∀ W, Below (w.alloc (wnX a n c F T N)).heap.size (w.alloc (wnX a n c F T N)) W → WnC a n c F T N w.heap.size W) := wnC_new a n c F T N w
  have kS : Hid (∀ W, Below w.heap.size w W → Calls Tryz.prog 22 #[Wn a n c F T N] W (RP W (Snd ss n F T N))) := (show ∀ W, _ → _ from fun W b => rsound_any a n c F T N ss W (h.below b).1 (by have := h.2.2; omega))
  have kV : Hid (∀ W, Below w.heap.size w W → Calls Tryz.prog 23 #[Wn a n c F T N] W fun r w' => ∃ v, r = .returned v ∧ Fr w' (W.heap.size + 1) v (vls ss n) ∧ Below W.heap.size W w') := (show ∀ W, _ → _ from fun W b => rvalues_any a n c F T N ss W (h.below b).1 (by have := h.2.2; omega))
  have kX : Hid (∀ W, Below w.heap.size w W → Calls Tryz.prog 24 #[Wn a n c F T N, .bool false, .bool false] W (RX W (2 ≤ n ∧ Snd ss n F T N) (exF ss n F T false false))) := (show ∀ W, _ → _ from fun W b => rextrapolate_any a n c F T N ss false false W (h.below b).1 h.2.1 (by have := h.2.2; omega))
  generalize exF ss n F T false false = R at *
  have k1 := least_16
  have hn8 : n ≤ 9223372036854775807 := by have := h.2.2; omega
  obtain ⟨x0, x1, x2, x3⟩ := HC.out (w.alloc (wnX a n c F T N)) (Below.refl _ _)
  clear h
  go_enter Tryz.func12, Tryz.ntmps12
  go_wp2_with fail
  go_fit (k1 _)
  rintro e w1 ⟨rfl, rfl⟩
  by_cases hq : na = 0
  · have HQ : Hid (na = 0) := hq
    have eN : ((na : Int) != 0) = false := by simp [hq]
    have k2 := kS.out (w.alloc (wnX a n c F T N)) HB.out
    clear hq k1
    go_wp2_with fail
    go_fit k2
    rintro e w2 ⟨b, rfl, hb, b2⟩
    obtain ⟨x0, x1, x2, x3⟩ := HC.out w2 (b2.mono (Nat.le_refl _))
    have B2 : Hid (Below w.heap.size w w2) := HB.out.trans (b2.mono HB.out.size)
    have HC2 : Hid (∀ W, Below w2.heap.size w2 W → WnC a n c F T N w.heap.size W) := (show ∀ W, _ → _ from fun W b => HC.out W (b2.trans (b.mono b2.size)))
    have HS : Hid (b = true ↔ Snd ss n F T N) := hb
    clear hb b2 k2
    cases b
    · have HN : Hid (¬ (na = 0 ∧ 2 ≤ n ∧ Snd ss n F T N)) := fun h => (by have := HS.out.2 h.2.2; cases this)
      go_wp2
      go_ret2
      exact ⟨0, false, rfl, ⟨fun h => (by cases h), fun h => absurd h HN.out⟩, B2.out, by decide, fun h => (by cases h), fun _ => rfl⟩
    · by_cases hLn : 2 ≤ n
      · have hl2 : ¬ (n : Int) < 2 := by omega
        have HY : Hid (na = 0 ∧ 2 ≤ n ∧ Snd ss n F T N) := ⟨HQ.out, hLn, HS.out.1 rfl⟩
        have k3 := kV.out w2 B2.out
        clear hLn HS
        go_wp2_with fail
        go_fit k3
        rintro e w3 ⟨v, rfl, hf, b3⟩
        have C3 : Hid (∀ W, Below w3.heap.size w3 W → WnC a n c F T N w.heap.size W) := (show ∀ W, _ → _ from fun W b => HC2.out W (b3.trans (b.mono b3.size)))
        obtain ⟨x0, x1, x2, x3⟩ := C3.out w3 (Below.refl _ _)
        have B3 : Hid (Below w.heap.size w w3) := B2.out.trans (b3.mono B2.out.size)
        clear hf b3 k3
        have k4 := kX.out w3 B3.out
        go_wp2_with fail
        go_fit k4
        rintro e w4 ⟨z, b, rfl, hb, b4, hlz, hz, _⟩
        obtain rfl : b = true := hb.2 ⟨HY.out.2.1, HY.out.2.2⟩
        have B4 : Hid (Below w.heap.size w w4) := B3.out.trans (b4.mono B3.out.size)
        have HZ : Hid (cl z = R) := hz rfl
        clear b4 hz k4 hb
        go_wp2
        go_ret2
        exact ⟨z, true, rfl, ⟨fun _ => HY.out, fun _ => rfl⟩, B4.out, hlz, fun _ => HZ.out, fun h => (by cases h)⟩
      · have hl2 : (n : Int) < 2 := by omega
        have HN : Hid (¬ (na = 0 ∧ 2 ≤ n ∧ Snd ss n F T N)) := fun h => hLn h.2.1
        clear hLn
        go_wp2
        go_ret2
        exact ⟨0, false, rfl, ⟨fun h => (by cases h), fun h => absurd h HN.out⟩, B2.out, by decide, fun h => (by cases h), fun _ => rfl⟩
  · have HN : Hid (¬ (na = 0 ∧ 2 ≤ n ∧ Snd ss n F T N)) := fun h => hq h.1
    have eN : ((na : Int) != 0) = true := by simp; omega
    clear hq k1
    go_wp2
    go_ret2
    exact ⟨0, false, rfl, ⟨fun h => (by cases h), fun h => absurd h HN.out⟩, HB.out, by decide, fun h => (by cases h), fun _ => rfl⟩
set_option maxHeartbeats 8000000 in
set_option maxRecDepth 100000 in
theorem rcall_17 (a : Option Addr) (n c : Nat) (F T N : Int) (ss : Nat → Smp) (aa : Option Addr) (ca na : Nat) (w : World) (h : HypW a n ss w) :
    Calls Tryz.prog 12 #[.string ⟨#[105, 114, 97, 116, 101]⟩, Wn a n c F T N, .slice aa na ca] w (RX w (na = 0 ∧ 2 ≤ n ∧ Snd ss n F T N) (inF ss n true)) := by
  have HB : Hid (Below w.heap.size w (w.alloc (wnX a n c F T N))) := (Below.refl _ w).alloc (Nat.le_refl _) _
  have HC : Hid (∀ W, Below (w.alloc (wnX a n c F T N)).heap.size (w.alloc (wnX a n c F T N)) W → WnC a n c F T N w.heap.size W) := wnC_new a n c F T N w
  have kS : Hid (∀ W, Below w.heap.size w W → Calls Tryz.prog 22 #[Wn a n c F T N] W (RP W (Snd ss n F T N))) := (show ∀ W, _ → _ from fun W b => rsound_any a n c F T N ss W (h.below b).1 (by have := h.2.2; omega))
  have kV : Hid (∀ W, Below w.heap.size w W → Calls Tryz.prog 23 #[Wn a n c F T N] W fun r w' => ∃ v, r = .returned v ∧ Fr w' (W.heap.size + 1) v (vls ss n) ∧ Below W.heap.size W w') := (show ∀ W, _ → _ from fun W b => rvalues_any a n c F T N ss W (h.below b).1 (by have := h.2.2; omega))
  have kX : Hid (∀ W, Below w.heap.size w W → Calls Tryz.prog 25 #[Wn a n c F T N, .bool true] W (RX W (2 ≤ n ∧ Snd ss n F T N) (inF ss n true))) := (show ∀ W, _ → _ from fun W b => rinstant_any a n c F T N ss true W (h.below b).1 h.2.1 (by have := h.2.2; omega))
  generalize inF ss n true = R at *
  have k1 := least_17
  have hn8 : n ≤ 9223372036854775807 := by have := h.2.2; omega
  obtain ⟨x0, x1, x2, x3⟩ := HC.out (w.alloc (wnX a n c F T N)) (Below.refl _ _)
  clear h
  go_enter Tryz.func12, Tryz.ntmps12
  go_wp2_with fail
  go_fit (k1 _)
  rintro e w1 ⟨rfl, rfl⟩
  by_cases hq : na = 0
  · have HQ : Hid (na = 0) := hq
    have eN : ((na : Int) != 0) = false := by simp [hq]
    have k2 := kS.out (w.alloc (wnX a n c F T N)) HB.out
    clear hq k1
    go_wp2_with fail
    go_fit k2
    rintro e w2 ⟨b, rfl, hb, b2⟩
    obtain ⟨x0, x1, x2, x3⟩ := HC.out w2 (b2.mono (Nat.le_refl _))
    have B2 : Hid (Below w.heap.size w w2) := HB.out.trans (b2.mono HB.out.size)
    have HC2 : Hid (∀ W, Below w2.heap.size w2 W → WnC a n c F T N w.heap.size W) := (show ∀ W, _ → _ from fun W b => HC.out W (b2.trans (b.mono b2.size)))
    have HS : Hid (b = true ↔ Snd ss n F T N) := hb
    clear hb b2 k2
    cases b
    · have HN : Hid (¬ (na = 0 ∧ 2 ≤ n ∧ Snd ss n F T N)) := fun h => (by have := HS.out.2 h.2.2; cases this)
      go_wp2
      go_ret2
      exact ⟨0, false, rfl, ⟨fun h => (by cases h), fun h => absurd h HN.out⟩, B2.out, by decide, fun h => (by cases h), fun _ => rfl⟩
    · by_cases hLn : 2 ≤ n
      · have hl2 : ¬ (n : Int) < 2 := by omega
        have HY : Hid (na = 0 ∧ 2 ≤ n ∧ Snd ss n F T N) := ⟨HQ.out, hLn, HS.out.1 rfl⟩
        have k3 := kV.out w2 B2.out
        clear hLn HS
        go_wp2_with fail
        go_fit k3
        rintro e w3 ⟨v, rfl, hf, b3⟩
        have C3 : Hid (∀ W, Below w3.heap.size w3 W → WnC a n c F T N w.heap.size W) := (show ∀ W, _ → _ from fun W b => HC2.out W (b3.trans (b.mono b3.size)))
        obtain ⟨x0, x1, x2, x3⟩ := C3.out w3 (Below.refl _ _)
        have B3 : Hid (Below w.heap.size w w3) := B2.out.trans (b3.mono B2.out.size)
        clear hf b3 k3
        have k4 := kX.out w3 B3.out
        go_wp2_with fail
        go_fit k4
        rintro e w4 ⟨z, b, rfl, hb, b4, hlz, hz, _⟩
        obtain rfl : b = true := hb.2 ⟨HY.out.2.1, HY.out.2.2⟩
        have B4 : Hid (Below w.heap.size w w4) := B3.out.trans (b4.mono B3.out.size)
        have HZ : Hid (cl z = R) := hz rfl
        clear b4 hz k4 hb
        go_wp2
        go_ret2
        exact ⟨z, true, rfl, ⟨fun _ => HY.out, fun _ => rfl⟩, B4.out, hlz, fun _ => HZ.out, fun h => (by cases h)⟩
      · have hl2 : (n : Int) < 2 := by omega
        have HN : Hid (¬ (na = 0 ∧ 2 ≤ n ∧ Snd ss n F T N)) := fun h => hLn h.2.1
        clear hLn
        go_wp2
        go_ret2
        exact ⟨0, false, rfl, ⟨fun h => (by cases h), fun h => absurd h HN.out⟩, B2.out, by decide, fun h => (by cases h), fun _ => rfl⟩
  · have HN : Hid (¬ (na = 0 ∧ 2 ≤ n ∧ Snd ss n F T N)) := fun h => hq h.1
    have eN : ((na : Int) != 0) = true := by simp; omega
    clear hq k1
    go_wp2
    go_ret2
    exact ⟨0, false, rfl, ⟨fun h => (by cases h), fun h => absurd h HN.out⟩, HB.out, by decide, fun h => (by cases h), fun _ => rfl⟩
set_option maxHeartbeats 8000000 in
set_option maxRecDepth 100000 in
theorem rcall_18 (a : Option Addr) (n c : Nat) (F T N : Int) (ss : Nat → Smp) (aa : Option Addr) (ca na : Nat) (w : World) (h : HypW a n ss w) :
    Calls Tryz.prog 12 #[.string ⟨#[105, 100, 101, 108, 116, 97]⟩, Wn a n c F T N, .slice aa na ca] w (RX w (na = 0 ∧ 2 ≤ n ∧ Snd ss n F T N) (inF ss n false)) := by
  have HB : Hid (Below w.heap.size w (w.alloc (wnX a n c F T N))) := (Below.refl _ w).alloc (Nat.le_refl _) _
  have HC : Hid (∀ W, Below (w.alloc (wnX a n c F T N)).heap.size (w.alloc (wnX a n c F T N)) W → WnC a n c F T N w.heap.size W) := wnC_new a n c F T N w
  have kS : Hid (∀ W, Below w.heap.size w W → Calls Tryz.prog 22 #[Wn a n c F T N] W (RP W (Snd ss n F T N))) := (show ∀ W, _ → _ from fun W b => rsound_any a n c F T N ss W (h.below b).1 (by have := h.2.2; omega))
  have kV : Hid (∀ W, Below w.heap.size w W → Calls Tryz.prog 23 #[Wn a n c F T N] W fun r w' => ∃ v, r = .returned v ∧ Fr w' (W.heap.size + 1) v (vls ss n) ∧ Below W.heap.size W w') := (show ∀ W, _ → _ from fun W b => rvalues_any a n c F T N ss W (h.below b).1 (by have := h.2.2; omega))
  have kX : Hid (∀ W, Below w.heap.size w W → Calls Tryz.prog 25 #[Wn a n c F T N, .bool false] W (RX W (2 ≤ n ∧ Snd ss n F T N) (inF ss n false))) := (show ∀ W, _ → _ from fun W b => rinstant_any a n c F T N ss false W (h.below b).1 h.2.1 (by have := h.2.2; omega))
  generalize inF ss n false = R at *
  have k1 := least_18
  have hn8 : n ≤ 9223372036854775807 := by have := h.2.2; omega
  obtain ⟨x0, x1, x2, x3⟩ := HC.out (w.alloc (wnX a n c F T N)) (Below.refl _ _)
  clear h
  go_enter Tryz.func12, Tryz.ntmps12
  go_wp2_with fail
  go_fit (k1 _)
  rintro e w1 ⟨rfl, rfl⟩
  by_cases hq : na = 0
  · have HQ : Hid (na = 0) := hq
    have eN : ((na : Int) != 0) = false := by simp [hq]
    have k2 := kS.out (w.alloc (wnX a n c F T N)) HB.out
    clear hq k1
    go_wp2_with fail
    go_fit k2
    rintro e w2 ⟨b, rfl, hb, b2⟩
    obtain ⟨x0, x1, x2, x3⟩ := HC.out w2 (b2.mono (Nat.le_refl _))
    have B2 : Hid (Below w.heap.size w w2) := HB.out.trans (b2.mono HB.out.size)
    have HC2 : Hid (∀ W, Below w2.heap.size w2 W → WnC a n c F T N w.heap.size W) := (show ∀ W, _ → _ from fun W b => HC.out W (b2.trans (b.mono b2.size)))
    have HS : Hid (b = true ↔ Snd ss n F T N) := hb
    clear hb b2 k2
    cases b
    · have HN : Hid (¬ (na = 0 ∧ 2 ≤ n ∧ Snd ss n F T N)) := fun h => (by have := HS.out.2 h.2.2; cases this)
      go_wp2
      go_ret2
      exact ⟨0, false, rfl, ⟨fun h => (by cases h), fun h => absurd h HN.out⟩, B2.out, by decide, fun h => (by cases h), fun _ => rfl⟩
    · by_cases hLn : 2 ≤ n
      · have hl2 : ¬ (n : Int) < 2 := by omega
        have HY : Hid (na = 0 ∧ 2 ≤ n ∧ Snd ss n F T N) := ⟨HQ.out, hLn, HS.out.1 rfl⟩
        have k3 := kV.out w2 B2.out
        clear hLn HS
        go_wp2_with fail
        go_fit k3
        rintro e w3 ⟨v, rfl, hf, b3⟩
        have C3 : Hid (∀ W, Below w3.heap.size w3 W → WnC a n c F T N w.heap.size W) := (show ∀ W, _ → _ from fun W b => HC2.out W (b3.trans (b.mono b3.size)))
        obtain ⟨x0, x1, x2, x3⟩ := C3.out w3 (Below.refl _ _)
        have B3 : Hid (Below w.heap.size w w3) := B2.out.trans (b3.mono B2.out.size)
        clear hf b3 k3
        have k4 := kX.out w3 B3.out
        go_wp2_with fail
        go_fit k4
        rintro e w4 ⟨z, b, rfl, hb, b4, hlz, hz, _⟩
        obtain rfl : b = true := hb.2 ⟨HY.out.2.1, HY.out.2.2⟩
        have B4 : Hid (Below w.heap.size w w4) := B3.out.trans (b4.mono B3.out.size)
        have HZ : Hid (cl z = R) := hz rfl
        clear b4 hz k4 hb
        go_wp2
        go_ret2
        exact ⟨z, true, rfl, ⟨fun _ => HY.out, fun _ => rfl⟩, B4.out, hlz, fun _ => HZ.out, fun h => (by cases h)⟩
      · have hl2 : (n : Int) < 2 := by omega
        have HN : Hid (¬ (na = 0 ∧ 2 ≤ n ∧ Snd ss n F T N)) := fun h => hLn h.2.1
        clear hLn
        go_wp2
        go_ret2
        exact ⟨0, false, rfl, ⟨fun h => (by cases h), fun h => absurd h HN.out⟩, B2.out, by decide, fun h => (by cases h), fun _ => rfl⟩
  · have HN : Hid (¬ (na = 0 ∧ 2 ≤ n ∧ Snd ss n F T N)) := fun h => hq h.1
    have eN : ((na : Int) != 0) = true := by simp; omega
    clear hq k1
    go_wp2
    go_ret2
    exact ⟨0, false, rfl, ⟨fun h => (by cases h), fun h => absurd h HN.out⟩, HB.out, by decide, fun h => (by cases h), fun _ => rfl⟩
set_option maxHeartbeats 8000000 in
set_option maxRecDepth 100000 in
theorem rcall_19 (a : Option Addr) (n c : Nat) (F T N : Int) (ss : Nat → Smp) (aa : Option Addr) (ca na : Nat) (w : World) (h : HypW a n ss w) (hc : n ≤ c) :
    Calls Tryz.prog 12 #[.string ⟨#[100, 101, 114, 105, 118]⟩, Wn a n c F T N, .slice aa na ca] w (RX w (na = 0 ∧ 2 ≤ n ∧ Snd ss n F T N) (liS (fun j => df (ss j).t (ss 0).t) (fun j => (ss j).v) n (lvB ss n))) := by
  have HB : Hid (Below w.heap.size w (w.alloc (wnX a n c F T N))) := (Below.refl _ w).alloc (Nat.le_refl _) _
  have HC : Hid (∀ W, Below (w.alloc (wnX a n c F T N)).heap.size (w.alloc (wnX a n c F T N)) W → WnC a n c F T N w.heap.size W) := wnC_new a n c F T N w
  have kS : Hid (∀ W, Below w.heap.size w W → Calls Tryz.prog 22 #[Wn a n c F T N] W (RP W (Snd ss n F T N))) := (show ∀ W, _ → _ from fun W b => rsound_any a n c F T N ss W (h.below b).1 (by have := h.2.2; omega))
  have kV : Hid (∀ W, Below w.heap.size w W → Calls Tryz.prog 23 #[Wn a n c F T N] W fun r w' => ∃ v, r = .returned v ∧ Fr w' (W.heap.size + 1) v (vls ss n) ∧ Below W.heap.size W w') := (show ∀ W, _ → _ from fun W b => rvalues_any a n c F T N ss W (h.below b).1 (by have := h.2.2; omega))
  have kX : Hid (∀ W, Below w.heap.size w W → Calls Tryz.prog 26 #[.slice a n c, .int .i64 (ss 0).t] W (RT W (liS (fun j => df (ss j).t (ss 0).t) (fun j => (ss j).v) n (lvB ss n)) (liV (fun j => df (ss j).t (ss 0).t) (fun j => (ss j).v) n (lvB ss n)))) := (show ∀ W, _ → _ from fun W b => rline_any a c n ss (ss 0).t W (h.below b).1 h.2.1 h.2.2)
  have HF : Hid (Sml w a ss n) := h.1
  have HCN : Hid (n ≤ c) := hc
  generalize liS (fun j => df (ss j).t (ss 0).t) (fun j => (ss j).v) n (lvB ss n) = R at *
  generalize liV (fun j => df (ss j).t (ss 0).t) (fun j => (ss j).v) n (lvB ss n) = R2 at *
  have k1 := least_19
  have hn8 : n ≤ 9223372036854775807 := by have := h.2.2; omega
  obtain ⟨x0, x1, x2, x3⟩ := HC.out (w.alloc (wnX a n c F T N)) (Below.refl _ _)
  clear h
  go_enter Tryz.func12, Tryz.ntmps12
  go_wp2_with fail
  go_fit (k1 _)
  rintro e w1 ⟨rfl, rfl⟩
  by_cases hq : na = 0
  · have HQ : Hid (na = 0) := hq
    have eN : ((na : Int) != 0) = false := by simp [hq]
    have k2 := kS.out (w.alloc (wnX a n c F T N)) HB.out
    clear hq k1
    go_wp2_with fail
    go_fit k2
    rintro e w2 ⟨b, rfl, hb, b2⟩
    obtain ⟨x0, x1, x2, x3⟩ := HC.out w2 (b2.mono (Nat.le_refl _))
    have B2 : Hid (Below w.heap.size w w2) := HB.out.trans (b2.mono HB.out.size)
    have HC2 : Hid (∀ W, Below w2.heap.size w2 W → WnC a n c F T N w.heap.size W) := (show ∀ W, _ → _ from fun W b => HC.out W (b2.trans (b.mono b2.size)))
    have HS : Hid (b = true ↔ Snd ss n F T N) := hb
    clear hb b2 k2
    cases b
    · have HN : Hid (¬ (na = 0 ∧ 2 ≤ n ∧ Snd ss n F T N)) := fun h => (by have := HS.out.2 h.2.2; cases this)
      go_wp2
      go_ret2
      exact ⟨0, false, rfl, ⟨fun h => (by cases h), fun h => absurd h HN.out⟩, B2.out, by decide, fun h => (by cases h), fun _ => rfl⟩
    · by_cases hLn : 2 ≤ n
      · have hl2 : ¬ (n : Int) < 2 := by omega
        have HY : Hid (na = 0 ∧ 2 ≤ n ∧ Snd ss n F T N) := ⟨HQ.out, hLn, HS.out.1 rfl⟩
        have k3 := kV.out w2 B2.out
        clear hLn HS
        go_wp2_with fail
        go_fit k3
        rintro e w3 ⟨v, rfl, hf, b3⟩
        have C3 : Hid (∀ W, Below w3.heap.size w3 W → WnC a n c F T N w.heap.size W) := (show ∀ W, _ → _ from fun W b => HC2.out W (b3.trans (b.mono b3.size)))
        obtain ⟨x0, x1, x2, x3⟩ := C3.out w3 (Below.refl _ _)
        have B3 : Hid (Below w.heap.size w w3) := B2.out.trans (b3.mono B2.out.size)
        clear hf b3 k3
        rcases HF.out with h0 | ⟨g, o, rfl, hg, hat⟩
        · have := HY.out.2.1; omega
        have q0 := bcell B3.out (hat 0 (by have := HY.out.2.1; omega)).1 hg
        rw [show o + 0 * 3 = o by omega] at q0
        have k4 : Hid (∀ W, Below w3.heap.size w3 W → Calls Tryz.prog 26 #[.slice (some ⟨g, o, none⟩) n c, .int .i64 (ss 0).t] W (RT W R R2)) := (show ∀ W, _ → _ from fun W b => kX.out W (B3.out.trans (b.mono B3.out.size)))
        have n1 : (0 : Int) < (n : Int) := by have := HY.out.2.1; omega
        have n2 : 0 < n := by have := HY.out.2.1; omega
        have n3 : ¬ (n : Int) ≤ 0 := by omega
        have hcn : n ≤ c := HCN.out
        have HG3 : Hid (g < w3.heap.size) := Nat.lt_of_lt_of_le hg B3.out.size
        generalize (ss 0).t = t0 at *
        have HSX : Hid (∀ W, Below w3.heap.size w3 W → (WnC (some ⟨g, o, none⟩) n c F T N w.heap.size W ∧ W.cell? ⟨g, o, none⟩ = some (.int .i64 t0)) ∧ Below w3.heap.size w3 W) := (show ∀ W, _ → _ from fun W b => ⟨⟨C3.out W b, bcell b q0 HG3.out⟩, b⟩)
        unfold WnC at HSX
        have bd : Below w3.heap.size w3 w3.drew := (Below.refl _ _).drew
        clear hat hg kX
        go_wp2_with fail
        go_region_held3 (fun w2 => ((w2.cell? ⟨w.heap.size, 0, none⟩ = some (.slice (some ⟨g, o, none⟩) n c) ∧ w2.cell? ⟨w.heap.size, 1, none⟩ = some (.int .i64 F) ∧ w2.cell? ⟨w.heap.size, 2, none⟩ = some (.int .i64 T) ∧ w2.cell? ⟨w.heap.size, 3, none⟩ = some (.int .i64 N)) ∧ w2.cell? ⟨g, o, none⟩ = some (.int .i64 t0)) ∧ Below w3.heap.size w3 w2) (first | exact HSX.out _ (by assumption) | exact HSX.out _ (Below.drew (by assumption))) (first | (go_at_call 26; go_fit (k4.out _ (by first | exact bd | exact Below.refl _ _)); rintro e w4 ⟨z1, z2, rfl, b4, hlz, hl2z, hz, _⟩; have bc : Below w3.heap.size w3 w4 := by first | exact bd.trans (b4.mono bd.size) | exact b4))
        rename_i hh
        have B4 : Hid (Below w.heap.size w w4) := B3.out.trans (bc.mono B3.out.size)
        have HZ : Hid (cl z1 = R) := hz
        clear b4 hz k4 hh bc bd HSX x0 x1 x2 x3 q0
        go_wp2
        go_ret2
        exact ⟨z1, true, rfl, ⟨fun _ => HY.out, fun _ => rfl⟩, B4.out, hlz, fun _ => HZ.out, fun h => (by cases h)⟩
      · have hl2 : (n : Int) < 2 := by omega
        have HN : Hid (¬ (na = 0 ∧ 2 ≤ n ∧ Snd ss n F T N)) := fun h => hLn h.2.1
        clear hLn
        go_wp2
        go_ret2
        exact ⟨0, false, rfl, ⟨fun h => (by cases h), fun h => absurd h HN.out⟩, B2.out, by decide, fun h => (by cases h), fun _ => rfl⟩
  · have HN : Hid (¬ (na = 0 ∧ 2 ≤ n ∧ Snd ss n F T N)) := fun h => hq h.1
    have eN : ((na : Int) != 0) = true := by simp; omega
    clear hq k1
    go_wp2
    go_ret2
    exact ⟨0, false, rfl, ⟨fun h => (by cases h), fun h => absurd h HN.out⟩, HB.out, by decide, fun h => (by cases h), fun _ => rfl⟩
set_option maxHeartbeats 8000000 in
set_option maxRecDepth 100000 in
theorem rcall_20 (a : Option Addr) (n c : Nat) (F T N : Int) (ss : Nat → Smp) (aa : Option Addr) (ca na : Nat) (w : World) (h : HypW a n ss w) (args : List Nat) (hA : Fm w aa args) (hna : args.length = na) :
    Calls Tryz.prog 12 #[.string ⟨#[112, 114, 101, 100, 105, 99, 116, 95, 108, 105, 110, 101, 97, 114]⟩, Wn a n c F T N, .slice aa na ca] w (RX w (na = 1 ∧ 2 ≤ n ∧ Snd ss n F T N) (fb .add (liV (fun j => df (ss j).t N) (fun j => (ss j).v) n (lvB ss n)) (fb .mul (liS (fun j => df (ss j).t N) (fun j => (ss j).v) n (lvB ss n)) (cl (args.getD 0 0))))) := by
  have HB : Hid (Below w.heap.size w (w.alloc (wnX a n c F T N))) := (Below.refl _ w).alloc (Nat.le_refl _) _
  have HC : Hid (∀ W, Below (w.alloc (wnX a n c F T N)).heap.size (w.alloc (wnX a n c F T N)) W → WnC a n c F T N w.heap.size W) := wnC_new a n c F T N w
  have kS : Hid (∀ W, Below w.heap.size w W → Calls Tryz.prog 22 #[Wn a n c F T N] W (RP W (Snd ss n F T N))) := (show ∀ W, _ → _ from fun W b => rsound_any a n c F T N ss W (h.below b).1 (by have := h.2.2; omega))
  have kV : Hid (∀ W, Below w.heap.size w W → Calls Tryz.prog 23 #[Wn a n c F T N] W fun r w' => ∃ v, r = .returned v ∧ Fr w' (W.heap.size + 1) v (vls ss n) ∧ Below W.heap.size W w') := (show ∀ W, _ → _ from fun W b => rvalues_any a n c F T N ss W (h.below b).1 (by have := h.2.2; omega))
  have ha := @run_fadd Tryz.prog
  have hmu := @run_fmul Tryz.prog
  have kX : Hid (∀ W, Below w.heap.size w W → Calls Tryz.prog 26 #[.slice a n c, .int .i64 N] W (RT W (liS (fun j => df (ss j).t N) (fun j => (ss j).v) n (lvB ss n)) (liV (fun j => df (ss j).t N) (fun j => (ss j).v) n (lvB ss n)))) := (show ∀ W, _ → _ from fun W b => rline_any a c n ss N W (h.below b).1 h.2.1 h.2.2)
  have HX : Hid (∀ W, Below w.heap.size w W → na = 1 → ∃ g o, aa = some ⟨g, o, none⟩ ∧ W.cell? ⟨g, o, none⟩ = some (.float .f64 (args.getD 0 0))) := (show ∀ W, _ → _ → _ from fun W b h1 => fm_at hA 0 (by omega) b)
  generalize liS (fun j => df (ss j).t N) (fun j => (ss j).v) n (lvB ss n) = R1 at *
  generalize liV (fun j => df (ss j).t N) (fun j => (ss j).v) n (lvB ss n) = R2 at *
  generalize args.getD 0 0 = x at *
  clear hA hna
  have k1 := least_20
  have hn8 : n ≤ 9223372036854775807 := by have := h.2.2; omega
  obtain ⟨x0, x1, x2, x3⟩ := HC.out (w.alloc (wnX a n c F T N)) (Below.refl _ _)
  clear h
  go_enter Tryz.func12, Tryz.ntmps12
  go_wp2_with fail
  go_fit (k1 _)
  rintro e w1 ⟨rfl, rfl⟩
  by_cases hq : na = 1
  · have HQ : Hid (na = 1) := hq
    have eN : ((na : Int) != 1) = false := by simp [hq]
    have k2 := kS.out (w.alloc (wnX a n c F T N)) HB.out
    clear hq k1
    go_wp2_with fail
    go_fit k2
    rintro e w2 ⟨b, rfl, hb, b2⟩
    obtain ⟨x0, x1, x2, x3⟩ := HC.out w2 (b2.mono (Nat.le_refl _))
    have B2 : Hid (Below w.heap.size w w2) := HB.out.trans (b2.mono HB.out.size)
    have HC2 : Hid (∀ W, Below w2.heap.size w2 W → WnC a n c F T N w.heap.size W) := (show ∀ W, _ → _ from fun W b => HC.out W (b2.trans (b.mono b2.size)))
    have HS : Hid (b = true ↔ Snd ss n F T N) := hb
    clear hb b2 k2
    cases b
    · have HN : Hid (¬ (na = 1 ∧ 2 ≤ n ∧ Snd ss n F T N)) := fun h => (by have := HS.out.2 h.2.2; cases this)
      go_wp2
      go_ret2
      exact ⟨0, false, rfl, ⟨fun h => (by cases h), fun h => absurd h HN.out⟩, B2.out, by decide, fun h => (by cases h), fun _ => rfl⟩
    · by_cases hLn : 2 ≤ n
      · have hl2 : ¬ (n : Int) < 2 := by omega
        have HY : Hid (na = 1 ∧ 2 ≤ n ∧ Snd ss n F T N) := ⟨HQ.out, hLn, HS.out.1 rfl⟩
        have k3 := kV.out w2 B2.out
        clear hLn HS
        go_wp2_with fail
        go_fit k3
        rintro e w3 ⟨v, rfl, hf, b3⟩
        have C3 : Hid (∀ W, Below w3.heap.size w3 W → WnC a n c F T N w.heap.size W) := (show ∀ W, _ → _ from fun W b => HC2.out W (b3.trans (b.mono b3.size)))
        obtain ⟨x0, x1, x2, x3⟩ := C3.out w3 (Below.refl _ _)
        have B3 : Hid (Below w.heap.size w w3) := B2.out.trans (b3.mono B2.out.size)
        clear hf b3 k3
        have k4 := kX.out w3 B3.out
        go_wp2_with fail
        go_fit k4
        rintro e w4 ⟨z1, z2, rfl, b4, hl1z, hl2z, hz1, hz2⟩
        obtain ⟨ga, oa, rfl, hx⟩ := HX.out w4 (B3.out.trans (b4.mono B3.out.size)) HQ.out
        have B4 : Hid (Below w.heap.size w w4) := B3.out.trans (b4.mono B3.out.size)
        have n1 : (0 : Int) < (na : Int) := by have := HQ.out; omega
        have HZ : Hid (∀ W W2, cl (fz .add z2 (fz .mul z1 x W) W2) = fb .add R2 (fb .mul R1 (cl x))) := (show ∀ W W2, _ from fun W W2 => by rw [cl_fz, cl_fz, hz1, hz2])
        clear b4 hz1 hz2 k4
        go_wp2
        go_ret2
        exact ⟨_, true, rfl, ⟨fun _ => HY.out, fun _ => rfl⟩, below_drewN B4.out _, fz_lt _ _ _ _, fun _ => HZ.out _ _, fun h => (by cases h)⟩
      · have hl2 : (n : Int) < 2 := by omega
        have HN : Hid (¬ (na = 1 ∧ 2 ≤ n ∧ Snd ss n F T N)) := fun h => hLn h.2.1
        clear hLn
        go_wp2
        go_ret2
        exact ⟨0, false, rfl, ⟨fun h => (by cases h), fun h => absurd h HN.out⟩, B2.out, by decide, fun h => (by cases h), fun _ => rfl⟩
  · have HN : Hid (¬ (na = 1 ∧ 2 ≤ n ∧ Snd ss n F T N)) := fun h => hq h.1
    have eN : ((na : Int) != 1) = true := by simp; omega
    clear hq k1
    go_wp2
    go_ret2
    exact ⟨0, false, rfl, ⟨fun h => (by cases h), fun h => absurd h HN.out⟩, HB.out, by decide, fun h => (by cases h), fun _ => rfl⟩
end Go.Proofs.YtmjenemjbpimcabGreat
