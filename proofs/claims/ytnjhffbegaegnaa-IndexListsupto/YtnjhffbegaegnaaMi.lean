/- The reference: put, And, Or, Without of any lists. -/
import Derived.Test.YtnjhffbegaegnaaMh
namespace Go.Proofs.Ytnjhffbegaegnaa
open Go.RowKit Go.Lib Go.Shelf Go.Sort

set_option maxRecDepth 100000 in
theorem put_any (a : Option Addr) (c : Nat) (xs : List Int) (w : World) (hx : Zm w a xs) (hc : xs.length ≤ c) (hl : xs.length ≤ 2097152) :
    Calls Try.prog 14 #[.slice a xs.length c] w (PZ w (rsg xs)) := by
  by_cases hr : Rs xs
  · have := put_rs a c xs w hx hc (by omega) hr
    rw [rsg_self hr]
    exact this
  · have k1 := rrising_any a c xs false w hx (by omega) ⟨fun h => (by cases h), fun h => absurd h hr⟩
    have K2 : Hid (∀ w1, Below w.heap.size w w1 → Calls Try.prog 21 #[.slice a xs.length c] w1 (RZ w1 (rsg xs))) := fun w1 hb => sorted_any xs.length a c xs w1 (Nat.le_refl _) (hx.below hb) hc hl
    generalize xs.length = n at *
    clear hx hc hl hr
    go_enter Try.func14, Try.ntmps14
    go_wp2_with fail
    go_fit k1
    rintro e w1 ⟨rfl, b1⟩
    have k2 := K2.out w1 b1
    have B1 : Hid (Below w.heap.size w w1) := b1
    clear b1 k1
    go_wp2_with fail
    go_fit k2
    rintro e w2 ⟨v2, rfl, z2, b2⟩
    go_wp2
    go_ret
    obtain ⟨a2, c2, e2, hc2, m2⟩ := Zr.sl z2
    exact ⟨a2, c2, by rw [← e2]; rfl, hc2, m2, B1.out.trans (b2.mono B1.out.size)⟩
set_option maxHeartbeats 2000000 in
set_option maxRecDepth 100000 in
theorem rand_any (a b : Option Addr) (c d : Nat) (xs ys : List Int) (w : World) (hx : Zm w a xs) (hy : Zm w b ys) (hc : xs.length ≤ c) (hd : ys.length ≤ d) (hl : xs.length ≤ 2097152) (hl2 : ys.length ≤ 2097152) :
    Calls Try.prog 6 #[.slice a xs.length c, .slice b ys.length d] w (RZ w (anL xs ys)) := by
  have k1 : Calls Try.prog 14 #[.slice a xs.length c] w (PZ w (rsg xs)) := put_any a c xs w hx hc hl
  have K2 : Hid (∀ w1, Below w.heap.size w w1 → Calls Try.prog 14 #[.slice b ys.length d] w1 (PZ w1 (rsg ys))) := fun w1 hb => put_any b d ys w1 (hy.below hb) hd hl2
  have HL : Hid ((rsg xs).length ≤ 2097152 ∧ (rsg ys).length ≤ 2097152) := ⟨Nat.le_trans (rsg_len xs) hl, Nat.le_trans (rsg_len ys) hl2⟩
  generalize xs.length = n at *
  generalize ys.length = m at *
  clear hx hy hl hl2 hc hd
  go_enter Try.func6, Try.ntmps6
  go_wp2_with fail
  go_fit k1
  rintro e w1 ⟨a1, c1, rfl, hc1, z1, b1⟩
  have k2 := K2.out w1 b1
  have Z1 : Hid (Zm w1 a1 (rsg xs)) := z1
  have C1 : Hid ((rsg xs).length ≤ c1) := hc1
  have B1 : Hid (Below w.heap.size w w1) := b1
  clear z1 b1 k1 hc1
  generalize hn1 : (rsg xs).length = n1
  have N1 : Hid ((rsg xs).length = n1) := hn1
  clear hn1
  go_wp2_with fail
  go_fit k2
  rintro e w2 ⟨a2, c2, rfl, hc2, z2, b2⟩
  have k3 := merge_any a1 a2 c1 c2 (rsg xs) (rsg ys) false true false w2 (Z1.out.below b2) z2 C1.out hc2 HL.out.1 HL.out.2
  rw [N1.out] at k3
  have B2 : Hid (Below w.heap.size w w2) := B1.out.trans (b2.mono B1.out.size)
  clear z2 b2 k2 Z1 hc2
  generalize (rsg ys).length = m1 at k3 ⊢
  go_wp2_with fail
  go_fit k3
  rintro e w3 ⟨v3, rfl, z3, b3⟩
  go_wp2
  go_ret
  exact ⟨_, rfl, Zr.mono z3 B2.out.size, B2.out.trans (b3.mono B2.out.size)⟩
set_option maxHeartbeats 2000000 in
set_option maxRecDepth 100000 in
theorem ror_any (a b : Option Addr) (c d : Nat) (xs ys : List Int) (w : World) (hx : Zm w a xs) (hy : Zm w b ys) (hc : xs.length ≤ c) (hd : ys.length ≤ d) (hl : xs.length ≤ 2097152) (hl2 : ys.length ≤ 2097152) :
    Calls Try.prog 7 #[.slice a xs.length c, .slice b ys.length d] w (RZ w (orL xs ys)) := by
  have k1 : Calls Try.prog 14 #[.slice a xs.length c] w (PZ w (rsg xs)) := put_any a c xs w hx hc hl
  have K2 : Hid (∀ w1, Below w.heap.size w w1 → Calls Try.prog 14 #[.slice b ys.length d] w1 (PZ w1 (rsg ys))) := fun w1 hb => put_any b d ys w1 (hy.below hb) hd hl2
  have HL : Hid ((rsg xs).length ≤ 2097152 ∧ (rsg ys).length ≤ 2097152) := ⟨Nat.le_trans (rsg_len xs) hl, Nat.le_trans (rsg_len ys) hl2⟩
  generalize xs.length = n at *
  generalize ys.length = m at *
  clear hx hy hl hl2 hc hd
  go_enter Try.func7, Try.ntmps7
  go_wp2_with fail
  go_fit k1
  rintro e w1 ⟨a1, c1, rfl, hc1, z1, b1⟩
  have k2 := K2.out w1 b1
  have Z1 : Hid (Zm w1 a1 (rsg xs)) := z1
  have C1 : Hid ((rsg xs).length ≤ c1) := hc1
  have B1 : Hid (Below w.heap.size w w1) := b1
  clear z1 b1 k1 hc1
  generalize hn1 : (rsg xs).length = n1
  have N1 : Hid ((rsg xs).length = n1) := hn1
  clear hn1
  go_wp2_with fail
  go_fit k2
  rintro e w2 ⟨a2, c2, rfl, hc2, z2, b2⟩
  have k3 := merge_any a1 a2 c1 c2 (rsg xs) (rsg ys) true true true w2 (Z1.out.below b2) z2 C1.out hc2 HL.out.1 HL.out.2
  rw [N1.out] at k3
  have B2 : Hid (Below w.heap.size w w2) := B1.out.trans (b2.mono B1.out.size)
  clear z2 b2 k2 Z1 hc2
  generalize (rsg ys).length = m1 at k3 ⊢
  go_wp2_with fail
  go_fit k3
  rintro e w3 ⟨v3, rfl, z3, b3⟩
  go_wp2
  go_ret
  exact ⟨_, rfl, Zr.mono z3 B2.out.size, B2.out.trans (b3.mono B2.out.size)⟩
set_option maxHeartbeats 2000000 in
set_option maxRecDepth 100000 in
theorem rwithout_any (a b : Option Addr) (c d : Nat) (xs ys : List Int) (w : World) (hx : Zm w a xs) (hy : Zm w b ys) (hc : xs.length ≤ c) (hd : ys.length ≤ d) (hl : xs.length ≤ 2097152) (hl2 : ys.length ≤ 2097152) :
    Calls Try.prog 8 #[.slice a xs.length c, .slice b ys.length d] w (RZ w (wiL xs ys)) := by
  have k1 : Calls Try.prog 14 #[.slice a xs.length c] w (PZ w (rsg xs)) := put_any a c xs w hx hc hl
  have K2 : Hid (∀ w1, Below w.heap.size w w1 → Calls Try.prog 14 #[.slice b ys.length d] w1 (PZ w1 (rsg ys))) := fun w1 hb => put_any b d ys w1 (hy.below hb) hd hl2
  have HL : Hid ((rsg xs).length ≤ 2097152 ∧ (rsg ys).length ≤ 2097152) := ⟨Nat.le_trans (rsg_len xs) hl, Nat.le_trans (rsg_len ys) hl2⟩
  generalize xs.length = n at *
  generalize ys.length = m at *
  clear hx hy hl hl2 hc hd
  go_enter Try.func8, Try.ntmps8
  go_wp2_with fail
  go_fit k1
  rintro e w1 ⟨a1, c1, rfl, hc1, z1, b1⟩
  have k2 := K2.out w1 b1
  have Z1 : Hid (Zm w1 a1 (rsg xs)) := z1
  have C1 : Hid ((rsg xs).length ≤ c1) := hc1
  have B1 : Hid (Below w.heap.size w w1) := b1
  clear z1 b1 k1 hc1
  generalize hn1 : (rsg xs).length = n1
  have N1 : Hid ((rsg xs).length = n1) := hn1
  clear hn1
  go_wp2_with fail
  go_fit k2
  rintro e w2 ⟨a2, c2, rfl, hc2, z2, b2⟩
  have k3 := merge_any a1 a2 c1 c2 (rsg xs) (rsg ys) true false false w2 (Z1.out.below b2) z2 C1.out hc2 HL.out.1 HL.out.2
  rw [N1.out] at k3
  have B2 : Hid (Below w.heap.size w w2) := B1.out.trans (b2.mono B1.out.size)
  clear z2 b2 k2 Z1 hc2
  generalize (rsg ys).length = m1 at k3 ⊢
  go_wp2_with fail
  go_fit k3
  rintro e w3 ⟨v3, rfl, z3, b3⟩
  go_wp2
  go_ret
  exact ⟨_, rfl, Zr.mono z3 B2.out.size, B2.out.trans (b3.mono B2.out.size)⟩
end Go.Proofs.Ytnjhffbegaegnaa
