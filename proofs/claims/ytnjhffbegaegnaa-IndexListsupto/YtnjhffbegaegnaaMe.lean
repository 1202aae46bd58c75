/- And, Without, Or. -/
import Derived.Test.YtnjhffbegaegnaaMd
import Derived.Lib.AppendZeros
namespace Go.Proofs.Ytnjhffbegaegnaa
open Go.RowKit Go.Lib Go.Shelf Go.Sort

/-- What a function that makes a row of numbers answers. -/
def RZ (w : World) (l : List Int) (e : Ending) (w' : World) : Prop := ∃ v, e = .returned v ∧ Zr w' w.heap.size v l ∧ Below w.heap.size w w'
set_option maxHeartbeats 2000000 in
set_option maxRecDepth 100000 in
theorem and_any (a b : Option Addr) (c d : Nat) (xs ys : List Int) (w : World) (hx : Zm w a xs) (hy : Zm w b ys) (hl : xs.length ≤ 4194304) (hl2 : ys.length ≤ 4194304) :
    Calls Try.prog 5 #[.slice a xs.length c, .slice b ys.length d] w (RZ w (anL xs ys)) := by
  have k1 := rising_any a c xs w hx hl
  have K2 : Hid (∀ w1, Below w.heap.size w w1 → Calls Try.prog 12 #[.slice b ys.length d] w1 fun e w' => ∃ v, e = .returned v ∧ Zr w' w1.heap.size v (rsg ys) ∧ Below w1.heap.size w1 w') := fun w1 hb => rising_any b d ys w1 (hy.below hb) hl2
  have HL : Hid ((rsg xs).length ≤ 4194304 ∧ (rsg ys).length ≤ 4194304) := ⟨Nat.le_trans (rsg_len xs) hl, Nat.le_trans (rsg_len ys) hl2⟩
  generalize xs.length = n at *
  generalize ys.length = m at *
  clear hx hy hl hl2
  go_enter Try.func5, Try.ntmps5
  go_wp2_with fail
  go_fit k1
  rintro e w1 ⟨v1, rfl, z1, b1⟩
  have k2 := K2.out w1 b1
  have Z1 : Hid (Zr w1 w.heap.size v1 (rsg xs)) := z1
  have B1 : Hid (Below w.heap.size w w1) := b1
  clear z1 b1 k1
  go_wp2_with fail
  go_fit k2
  rintro e w2 ⟨v2, rfl, z2, b2⟩
  have z1 : Zr w2 w.heap.size v1 (rsg xs) := Zr.below Z1.out b2
  obtain ⟨a1, c1, rfl, m1⟩ := z1.zm
  obtain ⟨a2, c2, rfl, m2⟩ := Zr.zm z2
  have k3 := those_any a1 a2 c1 c2 (rsg xs) (rsg ys) true w2 m1 m2 (rsg_rs xs) (rsg_rs ys) HL.out.1 HL.out.2
  rw [an_th] at k3
  have B2 : Hid (Below w.heap.size w w2) := B1.out.trans (b2.mono B1.out.size)
  clear m1 m2 z1 z2 b2 k2 Z1
  go_wp2_with fail
  go_fit k3
  rintro e w3 ⟨v3, rfl, z3, b3⟩
  go_wp2
  go_ret
  exact ⟨_, rfl, Zr.mono z3 B2.out.size, B2.out.trans (b3.mono B2.out.size)⟩
set_option maxHeartbeats 2000000 in
set_option maxRecDepth 100000 in
theorem without_any (a b : Option Addr) (c d : Nat) (xs ys : List Int) (w : World) (hx : Zm w a xs) (hy : Zm w b ys) (hl : xs.length ≤ 4194304) (hl2 : ys.length ≤ 4194304) :
    Calls Try.prog 10 #[.slice a xs.length c, .slice b ys.length d] w (RZ w (wiL xs ys)) := by
  have k1 := rising_any a c xs w hx hl
  have K2 : Hid (∀ w1, Below w.heap.size w w1 → Calls Try.prog 12 #[.slice b ys.length d] w1 fun e w' => ∃ v, e = .returned v ∧ Zr w' w1.heap.size v (rsg ys) ∧ Below w1.heap.size w1 w') := fun w1 hb => rising_any b d ys w1 (hy.below hb) hl2
  have HL : Hid ((rsg xs).length ≤ 4194304 ∧ (rsg ys).length ≤ 4194304) := ⟨Nat.le_trans (rsg_len xs) hl, Nat.le_trans (rsg_len ys) hl2⟩
  generalize xs.length = n at *
  generalize ys.length = m at *
  clear hx hy hl hl2
  go_enter Try.func10, Try.ntmps10
  go_wp2_with fail
  go_fit k1
  rintro e w1 ⟨v1, rfl, z1, b1⟩
  have k2 := K2.out w1 b1
  have Z1 : Hid (Zr w1 w.heap.size v1 (rsg xs)) := z1
  have B1 : Hid (Below w.heap.size w w1) := b1
  clear z1 b1 k1
  go_wp2_with fail
  go_fit k2
  rintro e w2 ⟨v2, rfl, z2, b2⟩
  have z1 : Zr w2 w.heap.size v1 (rsg xs) := Zr.below Z1.out b2
  obtain ⟨a1, c1, rfl, m1⟩ := z1.zm
  obtain ⟨a2, c2, rfl, m2⟩ := Zr.zm z2
  have k3 := those_any a1 a2 c1 c2 (rsg xs) (rsg ys) false w2 m1 m2 (rsg_rs xs) (rsg_rs ys) HL.out.1 HL.out.2
  rw [wi_th] at k3
  have B2 : Hid (Below w.heap.size w w2) := B1.out.trans (b2.mono B1.out.size)
  clear m1 m2 z1 z2 b2 k2 Z1
  go_wp2_with fail
  go_fit k3
  rintro e w3 ⟨v3, rfl, z3, b3⟩
  go_wp2
  go_ret
  exact ⟨_, rfl, Zr.mono z3 B2.out.size, B2.out.trans (b3.mono B2.out.size)⟩
set_option maxHeartbeats 2000000 in
set_option maxRecDepth 100000 in
/-- slices.Grow of nothing. -/
theorem grow_any (n : Nat) (w : World) (hn : n ≤ 16777216) :
    Calls Try.prog 22 #[.slice none 0 0, .int .i64 (n : Int)] w (RZ w []) := by
  have hb0 : Hid (Below w.heap.size w w) := Below.refl _ _
  by_cases h0 : n = 0
  · subst h0
    go_enter Try.func22, Try.ntmps22
    go_wp2
    go_ret
    exact ⟨_, rfl, Zr.nil _ _, hb0.out⟩
  · obtain ⟨i0, hi, hz0, hz1, hz2⟩ := info_parts info3
    have r1 := run_append_nil_zeros (P := Try.prog) w 22 3 22 3 i0 (.int .i64 0) .i64 .i64 Try.underlying22 Try.underlying3 hi hz0 n (by omega) (by rw [hz1]; decide) (by omega) (by rw [hz2]; omega)
    have hge := grownCap_ge w n 0 3
    have hle := grownCap_le_maxLen w n 0 3 (by unfold maxLen; omega)
    have o1 : Zr (w.drew.alloc (.cells (Builtin.zeroCells (Value.int .i64 0).cells n ++ Builtin.zeroCells (Value.int .i64 0).cells (grownCap w n 0 3 - n)) 3)) w.heap.size (.slice (some ⟨w.heap.size, 0, none⟩) 0 (grownCap w n 0 3)) [] := by
      refine ⟨rfl, .inr ⟨w.heap.size, _, _, rfl, Nat.le_refl _, heap_alloc_new w.drew _, Nat.zero_le _, hle, ?_, ?_⟩⟩
      · simp only [Array.size_append, size_zeroCells]
        rw [show (Value.int .i64 0).cells.size = 1 from rfl]
        omega
      · simp [zc]
    have b1 : Below w.heap.size w (w.drew.alloc (.cells (Builtin.zeroCells (Value.int .i64 0).cells n ++ Builtin.zeroCells (Value.int .i64 0).cells (grownCap w n 0 3 - n)) 3)) := ⟨rfl, rfl, rfl, by simp, fun k hk => heap_alloc_old w.drew _ hk⟩
    have hci : (0 : Int) ≤ (grownCap w n 0 3 : Nat) := by omega
    have O1 : Hid (Zr (w.drew.alloc (.cells (Builtin.zeroCells (Value.int .i64 0).cells n ++ Builtin.zeroCells (Value.int .i64 0).cells (grownCap w n 0 3 - n)) 3)) w.heap.size (.slice (some ⟨w.heap.size, 0, none⟩) 0 (grownCap w n 0 3)) []) := o1
    have B1 : Hid (Below w.heap.size w _) := b1
    have h1 : ¬ (n : Int) < 0 := by omega
    have h2 : (0 : Int) < (n : Int) := by omega
    have h3 : (n : Int) ≤ 16777216 := by omega
    generalize grownCap w n 0 3 = C at *
    generalize (w.drew.alloc (.cells (Builtin.zeroCells (Value.int .i64 0).cells n ++ Builtin.zeroCells (Value.int .i64 0).cells (C - n)) 3)) = W at *
    clear o1 b1 hle h0 hn
    go_enter Try.func22, Try.ntmps22
    go_wp2_with (at_builtin; refine Ytnjhffbegaegnaa.wpList_append_run rfl (.tmp 20) (.tmp 21) 22 3 rfl _ _ rfl rfl r1 ?_)
    go_ret
    exact ⟨_, rfl, O1.out, B1.out⟩
set_option maxHeartbeats 4000000 in
set_option maxRecDepth 100000 in
/-- slices.Concat of two lists. -/
theorem concat_any (K : Nat) (a b : Option Addr) (c d : Nat) (xs ys : List Int) (w : World) (hx : Zm w a xs) (hy : Zm w b ys) (hl : xs.length ≤ 2097152) (hl2 : ys.length ≤ 2097152)
    (h0 : w.cell? ⟨K, 0, none⟩ = some (.slice a xs.length c)) (h1 : w.cell? ⟨K, 1, none⟩ = some (.slice b ys.length d)) :
    Calls Try.prog 15 #[.slice (some ⟨K, 0, none⟩) 2 2] w (RZ w (xs ++ ys)) := by
  have hK : K < w.heap.size := block_lt_of_cell h0
  have HX : Hid (Zm w a xs) := hx
  have HY : Hid (Zm w b ys) := hy
  have HL : Hid (xs.length ≤ 2097152 ∧ ys.length ≤ 2097152) := ⟨hl, hl2⟩
  obtain ⟨n, hn⟩ : ∃ n, n = xs.length := ⟨_, rfl⟩
  obtain ⟨m, hm⟩ : ∃ m, m = ys.length := ⟨_, rfl⟩
  rw [← hn] at h0
  rw [← hm] at h1
  have HN : Hid (n = xs.length) := hn
  have HM : Hid (m = ys.length) := hm
  have hnn : (n : Int) ≤ 2097152 := by omega
  have hmm : (m : Int) ≤ 2097152 := by omega
  obtain ⟨G, hG⟩ : ∃ G, G = w.heap.size := ⟨_, rfl⟩
  have HG : Hid (G = w.heap.size) := hG
  rw [← hG] at hK
  have KG : Hid (Calls Try.prog 22 #[.slice none 0 0, .int .i64 ((n + m : Nat) : Int)] w (RZ w [])) := grow_any (n + m) w (by omega)
  have hcast : ((n + m : Nat) : Int) = (n : Int) + (m : Int) := by omega
  rw [hcast] at KG
  have hb0 : Hid (Below G w w) := Below.refl _ _
  clear hx hy hl hl2 hn hm hG hcast
  go_enter Try.func15, Try.ntmps15
  go_wp2_with fail
  go_loopw [3, 11] (fun sv iv w' => w = w' ∧ ((iv = .int .i64 0 ∧ sv = .int .i64 0) ∨ (iv = .int .i64 1 ∧ sv = .int .i64 (n : Int)) ∨ (iv = .int .i64 2 ∧ sv = .int .i64 ((n : Int) + (m : Int))))) (fun _ iv _ => 2 - (RowKit.intOf iv).toNat)
  case atStart => exact ⟨rfl, .inl ⟨rfl, rfl⟩⟩
  case round =>
    obtain ⟨rfl, hr⟩ := hrel
    rcases hr with ⟨rfl, rfl⟩ | ⟨rfl, rfl⟩ | ⟨rfl, rfl⟩
    · go_wp2
      exact ⟨⟨trivial, .inr (.inl ⟨rfl, rfl⟩)⟩, by decide⟩
    · have q1 : ¬ (n : Int) + (m : Int) < 0 := by omega
      go_wp2
      exact ⟨⟨trivial, .inr (.inr ⟨rfl, rfl⟩)⟩, by decide⟩
    · go_wp2_with fail
      go_fit KG.out
      rintro e w1 ⟨v, rfl, z1, b1⟩
      have Z1 : Hid (Zr w1 G v []) := by show Zr _ _ _ _; rw [HG.out]; exact z1
      have B1 : Hid (Below G w w1) := by show Below _ _ _; rw [HG.out]; exact b1
      clear z1 b1
      go_wp2_with fail
      go_loopw [6, 27] (fun mv iv w' => Hid (Below G w w') ∧ ((iv = .int .i64 0 ∧ Hid (Zr w' G mv [])) ∨ (iv = .int .i64 1 ∧ Hid (Zr w' G mv xs)) ∨ (iv = .int .i64 2 ∧ Hid (Zr w' G mv (xs ++ ys))))) (fun _ iv _ => 2 - (RowKit.intOf iv).toNat)
      case atStart => exact ⟨B1, .inl ⟨rfl, Z1⟩⟩
      case round =>
        obtain ⟨hb, hr⟩ := hrel
        have HGS : G ≤ wr.heap.size := by rw [HG.out]; exact hb.out.size
        have BB : Below w.heap.size w wr := by rw [← HG.out]; exact hb.out
        have c0 := (hb.out.cell (p := ⟨K, 0, none⟩) hK).trans h0
        have c1 := (hb.out.cell (p := ⟨K, 1, none⟩) hK).trans h1
        rcases hr with ⟨rfl, hz⟩ | ⟨rfl, hz⟩ | ⟨rfl, hz⟩
        · obtain ⟨v1, w2, r1, z1, b1⟩ := append_zs wr G _ _ xs a c HGS (by have := HL.out; simp; omega) hz.out (HX.out.below BB)
          rw [← HN.out] at r1
          rw [List.nil_append] at z1
          have Z2 : Hid (Zr w2 G v1 xs) := z1
          have B2 : Hid (Below G w w2) := hb.out.trans b1
          clear z1 b1 hz BB
          go_wp2_with (at_builtin; refine Ytnjhffbegaegnaa.wpList_append_run rfl (.tmp 31) (.tmp 32) 22 22 rfl _ _ rfl rfl r1 ?_)
          exact ⟨⟨B2, .inr (.inl ⟨rfl, Z2⟩)⟩, by decide⟩
        · obtain ⟨v1, w2, r1, z1, b1⟩ := append_zs wr G _ _ ys b d HGS (by have := HL.out; omega) hz.out (HY.out.below BB)
          rw [← HM.out] at r1
          have Z2 : Hid (Zr w2 G v1 (xs ++ ys)) := z1
          have B2 : Hid (Below G w w2) := hb.out.trans b1
          clear z1 b1 hz BB
          go_wp2_with (at_builtin; refine Ytnjhffbegaegnaa.wpList_append_run rfl (.tmp 31) (.tmp 32) 22 22 rfl _ _ rfl rfl r1 ?_)
          exact ⟨⟨B2, .inr (.inr ⟨rfl, Z2⟩)⟩, by decide⟩
        · clear BB
          go_wp2
          go_ret
          exact ⟨_, rfl, by rw [← HG.out]; exact hz.out, by rw [← HG.out]; exact hb.out⟩
set_option maxHeartbeats 2000000 in
set_option maxRecDepth 100000 in
theorem or_any (a b : Option Addr) (c d : Nat) (xs ys : List Int) (w : World) (hx : Zm w a xs) (hy : Zm w b ys) (hl : xs.length ≤ 2097152) (hl2 : ys.length ≤ 2097152) :
    Calls Try.prog 9 #[.slice a xs.length c, .slice b ys.length d] w (RZ w (orL xs ys)) := by
  have bA : Below w.heap.size w (w.alloc (.cells #[.slice a xs.length c, .slice b ys.length d] 22)) := (Below.refl _ _).alloc (Nat.le_refl _) _
  have hnew := heap_alloc_new w (.cells #[.slice a xs.length c, .slice b ys.length d] 22)
  have k1 := concat_any w.heap.size a b c d xs ys (w.alloc (.cells #[.slice a xs.length c, .slice b ys.length d] 22)) (hx.below bA) (hy.below bA) hl hl2 (by unfold World.cell?; rw [hnew]; rfl) (by unfold World.cell?; rw [hnew]; rfl)
  have BA : Hid _ := bA
  have HL : Hid ((xs ++ ys).length ≤ 4194304) := by show _ ≤ _; rw [List.length_append]; omega
  generalize xs.length = n at *
  generalize ys.length = m at *
  clear hx hy hl hl2 bA hnew
  go_enter Try.func9, Try.ntmps9
  go_wp2_with fail
  go_fit k1
  rintro e w1 ⟨v1, rfl, z1, b1⟩
  obtain ⟨a1, c1, rfl, m1⟩ := Zr.zm z1
  have k2 := rising_any a1 c1 (xs ++ ys) w1 m1 HL.out
  rw [or_rs] at k2
  have B1 : Hid (Below w.heap.size w w1) := BA.out.trans (b1.mono BA.out.size)
  clear m1 z1 b1 k1 HL
  generalize (xs ++ ys).length = L at k2 ⊢
  go_wp2_with fail
  go_fit k2
  rintro e w2 ⟨v2, rfl, z2, b2⟩
  go_wp2
  go_ret
  exact ⟨_, rfl, Zr.mono z2 B1.out.size, B1.out.trans (b2.mono B1.out.size)⟩
end Go.Proofs.Ytnjhffbegaegnaa
