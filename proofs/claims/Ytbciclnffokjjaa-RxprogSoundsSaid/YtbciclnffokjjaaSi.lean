/- RxprogSounds: same ranges, same texts. -/
import Derived.Test.YtbciclnffokjjaaSh
namespace Go.Proofs.Ytbciclnffokjjaa
open Go.RowKit

theorem eqRg (a b c d : Int) (w : World) : (Op.equalIn 10000 50 (.agg #[.int .i32 a, .int .i32 b]) (.agg #[.int .i32 c, .int .i32 d])).run Try.prog w = .ok (a == c && b == d) w := by
  have u3 := Try.underlying21
  have a3 := Try.isAgg21
  have z3 := Try.sizeOf21
  have hS : Try.prog.underlying 50 = some (.struct (Try.prog.fieldsOf 50)) := by kernel_rfl
  rw [show (10000 : Nat) = 9999 + 1 from rfl, run_equalIn_agg w 9999 50 _ _ hS (by kernel_rfl)]
  simp only [Program.fieldsOf, Try.underlying50]
  go_simp
  by_cases h1 : a = c <;> by_cases h2 : b = d <;> simp [h1, h2]
theorem ne_rg (a b : Int) (w : World) : (binOp .neq 50 (.agg #[.int .i32 a, .int .i32 b]) (.agg #[.int .i32 a, .int .i32 b])).run Try.prog w = .ok (.bool false) w := by
  rw [run_neq_struct, eqRg]
  simp
set_option maxHeartbeats 2000000 in
set_option maxRecDepth 100000 in
theorem sameRanges_true (a b : Option Addr) (c d n : Nat) (xs : Nat → Rg) (w : World) (ha : Rml w a xs n) (hb : Rml w b xs n) (hn : n ≤ 1152921504606846976) :
    Calls Try.prog 20 #[.slice a n c, .slice b n d] w fun r w' => r = .returned (.bool true) ∧ Below w.heap.size w w' := by
  have hN := ne_rg
  have HA : Hid (Rml w a xs n) := ha
  have HB : Hid (Rml w b xs n) := hb
  obtain ⟨G, hG⟩ : ∃ G, G = w.heap.size := ⟨_, rfl⟩
  have HG : Hid (G = w.heap.size) := hG
  rw [← hG]
  clear ha hb hG
  go_enter Try.func20, Try.ntmps20
  go_wp2
  go_loopw [5] (fun ivv w' => ∃ i : Nat, ivv = .int .i64 (i : Int) ∧ i ≤ n ∧ Hid (Below G w w')) (fun ivv _ => n - (RowKit.intOf ivv).toNat)
  case atStart => exact ⟨0, rfl, by omega, Below.refl _ _⟩
  case round =>
    obtain ⟨i, rfl, hi, hb⟩ := hrel
    by_cases hlt : i < n
    · have hii : (i : Int) < n := by omega
      obtain ⟨g1, o1, rfl, _, x0, x1⟩ := HA.out.at i hlt
      obtain ⟨g2, o2, rfl, _, y0, y1⟩ := HB.out.at i hlt
      have hb' : Below w.heap.size w wr := HG.out ▸ hb.out
      have e0 := bcell2 hb' x0
      have e1 := bcell2 hb' x1
      have e2 := bcell2 hb' y0
      have e3 := bcell2 hb' y1
      obtain ⟨⟨xk, xi⟩, hx⟩ : ∃ x, xs i = x := ⟨_, rfl⟩
      rw [hx] at e0 e1 e2 e3
      dsimp only at e0 e1 e2 e3
      have HB2 : Hid (∀ m, Below G w (wr.drewN m)) := fun m => below_drewN hb.out m
      clear hx x0 x1 y0 y1 hb hb'
      go_wp2_with fail
      go_big_quiet (fail)
      have HB3 : Hid _ := HB2.out nq
      generalize wr.drewN nq = W6 at *
      go_wp2
      exact ⟨⟨i + 1, by go_num, by omega, HB3⟩, by simp [RowKit.intOf]; omega⟩
    · have hii : ¬ (i : Int) < n := by omega
      go_wp2
      go_ret
      exact ⟨rfl, hb.out⟩

/-- Texts that a slice shows. -/
def Sml (w : World) (a : Option Addr) (f : Nat → ByteArray) (n : Nat) : Prop := n = 0 ∨ ∃ g o, a = some ⟨g, o, none⟩ ∧ g < w.heap.size ∧ ∀ j, j < n → w.cell? ⟨g, o + j, none⟩ = some (.string (f j))
theorem Sml.below {w w' : World} {a : Option Addr} {f : Nat → ByteArray} {n : Nat} (h : Sml w a f n) (hb : Below w.heap.size w w') : Sml w' a f n := by
  rcases h with h | ⟨g, o, rfl, hg, hc⟩
  · exact .inl h
  · exact .inr ⟨g, o, rfl, Nat.lt_of_lt_of_le hg hb.size, fun j hj => (hb.cell (p := ⟨g, o + j, none⟩) hg).trans (hc j hj)⟩
theorem Sml.at {w : World} {a : Option Addr} {f : Nat → ByteArray} {n : Nat} (h : Sml w a f n) (j : Nat) (hj : j < n) : ∃ g o, a = some ⟨g, o, none⟩ ∧ g < w.heap.size ∧ w.cell? ⟨g, o + j, none⟩ = some (.string (f j)) := by
  rcases h with h | ⟨g, o, rfl, hg, hat⟩
  · omega
  · exact ⟨g, o, rfl, hg, hat j hj⟩
set_option maxHeartbeats 2000000 in
set_option maxRecDepth 100000 in
theorem sameTexts_true (a b : Option Addr) (c d n : Nat) (xs : Nat → ByteArray) (w : World) (ha : Sml w a xs n) (hb : Sml w b xs n) (hn : n ≤ 1152921504606846976) :
    Calls Try.prog 19 #[.slice a n c, .slice b n d] w fun r w' => r = .returned (.bool true) ∧ Below w.heap.size w w' := by
  have HA : Hid (Sml w a xs n) := ha
  have HB : Hid (Sml w b xs n) := hb
  obtain ⟨G, hG⟩ : ∃ G, G = w.heap.size := ⟨_, rfl⟩
  have HG : Hid (G = w.heap.size) := hG
  rw [← hG]
  clear ha hb hG
  go_enter Try.func19, Try.ntmps19
  go_wp2
  go_loopw [5] (fun ivv w' => ∃ i : Nat, ivv = .int .i64 (i : Int) ∧ i ≤ n ∧ Hid (Below G w w')) (fun ivv _ => n - (RowKit.intOf ivv).toNat)
  case atStart => exact ⟨0, rfl, by omega, Below.refl _ _⟩
  case round =>
    obtain ⟨i, rfl, hi, hb⟩ := hrel
    by_cases hlt : i < n
    · have hii : (i : Int) < n := by omega
      obtain ⟨g1, o1, rfl, _, x0⟩ := HA.out.at i hlt
      obtain ⟨g2, o2, rfl, _, y0⟩ := HB.out.at i hlt
      have hb' : Below w.heap.size w wr := HG.out ▸ hb.out
      have e0 := bcell2 hb' x0
      have e2 := bcell2 hb' y0
      generalize xs i = s at *
      have HB2 : Hid (∀ m, Below G w (wr.drewN m)) := fun m => below_drewN hb.out m
      clear x0 y0 hb hb'
      go_wp2_with fail
      go_big_quiet (fail)
      have HB3 : Hid _ := HB2.out nq
      generalize wr.drewN nq = W6 at *
      go_wp2
      exact ⟨⟨i + 1, by go_num, by omega, HB3⟩, by simp [RowKit.intOf]; omega⟩
    · have hii : ¬ (i : Int) < n := by omega
      go_wp2
      go_ret
      exact ⟨rfl, hb.out⟩
end Go.Proofs.Ytbciclnffokjjaa
