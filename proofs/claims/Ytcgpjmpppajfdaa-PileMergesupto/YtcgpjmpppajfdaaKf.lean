
/- same, whole, the reference's Best. -/
import Derived.Test.YtcgpjmpppajfdaaKc
import Derived.Lib.QuietBelow
namespace Go.Proofs.Ytcgpjmpppajfdaa
open Go.RowKit

theorem Iml.at {w : World} {a : Option Addr} {f : Nat → It} {n : Nat} (h : Iml w a f n) (j : Nat) (hj : j < n) : ∃ g o, a = some ⟨g, o, none⟩ ∧ w.cell? ⟨g, o + j * 2, none⟩ = some (.int .i64 (f j).1) ∧ w.cell? ⟨g, o + j * 2 + 1, none⟩ = some (.int .i64 (f j).2) := by
  rcases h with h | ⟨g, o, rfl, _, hat⟩
  · omega
  · exact ⟨g, o, rfl, (hat j hj).1, (hat j hj).2⟩
set_option maxHeartbeats 2000000 in
set_option maxRecDepth 100000 in
theorem same_true (a b : Option Addr) (c d n : Nat) (xs : Nat → It) (w : World) (ha : Iml w a xs n) (hb : Iml w b xs n) (hn : n ≤ 1152921504606846976) :
    Calls Try.prog 37 #[.slice a n c, .slice b n d] w fun r w' => r = .returned (.bool true) ∧ Below w.heap.size w w' := by
  have hN := ne_it
  have HA : Hid (Iml w a xs n) := ha
  have HB : Hid (Iml w b xs n) := hb
  obtain ⟨G, hG⟩ : ∃ G, G = w.heap.size := ⟨_, rfl⟩
  have HG : Hid (G = w.heap.size) := hG
  rw [← hG]
  clear ha hb hG
  go_enter Try.func37, Try.ntmps37
  go_wp2
  go_loopw [13, 5] (fun ivv _ w' => ∃ i : Nat, ivv = .int .i64 (i : Int) ∧ i ≤ n ∧ Hid (Below G w w')) (fun ivv _ _ => n - (RowKit.intOf ivv).toNat)
  case atStart => exact ⟨0, rfl, by omega, Below.refl _ _⟩
  case round =>
    obtain ⟨i, rfl, hi, hb⟩ := hrel
    by_cases hlt : i < n
    · have hii : (i : Int) < n := by omega
      obtain ⟨g1, o1, rfl, x0, x1⟩ := HA.out.at i hlt
      obtain ⟨g2, o2, rfl, y0, y1⟩ := HB.out.at i hlt
      have hb' : Below w.heap.size w wr := HG.out ▸ hb.out
      have e0 := bcellK hb' x0
      have e1 := bcellK hb' x1
      have e2 := bcellK hb' y0
      have e3 := bcellK hb' y1
      have heq : eqB (xs i) (xs i) = true := (eqB_iff _ _).2 rfl
      obtain ⟨⟨xk, xi⟩, hx⟩ : ∃ x, xs i = x := ⟨_, rfl⟩
      rw [hx] at e0 e1 e2 e3 heq
      dsimp only at e0 e1 e2 e3
      have HB2 : Hid (∀ m, Below G w (wr.drewN m)) := fun m => below_drewN hb.out m
      clear hx x0 x1 y0 y1 hb hb'
      go_wp2_with fail
      go_big_quiet (fail)
      have HB3 : Hid _ := HB2.out nq
      generalize wr.drewN nq = W6 at *
      go_wp2
      exact ⟨⟨i + 1, by go_num, by omega, HB3⟩, by simp [RowKit.intOf]; omega⟩
    · have hii : ¬ (i : Int) < n := by omega
      go_wp2
      go_ret
      exact ⟨rfl, hb.out⟩
end Go.Proofs.Ytcgpjmpppajfdaa
