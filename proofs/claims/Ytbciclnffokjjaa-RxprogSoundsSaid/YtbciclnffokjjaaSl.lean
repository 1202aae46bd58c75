/- RxprogSounds: the copy that the law makes, range by range. -/
import Derived.Test.YtbciclnffokjjaaSk
namespace Go.Proofs.Ytbciclnffokjjaa
open Go.RowKit

/-- Ranges that don't lie in block gi. -/
def RN (w : World) (gi : Nat) (a : Option Addr) (f : Nat → Rg) (n : Nat) : Prop := Rml w a f n ∧ (n = 0 ∨ ∃ g o, a = some ⟨g, o, none⟩ ∧ g ≠ gi)
theorem RN.kp {w w' : World} {gi n : Nat} {a : Option Addr} {f : Nat → Rg} (h : RN w gi a f n) (k : Kp (· = gi) w w') : RN w' gi a f n := by
  refine ⟨?_, h.2⟩
  rcases h.2 with h0 | ⟨g, o, rfl, hne⟩
  · exact .inl h0
  · rcases h.1 with h1 | ⟨g1, o1, e, hg, hc⟩
    · exact .inl h1
    · cases e
      exact .inr ⟨g, o, rfl, Nat.lt_of_lt_of_le hg k.size, fun j hj => ⟨k.cell (hc j hj).1 hne, k.cell (hc j hj).2 hne⟩⟩
def LQ (S : Nat) (W : World) (gi cap n : Nat) (x : Nat → In) (wr : World) : Prop :=
  Kp (· = gi) W wr ∧ ∃ y : Nat → In, wr.ownsRow S 29 5 (.slice (some ⟨gi, 0, none⟩) n cap) n (n5 y n) ∧ ∀ j, j < n → Alk (x j) (y j) ∧ RN wr gi (y j).ra (x j).rf (x j).rn ∧ (x j).rn * 8 ≤ 140737488351232
theorem LQ.start {S : Nat} {w W : World} {gi cap n : Nat} {x : Nat → In} {ia : Option Addr} (hx : Nml w ia x n) (hr : W.ownsRow S 29 5 (.slice (some ⟨gi, 0, none⟩) n cap) n (n5 x n)) (hb : Below w.heap.size w W) (hgi : w.heap.size ≤ gi) : LQ S W gi cap n x W := by
  refine ⟨Kp.refl _ _, x, hr, fun j hj => ?_⟩
  obtain ⟨_, _, _, _, _, _, _, _, _, hR, hs⟩ := hx.at j hj
  refine ⟨⟨rfl, rfl, rfl, rfl, rfl, rfl⟩, ⟨hR.below hb, ?_⟩, hs⟩
  rcases hR with h0 | ⟨g, o, e, hg, _⟩
  · exact .inl h0
  · exact .inr ⟨g, o, e, by omega⟩
theorem LQ.nml {S : Nat} {W : World} {gi cap n : Nat} {x : Nat → In} {wr : World} (h : LQ S W gi cap n x wr) : ∃ y, Nml wr (some ⟨gi, 0, none⟩) y n ∧ ∀ j, j < n → Alk (x j) (y j) := by
  obtain ⟨_, y, hr, ha⟩ := h
  refine ⟨y, ?_, fun j hj => (ha j hj).1⟩
  have hg : gi < wr.heap.size := (World.ownsRow.lt hr gi rfl).2
  refine .inr ⟨gi, 0, rfl, hg, fun j hj => ?_⟩
  obtain ⟨⟨_, _, _, _, a5, a6⟩, hR, hs⟩ := ha j hj
  rw [Nat.zero_add]
  have c := fun k (hk : k < 5) => (World.ownsRow.cellAt hr (j * 5 + k) (by omega)).trans (n5_get y n j k hj hk)
  have c0 := c 0 (by omega)
  rw [Nat.add_zero] at c0
  rw [a5, a6] at hR
  rw [a5] at hs
  exact ⟨c0, c 1 (by omega), c 2 (by omega), c 3 (by omega), c 4 (by omega), hR.1, hs⟩
theorem LQ.step {S : Nat} {W : World} {gi cap n : Nat} {x : Nat → In} {wr : World} (h : LQ S W gi cap n x wr) (i : Nat) (hi : i < n) (hR : Rml wr (x i).ra (x i).rf (x i).rn) (hz : (x i).ra = none → (x i).rn = 0 ∧ (x i).rc = 0) :
    ∃ g c w6 v, (Builtin.append_ #[27, 27] 27 #[.slice (some ⟨wr.heap.size, 0, none⟩) 0 0, .slice (x i).ra (x i).rn (x i).rc]).run Try.prog (wr.alloc (.cells #[] 50)).drew = .ok (.slice (some ⟨g, 0, none⟩) (x i).rn c) w6 ∧
      w6.cell? ⟨gi, i * 5 + 4, none⟩ = some v ∧ w6.frozen? ⟨gi, i * 5 + 4, none⟩ = false ∧ Kp (· = gi) W w6 ∧ LQ S W gi cap n x (w6.setCell ⟨gi, i * 5 + 4, none⟩ (.slice (some ⟨g, 0, none⟩) (x i).rn c)) := by
  obtain ⟨hk, y, hr, ha⟩ := h
  obtain ⟨⟨a1, a2, a3, a4, a5, a6⟩, _, hs⟩ := ha i hi
  have hg : gi < wr.heap.size := (World.ownsRow.lt hr gi rfl).2
  obtain ⟨g, c, w6, r, o6, b6, hg6, hlt⟩ := fresh_copy (P := Try.prog) wr.drew 27 50 _ 2 8 Try.underlying27 infG rfl (by decide) (x i).ra (x i).rn (x i).rc (rc2 (x i).rf (x i).rn) hz (rc2_len _ _) (fun p hp => by
    have h2 : Rml wr (some p) (x i).rf (x i).rn := hp ▸ hR
    exact h2.cells) (rc2_one _ _) (by unfold maxLen; omega) (by omega)
  have b6 : Below wr.heap.size wr w6 := ⟨b6.os, b6.tape, b6.output, b6.size, b6.block⟩
  have k6 : Kp (· = gi) wr w6 := Kp.of b6
  have r6 : w6.ownsRow S 29 5 (.slice (some ⟨gi, 0, none⟩) n cap) n (n5 y n) := (Kp.of (M := fun _ => False) b6).row hr (fun _ _ => id)
  have hne : g ≠ gi := by
    have : wr.heap.size ≤ g := hg6
    omega
  have c4 : w6.cell? ⟨gi, i * 5 + 4, none⟩ = some (.slice (y i).ra (y i).rn (y i).rc) := (World.ownsRow.cellAt r6 (i * 5 + 4) (by omega)).trans (n5_get y n i 4 hi (by omega))
  refine ⟨g, c, w6, _, r, c4, World.ownsRow.frozenAt r6 _, hk.trans k6, ?_⟩
  have ks : Kp (· = gi) w6 (w6.setCell ⟨gi, i * 5 + 4, none⟩ (.slice (some ⟨g, 0, none⟩) (x i).rn c)) := (Kp.refl (· = gi) w6).setCell (p := ⟨gi, i * 5 + 4, none⟩) rfl _
  refine ⟨(hk.trans k6).trans ks, up y i { y i with ra := some ⟨g, 0, none⟩, rc := c }, ?_, fun j hj => ?_⟩
  · rw [← n5_set y i (some ⟨g, 0, none⟩) c n hi, a5]
    exact (World.ownsRow.stored r6 (i * 5 + 4) _).1
  · obtain ⟨al, rn, hs2⟩ := ha j hj
    by_cases hji : j = i
    · subst hji
      rw [up_same]
      refine ⟨al, ⟨?_, .inr ⟨g, 0, rfl, hne⟩⟩, hs2⟩
      have hm : Rml w6 (some ⟨g, 0, none⟩) (x j).rf (x j).rn := Rml.of_row o6 hlt
      exact (RN.kp ⟨hm, .inr ⟨g, 0, rfl, hne⟩⟩ ks).1
    · rw [up_other _ _ _ _ hji]
      exact ⟨al, (rn.kp k6).kp ks, hs2⟩
theorem allB_congr {x y : Nat → In} {m g : Int} : ∀ {n : Nat}, (∀ j, j < n → Alk (x j) (y j)) → allB y m g n = allB x m g n
  | 0, _ => rfl
  | n + 1, h => by
    unfold allB
    rw [allB_congr (n := n) fun j hj => h j (by omega)]
    obtain ⟨a1, a2, a3, a4, a5, a6⟩ := h n (by omega)
    rw [a1, a2, a3, a4, a5, a6]
theorem SdB_congr {x y : Nat → In} {n : Nat} {st gr : Int} {nn : Nat} (h : ∀ j, j < n → Alk (x j) (y j)) : SdB y n st gr nn = SdB x n st gr nn := by
  unfold SdB
  rw [allB_congr h]
end Go.Proofs.Ytbciclnffokjjaa
