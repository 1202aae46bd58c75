/- The reference: number, zeros, Bits. -/
import Derived.Test.YtedlmjieclaojabDoorCl
import Derived.Test.YtedlmjieclaojabDoorDa
namespace Go.Proofs.YtedlmjieclaojabDoor
open Go.RowKit

/-- A row of bits, a byte each. -/
structure Rw (S : Nat) (w : World) (v : Value) (L : List Int) : Prop where
  row : w.ownsRow S 5 1 v L.length (bc L)
  SS : S ≤ w.heap.size
theorem Rw.kp {M : Nat → Prop} {S : Nat} {w w' : World} {v : Value} {L : List Int} (h : Rw S w v L) (k : Kp M w w') (hg : ∀ g, v.ownBlock = some g → ¬ M g) : Rw S w' v L := ⟨k.row h.row hg, Nat.le_trans h.SS k.size⟩
theorem Rw.below {S : Nat} {w w' : World} {v : Value} {L : List Int} (h : Rw S w v L) (b : Below w.heap.size w w') : Rw S w' v L := h.kp (M := fun _ => False) (Kp.of b) (fun _ _ => id)
theorem Rw.base {S : Nat} {w : World} {v : Value} {L : List Int} (h : Rw S w v L) : ∀ k, v.ownBlock = some k → S ≤ k ∧ k < w.heap.size := by
  intro k hk
  rcases h.row.2 with ⟨e', _⟩ | ⟨G, _, _, e', hG, hh, _⟩
  · rw [e'] at hk; cases hk
  · rw [e'] at hk
    have : G = k := Option.some.inj hk
    subst this
    exact ⟨hG, (Array.getElem?_eq_some_iff.1 hh).1⟩
/-- What a piece of the row's writing does. -/
def Nq (S : Nat) (v : Value) (L X : List Int) (w : World) (e : Ending) (w' : World) : Prop := ∃ v', e = .returned v' ∧ Rw S w' v' (L ++ X) ∧ Sub w v v' ∧ Kp (fun k => v.ownBlock = some k) w w'
theorem kp_own {w w1 w2 : World} {v v1 : Value} (h : Kp (fun k => v.ownBlock = some k) w w1) (hs : Sub w v v1) (k : Kp (fun k => v1.ownBlock = some k) w1 w2) : Kp (fun k => v.ownBlock = some k) w w2 := h.trans' k (fun i hi e => hs i e hi)
/-- The bit number d of a word. -/
theorem and_one (V d : Nat) (hV : V < 18446744073709551616) : bits BinOp.and IntKind.u64 ((V : Int) / 2 ^ d) 1 = ((V / 2 ^ d % 2 : Nat) : Int) := by
  have h1 : (V : Int) / 2 ^ d = ((V / 2 ^ d : Nat) : Int) := by simp
  have h2 : V / 2 ^ d ≤ V := Nat.div_le_self _ _
  have h3 := bits_mask .u64 64 (by decide) wraps_u64l 1 (by decide) ((V / 2 ^ d : Nat) : Int) (Int.natCast_nonneg _) (by
    generalize V / 2 ^ d = Y at h2 ⊢
    show (Y : Int) < 18446744073709551616
    omega)
  have h4 : ((2 : Int) ^ 1 - 1) = 1 := by decide
  rw [h4] at h3
  rw [h1, h3]
  generalize V / 2 ^ d = Y
  omega
theorem nb_step (V n d : Nat) (h : d < n) : nb (V / 2 ^ d) (n - d) = nb (V / 2 ^ (d + 1)) (n - (d + 1)) ++ [((V / 2 ^ d % 2 : Nat) : Int)] := by
  rw [show n - d = (n - (d + 1)) + 1 by omega, nb_succ, Nat.div_div_eq_div_mul, ← Nat.pow_succ]
set_option maxHeartbeats 2000000 in
set_option maxRecDepth 100000 in
theorem number_any (S : Nat) (v : Value) (L : List Int) (V n : Nat) (w : World) (h : Rw S w v L) (hV : V < 18446744073709551616) (hn : n ≤ 64) (hL : L.length + 100 ≤ 140737488355328) :
    Calls Tryd.prog 39 #[v, .int .u64 (V : Nat), .int .i64 (n : Nat)] w (Nq S v L (nb V n) w) := by
  have H0 : Hid (Rw S w v L) := h
  have HV : Hid (V < 18446744073709551616) := hV
  obtain ⟨X, hX⟩ : ∃ X : Int, X = (V : Nat) := ⟨_, rfl⟩
  have hX0 : 0 ≤ X := by omega
  have hX1 : X ≤ 18446744073709551615 := by omega
  have HX : Hid (X = (V : Nat)) := hX
  rw [← hX]
  have HL : Hid (L.length + 100 ≤ 140737488355328) := hL
  obtain ⟨a, c, rfl⟩ : ∃ a c, v = .slice a L.length c := by
    rcases h.row.2 with ⟨e, e2⟩ | ⟨g, c, cur, e, _, hg, _⟩
    · exact ⟨none, 0, by rw [e, e2]⟩
    · exact ⟨_, c, e⟩
  generalize hv0 : Value.slice a L.length c = v0 at *
  have HV0 : Hid (v0 = .slice a L.length c) := hv0.symm
  clear h hV hX hL hv0
  go_enter Tryd.func39, Tryd.ntmps39
  go_wp2_with fail
  go_loopw [0, 7] (fun rv iv w' => ∃ d : Nat, d ≤ n ∧ iv = .int .i64 ((d : Int) - 1) ∧ Hid (Rw S w' rv (L ++ nb (V / 2 ^ d) (n - d)) ∧ Sub w v0 rv ∧ Kp (fun k => v0.ownBlock = some k) w w')) (fun _ iv _ => (RowKit.intOf iv + 1).toNat)
  case atStart =>
    refine ⟨n, Nat.le_refl _, rfl, ?_⟩
    refine ⟨?_, Sub.refl _ _, Kp.refl _ _⟩
    rw [Nat.sub_self, nb_zero, List.append_nil]
    exact H0.out
  case round =>
    obtain ⟨d, hd, rfl, hr⟩ := hrel
    cases d with
    | zero =>
      have HE : Hid (Nq S v0 L (nb V n) w (.returned u0) wr) := by
        obtain ⟨h1, h2, h3⟩ := hr.out
        rw [Nat.pow_zero, Nat.div_one, Nat.sub_zero] at h1
        exact ⟨_, rfl, h1, h2, h3⟩
      clear hr
      go_wp2
      go_ret
      exact HE.out
    | succ d =>
      rw [show ((d + 1 : Nat) : Int) - 1 = (d : Int) by omega]
      obtain ⟨h1, h2, h3⟩ := hr.out
      obtain ⟨G, C, w2, r, o', k', hg⟩ := append_b wr S u0 (L ++ nb (V / 2 ^ (d + 1)) (n - (d + 1))) ((V / 2 ^ d % 2 : Nat) : Int) h1.SS (by rw [List.length_append, nb_len]; have := HL.out; omega) h1.row
      have hb := and_one V d HV.out
      rw [← HX.out] at hb
      have hb2 : V / 2 ^ d % 2 < 2 := Nat.mod_lt _ (by decide)
      have HR : Hid (Rw S w2 (.slice (some ⟨G, 0, none⟩) ((L ++ nb (V / 2 ^ (d + 1)) (n - (d + 1))).length + 1) C) (L ++ nb (V / 2 ^ d) (n - d)) ∧ Sub w v0 (.slice (some ⟨G, 0, none⟩) ((L ++ nb (V / 2 ^ (d + 1)) (n - (d + 1))).length + 1) C) ∧ Kp (fun k => v0.ownBlock = some k) w w2) := by
        refine ⟨⟨?_, Nat.le_trans h1.SS k'.size⟩, ?_, kp_own h3 h2 k'⟩
        · have e : L ++ nb (V / 2 ^ d) (n - d) = (L ++ nb (V / 2 ^ (d + 1)) (n - (d + 1))) ++ [((V / 2 ^ d % 2 : Nat) : Int)] := by rw [nb_step V n d (by omega), List.append_assoc]
          rw [e]
          have e2 : ((L ++ nb (V / 2 ^ (d + 1)) (n - (d + 1))) ++ [((V / 2 ^ d % 2 : Nat) : Int)]).length = (L ++ nb (V / 2 ^ (d + 1)) (n - (d + 1))).length + 1 := by rw [List.length_append]; rfl
          rw [e2]
          exact o'
        · intro k hk hl
          have hk' : G = k := Option.some.inj hk
          subst hk'
          rcases hg with hg | hg
          · exact h2 _ hg hl
          · have := h3.size; omega
      have hbw : IntKind.u8.wrap ((V / 2 ^ d % 2 : Nat) : Int) = ((V / 2 ^ d % 2 : Nat) : Int) := by rw [IntKind.wrap_u8]; omega
      have hd64 : (d : Int) < 64 := by omega
      clear hr h1 h2 h3 o' k' hg
      generalize (L ++ nb (V / 2 ^ (d + 1)) (n - (d + 1))).length = q at *
      generalize V / 2 ^ d % 2 = b at *
      go_wp2_with (first | (at_builtin; refine wpList_append_run rfl (.tmp 14) (.tmp 20) 38 38 rfl _ _ rfl rfl r ?_))
      exact ⟨⟨d, by omega, by go_num, HR⟩, by simp [RowKit.intOf]⟩
end Go.Proofs.YtedlmjieclaojabDoor
