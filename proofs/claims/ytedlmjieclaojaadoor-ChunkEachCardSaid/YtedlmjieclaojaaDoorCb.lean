/- A stream is written: put. -/
import Derived.Test.YtedlmjieclaojaaDoorCa
namespace Go.Proofs.YtedlmjieclaojaaDoor
open Go.RowKit

theorem wraps_u8s (n : Int) (h₀ : 0 ≤ n) (h₁ : n < 2 ^ 8) : IntKind.u8.wrap n = n := by simp [IntKind.wrap, IntKind.bits, IntKind.signed]; omega
/-- Bits put beside others in a byte. -/
theorem byte_or (h x f : Nat) (hf : f ≤ 8) (hb : h * 2 ^ f < 256) (hx : x < 2 ^ f) : bits BinOp.or IntKind.u8 ((h * 2 ^ f : Nat) : Int) (x : Int) = ((h * 2 ^ f + x : Nat) : Int) := by
  have hp : 2 ^ f ≤ 256 := (Nat.pow_le_pow_right (by decide) hf : 2 ^ f ≤ 2 ^ 8)
  rw [(bits_nat .u8 8 (by decide) wraps_u8s (h * 2 ^ f) x (by omega) (by omega)).2, Nat.mul_comm h, Nat.two_pow_add_eq_or_of_lt hx]
/-- What a round puts: of v's bits those from n on, s of them, l places up. -/
theorem put_num (v n s l : Nat) (hs : s + l ≤ 8) (hv : v / 2 ^ n < 2 ^ s ∨ s + l = 8) : v / 2 ^ n % 256 * 2 ^ l % 256 = v / 2 ^ n % 2 ^ s * 2 ^ l := by
  have e : (256 : Nat) = 2 ^ (8 - l) * 2 ^ l := by rw [← Nat.pow_add, show 8 - l + l = 8 by omega]
  have hm : v / 2 ^ n % 256 % 2 ^ (8 - l) = v / 2 ^ n % 2 ^ (8 - l) := by
    rw [e, Nat.mod_mul_right_mod]
  rw [show v / 2 ^ n % 256 * 2 ^ l % 256 = v / 2 ^ n % 256 * 2 ^ l % (2 ^ (8 - l) * 2 ^ l) by rw [← e], Nat.mul_mod_mul_right, hm]
  rcases hv with hv | hv
  · rw [Nat.mod_eq_of_lt hv, Nat.mod_eq_of_lt (Nat.lt_of_lt_of_le hv (Nat.pow_le_pow_right (by decide) (by omega)))]
  · rw [show 8 - l = s by omega]

theorem cell_off (w : World) (B i j : Nat) (v : Value) (h : i ≠ j) : (w.setCell ⟨B, i, none⟩ v).cell? ⟨B, j, none⟩ = w.cell? ⟨B, j, none⟩ := World.cell?_setCell_other _ _ _ _ (by intro e; cases e; exact h rfl)
theorem cell_far (w : World) (B G i j : Nat) (v : Value) (h : B ≠ G) : (w.setCell ⟨B, i, none⟩ v).cell? ⟨G, j, none⟩ = w.cell? ⟨G, j, none⟩ := World.cell?_setCell_other _ _ _ _ (by intro e; cases e; exact h rfl)
/-- The block's cells behind the stream are as they were. -/
def Rst (B : Nat) (w w' : World) : Prop := ∀ i, 2 ≤ i → w'.cell? ⟨B, i, none⟩ = w.cell? ⟨B, i, none⟩
theorem Rst.refl (B : Nat) (w : World) : Rst B w w := fun _ _ => rfl
theorem Rst.trans {B : Nat} {a b c : World} (h : Rst B a b) (k : Rst B b c) : Rst B a c := fun i hi => (k i hi).trans (h i hi)
/-- A stream in the midst of a round: there is room in its last byte. -/
structure Mid (S : Nat) (w : World) (B G Q C l : Nat) (L : List Int) : Prop where
  c0 : w.cell? ⟨B, 0, none⟩ = some (.slice (some ⟨G, 0, none⟩) Q C)
  c1 : w.cell? ⟨B, 1, none⟩ = some (.int .i64 (l : Nat))
  fz : ∀ i, w.frozen? ⟨B, i, none⟩ = false
  row : w.ownsRow S 5 1 (.slice (some ⟨G, 0, none⟩) Q C) Q (bc (gr (fb L) 8 Q))
  gb : G ≠ B
  bin : Bin L
  SS : S ≤ w.heap.size
  l1 : 1 ≤ l
  l8 : l ≤ 8
  len : L.length + l = 8 * Q
theorem Stm.mid {S : Nat} {w : World} {B : Nat} {v : Value} {L : List Int} (h : Stm S w B v L) (hl : lf L ≠ 0) : ∃ G C, v = .slice (some ⟨G, 0, none⟩) (qb L) C ∧ Mid S w B G (qb L) C (lf L) L := by
  unfold lf at hl
  rcases h.row.2 with ⟨_, e2⟩ | ⟨G, C, cur, e, _⟩
  · unfold qb at e2; omega
  · refine ⟨G, C, e, by rw [← e]; exact h.c0, h.c1, h.fz, by rw [← e]; exact h.row, fun e' => h.gb (by rw [e, e']; rfl), h.bin, h.SS, ?_, ?_, ?_⟩
    all_goals unfold lf; try unfold qb
    all_goals omega
theorem Stm.grow {S : Nat} {w : World} {B : Nat} {v : Value} {L : List Int} (h : Stm S w B v L) (hl : lf L = 0) (hn : L.length ≤ 1000000000) : ∃ G C w2,
    (Builtin.append_ #[25, 25] 25 #[v, .slice (some ⟨w.heap.size, 0, none⟩) 1 1]).run Tryd.prog (w.alloc (.cells #[.int .u8 0] 5)) = .ok (.slice (some ⟨G, 0, none⟩) (qb L + 1) C) w2 ∧
      w2.cell? ⟨B, 0, none⟩ = some v ∧ w2.cell? ⟨B, 1, none⟩ = some (.int .i64 (lf L : Nat)) ∧ (∀ i, w2.frozen? ⟨B, i, none⟩ = false) ∧
      Mid S ((w2.setCell ⟨B, 0, none⟩ (.slice (some ⟨G, 0, none⟩) (qb L + 1) C)).setCell ⟨B, 1, none⟩ (.int .i64 8)) B G (qb L + 1) C 8 L ∧
      Kp (Mv B v) w ((w2.setCell ⟨B, 0, none⟩ (.slice (some ⟨G, 0, none⟩) (qb L + 1) C)).setCell ⟨B, 1, none⟩ (.int .i64 8)) ∧ Sub w v (.slice (some ⟨G, 0, none⟩) (qb L + 1) C) ∧
      Rst B w ((w2.setCell ⟨B, 0, none⟩ (.slice (some ⟨G, 0, none⟩) (qb L + 1) C)).setCell ⟨B, 1, none⟩ (.int .i64 8)) := by
  have hlen := gr_len (fb L) 8 (qb L)
  unfold lf at hl
  have hq : qb L = (L.length + 7) / 8 := rfl
  obtain ⟨G, C, w2, r, o, k, hg⟩ := append_b w S v (gr (fb L) 8 (qb L)) 0 h.SS (by rw [hlen]; omega) (by rw [hlen]; exact h.row)
  rw [hlen] at r o
  rw [← gr_more L (qb L) (by omega)] at o
  have hgb : G ≠ B := by
    intro e
    subst e
    rcases hg with hg | hg
    · exact h.gb hg
    · have := h.lt; omega
  have hB : w2.heap[B]? = w.heap[B]? := k.block B h.lt (fun e => h.gb e)
  have c0 : w2.cell? ⟨B, 0, none⟩ = some v := by rw [World.cell?_of_block (w := w) hB]; exact h.c0
  have c1 : w2.cell? ⟨B, 1, none⟩ = some (.int .i64 (lf L : Nat)) := by rw [World.cell?_of_block (w := w) hB]; exact h.c1
  have fz : ∀ i, w2.frozen? ⟨B, i, none⟩ = false := fun i => by rw [World.frozen?_of_block (w := w) hB]; exact h.fz i
  have kk : Kp (fun i => i = B) w2 ((w2.setCell ⟨B, 0, none⟩ (.slice (some ⟨G, 0, none⟩) (qb L + 1) C)).setCell ⟨B, 1, none⟩ (.int .i64 8)) := ((Kp.refl (fun i => i = B) w2).setCell (p := ⟨B, 0, none⟩) rfl _).setCell (p := ⟨B, 1, none⟩) rfl _
  refine ⟨G, C, w2, r, c0, c1, fz, ⟨?_, ?_, ?_, kk.row o (fun i e e2 => ?_), hgb, h.bin, Nat.le_trans h.SS (Nat.le_trans k.size kk.size), by decide, by decide, ?_⟩, (k.mono (fun i _ e => .inr e)).trans (kk.mono (fun i _ e => .inl e)), ?_, fun i hi => by rw [cell_off _ _ _ _ _ (by omega), cell_off _ _ _ _ _ (by omega), World.cell?_of_block (w := w) hB]⟩
  · rw [cell_off _ _ _ _ _ (by decide)]
    exact World.cell?_setCell_same' _ _ _ (by rw [c0]; rfl)
  · refine World.cell?_setCell_same' _ _ _ ?_
    rw [cell_off _ _ _ _ _ (by decide), c1]
    rfl
  · intro i
    rw [World.frozen?_setCell, World.frozen?_setCell]
    exact fz i
  · subst e2
    exact hgb (Option.some.inj e)
  · omega
  · intro i e hi
    have : G = i := Option.some.inj e
    subst this
    rcases hg with hg | hg
    · exact hg
    · omega
/-- The last byte, and that it can be written to. -/
theorem Mid.last {S : Nat} {w : World} {B G Q C l : Nat} {L : List Int} (h : Mid S w B G Q C l L) : ∃ b, b * 2 ^ l < 256 ∧ bv (fb L) (8 * (Q - 1)) 8 = b * 2 ^ l ∧ w.cell? ⟨G, Q - 1, none⟩ = some (.int .u8 ((b * 2 ^ l : Nat) : Int)) ∧ w.frozen? ⟨G, Q - 1, none⟩ = false ∧ L.length / 8 = Q - 1 ∧ L.length % 8 = 8 - l := by
  have h1 := h.l1
  have h2 := h.l8
  have h3 := h.len
  have e1 : L.length / 8 = Q - 1 := by omega
  have e2 : L.length % 8 = 8 - l := by omega
  obtain ⟨b, hb, hb'⟩ := byte_room L h.bin
  rw [e1, e2, show 8 - (8 - l) = l by omega] at hb
  rw [e1] at hb'
  refine ⟨b, by omega, hb, ?_, World.ownsRow.frozenAt h.row _, e1, e2⟩
  have := h.row.cells (g := G) rfl (Q - 1) (.int .u8 (((gr (fb L) 8 Q).getD (Q - 1) 0))) (by simp [bc, List.getD, gr_len, show Q - 1 < Q by omega])
  rw [Go.WideShapes.add_plain, Nat.zero_add, gr_getD _ _ _ _ (by omega), hb] at this
  exact this
/-- What a round of put leaves. -/
theorem Mid.put {S : Nat} {w : World} {B G Q C l : Nat} {L : List Int} (h : Mid S w B G Q C l L) (x s b : Nat) (hs : s ≤ l) (hs1 : 1 ≤ s) (hb : bv (fb L) (8 * (Q - 1)) 8 = b * 2 ^ l) :
    Stm S ((w.setCell ⟨B, 1, none⟩ (.int .i64 ((l - s : Nat) : Int))).setCell ⟨G, Q - 1, none⟩ (.int .u8 ((b * 2 ^ l + x % 2 ^ s * 2 ^ (l - s) : Nat) : Int))) B (.slice (some ⟨G, 0, none⟩) Q C) (L ++ nb x s) ∧
      Kp (Mv B (.slice (some ⟨G, 0, none⟩) Q C)) w ((w.setCell ⟨B, 1, none⟩ (.int .i64 ((l - s : Nat) : Int))).setCell ⟨G, Q - 1, none⟩ (.int .u8 ((b * 2 ^ l + x % 2 ^ s * 2 ^ (l - s) : Nat) : Int))) ∧
      Rst B w ((w.setCell ⟨B, 1, none⟩ (.int .i64 ((l - s : Nat) : Int))).setCell ⟨G, Q - 1, none⟩ (.int .u8 ((b * 2 ^ l + x % 2 ^ s * 2 ^ (l - s) : Nat) : Int))) := by
  obtain ⟨_, _, _, _, _, e1, e2⟩ := h.last
  have h1 := h.l1
  have h2 := h.l8
  have h3 := h.len
  have hql : qb (L ++ nb x s) = Q := by unfold qb; rw [List.length_append, nb_len]; omega
  have hlf : lf (L ++ nb x s) = l - s := by unfold lf; rw [List.length_append, nb_len]; omega
  have k1 : Kp (fun i => i = B) w (w.setCell ⟨B, 1, none⟩ (.int .i64 ((l - s : Nat) : Int))) := (Kp.refl (fun i => i = B) w).setCell (p := ⟨B, 1, none⟩) rfl _
  have o1 := k1.row h.row (fun i e e2 => h.gb (by subst e2; exact Option.some.inj e))
  have o2 := (World.ownsRow.stored o1 (Q - 1) (.int .u8 ((b * 2 ^ l + x % 2 ^ s * 2 ^ (l - s) : Nat) : Int))).1
  refine ⟨⟨?_, ?_, ?_, ?_, fun e => h.gb (Option.some.inj e), bin_app h.bin (bin_nb _ _), ?_⟩, ?_, fun i hi => by rw [cell_far _ _ _ _ _ _ h.gb, cell_off _ _ _ _ _ (by omega)]⟩
  · rw [cell_far _ _ _ _ _ _ h.gb, cell_off _ _ _ _ _ (by decide)]
    exact h.c0
  · rw [cell_far _ _ _ _ _ _ h.gb, hlf]
    exact World.cell?_setCell_same' _ _ _ (by rw [h.c1]; rfl)
  · intro i
    rw [World.frozen?_setCell, World.frozen?_setCell]
    exact h.fz i
  · rw [hql, put_byte L x s Q (by omega), e1, e2, hb, bc_set, show 8 - (8 - l) - s = l - s by omega]
    exact o2
  · have := h.SS
    simpa [World.setCell] using this
  · exact (k1.mono (fun i _ e => .inl e)).setCell (p := ⟨G, Q - 1, none⟩) (.inr rfl) _
end Go.Proofs.YtedlmjieclaojaaDoor
