/- A source is read: take. -/
import Derived.Test.YtedlmjieclaojaaDoorCl
namespace Go.Proofs.YtedlmjieclaojaaDoor
open Go.RowKit

/-- Bytes in memory from a place on; a slice's bytes; they are bytes. -/
def At (w : World) (g o : Nat) (xs : List Int) : Prop := ∀ j, j < xs.length → w.cell? ⟨g, o + j, none⟩ = some (.int .u8 (xs.getD j 0))
def Im (w : World) (a : Option Addr) (xs : List Int) : Prop := xs = [] ∨ ∃ g o, a = some ⟨g, o, none⟩ ∧ g < w.heap.size ∧ At w g o xs
def By (xs : List Int) : Prop := ∀ j, j < xs.length → 0 ≤ xs.getD j 0 ∧ xs.getD j 0 ≤ 255
theorem Im.below {w w' : World} {a : Option Addr} {xs : List Int} (h : Im w a xs) (hb : Below w.heap.size w w') : Im w' a xs := by
  rcases h with h | ⟨g, o, rfl, hg, h⟩
  · exact .inl h
  · exact .inr ⟨g, o, rfl, Nat.lt_of_lt_of_le hg hb.size, fun j hj => bcell2 hb (h j hj)⟩
theorem Im.kp {M : Nat → Prop} {w w' : World} {a : Option Addr} {xs : List Int} (h : Im w a xs) (k : Kp M w w') (hm : ∀ g o, a = some ⟨g, o, none⟩ → ¬ M g) : Im w' a xs := by
  rcases h with h | ⟨g, o, rfl, hg, h⟩
  · exact .inl h
  · exact .inr ⟨g, o, rfl, Nat.lt_of_lt_of_le hg k.size, fun j hj => k.cell (h j hj) (hm g o rfl)⟩
theorem By.small {xs : List Int} (h : By xs) : Small 8 xs := fun j hj => ⟨(h j hj).1, by have := (h j hj).2; omega⟩
/-- A source in the block B, over the bytes xs, at the bit p. -/
structure Src (w : World) (B : Nat) (a0 : Option Addr) (xs : List Int) (p : Nat) (b : Bool) : Prop where
  c0 : ∃ a c, w.cell? ⟨B, 0, none⟩ = some (.slice a (xs.length - p / 8) c) ∧ (p / 8 < xs.length → xs.length - p / 8 ≤ c ∧ ∃ g o, a0 = some ⟨g, o, none⟩ ∧ a = some ⟨g, o + p / 8, none⟩)
  c1 : w.cell? ⟨B, 1, none⟩ = some (.int .i64 ((p % 8 : Nat) : Int))
  c2 : w.cell? ⟨B, 2, none⟩ = some (.bool b)
  fz : ∀ i, w.frozen? ⟨B, i, none⟩ = false
  le : p ≤ 8 * xs.length
  im : Im w a0 xs
  nB : ∀ g o, a0 = some ⟨g, o, none⟩ → g ≠ B
/-- All but the source itself is as it was. -/
structure Sk (B : Nat) (w w' : World) : Prop where
  kp : Kp (fun k => k = B) w w'
  rs : ∀ i, 3 ≤ i → w'.cell? ⟨B, i, none⟩ = w.cell? ⟨B, i, none⟩
theorem Sk.refl (B : Nat) (w : World) : Sk B w w := ⟨Kp.refl _ _, fun _ _ => rfl⟩
theorem Sk.trans {B : Nat} {a b c : World} (h : Sk B a b) (k : Sk B b c) : Sk B a c := ⟨h.kp.trans k.kp, fun i hi => (k.rs i hi).trans (h.rs i hi)⟩
theorem Sk.set {B : Nat} {a b : World} (h : Sk B a b) (i : Nat) (hi : i < 3) (u : Value) : Sk B a (b.setCell ⟨B, i, none⟩ u) := ⟨h.kp.setCell (p := ⟨B, i, none⟩) rfl _, fun j hj => by rw [cell_off _ _ _ _ _ (by omega)]; exact h.rs j hj⟩
theorem Sk.drew {B : Nat} {a b : World} (h : Sk B a b) : Sk B a b.drew := ⟨h.kp.drew, h.rs⟩
theorem Src.of {w w' : World} {B : Nat} {a0 : Option Addr} {xs : List Int} {p : Nat} {b : Bool} (h : Src w B a0 xs p b) (k : Kp (fun k => k = B) w w') (h0 : ∀ i, i < 3 → w'.cell? ⟨B, i, none⟩ = w.cell? ⟨B, i, none⟩) (hf : ∀ i, w'.frozen? ⟨B, i, none⟩ = false) : Src w' B a0 xs p b := by
  obtain ⟨a, c, e, h1⟩ := h.c0
  exact ⟨⟨a, c, (h0 0 (by decide)).trans e, h1⟩, (h0 1 (by decide)).trans h.c1, (h0 2 (by decide)).trans h.c2, hf, h.le, h.im.kp k (fun g o e => h.nB g o e), h.nB⟩
theorem Src.below {w w' : World} {B : Nat} {a0 : Option Addr} {xs : List Int} {p : Nat} {b : Bool} (h : Src w B a0 xs p b) (hb : Below w.heap.size w w') : Src w' B a0 xs p b := by
  obtain ⟨a, c, e, h1⟩ := h.c0
  exact ⟨⟨a, c, bcell2 hb e, h1⟩, bcell2 hb h.c1, bcell2 hb h.c2, fun i => (hb.frozen (p := ⟨B, i, none⟩) (World.block_lt_of_cell? w ⟨B, 0, none⟩ e)).trans (h.fz i), h.le, h.im.below hb, h.nB⟩
theorem Src.lt {w : World} {B : Nat} {a0 : Option Addr} {xs : List Int} {p : Nat} {b : Bool} (h : Src w B a0 xs p b) : B < w.heap.size := World.block_lt_of_cell? w _ h.c1
theorem wraps_u64l (n : Int) (h₀ : 0 ≤ n) (h₁ : n < 2 ^ 64) : IntKind.u64.wrap n = n := by rw [IntKind.wrap_u64]; omega
theorem or_u64 (V x m s : Nat) (hV : V < 2 ^ m) (hx : x < 2 ^ s) (hms : m + s ≤ 64) (A Y : Int) (hA : A = (V : Int) * 2 ^ s) (hY : Y = (x : Nat)) : bits BinOp.or IntKind.u64 (IntKind.u64.wrap A) (IntKind.u64.wrap Y) = ((V * 2 ^ s + x : Nat) : Int) := by
  have h1 : V * 2 ^ s < 2 ^ (m + s) := by rw [Nat.pow_add]; exact Nat.mul_lt_mul_of_pos_right hV (Nat.pow_pos (by decide))
  have h2 : 2 ^ (m + s) ≤ 2 ^ 64 := Nat.pow_le_pow_right (by decide) hms
  have h3 : 2 ^ s ≤ 2 ^ 64 := Nat.pow_le_pow_right (by decide) (by omega)
  have e : A = ((V * 2 ^ s : Nat) : Int) := by rw [hA]; simp
  rw [e, hY, wraps_u64l _ (by omega) (by omega), wraps_u64l _ (by omega) (by omega), (bits_nat .u64 64 (by decide) wraps_u64l (V * 2 ^ s) x (by omega) (by omega)).2, Nat.mul_comm V, Nat.two_pow_add_eq_or_of_lt hx]
set_option maxHeartbeats 4000000 in
set_option maxRecDepth 100000 in
theorem take_any (B : Nat) (a0 : Option Addr) (xs : List Int) (p : Nat) (b : Bool) (n : Nat) (w : World) (h : Src w B a0 xs p b) (hx : By xs) (hn : n ≤ 64) :
    Calls Tryd.prog 38 #[.pointer (some ⟨B, 0, none⟩), .int .i64 (n : Nat)] w fun e w' => e = .returned (.int .u64 ((tkV (bt 8 xs) (8 * xs.length) p n : Nat) : Int)) ∧ Src w' B a0 xs (tkP (8 * xs.length) p n) (b || tkX (8 * xs.length) p n) ∧ Sk B w w' := by
  have H0 : Hid (Src w B a0 xs p b) := h
  have HX : Hid (By xs) := hx
  clear h hx
  go_enter Tryd.func38, Tryd.ntmps38
  go_wp2_with fail
  go_loopw [1, 5] (fun nv vv w' => ∃ m k : Nat, m + k = n ∧ nv = .int .i64 (k : Nat) ∧ Hid (vv = .int .u64 ((bv (bt 8 xs) p m : Nat) : Int)) ∧ Hid (Src w' B a0 xs (p + m) b) ∧ Hid (Sk B w w')) (fun nv _ _ => (RowKit.intOf nv).toNat)
  case atStart => exact ⟨0, n, by omega, rfl, rfl, H0.out, Sk.refl _ _⟩
  case round =>
    obtain ⟨m, k, hmk, rfl, hv, hs, hk⟩ := hrel
    by_cases hk0 : k = 0
    · subst hk0
      have hv' := hv.out
      subst hv'
      clear hv
      have HR : Hid (Ending.returned (.int .u64 ((bv (bt 8 xs) p m : Nat) : Int)) = .returned (.int .u64 ((tkV (bt 8 xs) (8 * xs.length) p n : Nat) : Int)) ∧ Src wr B a0 xs (tkP (8 * xs.length) p n) (b || tkX (8 * xs.length) p n) ∧ Sk B w wr) := by
        have e : m = n := by omega
        have hle := hs.out.le
        have hs' := hs.out
        rw [e] at hle hs'
        refine ⟨by rw [e]; unfold tkV; rw [if_pos hle], ?_, hk.out⟩
        unfold tkP tkX
        rw [if_pos hle, decide_eq_false (by omega), Bool.or_false]
        exact hs'
      clear hs hk
      go_wp2
      go_ret
      exact HR.out
    · have hk1 : (0 : Int) < (k : Int) := by omega
      have hp := hs.out.le
      by_cases hend : (p + m) / 8 < xs.length
      · obtain ⟨a, c, q0, q0'⟩ := hs.out.c0
        obtain ⟨hcap, g, o, rfl, rfl⟩ := q0' hend
        have q1 := hs.out.c1
        have qf := hs.out.fz
        have hgB := hs.out.nB g o rfl
        have him : At wr g o xs := by
          rcases hs.out.im with e | ⟨g', o', e, _, h⟩
          · rw [e] at hend; simp at hend
          · cases e; exact h
        have x0 := him ((p + m) / 8) hend
        have hby := HX.out ((p + m) / 8) hend
        have HBV := bv_self 8 (by decide) xs ((p + m) / 8) (HX.out.small.nat _)
        have HPC := fun s hs => byte_piece (bt 8 xs) (bt_lt 8 xs) (p + m) s hs
        rw [HBV] at HPC
        have HAD := fun s => bv_add (bt 8 xs) p m s
        have hVl := bv_lt (bt 8 xs) (bt_lt 8 xs) p m
        have hPl := fun s => bv_lt (bt 8 xs) (bt_lt 8 xs) (p + m) s
        have hxt : ((xs.getD ((p + m) / 8) 0).toNat : Int) = xs.getD ((p + m) / 8) 0 := Int.toNat_of_nonneg hby.1
        clear HBV q0' him
        generalize hX : xs.getD ((p + m) / 8) 0 = X at *
        generalize hV : bv (bt 8 xs) p m = V at *
        have hdm := Nat.div_add_mod (p + m) 8
        have hu8 := Nat.mod_lt (p + m) (show 0 < 8 by decide)
        generalize hj : (p + m) / 8 = j at *
        generalize hu : (p + m) % 8 = u at *
        have HS : Hid (Src wr B (some ⟨g, o, none⟩) xs (p + m) b) := hs.out
        have HK : Hid (Sk B w wr) := hk.out
        have hv' := hv.out
        subst hv'
        clear hv hs hk hX hV hj hu
        obtain ⟨s, hs⟩ : ∃ s, s = min k (8 - u) := ⟨_, rfl⟩
        have hmin : min (k : Int) (8 - (u : Int)) = (s : Nat) := by omega
        have hsk : s ≤ k ∧ 1 ≤ s ∧ u + s ≤ 8 := by omega
        have hE := or_u64 V (bv (bt 8 xs) (p + m) s) m s hVl (hPl s) (by omega) ((V : Int) * 2 ^ s) (X * 2 ^ u % 256 / 2 ^ (8 - s)) rfl (by
          rw [← HPC s hsk.2.2, ← hxt]
          simp)
        rw [← HAD s] at hE
        have HE : Hid (_ = _) := hE
        clear hE HAD hPl HPC hVl hxt hs
        have hwu : IntKind.i64.wrap ((u : Int) + (s : Int)) = (u : Int) + s := by rw [IntKind.wrap_i64]; omega
        have q2 := HS.out.c2
        by_cases h8 : u + s = 8
        · have h8a : ((u : Int) + (s : Int) == 8) = true := by simp; omega
          have HSS : Hid (∀ v', (∀ i, (v' : World).frozen? ⟨B, i, none⟩ = false) → ∀ a' c', v'.cell? ⟨B, 0, none⟩ = some (.slice a' (xs.length - j - 1) c') → (j + 1 < xs.length → xs.length - j - 1 ≤ c' ∧ a' = some ⟨g, o + j + 1, none⟩) → v'.cell? ⟨B, 1, none⟩ = some (.int .i64 0) → v'.cell? ⟨B, 2, none⟩ = some (.bool b) → Kp (fun k => k = B) wr v' → Src v' B (some ⟨g, o, none⟩) xs (p + (m + s)) b) := fun v' f a' c' e0 e0' e1 e2 k => by
            have d1 : (p + (m + s)) / 8 = j + 1 := by omega
            have d2 : (p + (m + s)) % 8 = 0 := by omega
            refine ⟨⟨a', c', by rw [d1]; exact e0, fun h => ?_⟩, by rw [d2]; exact e1, e2, f, by omega, HS.out.im.kp k HS.out.nB, HS.out.nB⟩
            rw [d1] at h ⊢
            exact ⟨(e0' h).1, g, o, rfl, (e0' h).2⟩
          have HW : Hid (∀ sv : Value, (∀ i, (((wr.setCell ⟨B, 1, none⟩ (.int .i64 ((u : Int) + s))).setCell ⟨B, 0, none⟩ sv).setCell ⟨B, 1, none⟩ (.int .i64 0)).drew.frozen? ⟨B, i, none⟩ = false) ∧ (((wr.setCell ⟨B, 1, none⟩ (.int .i64 ((u : Int) + s))).setCell ⟨B, 0, none⟩ sv).setCell ⟨B, 1, none⟩ (.int .i64 0)).drew.cell? ⟨B, 0, none⟩ = some sv ∧ (((wr.setCell ⟨B, 1, none⟩ (.int .i64 ((u : Int) + s))).setCell ⟨B, 0, none⟩ sv).setCell ⟨B, 1, none⟩ (.int .i64 0)).drew.cell? ⟨B, 1, none⟩ = some (.int .i64 0) ∧ (((wr.setCell ⟨B, 1, none⟩ (.int .i64 ((u : Int) + s))).setCell ⟨B, 0, none⟩ sv).setCell ⟨B, 1, none⟩ (.int .i64 0)).drew.cell? ⟨B, 2, none⟩ = some (.bool b) ∧ Sk B wr (((wr.setCell ⟨B, 1, none⟩ (.int .i64 ((u : Int) + s))).setCell ⟨B, 0, none⟩ sv).setCell ⟨B, 1, none⟩ (.int .i64 0)).drew) := fun sv => by
            refine ⟨fun i => ?_, ?_, ?_, ?_, (((Sk.refl B wr).set 1 (by decide) _).set 0 (by decide) _).set 1 (by decide) _ |>.drew⟩
            · show World.frozen? (World.setCell _ _ _) _ = _
              rw [World.frozen?_setCell, World.frozen?_setCell, World.frozen?_setCell]; exact qf i
            · show World.cell? (World.setCell _ _ _) _ = _
              rw [cell_off _ _ _ _ _ (by decide)]
              exact same_c _ _ _ _ _ (by rw [cell_off _ _ _ _ _ (by decide)]; exact q0)
            · show World.cell? (World.setCell _ _ _) _ = _
              exact same_c _ _ _ _ _ (by rw [cell_off _ _ _ _ _ (by decide)]; exact same_c _ _ _ _ _ q1)
            · show World.cell? (World.setCell _ _ _) _ = _
              rw [cell_off _ _ _ _ _ (by decide), cell_off _ _ _ _ _ (by decide), cell_off _ _ _ _ _ (by decide)]; exact q2
          by_cases hc1 : c = 1
          · go_wp2_with fail
            go_region
            go_wp2
            obtain ⟨z1, z2, z3, z4, z5⟩ := HW.out (.slice (some ⟨g, o + j, none⟩) (xs.length - j - 1) 0)
            exact ⟨⟨m + s, k - s, by omega, by go_num, by rw [HE.out]; rfl, HSS.out _ z1 _ _ z2 (fun h => by omega) z3 z4 z5.kp, HK.out.trans z5⟩, by simp [RowKit.intOf]; omega⟩
          · go_wp2_with fail
            go_region
            go_wp2
            obtain ⟨z1, z2, z3, z4, z5⟩ := HW.out (.slice (some ⟨g, o + j + 1, none⟩) (xs.length - j - 1) (c - 1))
            exact ⟨⟨m + s, k - s, by omega, by go_num, by rw [HE.out]; rfl, HSS.out _ z1 _ _ z2 (fun h => ⟨by omega, rfl⟩) z3 z4 z5.kp, HK.out.trans z5⟩, by simp [RowKit.intOf]; omega⟩
        · have h8a : ((u : Int) + (s : Int) == 8) = false := by simp; omega
          have HS2 : Hid (Src (wr.setCell ⟨B, 1, none⟩ (.int .i64 ((u : Int) + s))).drew B (some ⟨g, o, none⟩) xs (p + (m + s)) b) := by
            have d1 : (p + (m + s)) / 8 = j := by omega
            have d2 : (p + (m + s)) % 8 = u + s := by omega
            refine ⟨⟨some ⟨g, o + j, none⟩, c, ?_, fun h => ?_⟩, ?_, ?_, ?_, by omega, HS.out.im.kp (((Kp.refl (fun k => k = B) wr).setCell (p := ⟨B, 1, none⟩) rfl _).drew) HS.out.nB, HS.out.nB⟩
            · rw [d1]; show World.cell? (wr.setCell _ _) _ = _; rw [cell_off _ _ _ _ _ (by decide)]; exact q0
            · rw [d1]; exact ⟨hcap, g, o, rfl, rfl⟩
            · rw [d2]; show World.cell? (wr.setCell _ _) _ = _; rw [same_c _ _ _ _ _ q1]; simp
            · show World.cell? (wr.setCell _ _) _ = _; rw [cell_off _ _ _ _ _ (by decide)]; exact q2
            · intro i; show World.frozen? (wr.setCell _ _) _ = _; rw [World.frozen?_setCell]; exact qf i
          have HK2 : Hid (Sk B w (wr.setCell ⟨B, 1, none⟩ (.int .i64 ((u : Int) + s))).drew) := (HK.out.set 1 (by decide) _).drew
          go_wp2_with fail
          go_region
          go_wp2
          exact ⟨⟨m + s, k - s, by omega, by go_num, by rw [HE.out]; rfl, HS2, HK2⟩, by simp [RowKit.intOf]; omega⟩
      · have hl0 : xs.length - (p + m) / 8 = 0 := by omega
        obtain ⟨a, c, q0, _⟩ := hs.out.c0
        rw [hl0] at q0
        have q2 := hs.out.c2
        have qf := hs.out.fz 2
        have hpe : p + m = 8 * xs.length := by omega
        have HR : Hid (Ending.returned (.int .u64 0) = .returned (.int .u64 ((tkV (bt 8 xs) (8 * xs.length) p n : Nat) : Int)) ∧ Src (wr.setCell ⟨B, 2, none⟩ (.bool true)) B a0 xs (tkP (8 * xs.length) p n) (b || tkX (8 * xs.length) p n) ∧ Sk B w (wr.setCell ⟨B, 2, none⟩ (.bool true))) := by
          refine ⟨by unfold tkV; rw [if_neg (by omega)]; rfl, ?_, hk.out.set 2 (by decide) _⟩
          have hs' := hs.out
          unfold tkP tkX
          rw [if_neg (by omega), decide_eq_true (by omega), Bool.or_true, ← hpe]
          obtain ⟨a, c, q0, q0'⟩ := hs'.c0
          exact ⟨⟨a, c, by rw [cell_off _ _ _ _ _ (by decide)]; exact q0, q0'⟩, by rw [cell_off _ _ _ _ _ (by decide)]; exact hs'.c1, same_c _ _ _ _ _ hs'.c2, fun i => by rw [World.frozen?_setCell]; exact hs'.fz i, hp, hs'.im.kp ((Kp.refl (fun k => k = B) wr).setCell (p := ⟨B, 2, none⟩) rfl _) hs'.nB, hs'.nB⟩
        have hv' := hv.out
        subst hv'
        clear hv hs hk hpe hl0 hend hp hmk hk0
        go_wp2
        go_ret
        exact HR.out
end Go.Proofs.YtedlmjieclaojaaDoor
