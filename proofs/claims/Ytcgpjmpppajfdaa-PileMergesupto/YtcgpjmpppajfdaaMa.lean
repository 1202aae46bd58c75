/- PileMuddled: counts; what comes out is what was put in. -/
import Derived.Test.YtcgpjmpppajfdaaSd
import Derived.Deep.AppendSrc
namespace Go.Proofs.Ytcgpjmpppajfdaa
open Go.RowKit

theorem outL_perm (A : Rk → Rk → Bool) : ∀ (p : Nat) (f : Nat → Rk), (outL A p f).Perm ((el f p).map (·.1))
  | 0, _ => List.Perm.refl _
  | p + 1, f => by
    rw [outL]
    have h1 := outL_perm A p (sinkF A p (up f 0 (f p)) 0)
    have h2 := (el_pop A f p).map (·.1)
    rw [List.map_cons] at h2
    exact (List.Perm.cons _ h1).trans h2
/-- A list of things as a list. -/
def il (xs : Nat → It) (n : Nat) : List It := (List.range n).map xs
theorem il_succ (xs : Nat → It) (n : Nat) : il xs (n + 1) = il xs n ++ [xs n] := by
  unfold il
  rw [List.range_succ, List.map_append]
  rfl
theorem il_lk (l : List It) : il (lk l) l.length = l := by
  apply List.ext_getElem
  · simp [il]
  · intro j h1 h2
    simp [il, lk, List.getD, h2]
theorem inF_perm (A : Rk → Rk → Bool) (f0 : Nat → Rk) (xs : Nat → It) : ∀ n, ((el (inF A f0 xs n) n).map (·.1)).Perm (il xs n)
  | 0 => List.Perm.refl _
  | n + 1 => by
    have h := (el_push A (inF A f0 xs n) n (xs n, (n : Int))).map (·.1)
    rw [il_succ]
    refine h.trans ?_
    rw [List.map_append]
    exact (inF_perm A f0 xs n).append_right _
theorem out_all (A : Rk → Rk → Bool) (f0 : Nat → Rk) (xs : Nat → It) (n : Nat) : (outL A n (inF A f0 xs n)).Perm (il xs n) := (outL_perm A n _).trans (inF_perm A f0 xs n)

/-- How often a thing stands in a list. -/
def cnt (x : It) (xs : Nat → It) (n : Nat) : Nat := (il xs n).countP (eqB x)
theorem cnt_succ (x : It) (xs : Nat → It) (n : Nat) : cnt x xs (n + 1) = cnt x xs n + if eqB x (xs n) = true then 1 else 0 := by
  unfold cnt
  rw [il_succ, List.countP_append, List.countP_singleton]
theorem cnt_le (x : It) (xs : Nat → It) (n : Nat) : cnt x xs n ≤ n := by
  unfold cnt
  have := List.countP_le_length (p := eqB x) (l := il xs n)
  simpa [il] using this
theorem cnt_out (A : Rk → Rk → Bool) (f0 : Nat → Rk) (xs : Nat → It) (n : Nat) (x : It) : cnt x (lk (outL A n (inF A f0 xs n))) n = cnt x xs n := by
  unfold cnt
  have e := il_lk (outL A n (inF A f0 xs n))
  rw [outL_len] at e
  rw [e]
  exact (out_all A f0 xs n).countP_eq _

set_option maxHeartbeats 2000000 in
set_option maxRecDepth 100000 in
theorem count_any (a : Option Addr) (c n : Nat) (xs : Nat → It) (x : It) (w : World) (hf : Iml w a xs n) (hl : n ≤ 1152921504606846976) :
    Calls Try.prog 15 #[.slice a n c, iv x] w fun r w' => r = .returned (.int .i64 (cnt x xs n : Nat)) ∧ Below w.heap.size w w' := by
  have hE := eq_it
  have HF : Hid (Iml w a xs n) := hf
  have HS : Hid (∀ i, cnt x xs (i + 1) = cnt x xs i + if eqB x (xs i) = true then 1 else 0) := cnt_succ x xs
  have HL : Hid (∀ i, cnt x xs i ≤ i) := cnt_le x xs
  have H0 : Hid (cnt x xs 0 = 0) := rfl
  obtain ⟨G, hG⟩ : ∃ G, G = w.heap.size := ⟨_, rfl⟩
  have HG : Hid (G = w.heap.size) := hG
  obtain ⟨xk, xi⟩ := x
  have b0 : Below G w (w.alloc (.cells #[.int .i64 xk, .int .i64 xi] 24)) := by rw [hG]; exact (Below.refl _ w).alloc (Nat.le_refl _) _
  have x0 : (w.alloc (.cells #[.int .i64 xk, .int .i64 xi] 24)).cell? ⟨w.heap.size, 0, none⟩ = some (.int .i64 xk) := iX_cell w (xk, xi) 0 _ rfl
  have x1 : (w.alloc (.cells #[.int .i64 xk, .int .i64 xi] 24)).cell? ⟨w.heap.size, 1, none⟩ = some (.int .i64 xi) := iX_cell w (xk, xi) 1 _ rfl
  obtain ⟨W0, hW0⟩ : ∃ W0, W0 = w.alloc (.cells #[.int .i64 xk, .int .i64 xi] 24) := ⟨_, rfl⟩
  rw [← hW0, ← hG] at x0 x1
  rw [← hW0] at b0
  have HW0 : Hid (W0 = w.alloc (.cells #[.int .i64 xk, .int .i64 xi] 24)) := hW0
  rw [← hG]
  generalize cnt (xk, xi) xs = C at *
  clear hf hG hW0
  show Calls Try.prog 15 #[.slice a n c, .agg #[.int .i64 xk, .int .i64 xi]] w _
  go_enter Try.func15, Try.ntmps15
  go_wp2
  rw [← HW0.out, ← HG.out]
  go_loopw [5, 10] (fun cv ivv w' => ∃ (i k : Nat), ivv = .int .i64 (i : Int) ∧ i ≤ n ∧ cv = .int .i64 (k : Int) ∧ Hid (k = C i) ∧ Hid (Below G w w') ∧ w'.cell? ⟨G, 0, none⟩ = some (.int .i64 xk) ∧ w'.cell? ⟨G, 1, none⟩ = some (.int .i64 xi)) (fun _ ivv _ => n - (RowKit.intOf ivv).toNat)
  case atStart => exact ⟨0, 0, rfl, by omega, rfl, H0.out.symm, b0, x0, x1⟩
  case round =>
    obtain ⟨i, k, rfl, hi, rfl, hk, hb, y0, y1⟩ := hrel
    have hki : k ≤ i := by rw [hk.out]; exact HL.out i
    by_cases hlt : i < n
    · have hii : (i : Int) < n := by omega
      have hGw : G < wr.heap.size := World.block_lt_of_cell? wr _ y0
      rcases HF.out with h0 | ⟨g, o, rfl, hg, hat⟩
      · omega
      rw [← HG.out] at hg
      have q1 := (hb.out.cell (p := ⟨g, o + i * 2, none⟩) hg).trans (hat i hlt).1
      have q2 := (hb.out.cell (p := ⟨g, o + i * 2 + 1, none⟩) hg).trans (hat i hlt).2
      have HI : Hid (i + 1 ≤ n) := hlt
      have HN : Hid (C (i + 1) = k + if eqB (xk, xi) (xs i) = true then 1 else 0) := by show _ = _; rw [HS.out i, ← hk.out]
      obtain ⟨⟨zk, zi⟩, hz⟩ : ∃ z, xs i = z := ⟨_, rfl⟩
      rw [hz] at q1 q2 HN
      dsimp only at q1 q2
      have b2 : Hid (Below G w (wr.alloc (.cells #[.int .i64 zk, .int .i64 zi] 24))) := hb.out.alloc (by omega) _
      have y2 := cell_al (.cells #[.int .i64 zk, .int .i64 zi] 24) y0
      have y3 := cell_al (.cells #[.int .i64 zk, .int .i64 zi] 24) y1
      clear hat hz hk hb
      by_cases he : eqB (xk, xi) (zk, zi) = true
      · rw [if_pos he] at HN
        go_wp2
        exact ⟨⟨i + 1, k + 1, by go_num, HI.out, by go_num, HN.out.symm, b2, y2, y3⟩, by simp [RowKit.intOf]; omega⟩
      · rw [if_neg he] at HN
        have he2 : eqB (xk, xi) (zk, zi) = false := by simpa using he
        clear he
        go_wp2
        exact ⟨⟨i + 1, k, by go_num, HI.out, rfl, HN.out.symm, b2, y2, y3⟩, by simp [RowKit.intOf]; omega⟩
    · have hii : ¬ (i : Int) < n := by omega
      obtain rfl : i = n := by omega
      go_wp2
      go_ret
      exact ⟨by rw [← hk.out]; rfl, hb.out⟩
end Go.Proofs.Ytcgpjmpppajfdaa
