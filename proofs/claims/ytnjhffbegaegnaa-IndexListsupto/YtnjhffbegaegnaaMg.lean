/- The reference: rising, put, Or of lists that rise, Sorted. -/
import Derived.Test.YtnjhffbegaegnaaMf
namespace Go.Proofs.Ytnjhffbegaegnaa
open Go.RowKit Go.Lib Go.Shelf Go.Sort

theorem rs_take (xs : List Int) (j : Nat) (h : Rs (xs.take (j + 1))) (hj : j + 1 < xs.length) (hlt : xs.getD j 0 < xs.getD (j + 1) 0) : Rs (xs.take (j + 2)) := by
  rw [take_snoc xs (j + 1) hj]
  refine List.pairwise_append.2 ⟨h, List.pairwise_singleton _ _, ?_⟩
  intro x hx y hy
  have hy2 : y = xs.getD (j + 1) 0 := by simpa using hy
  rw [hy2]
  rw [take_snoc xs j (by omega)] at h hx
  rcases List.mem_append.1 hx with hx | hx
  · have := (List.pairwise_append.1 h).2.2 x hx (xs.getD j 0) (by simp)
    omega
  · have : x = xs.getD j 0 := by simpa using hx
    omega
theorem rs_bad (xs : List Int) (j : Nat) (hj : j + 1 < xs.length) (hle : xs.getD (j + 1) 0 ≤ xs.getD j 0) : ¬ Rs xs := by
  intro h
  have := List.pairwise_iff_getElem.1 h j (j + 1) (by omega) hj (by omega)
  simp [List.getD, hj, show j < xs.length by omega] at hle
  omega
set_option maxHeartbeats 2000000 in
set_option maxRecDepth 100000 in
theorem rrising_any (a : Option Addr) (c : Nat) (xs : List Int) (R : Bool) (w : World) (hx : Zm w a xs) (hl : xs.length ≤ 4194304) (hR : R = true ↔ Rs xs) :
    Calls Try.prog 20 #[.slice a xs.length c] w fun e w' => e = .returned (.bool R) ∧ Below w.heap.size w w' := by
  have HX : Hid (Zm w a xs) := hx
  obtain ⟨n, hn⟩ : ∃ n, n = xs.length := ⟨_, rfl⟩
  rw [← hn] at hl ⊢
  have HN : Hid (n = xs.length) := hn
  have hni : (n : Int) ≤ 4194304 := by omega
  have HR : Hid (R = true ↔ Rs xs) := hR
  clear hx hn hR
  go_enter Try.func20, Try.ntmps20
  go_wp2_with fail
  go_loopw [3] (fun iv w' => ∃ i : Nat, iv = .int .i64 (i : Nat) ∧ 1 ≤ i ∧ i ≤ n + 1 ∧ Hid (Rs (xs.take i)) ∧ Hid (Below w.heap.size w w')) (fun iv _ => n + 1 - (RowKit.intOf iv).toNat)
  case atStart => exact ⟨1, rfl, Nat.le_refl _, by omega, (show Rs _ by cases xs <;> simp [Rs]), Below.refl _ _⟩
  case round =>
    obtain ⟨i, rfl, hi1, hi2, hr, hbw⟩ := hrel
    by_cases hlt : i < n
    · have hii : (i : Int) < (n : Int) := by omega
      obtain ⟨j, hj⟩ : ∃ j, i = j + 1 := ⟨i - 1, by omega⟩
      have hil : j + 1 < xs.length := by have := HN.out; omega
      obtain ⟨g, o, rfl, hg, hcs⟩ := HX.out.at hil
      have x0 := (hbw.out.cell (p := ⟨g, o + (j + 1), none⟩) hg).trans (hcs _ hil)
      have y0 := (hbw.out.cell (p := ⟨g, o + j, none⟩) hg).trans (hcs j (by omega))
      have q1 : IntKind.i64.wrap ((i : Int) - 1) = (j : Nat) := by rw [IntKind.wrap_i64]; omega
      have q2 : (i : Int) - 1 = (j : Nat) := by omega
      have q3 : (j : Int) < (n : Int) := by omega
      have q4 : IntKind.i64.wrap (j : Int) = (j : Nat) := by rw [IntKind.wrap_i64]; omega
      rw [← hj] at x0
      by_cases hb : xs.getD (j + 1) 0 ≤ xs.getD j 0
      · have HF : Hid (R = false) := by
          show R = false
          have := rs_bad xs j hil hb
          cases R
          · rfl
          · exact absurd (HR.out.1 rfl) this
        have hd : decide (xs.getD (j + 1) 0 ≤ xs.getD j 0) = true := decide_eq_true hb
        rw [← hj] at hd hb
        generalize xs.getD i 0 = tx at *
        generalize xs.getD j 0 = ty at *
        have HJ : Hid (i = j + 1) := hj
        clear hcs hj hr hil
        go_wp2_with fail
        go_big_quiet (fail)
        go_wp2
        go_ret
        exact ⟨by rw [HF.out]; rfl, bdrew hbw.out _⟩
      · have hr2 : Hid (Rs (xs.take (i + 1))) := by
          show Rs _
          rw [hj] at hr ⊢
          exact rs_take xs j hr.out hil (by omega)
        have hd : decide (xs.getD (j + 1) 0 ≤ xs.getD j 0) = false := decide_eq_false hb
        rw [← hj] at hd hb
        generalize xs.getD i 0 = tx at *
        generalize xs.getD j 0 = ty at *
        have HJ : Hid (i = j + 1) := hj
        clear hcs hj hr hil
        go_wp2_with fail
        go_big_quiet (fail)
        have hbD : Hid (Below w.heap.size w (wr.drewN nq)) := bdrew hbw.out nq
        go_wp2
        exact ⟨⟨i + 1, by go_num, by omega, by omega, hr2, hbD⟩, by simp [RowKit.intOf]; omega⟩
    · have hii : ¬ (i : Int) < (n : Int) := by omega
      have HT : Hid (R = true) := by
        show R = true
        have := hr.out
        rw [List.take_of_length_le (by have := HN.out; omega)] at this
        exact HR.out.2 this
      clear hr
      go_wp2
      go_ret
      exact ⟨by rw [HT.out]; rfl, hbw.out⟩
/-- What put answers: a slice that shows these numbers. -/
def PZ (w : World) (l : List Int) (e : Ending) (w' : World) : Prop := ∃ a c, e = .returned (.slice a l.length c) ∧ l.length ≤ c ∧ Zm w' a l ∧ Below w.heap.size w w'
set_option maxRecDepth 100000 in
theorem put_rs (a : Option Addr) (c : Nat) (xs : List Int) (w : World) (hx : Zm w a xs) (hc : xs.length ≤ c) (hl : xs.length ≤ 4194304) (hr : Rs xs) :
    Calls Try.prog 14 #[.slice a xs.length c] w (PZ w xs) := by
  have k1 := rrising_any a c xs true w hx hl ⟨fun _ => hr, fun _ => rfl⟩
  have HX : Hid (Zm w a xs) := hx
  have HC : Hid (xs.length ≤ c) := hc
  clear hx hc hl hr
  generalize hn : xs.length = n at *
  have HN : Hid (xs.length = n) := hn
  clear hn
  go_enter Try.func14, Try.ntmps14
  go_wp2_with fail
  go_fit k1
  rintro e w1 ⟨rfl, b1⟩
  have B1 : Hid (Below w.heap.size w w1) := b1
  clear b1 k1
  go_wp2
  go_ret
  exact ⟨a, c, by rw [HN.out]; rfl, by rw [HN.out]; exact HC.out, HX.out.below B1.out, B1.out⟩
theorem Zr.sl {w : World} {S : Nat} {v : Value} {ys : List Int} (h : Zr w S v ys) : ∃ a c, v = .slice a ys.length c ∧ ys.length ≤ c ∧ Zm w a ys := by
  obtain ⟨a, c, e, hm⟩ := h.zm
  refine ⟨a, c, e, ?_, hm⟩
  rcases h.2 with ⟨rfl, h0⟩ | ⟨g, cap, cur, rfl, _, _, h1, _⟩
  · omega
  · cases e
    exact h1
end Go.Proofs.Ytnjhffbegaegnaa
