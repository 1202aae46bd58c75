/- Ranges: sort.Search, holds; the reference's inside. -/
import Derived.Test.YtnpgkiidpeaapaaDoorQb
import Derived.Deep.LoopGhost
namespace Go.Proofs.YtnpgkiidpeaapaaDoor
open Go.RowKit

set_option maxHeartbeats 2000000 in
set_option maxRecDepth 100000 in
theorem search_any (cb : Array Value) (n : Nat) (p : Nat → Bool) (w : World) (eg : ∀ args w, (callFunc 44 args).run Tryd.prog w = .ok (.enter 44 args) w) (hsz : n ≤ 1152921504606846976)
    (hf : ∀ (W : World) (i : Nat), Below w.heap.size w W → i < n → Calls Tryd.prog 44 (#[.int .i64 (i : Int)] ++ cb) W fun e w' => e = .returned (.bool (p i)) ∧ Below W.heap.size W w')
    (hmono : ∀ a b, a ≤ b → b < n → p a = true → p b = true) :
    Calls Tryd.prog 43 #[.int .i64 (n : Int), .func (.func 44) #[] cb] w fun e w' => ∃ k : Nat, e = .returned (.int .i64 (k : Int)) ∧ k ≤ n ∧ (∀ t, t < k → p t = false) ∧ (∀ t, k ≤ t → t < n → p t = true) ∧ Below w.heap.size w w' := by
  have HF : Hid (∀ (W : World) (i : Nat), Below w.heap.size w W → i < n → Calls Tryd.prog 44 (#[.int .i64 (i : Int)] ++ cb) W fun e w' => e = .returned (.bool (p i)) ∧ Below W.heap.size W w') := hf
  have M : Hid (∀ a b, a ≤ b → b < n → p a = true → p b = true) := hmono
  clear hf hmono
  go_enter Tryd.func43, Tryd.ntmps43
  go_wp2
  go_loopg [5, 6] n (fun kx s5 s6 wr => ∃ (lo hi : Nat), s5 = .int .i64 (lo : Int) ∧ s6 = .int .i64 (hi : Int) ∧ lo ≤ hi ∧ hi ≤ n ∧ hi - lo ≤ kx ∧ Below w.heap.size w wr ∧ Hid ((∀ t, t < lo → p t = false) ∧ (∀ t, hi ≤ t → t < n → p t = true)))
  case atStart => exact ⟨0, n, rfl, rfl, Nat.zero_le _, Nat.le_refl _, by omega, Below.refl _ _, (⟨fun t ht => absurd ht (Nat.not_lt_zero _), fun t h1 h2 => by omega⟩ : (∀ t, t < 0 → p t = false) ∧ (∀ t, n ≤ t → t < n → p t = true))⟩
  case round =>
    obtain ⟨lo, hi, rfl, rfl, hlh, hin, hg, hbw, I⟩ := hrel
    by_cases hlt : lo < hi
    · have hc := HF.out wr ((lo + hi) / 2) hbw (by omega)
      rw [show (((lo + hi) / 2 : Nat) : Int) = ((lo : Int) + (hi : Int)) / 2 by omega] at hc
      cases hp : p ((lo + hi) / 2) <;> rw [hp] at hc
      · have HP : Hid (p ((lo + hi) / 2) = false) := hp
        clear hp
        go_wp2_with (go_at_fn 44; refine hc.mono ?_; rintro e w' ⟨rfl, hb2⟩)
        go_roundg (hi - ((lo + hi) / 2 + 1))
        case measure => omega
        case rel =>
          have I2 : Hid ((∀ t, t < (lo + hi) / 2 + 1 → p t = false) ∧ (∀ t, hi ≤ t → t < n → p t = true)) := ⟨fun t ht => (by
            cases h : p t with
            | false => rfl
            | true => have := M.out t ((lo + hi) / 2) (by omega) (by omega) h; rw [HP.out] at this; cases this), I.out.2⟩
          exact ⟨(lo + hi) / 2 + 1, hi, by rw [show ((lo : Int) + (hi : Int)) / 2 + 1 = (((lo + hi) / 2 + 1 : Nat) : Int) by omega], rfl, by omega, hin, Nat.le_refl _, hbw.trans (hb2.mono hbw.size), I2⟩
      · have HP : Hid (p ((lo + hi) / 2) = true) := hp
        clear hp
        go_wp2_with (go_at_fn 44; refine hc.mono ?_; rintro e w' ⟨rfl, hb2⟩)
        go_roundg ((lo + hi) / 2 - lo)
        case measure => omega
        case rel =>
          have I2 : Hid ((∀ t, t < lo → p t = false) ∧ (∀ t, (lo + hi) / 2 ≤ t → t < n → p t = true)) := ⟨I.out.1, fun t ht htn => M.out ((lo + hi) / 2) t ht htn HP.out⟩
          exact ⟨lo, (lo + hi) / 2, rfl, by rw [show ((lo : Int) + (hi : Int)) / 2 = (((lo + hi) / 2 : Nat) : Int) by omega], by omega, by omega, Nat.le_refl _, hbw.trans (hb2.mono hbw.size), I2⟩
    · obtain rfl : hi = lo := by omega
      go_wp2
      go_ret
      exact ⟨hi, rfl, hin, I.out.1, I.out.2, hbw⟩
theorem rgB_rise {f : Nat → Rg} {n : Nat} (h : rgB f n = true) : ∀ a b, a < b → b < n → (f a).2 < (f b).1 := by
  intro a b hab hb
  have hok : ∀ j, j < n → okB f j = true := fun j hj => by
    have := rgB_le (m := j + 1) hj h
    unfold rgB at this
    rw [Bool.and_eq_true] at this
    exact this.2
  induction b with
  | zero => omega
  | succ b ih =>
    have h1 := hok (b + 1) hb
    have h2 := hok b (by omega)
    unfold okB at h1 h2
    rw [decide_eq_true_iff] at h1 h2
    have h3 := h1.2.2.2 (by omega)
    rw [Nat.add_sub_cancel] at h3
    by_cases e : a = b
    · subst e; exact h3
    · have := ih (by omega) (by omega)
      omega
theorem rgB_ok {f : Nat → Rg} {n : Nat} (h : rgB f n = true) (j : Nat) (hj : j < n) : 0 ≤ (f j).1 ∧ (f j).1 ≤ (f j).2 := by
  have := rgB_le (m := j + 1) hj h
  unfold rgB at this
  rw [Bool.and_eq_true] at this
  have h2 := this.2
  unfold okB at h2
  rw [decide_eq_true_iff] at h2
  exact ⟨h2.1, h2.2.1⟩
theorem hold_is {f : Nat → Rg} {n k : Nat} {r : Int} (h : rgB f n = true) (hk : k ≤ n) (h1 : ∀ t, t < k → decide (r ≤ (f t).2) = false) (h2 : ∀ t, k ≤ t → t < n → decide (r ≤ (f t).2) = true) : inB r f n = (decide (k < n) && decide ((f k).1 ≤ r)) := by
  rw [Bool.eq_iff_iff, inB_iff, Bool.and_eq_true, decide_eq_true_iff, decide_eq_true_iff]
  constructor
  · rintro ⟨j, hj, a, b⟩
    have hkj : k ≤ j := by
      rcases Nat.lt_or_ge j k with hl | hl
      · have := h1 j hl
        rw [decide_eq_false_iff_not] at this
        exact absurd b this
      · exact hl
    by_cases e : k = j
    · subst e; exact ⟨hj, a⟩
    · have hr := rgB_rise h k j (by omega) hj
      have := h2 k (Nat.le_refl _) (by omega)
      rw [decide_eq_true_iff] at this
      omega
  · rintro ⟨a, b⟩
    have := h2 k (Nat.le_refl _) a
    rw [decide_eq_true_iff] at this
    exact ⟨k, a, b, this⟩
theorem hold_rn (i : In) (s : ByteArray) (a : Nat) (h : rgB i.rf i.rn = true) : inB (nxt s a).1 i.rf i.rn = rnB i s a := by
  unfold rnB
  by_cases h0 : 0 < (nxt s a).2
  · rw [decide_eq_true h0, Bool.true_and]
  · rw [decide_eq_false h0, Bool.false_and]
    have hz : (nxt s a).2 = 0 := by have := nxt_pos s a; omega
    have hm : (nxt s a).1 = -1 := by
      unfold nxt at hz ⊢
      split at hz
      · split at hz
        · rename_i h1 h2
          rw [if_pos h1, if_pos h2]
        · have := decode_width s a
          simp at hz
          omega
      · rename_i h1
        rw [if_neg h1]
    rw [hm, Bool.eq_false_iff]
    intro e
    rw [inB_iff] at e
    obtain ⟨j, hj, h1, _⟩ := e
    have := (rgB_ok h j hj).1
    omega

set_option maxHeartbeats 2000000 in
set_option maxRecDepth 100000 in
theorem hold1_any (W : World) (gr gs : Nat) (a : Option Addr) (n c : Nat) (f : Nat → Rg) (r : Int) (i : Nat) (hi : i < n) (hR : Rml W a f n) (hr : W.cell? ⟨gr, 0, none⟩ = some (.int .i32 r)) (hs : W.cell? ⟨gs, 0, none⟩ = some (.slice a n c)) :
    Calls Tryd.prog 44 (#[.int .i64 (i : Int)] ++ #[.pointer (some ⟨gr, 0, none⟩), .pointer (some ⟨gs, 0, none⟩)]) W fun e w' => e = .returned (.bool (decide (r ≤ (f i).2))) ∧ Below W.heap.size W w' := by
  obtain ⟨g, o, rfl, hg, _, q1⟩ := hR.at i hi
  have hii : (i : Int) < (n : Int) := by omega
  generalize (f i).2 = y at *
  clear hR
  show Calls Tryd.prog 44 #[.int .i64 (i : Int), .pointer (some ⟨gr, 0, none⟩), .pointer (some ⟨gs, 0, none⟩)] W _
  go_enter Tryd.func44, Tryd.ntmps44
  go_wp2_with fail
  go_region
  all_goals go_wp2
  all_goals go_ret
  all_goals exact ⟨rfl, (Below.refl _ _).drew⟩
end Go.Proofs.YtnpgkiidpeaapaaDoor
