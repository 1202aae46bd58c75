/- Labels: the value of a name in any list. -/
import Derived.Test.YtjmninjaoemhjaaDoorEa
namespace Go.Proofs.YtjmninjaoemhjaaDoor
open Go.RowKit Go.Lib

/-- The value of the first label of a name, from a place on. -/
def gvF (f : Nat → Lb) (nm : ByteArray) : Nat → Nat → ByteArray
  | 0, _ => ⟨#[]⟩
  | n + 1, i => if (f i).1.toList == nm.toList then (f i).2 else gvF f nm n (i + 1)
set_option maxHeartbeats 2000000 in
set_option maxRecDepth 100000 in
theorem valueOf_any (a : Option Addr) (f : Nat → Lb) (n c : Nat) (nm : ByteArray) (w : World) (hL : Lm w a f n) (hn : n ≤ 140737488355328) :
    Calls Tryd.prog 36 #[.slice a n c, .string nm] w fun e w' => e = .returned (.string (gvF f nm n 0)) ∧ Below w.heap.size w w' := by
  have HL : Hid (Lm w a f n) := hL
  have hni : (n : Int) ≤ 140737488355328 := by omega
  obtain ⟨v, hv⟩ : ∃ v, gvF f nm n 0 = v := ⟨_, rfl⟩
  rw [hv]
  have HV : Hid (gvF f nm n 0 = v) := hv
  clear hL hv
  go_enter Tryd.func36, Tryd.ntmps36
  go_wp2_with fail
  go_loopw [9] (fun t w' => ∃ i k : Nat, t = .int .i64 (i : Nat) ∧ i + k = n ∧ Hid (gvF f nm k i = v) ∧ Hid (Below w.heap.size w w')) (fun t _ => n - (RowKit.intOf t).toNat)
  case atStart => exact ⟨0, n, rfl, by omega, HV, Below.refl _ _⟩
  case round =>
    obtain ⟨i, k, rfl, hik, hv, hb⟩ := hrel
    by_cases hlt : i < n
    · have hii : (i : Int) < (n : Int) := by omega
      obtain ⟨m, rfl⟩ : ∃ m, k = m + 1 := ⟨k - 1, by omega⟩
      obtain ⟨g, o, rfl, hg, c0, c1⟩ := (HL.out.below hb.out).at i hlt
      have HN : Hid (Below w.heap.size w (wr.alloc (lbX (f i)))) := hb.out.alloc hb.out.size _
      have HG : Hid ((if (f i).1.toList == nm.toList then (f i).2 else gvF f nm m (i + 1)) = v) := hv
      clear hv hb
      obtain ⟨x, hx⟩ : ∃ x, f i = x := ⟨_, rfl⟩
      rw [hx] at c0 c1 HN HG
      clear hx
      obtain ⟨x1, x2⟩ := x
      dsimp only at c0 c1
      by_cases he : (x1.toList == nm.toList) = true
      · have HE : Hid (x2 = v) := by
          have := HG.out
          dsimp only at this
          rw [if_pos he] at this
          exact this
        go_wp2
        go_ret
        exact ⟨by rw [← HE.out]; rfl, HN.out⟩
      · have HE : Hid (gvF f nm m (i + 1) = v) := by
          have := HG.out
          dsimp only at this
          rw [if_neg he] at this
          exact this
        have he : (x1.toList == nm.toList) = false := by simpa using he
        go_wp2
        exact ⟨⟨i + 1, m, by go_num, by omega, HE, HN⟩, by simp [RowKit.intOf]; omega⟩
    · have hii : ¬ (i : Int) < (n : Int) := by omega
      obtain rfl : k = 0 := by omega
      have HE : Hid (v = ⟨#[]⟩) := hv.out.symm
      clear hv
      go_wp2
      go_ret
      exact ⟨by rw [HE.out]; rfl, hb.out⟩
theorem gvF_size (f : Nat → Lb) (nm : ByteArray) (M : Nat) : ∀ k i, (∀ j, j < i + k → (f j).2.size ≤ M) → (gvF f nm k i).size ≤ M
  | 0, _, _ => Nat.zero_le _
  | k + 1, i, h => by
    unfold gvF
    split
    · exact h i (by omega)
    · exact gvF_size f nm M k (i + 1) (fun j hj => h j (by omega))
set_option maxHeartbeats 1000000 in
theorem get_any (a : Option Addr) (f : Nat → Lb) (n c : Nat) (nm : ByteArray) (w : World) (hL : Lm w a f n) (hn : n ≤ 140737488355328) (hs : ∀ j, j < n → (f j).2.size ≤ 140737488355328) :
    Calls Tryd.prog 12 #[.slice a n c, .string nm] w fun e w' => e = .returned (.string (gvF f nm n 0)) ∧ Below w.heap.size w w' := by
  have k1 := valueOf_any a f n c nm w hL hn
  have hsz := gvF_size f nm 140737488355328 n 0 (fun j hj => hs j (by omega))
  generalize gvF f nm n 0 = v at *
  have HK : Hid (∀ W, Calls Tryd.prog 35 #[.string v] W fun e w' => e = .returned (.string v) ∧ Below W.heap.size W w') := fun W => clone_any v W hsz
  clear hL hs hsz
  go_enter Tryd.func12, Tryd.ntmps12
  go_wp2_with fail
  go_fit k1
  rintro e w1 ⟨rfl, b1⟩
  have k2 := HK.out w1
  have H1 : Hid (Below w.heap.size w w1) := b1
  clear k1 b1
  go_wp2_with fail
  go_fit k2
  rintro e w2 ⟨rfl, b2⟩
  have H2 : Hid (Below w.heap.size w w2) := H1.out.trans (b2.mono H1.out.size)
  clear k2 b2
  go_wp2
  go_ret
  exact ⟨rfl, H2.out⟩
end Go.Proofs.YtjmninjaoemhjaaDoor
