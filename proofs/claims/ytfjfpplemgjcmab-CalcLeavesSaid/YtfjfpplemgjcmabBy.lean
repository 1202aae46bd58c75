/- A row of buckets sorted in place: two blocks turned. -/
import Derived.Test.YtfjfpplemgjcmabBw
namespace Go.Proofs.Ytfjfpplemgjcmab
open Go.RowKit

set_option maxHeartbeats 2000000 in
set_option maxRecDepth 100000 in
theorem rotateB_any (S g c n s m e : Nat) (f : Nat → Bk) (cv : Value) (w : World) (h : Rb w S g c n f) (hs : s < m) (he : m < e) (hn : e ≤ n) (hb : n ≤ 2305843009213693952) :
    Calls Try.prog 133 #[.slice (some ⟨g, 0, none⟩) n c, .int .i64 (s : Int), .int .i64 (m : Int), .int .i64 (e : Int), cv] w fun r w' => r = .returned (.tuple #[]) ∧ Rb w' S g c n (rot f s m e) ∧ Below S w w' := by
  have k1 := fun (a b l : Nat) (f' : Nat → Bk) (w1 : World) (h1 : Hid (Rb w1 S g c n f')) (hab : a + l ≤ b) (hbl : b + l ≤ n) => swapRangeB_any S g c n a b l f' cv w1 h1.out hab hbl hb
  have H0 : Hid (Rb w S g c n f) := h
  obtain ⟨T, hT⟩ : ∃ T, rot f s m e = T := ⟨_, rfl⟩
  rw [hT]
  have HT : Hid (rot f s m e = T) := hT
  clear h hT
  have HE : Hid (∀ (f' : Nat → Bk) i, i ≤ m → swb f' (m - i) m i = rot f' (m - i) m (m + i)) := fun f' i hi => rot_even f' m i hi
  have HL : Hid (∀ (f' : Nat → Bk) i j, i ≤ m → j < i → rot (swb f' (m - i) m j) (m - (i - j)) m (m + j) = rot f' (m - i) m (m + j)) := fun f' i j h1 h2 => rot_left f' m i j h1 h2
  have HR : Hid (∀ (f' : Nat → Bk) i j, i ≤ m → i < j → rot (swb f' (m - i) (m + j - i) i) (m - i) m (m + (j - i)) = rot f' (m - i) m (m + j)) := fun f' i j h1 h2 => rot_right f' m i j h1 h2
  go_enter Try.func133, Try.ntmps133
  go_wp2
  go_loopw [10, 11] (fun iv jv w' => ∃ (i j : Nat) (f' : Nat → Bk), iv = .int .i64 (i : Int) ∧ jv = .int .i64 (j : Int) ∧ 0 < i ∧ 0 < j ∧ i ≤ m ∧ m + j ≤ n ∧ Hid (Rb w' S g c n f') ∧ Hid (rot f' (m - i) m (m + j) = T) ∧ Below S w w') (fun iv jv _ => (RowKit.intOf iv).toNat + (RowKit.intOf jv).toNat)
  case atStart => exact ⟨m - s, e - m, f, by congr 1; omega, by congr 1; omega, by omega, by omega, by omega, by omega, H0, by show _ = _; rw [show m - (m - s) = s by omega, show m + (e - m) = e by omega]; exact HT.out, Below.refl _ _⟩
  case round =>
    obtain ⟨i, j, f', rfl, rfl, hi0, hj0, him, hjn, o, ht, hbel⟩ := hrel
    obtain ⟨p, hp⟩ : ∃ p : Nat, p = m - i := ⟨_, rfl⟩
    have hpi : (m : Int) - (i : Int) = (p : Int) := by omega
    have hpm : p + i = m := by omega
    have HP : Hid (p = m - i) := hp
    clear hp
    by_cases heq : i = j
    · subst heq
      have kk := fun w1 h1 => k1 p m i f' w1 h1 (by omega) (by omega)
      have hf : swb f' p m i = T := by rw [HP.out, HE.out f' i him]; exact ht.out
      rw [hf] at kk
      go_wp2_with fail
      go_fit (kk _ o)
      rintro r w2 ⟨rfl, ho, hb2⟩
      have O2 : Hid (Rb w2 S g c n T) := ho
      have B2 := hbel.trans hb2
      go_wp2
      go_end0
      exact ⟨rfl, O2.out, B2⟩
    · have hne : (i : Int) ≠ (j : Int) := by omega
      by_cases hgt : j < i
      · have hgi : (j : Int) < (i : Int) := by omega
        have kk := fun w1 h1 => k1 p m j f' w1 h1 (by omega) (by omega)
        have hf : Hid (rot (swb f' p m j) (m - (i - j)) m (m + j) = T) := by show _ = _; rw [HP.out, HL.out f' i j him hgt]; exact ht.out
        go_wp2_with fail
        go_fit (kk _ o)
        rintro r w2 ⟨rfl, ho, hb2⟩
        have O2 : Hid (Rb w2 S g c n (swb f' p m j)) := ho
        have B2 := hbel.trans hb2
        clear ho hb2
        go_wp2
        refine ⟨⟨i - j, j, _, by congr 1; omega, rfl, by omega, by omega, by omega, by omega, O2, hf, B2⟩, by simp [RowKit.intOf]; omega⟩
      · have hgi : ¬ (j : Int) < (i : Int) := by omega
        obtain ⟨q, hq⟩ : ∃ q : Nat, q = m + j - i := ⟨_, rfl⟩
        have hqi : (m : Int) + (j : Int) - (i : Int) = (q : Int) := by omega
        have hqm : q + i = m + j := by omega
        have HQ : Hid (q = m + j - i) := hq
        clear hq
        have kk := fun w1 h1 => k1 p q i f' w1 h1 (by omega) (by omega)
        have hf : Hid (rot (swb f' p q i) (m - i) m (m + (j - i)) = T) := by show _ = _; rw [HP.out, HQ.out, HR.out f' i j him (by omega)]; exact ht.out
        go_wp2_with fail
        go_fit (kk _ o)
        rintro r w2 ⟨rfl, ho, hb2⟩
        have O2 : Hid (Rb w2 S g c n (swb f' p q i)) := ho
        have B2 := hbel.trans hb2
        clear ho hb2
        go_wp2
        refine ⟨⟨i, j - i, _, rfl, by congr 1; omega, by omega, by omega, by omega, by omega, O2, hf, B2⟩, by simp [RowKit.intOf]; omega⟩
end Go.Proofs.Ytfjfpplemgjcmab
