/- Merging in place: what is sorted. -/
import Derived.Test.YtfjfpplemgjcmabSo
namespace Go.Proofs.Ytfjfpplemgjcmab

section
variable {E : Type} {k : E → Int}

def Srt (k : E → Int) (f : Nat → E) (a b : Nat) : Prop := ∀ i j, a ≤ i → i < j → j < b → k (f i) ≤ k (f j)
theorem Srt.le {f : Nat → E} {a b : Nat} (h : Srt k f a b) (i j : Nat) (h1 : a ≤ i) (h2 : i ≤ j) (h3 : j < b) : k (f i) ≤ k (f j) := by
  by_cases e : i = j
  · subst e; exact Int.le_refl _
  · exact h i j h1 (by omega) h3
theorem Srt.up {f : Nat → E} {n : Nat} : ∀ {a : Nat}, Srt k f a (a + n) → Up k (seg f a n) := by
  induction n with
  | zero => intro a _; exact List.Pairwise.nil
  | succ n ih =>
    intro a h
    refine List.pairwise_cons.2 ⟨fun y hy => ?_, ih fun i j h1 h2 h3 => h i j (by omega) h2 (by omega)⟩
    obtain ⟨j, h1, h2, rfl⟩ := (mem_seg _ _ _ _).1 hy
    exact h a j (Nat.le_refl _) (by omega) (by omega)
/-- One thing put in its place, down. -/
theorem ins_srt (f : Nat → E) (a i j : Nat) (h : Srt k f a i) (haj : a ≤ j) (hji : j ≤ i) (h1 : ∀ x, j ≤ x → x < i → k (f i) < k (f x)) (h2 : j = a ∨ k (f (j - 1)) ≤ k (f i)) : Srt k (rot f j i (i + 1)) a (i + 1) := by
  intro x y hx hxy hy
  have e : i + 1 - i = 1 := by omega
  unfold rot
  rw [e]
  by_cases c1 : y < j
  · rw [if_neg (by omega), if_neg (by omega), if_neg (by omega), if_neg (by omega)]
    exact h x y hx hxy (by omega)
  · by_cases c2 : y = j
    · rw [if_neg (by omega), if_neg (by omega), if_pos (by omega), show y - j + i = i by omega]
      have h3 := h.le x (j - 1) hx (by omega) (by omega)
      rcases h2 with h2 | h2
      · omega
      · omega
    · have hy2 : k (f (y - 1)) = k (if j ≤ y ∧ y < j + 1 then f (y - j + i) else if j + 1 ≤ y ∧ y < i + 1 then f (y - 1) else f y) := by
        rw [if_neg (by omega), if_pos (by omega)]
      rw [← hy2]
      by_cases c3 : x < j
      · rw [if_neg (by omega), if_neg (by omega)]
        exact h.le x (y - 1) hx (by omega) (by omega)
      · by_cases c4 : x = j
        · rw [if_pos (by omega), show x - j + i = i by omega]
          exact Int.le_of_lt (h1 (y - 1) (by omega) (by omega))
        · rw [if_neg (by omega), if_pos (by omega)]
          exact h.le (x - 1) (y - 1) (by omega) (by omega) (by omega)
/-- One thing put in its place, up. -/
theorem ins_srt1 (f : Nat → E) (a b i : Nat) (h : Srt k f (a + 1) b) (hai : a + 1 ≤ i) (hib : i ≤ b) (h1 : ∀ x, a + 1 ≤ x → x < i → k (f x) < k (f a)) (h2 : i = b ∨ k (f a) ≤ k (f i)) : Srt k (rot f a (a + 1) i) a b := by
  intro x y hx hxy hy
  have hbig : ∀ z, i ≤ z → z < b → k (f a) ≤ k (f z) := fun z hz hzb => by
    rcases h2 with h2 | h2
    · omega
    · have := h.le i z hai hz hzb
      omega
  unfold rot
  by_cases c1 : y < i - 1
  · rw [if_pos (by omega), if_pos (by omega)]
    exact h _ _ (by omega) (by omega) (by omega)
  · by_cases c2 : y = i - 1
    · rw [if_pos (by omega), if_neg (by omega), if_pos (by omega), show y - (i - (a + 1)) = a by omega]
      exact Int.le_of_lt (h1 _ (by omega) (by omega))
    · have hy2 : (if a ≤ y ∧ y < a + (i - (a + 1)) then f (y - a + (a + 1)) else if a + (i - (a + 1)) ≤ y ∧ y < i then f (y - (i - (a + 1))) else f y) = f y := by
        rw [if_neg (by omega), if_neg (by omega)]
      rw [hy2]
      by_cases c3 : x < i - 1
      · rw [if_pos (by omega)]
        exact h _ _ (by omega) (by omega) (by omega)
      · by_cases c4 : x = i - 1
        · rw [if_neg (by omega), if_pos (by omega), show x - (i - (a + 1)) = a by omega]
          exact hbig y (by omega) hy
        · rw [if_neg (by omega), if_neg (by omega)]
          exact h _ _ (by omega) (by omega) (by omega)

/-- Where two sorted rows are cut. -/
def Cut (k : E → Int) (f : Nat → E) (a s m e b : Nat) : Prop := (∀ x y, a ≤ x → x < s → e ≤ y → y < b → k (f x) ≤ k (f y)) ∧ (∀ x y, s ≤ x → x < m → m ≤ y → y < e → k (f y) < k (f x))
theorem cut_of (f : Nat → E) (a m b s e : Nat) (h1 : Srt k f a m) (h2 : Srt k f m b) (ha : a ≤ s) (hs : s ≤ m) (he : m ≤ e) (heb : e ≤ b)
    (l : s = a ∨ e = b ∨ k (f (s - 1)) ≤ k (f e)) (r : s = m ∨ e = m ∨ k (f (e - 1)) < k (f s)) : Cut k f a s m e b := by
  constructor
  · intro x y hx hxs hy hyb
    rcases l with l | l | l
    · omega
    · omega
    · have g1 := h1.le x (s - 1) hx (by omega) (by omega)
      have g2 := h2.le e y he hy hyb
      omega
  · intro x y hx hxm hy hye
    rcases r with r | r | r
    · omega
    · omega
    · have g1 := h1.le s x ha hx hxm
      have g2 := h2.le y (e - 1) hy (by omega) (by omega)
      omega
theorem rot_lo (f : Nat → E) (s m e x : Nat) (h1 : s ≤ x) (h2 : x < s + (e - m)) : rot f s m e x = f (x - s + m) := if_pos ⟨h1, h2⟩
theorem rot_hi (f : Nat → E) (s m e x : Nat) (h1 : s + (e - m) ≤ x) (h2 : x < e) (_ : s ≤ m) : rot f s m e x = f (x - (e - m)) := by
  unfold rot
  rw [if_neg (by omega), if_pos ⟨h1, h2⟩]
theorem rot_out (f : Nat → E) (s m e x : Nat) (h : x < s ∨ e ≤ x) (h3 : s ≤ m) (h4 : m ≤ e) : rot f s m e x = f x := by
  unfold rot
  rw [if_neg (by omega), if_neg (by omega)]
/-- The two halves behind the exchange. -/
theorem merge_ok (f : Nat → E) (a s m e b : Nat) (h1 : Srt k f a m) (h2 : Srt k f m b) (ha : a ≤ s) (hs : s ≤ m) (he : m ≤ e) (heb : e ≤ b) (hc : Cut k f a s m e b) :
    Srt k (rot f s m e) a s ∧ Srt k (rot f s m e) s (s + (e - m)) ∧ Srt k (rot f s m e) (s + (e - m)) e ∧ Srt k (rot f s m e) e b ∧
      (∀ x y, a ≤ x → x < s + (e - m) → s + (e - m) ≤ y → y < b → k (rot f s m e x) ≤ k (rot f s m e y)) ∧ Stb k f (rot f s m e) a b := by
  refine ⟨fun x y hx hxy hy => ?_, fun x y hx hxy hy => ?_, fun x y hx hxy hy => ?_, fun x y hx hxy hy => ?_, fun x y hx hxm hy hyb => ?_, ?_⟩
  · rw [rot_out _ _ _ _ _ (by omega) hs he, rot_out _ _ _ _ _ (by omega) hs he]
    exact h1 _ _ hx hxy (by omega)
  · rw [rot_lo _ _ _ _ _ hx (by omega), rot_lo _ _ _ _ _ (by omega) hy]
    exact h2 _ _ (by omega) (by omega) (by omega)
  · rw [rot_hi _ _ _ _ _ hx (by omega) hs, rot_hi _ _ _ _ _ (by omega) hy hs]
    exact h1 _ _ (by omega) (by omega) (by omega)
  · rw [rot_out _ _ _ _ _ (by omega) hs he, rot_out _ _ _ _ _ (by omega) hs he]
    exact h2 _ _ (by omega) hxy hy
  · by_cases c1 : x < s
    · rw [rot_out _ _ _ _ x (by omega) hs he]
      by_cases c2 : y < e
      · rw [rot_hi _ _ _ _ _ hy c2 hs]
        exact h1 _ _ hx (by omega) (by omega)
      · rw [rot_out _ _ _ _ y (by omega) hs he]
        exact hc.1 _ _ hx c1 (by omega) hyb
    · rw [rot_lo _ _ _ _ x (by omega) hxm]
      by_cases c2 : y < e
      · rw [rot_hi _ _ _ _ _ hy c2 hs]
        exact Int.le_of_lt (hc.2 _ _ (by omega) (by omega) (by omega) (by omega))
      · rw [rot_out _ _ _ _ y (by omega) hs he]
        exact h2 _ _ (by omega) (by omega) hyb
  · exact (rot_stb f s m e hs he fun i j h3 h4 h5 h6 => by
      have := hc.2 i j h3 h4 h5 h6
      omega).wide ha (by omega) heb
theorem merge_end (g g1 g2 : Nat → E) (a mid b : Nat) (ha : a ≤ mid) (hb : mid ≤ b) (hx : ∀ x y, a ≤ x → x < mid → mid ≤ y → y < b → k (g x) ≤ k (g y))
    (s1 : Stb k g g1 a mid) (h1 : Srt k g1 a mid) (s2 : Stb k g1 g2 mid b) (h2 : Srt k g2 mid b) : Srt k g2 a b ∧ Stb k g g2 a b := by
  refine ⟨fun i j hi hij hj => ?_, (s1.wide (Nat.le_refl _) ha hb).trans (s2.wide ha hb (Nat.le_refl _))⟩
  by_cases c1 : j < mid
  · rw [s2.1 i (by omega), s2.1 j (by omega)]
    exact h1 i j hi hij c1
  · by_cases c2 : mid ≤ i
    · exact h2 i j c2 hij hj
    · obtain ⟨y, hy1, hy2, hy3⟩ := s2.from j (by omega) hj
      obtain ⟨x, hx1, hx2, hx3⟩ := s1.from i hi (by omega)
      rw [hy3, s2.1 i (by omega), hx3, s1.1 y (by omega)]
      exact hx x y hx1 hx2 hy1 hy2
theorem Srt.one (f : Nat → E) (a b : Nat) (h : b ≤ a + 1) : Srt k f a b := fun i j h1 h2 h3 => by omega
theorem Srt.same {f g : Nat → E} {a b : Nat} (h : Srt k f a b) (e : ∀ j, a ≤ j → j < b → g j = f j) : Srt k g a b := fun i j h1 h2 h3 => by
  rw [e i h1 (by omega), e j (by omega) h3]
  exact h i j h1 h2 h3

/-- Blocks of s things, sorted below a place. -/
def Blk (k : E → Int) (f : Nat → E) (s a : Nat) : Prop := ∀ q i j, q * s ≤ i → i < j → j < (q + 1) * s → j < a → k (f i) ≤ k (f j)
theorem Blk.zero (f : Nat → E) (s : Nat) : Blk k f s 0 := fun _ _ _ _ _ _ h => by omega
theorem Blk.next {f g : Nat → E} {s Q b : Nat} (h : Blk k f s (Q * s)) (e : ∀ j, j < Q * s → g j = f j) (hs : Srt k g (Q * s) b) : Blk k g s b := by
  intro q i j h1 h2 h3 h4
  by_cases hj : j < Q * s
  · rw [e i (by omega), e j hj]
    exact h q i j h1 h2 h3 hj
  · have : Q ≤ q := by
      rcases Nat.lt_or_ge q Q with hq | hq
      · have : (q + 1) * s ≤ Q * s := Nat.mul_le_mul_right _ hq
        omega
      · exact hq
    have h5 : Q * s ≤ q * s := Nat.mul_le_mul_right _ this
    exact hs i j (by omega) h2 h4
theorem Blk.srt {f : Nat → E} {s n : Nat} (h : Blk k f s n) (q a b : Nat) (ha : q * s ≤ a) (hb : b ≤ (q + 1) * s) (hn : b ≤ n) : Srt k f a b := fun i j h1 h2 h3 => h q i j (by omega) h2 (by omega) (by omega)
theorem Blk.all {f : Nat → E} {s n : Nat} (h : Blk k f s n) (hs : n ≤ s) : Srt k f 0 n := h.srt 0 0 n (by omega) (by omega) (Nat.le_refl _)
end
end Go.Proofs.Ytfjfpplemgjcmab
