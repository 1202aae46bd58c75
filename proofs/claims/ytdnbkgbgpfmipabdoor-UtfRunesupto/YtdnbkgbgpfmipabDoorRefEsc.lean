/- The walk of the reference's escape. -/
import Derived.Test.YtdnbkgbgpfmipabDoorRefNum
namespace Go.Proofs.YtdnbkgbgpfmipabDoor
open Go.RowKit Go.Lib

/-- What the reference's escape answers. -/
def escV (o : Option (List Int × Nat)) : ByteArray × Int := match o with | some x => (strOfNums x.1, (x.2 : Int) + 1) | none => (⟨#[]⟩, 0)

theorem num_bd2 (s : ByteArray) (r : Int) (h : num s 2 16 = some r) : 0 ≤ r ∧ r ≤ 255 := by
  unfold num at h
  split at h
  · cases h
  · have := numA_bd s 16 (Or.inr rfl) 2 0 0 1 (by omega) (by omega) r h
    have e : (1 : Int) * 16 ^ 2 = 256 := by decide
    rw [e] at this
    omega

set_option maxHeartbeats 4000000 in
set_option maxRecDepth 100000 in
theorem rescape_any (s : ByteArray) (i e : Nat) (q : Int) (w : World) (hs : s.size ≤ 140737488355328) (he : e < s.size) (hi : i + 1 < e) :
    Calls Tryd.prog 45 #[.string s, .int .i64 i, .int .i64 e, .int .u8 q] w fun r w' => r = .returned (.tuple #[.string (escV (escS (s.extract (i + 1) e) q)).1, .int .i64 (escV (escS (s.extract (i + 1) e) q)).2]) ∧ Below w.heap.size w w' := by
  have hc : bt (s.extract (i + 1) e) 0 = bt s (i + 1) := bt_ext s (i + 1) e 0 (by omega) (by omega)
  have hx := bt_at s (i + 1) (by omega)
  have hbd := bt_bd s (i + 1)
  have kl := fun w' => rletter_any (bt s (i + 1)) w' (by omega) (by omega)
  have hsz : (s.extract (i + 1) e).size = e - (i + 1) := by simp; omega
  have hx1 : (s.extract (i + 1) e).extract 1 (s.extract (i + 1) e).size = s.extract (i + 2) e := by
    rw [hsz, ByteArray.extract_extract]; congr 1; omega
  have hx0 : (s.extract (i + 1) e).extract 0 (s.extract (i + 1) e).size = s.extract (i + 1) e := by
    rw [hsz, ByteArray.extract_extract]; congr 1; omega
  have kx : ∀ w', Calls Tryd.prog 65 #[.string s, .int .i64 ((i : Int) + 2), .int .i64 2, .int .i64 16, .int .i64 e] w' fun r w'' => r = .returned (.int .i64 ((num (s.extract (i + 2) e) 2 16).getD (-1))) ∧ w'' = w' := fun w' => rnumber_any s (i + 2) 2 e 16 w' hs (by omega) (by omega) (Or.inr rfl) (by omega)
  have ku : ∀ w', Calls Tryd.prog 65 #[.string s, .int .i64 ((i : Int) + 2), .int .i64 4, .int .i64 16, .int .i64 e] w' fun r w'' => r = .returned (.int .i64 ((num (s.extract (i + 2) e) 4 16).getD (-1))) ∧ w'' = w' := fun w' => rnumber_any s (i + 2) 4 e 16 w' hs (by omega) (by omega) (Or.inr rfl) (by omega)
  have kU : ∀ w', Calls Tryd.prog 65 #[.string s, .int .i64 ((i : Int) + 2), .int .i64 8, .int .i64 16, .int .i64 e] w' fun r w'' => r = .returned (.int .i64 ((num (s.extract (i + 2) e) 8 16).getD (-1))) ∧ w'' = w' := fun w' => rnumber_any s (i + 2) 8 e 16 w' hs (by omega) (by omega) (Or.inr rfl) (by omega)
  have ko : ∀ w', Calls Tryd.prog 65 #[.string s, .int .i64 ((i : Int) + 1), .int .i64 3, .int .i64 8, .int .i64 e] w' fun r w'' => r = .returned (.int .i64 ((num (s.extract (i + 1) e) 3 8).getD (-1))) ∧ w'' = w' := fun w' => rnumber_any s (i + 1) 3 e 8 w' hs (by omega) (by omega) (Or.inl rfl) (by omega)
  unfold escS byteS runeS
  rw [hc, hx0, hx1]
  clear hx0 hx1 hsz hc
  have cv := conv1
  generalize hcc : bt s (i + 1) = c at *
  obtain ⟨hc0, hc1⟩ := hbd
  have hl : ¬ (e : Int) ≤ i + 1 := by omega
  by_cases cq : c = q
  · rw [if_pos (Or.inr cq)]
    have t1 : (c == q) = true := by rw [beq_iff_eq]; exact cq
    clear kx ku kU ko kl hcc cq
    go_enter Tryd.func45, Tryd.ntmps45
    go_wp2
    go_ret2
    exact ⟨rfl, (Below.refl _ _).alloc (Nat.le_refl _) _⟩
  have t1 : (c == q) = false := by rw [beq_eq_false_iff_ne]; exact cq
  by_cases c9 : c = 92
  · rw [if_pos (Or.inl c9)]
    have t2 : (c == 92) = true := by rw [beq_iff_eq]; exact c9
    clear kx ku kU ko kl hcc cq c9
    go_enter Tryd.func45, Tryd.ntmps45
    go_wp2
    go_ret2
    exact ⟨rfl, (Below.refl _ _).alloc (Nat.le_refl _) _⟩
  have t2 : (c == 92) = false := by rw [beq_eq_false_iff_ne]; exact c9
  rw [if_neg (by rintro (h | h); exact c9 h; exact cq h)]
  have hib := idx7_bd c
  by_cases ci : 0 ≤ idx7 c
  · rw [if_pos ci]
    rw [if_pos ci] at kl
    clear kx ku kU ko hcc cq c9
    generalize idx7 c = d at *
    obtain ⟨_, hd1⟩ := hib
    have hd2 : 0 ≤ 7 + d := by omega
    have hd3 : 7 + d ≤ 255 := by omega
    go_enter Tryd.func45, Tryd.ntmps45
    go_wp2_with (go_at_call 64; go_fit (kl _); rintro x w1 ⟨rfl, rfl⟩)
    go_ret2
    exact ⟨rfl, (Below.refl _ _).alloc (Nat.le_refl _) _⟩
  rw [if_neg ci]
  rw [if_neg ci] at kl
  clear hib ci cq c9
  by_cases cx : c = 120
  · rw [if_pos cx]
    have t3 : (c == 120) = true := by rw [beq_iff_eq]; exact cx
    clear ku kU ko hcc cx
    cases hn : num (s.extract (i + 2) e) 2 16 with
    | none =>
      rw [hn] at kx
      clear hn
      go_enter Tryd.func45, Tryd.ntmps45
      go_wp2_with (first | (go_at_call 64; go_fit (kl _); rintro x w1 ⟨rfl, rfl⟩) | (go_at_call 65; go_fit (kx _); rintro x w1 ⟨rfl, rfl⟩; simp only [Option.getD_none]))
      go_ret2
      exact ⟨rfl, Below.refl _ _⟩
    | some n =>
      rw [hn] at kx
      obtain ⟨n0, n1⟩ := num_bd2 _ n hn
      clear hn
      simp only [if_pos n1]
      have n2 : ¬ n < 0 := by omega
      go_enter Tryd.func45, Tryd.ntmps45
      go_wp2_with (first | (go_at_call 64; go_fit (kl _); rintro x w1 ⟨rfl, rfl⟩) | (go_at_call 65; go_fit (kx _); rintro x w1 ⟨rfl, rfl⟩; simp only [Option.getD_some]))
      go_ret2
      exact ⟨rfl, (Below.refl _ _).alloc (Nat.le_refl _) _⟩
  have t3 : (c == 120) = false := by rw [beq_eq_false_iff_ne]; exact cx
  rw [if_neg cx]
  clear kx cx
  by_cases cu : c = 117
  · rw [if_pos cu]
    have t4 : (c == 117) = true := by rw [beq_iff_eq]; exact cu
    have t5 : (c == 85) = false := by rw [beq_eq_false_iff_ne]; omega
    clear kU ko hcc cu
    cases hn : num (s.extract (i + 2) e) 4 16 with
    | none =>
      rw [hn] at ku
      clear hn
      have ki := fun w' => isRune_any (-1) w'
      rw [show isRune (-1) = false from rfl] at ki
      go_enter Tryd.func45, Tryd.ntmps45
      go_wp2_with (first | (go_at_call 64; go_fit (kl _); rintro x w1 ⟨rfl, rfl⟩) | (go_at_call 65; go_fit (ku _); rintro x w1 ⟨rfl, rfl⟩; simp only [Option.getD_none]) | (go_at_call 61; go_fit (ki _); rintro x w1 ⟨rfl, rfl⟩))
      go_ret2
      exact ⟨rfl, Below.refl _ _⟩
    | some n =>
      rw [hn] at ku
      clear hn
      have ki := fun w' => isRune_any n w'
      have kf := fun w' => form_any n w'
      by_cases hr : isRune n = true
      · rw [hr] at ki
        simp only [if_pos hr]
        clear hr
        go_enter Tryd.func45, Tryd.ntmps45
        go_wp2_with (first | (go_at_call 64; go_fit (kl _); rintro x w1 ⟨rfl, rfl⟩) | (go_at_call 65; go_fit (ku _); rintro x w1 ⟨rfl, rfl⟩; simp only [Option.getD_some]) | (go_at_call 61; go_fit (ki _); rintro x w1 ⟨rfl, rfl⟩) | (go_at_call 62; go_fit (kf _); rintro x w2 ⟨rfl, hb⟩))
        go_ret2
        exact ⟨rfl, hb⟩
      · have hr' : isRune n = false := by simpa using hr
        rw [hr'] at ki
        simp only [if_neg hr]
        clear hr hr' kf
        go_enter Tryd.func45, Tryd.ntmps45
        go_wp2_with (first | (go_at_call 64; go_fit (kl _); rintro x w1 ⟨rfl, rfl⟩) | (go_at_call 65; go_fit (ku _); rintro x w1 ⟨rfl, rfl⟩; simp only [Option.getD_some]) | (go_at_call 61; go_fit (ki _); rintro x w1 ⟨rfl, rfl⟩))
        go_ret2
        exact ⟨rfl, Below.refl _ _⟩
  have t4 : (c == 117) = false := by rw [beq_eq_false_iff_ne]; exact cu
  rw [if_neg cu]
  clear ku cu
  by_cases cU : c = 85
  · rw [if_pos cU]
    have t5 : (c == 85) = true := by rw [beq_iff_eq]; exact cU
    clear ko hcc cU
    cases hn : num (s.extract (i + 2) e) 8 16 with
    | none =>
      rw [hn] at kU
      clear hn
      have ki := fun w' => isRune_any (-1) w'
      rw [show isRune (-1) = false from rfl] at ki
      go_enter Tryd.func45, Tryd.ntmps45
      go_wp2_with (first | (go_at_call 64; go_fit (kl _); rintro x w1 ⟨rfl, rfl⟩) | (go_at_call 65; go_fit (kU _); rintro x w1 ⟨rfl, rfl⟩; simp only [Option.getD_none]) | (go_at_call 61; go_fit (ki _); rintro x w1 ⟨rfl, rfl⟩))
      go_ret2
      exact ⟨rfl, Below.refl _ _⟩
    | some n =>
      rw [hn] at kU
      clear hn
      have ki := fun w' => isRune_any n w'
      have kf := fun w' => form_any n w'
      by_cases hr : isRune n = true
      · rw [hr] at ki
        simp only [if_pos hr]
        clear hr
        go_enter Tryd.func45, Tryd.ntmps45
        go_wp2_with (first | (go_at_call 64; go_fit (kl _); rintro x w1 ⟨rfl, rfl⟩) | (go_at_call 65; go_fit (kU _); rintro x w1 ⟨rfl, rfl⟩; simp only [Option.getD_some]) | (go_at_call 61; go_fit (ki _); rintro x w1 ⟨rfl, rfl⟩) | (go_at_call 62; go_fit (kf _); rintro x w2 ⟨rfl, hb⟩))
        go_ret2
        exact ⟨rfl, hb⟩
      · have hr' : isRune n = false := by simpa using hr
        rw [hr'] at ki
        simp only [if_neg hr]
        clear hr hr' kf
        go_enter Tryd.func45, Tryd.ntmps45
        go_wp2_with (first | (go_at_call 64; go_fit (kl _); rintro x w1 ⟨rfl, rfl⟩) | (go_at_call 65; go_fit (kU _); rintro x w1 ⟨rfl, rfl⟩; simp only [Option.getD_some]) | (go_at_call 61; go_fit (ki _); rintro x w1 ⟨rfl, rfl⟩))
        go_ret2
        exact ⟨rfl, Below.refl _ _⟩
  have t5 : (c == 85) = false := by rw [beq_eq_false_iff_ne]; exact cU
  rw [if_neg cU]
  clear kU cU hcc
  cases hn : num (s.extract (i + 1) e) 3 8 with
  | none =>
    rw [hn] at ko
    clear hn
    go_enter Tryd.func45, Tryd.ntmps45
    go_wp2_with (first | (go_at_call 64; go_fit (kl _); rintro x w1 ⟨rfl, rfl⟩) | (go_at_call 65; go_fit (ko _); rintro x w1 ⟨rfl, rfl⟩; simp only [Option.getD_none]))
    go_ret2
    exact ⟨rfl, Below.refl _ _⟩
  | some n =>
    rw [hn] at ko
    obtain ⟨n0, n1⟩ := num_bd _ 3 8 (Or.inl rfl) (by omega) n hn
    clear hn
    have n2 : ¬ n < 0 := by omega
    by_cases n3 : n ≤ 255
    · simp only [if_pos n3]
      have n4 : ¬ 255 < n := by omega
      go_enter Tryd.func45, Tryd.ntmps45
      go_wp2_with (first | (go_at_call 64; go_fit (kl _); rintro x w1 ⟨rfl, rfl⟩) | (go_at_call 65; go_fit (ko _); rintro x w1 ⟨rfl, rfl⟩; simp only [Option.getD_some]))
      go_ret2
      exact ⟨rfl, (Below.refl _ _).alloc (Nat.le_refl _) _⟩
    · simp only [if_neg n3]
      have n4 : 255 < n := by omega
      go_enter Tryd.func45, Tryd.ntmps45
      go_wp2_with (first | (go_at_call 64; go_fit (kl _); rintro x w1 ⟨rfl, rfl⟩) | (go_at_call 65; go_fit (ko _); rintro x w1 ⟨rfl, rfl⟩; simp only [Option.getD_some]))
      go_ret2
      exact ⟨rfl, Below.refl _ _⟩
end Go.Proofs.YtdnbkgbgpfmipabDoor
