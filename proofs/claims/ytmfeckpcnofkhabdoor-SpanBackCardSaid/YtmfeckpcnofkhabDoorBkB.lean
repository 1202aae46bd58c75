/- SpanBack: the walks of the law, and every input. -/
import Derived.Test.YtmfeckpcnofkhabDoorBkA
import Derived.Test.YtmfeckpcnofkhabDoorDurC
import Derived.Test.YtmfeckpcnofkhabDoorStG
namespace Go.Proofs.YtmfeckpcnofkhabDoor
open Go.RowKit Go.Lib

theorem dd5 (u : Nat) (h : u < 100000) : (decDigits u).length ≤ 5 := by
  by_cases a : u < 10
  · rw [dd1 u a]; simp
  · rw [decDigits, dif_neg a, List.length_append]
    have := (pad4 (u / 10) (by omega)).1
    simp
    omega
theorem quo_bd (ms : Nat) (h : ms ≤ 315360000000000) (k : Nat) (hk : k < 7) : rm ms k / uN k < 100000 := by
  have : k = 0 ∨ k = 1 ∨ k = 2 ∨ k = 3 ∨ k = 4 ∨ k = 5 ∨ k = 6 := by omega
  rcases this with rfl | rfl | rfl | rfl | rfl | rfl | rfl
  · show ms / 31536000000 < 100000; omega
  · have : rm ms 1 < 31536000000 := Nat.mod_lt _ (by decide)
    show rm ms 1 / 604800000 < 100000; omega
  · have : rm ms 2 < 604800000 := Nat.mod_lt _ (by decide)
    show rm ms 2 / 86400000 < 100000; omega
  · have : rm ms 3 < 86400000 := Nat.mod_lt _ (by decide)
    show rm ms 3 / 3600000 < 100000; omega
  · have : rm ms 4 < 3600000 := Nat.mod_lt _ (by decide)
    show rm ms 4 / 60000 < 100000; omega
  · have : rm ms 5 < 60000 := Nat.mod_lt _ (by decide)
    show rm ms 5 / 1000 < 100000; omega
  · have : rm ms 6 < 1000 := Nat.mod_lt _ (by decide)
    show rm ms 6 / 1 < 100000; omega
theorem tx_len7 (ms : Nat) (h : ms ≤ 315360000000000) : ∀ k, k ≤ 7 → (tx ms k).length ≤ 7 * k
  | 0, _ => by simp [tx]
  | k + 1, hk => by
    have ih := tx_len7 ms h k (by omega)
    have hu : (uL k).length ≤ 2 := by unfold uL; split <;> simp
    have hd := dd5 (rm ms k / uN k) (quo_bd ms h k (by omega))
    rw [tx, List.length_append]
    split
    · rw [List.length_append]; omega
    · simp; omega

theorem nx_nil : Nx [] := fun x hx => by cases hx
theorem nx_min : Nx [45] := fun x hx => .inl (by simpa using hx.symm)
theorem hd_all (ms : Nat) (h0 : 0 < ms) (h : ms ≤ 315360000000000) :
    hdG (V1 (mk (tx ms 7))) (mk (tx ms 7)) 7 0 0 0 = ((mk (tx ms 7)).size, (ms : Int)) ∧ 0 < (mk (tx ms 7)).size ∧ hdG (V1 (mk (tx ms 7 ++ [45]))) (mk (tx ms 7 ++ [45])) 7 0 0 0 = ((mk (tx ms 7)).size, (ms : Int)) := by
  have e : tx ms 7 = suf 7 ms 0 := by
    have := tx_suf ms 7 0 rfl
    rwa [show tx ms 0 = [] from rfl, show rm ms 0 = ms from rfl, List.nil_append] at this
  have k1 := hd_suf [] nx_nil (fun x hx => by cases hx) 7 0 ms 0 7 [] 0 rfl (Nat.le_refl _) (Nat.le_refl _) h (fun q => by omega)
  have k2 := hd_suf [45] nx_min (fun x hx => by
    have : x = 45 := by simpa using hx.symm
    subst this
    decide) 7 0 ms 0 7 [] 0 rfl (Nat.le_refl _) (Nat.le_refl _) h (fun q => by omega)
  rw [List.nil_append, List.append_nil, ← e] at k1
  rw [List.nil_append, ← e] at k2
  have hz : (mk (tx ms 7)).size = (tx ms 7).length := mk_size _
  refine ⟨?_, ?_, ?_⟩
  · rw [hz]
    simpa using k1
  · rw [hz, e]
    rcases suf_sum 7 ms 0 rfl (by omega) with q | q
    · exact Nat.pos_of_ne_zero (fun z => q (List.eq_nil_of_length_eq_zero z))
    · omega
  · rw [hz]
    simpa using k2

theorem c_far : paR (⟨#[49, 48, 48, 48, 48, 121]⟩ : ByteArray).size (hdG (V1 ⟨#[49, 48, 48, 48, 48, 121]⟩) ⟨#[49, 48, 48, 48, 48, 121]⟩ 7 0 0 0) = (315360000000000, 0) := by decide +kernel
theorem c_nought : hdG (V1 ⟨#[48, 115]⟩) ⟨#[48, 115]⟩ 7 0 0 0 = (2, 0) := by decide +kernel
theorem first_parse (w : World) (hU : Units w) : Calls Tryd.prog 6 #[.string ⟨#[49, 48, 48, 48, 48, 121]⟩] w fun e w' => e = .returned (.tuple #[.int .i64 315360000000000, .int .i64 0]) ∧ Below w.heap.size w w' := by
  have := parse_any ⟨#[49, 48, 48, 48, 48, 121]⟩ w hU (by decide)
  rwa [c_far] at this

set_option maxHeartbeats 2000000 in
set_option maxRecDepth 100000 in
theorem back_out (ms : Int) (w : World) (hU : Units w) (h : ms < 0 ∨ 315360000000000 < ms) : Calls Tryd.prog 3 #[.int .i64 ms] w fun e w' => e = .returned (.bool true) ∧ Below w.heap.size w w' := by
  have k0 := first_parse w hU
  have kT := fun w => text_arg ms w h
  by_cases c : ms < 0
  · clear h
    go_enter Tryd.func3, Tryd.ntmps3
    go_wp2_with fail
    go_fit k0
    rintro e w1 ⟨rfl, b1⟩
    go_wp2_with fail
    go_fit (kT _)
    rintro e w2 ⟨rfl, b2⟩
    go_wp2
    go_ret
    exact ⟨rfl, b1.trans (b2.mono b1.size)⟩
  · have c2 : 315360000000000 < ms := by omega
    clear h
    go_enter Tryd.func3, Tryd.ntmps3
    go_wp2_with fail
    go_fit k0
    rintro e w1 ⟨rfl, b1⟩
    go_wp2_with fail
    go_fit (kT _)
    rintro e w2 ⟨rfl, b2⟩
    go_wp2
    go_ret
    exact ⟨rfl, b1.trans (b2.mono b1.size)⟩

set_option maxHeartbeats 2000000 in
set_option maxRecDepth 100000 in
theorem back_zero (w : World) (hU : Units w) : Calls Tryd.prog 3 #[.int .i64 0] w fun e w' => e = .returned (.bool true) ∧ Below w.heap.size w w' := by
  have k0 := first_parse w hU
  have kT := fun w => text_zero w
  have kP : ∀ w, Units w → Calls Tryd.prog 6 #[.string ⟨#[48, 115]⟩] w fun e w' => e = .returned (.tuple #[.int .i64 0, .int .i64 0]) ∧ Below w.heap.size w w' := fun w hU => by
    have := parse_any ⟨#[48, 115]⟩ w hU (by decide)
    rwa [c_nought, show paR (⟨#[48, 115]⟩ : ByteArray).size (2, 0) = (0, 0) by decide +kernel] at this
  have kS : ∀ w, Units w → Calls Tryd.prog 8 #[.string ⟨#[48, 115]⟩] w fun e w' => e = .returned (.tuple #[.int .i64 0, .int .i64 34]) ∧ Below w.heap.size w w' := fun w hU => by
    have := step_dur ⟨#[48, 115]⟩ 0 w (by decide) (fun w hU => by
      have := duration_any ⟨#[48, 115]⟩ w hU (by decide)
      rwa [c_nought, show decide (0 < ((2 : Nat), (0 : Int)).1 ∧ ((2 : Nat), (0 : Int)).1 = (⟨#[48, 115]⟩ : ByteArray).size) = true by decide +kernel] at this) hU
    rwa [show stR 0 = (0, 34) by decide +kernel] at this
  have HU : Hid (Units w) := hU
  clear hU
  go_enter Tryd.func3, Tryd.ntmps3
  go_wp2_with fail
  go_fit k0
  rintro e w1 ⟨rfl, b1⟩
  go_wp2_with fail
  go_fit (kT _)
  rintro e w2 ⟨rfl, b2⟩
  have B2 := b1.trans (b2.mono b1.size)
  have kP1 := kP w2 (HU.out.belowS B2)
  clear kT kP k0
  go_wp2_with fail
  go_fit kP1
  rintro e w3 ⟨rfl, b3⟩
  have B3 := B2.trans (b3.mono B2.size)
  have kS1 := kS w3 (HU.out.belowS B3)
  clear kP1 kS
  go_wp2_with fail
  go_fit kS1
  rintro e w4 ⟨rfl, b4⟩
  go_wp2
  go_ret
  exact ⟨rfl, B3.trans (b4.mono B3.size)⟩

set_option maxHeartbeats 2000000 in
set_option maxRecDepth 100000 in
theorem back_in (ms : Int) (T T' : ByteArray) (w : World) (hU : Units w) (hT : Tab w) (h0 : 0 < ms) (h1 : ms ≤ 315360000000000) (hz : T.size ≤ 64) (hTT : T ++ ⟨#[45]⟩ = T')
    (kT : ∀ w, Units w → Tab w → Calls Tryd.prog 7 #[.int .i64 ms] w fun e w' => e = .returned (.tuple #[.string T, .int .i64 0]) ∧ Below w.heap.size w w')
    (kP : ∀ w, Units w → Calls Tryd.prog 6 #[.string T] w fun e w' => e = .returned (.tuple #[.int .i64 ms, .int .i64 0]) ∧ Below w.heap.size w w')
    (kS : ∀ w, Units w → Calls Tryd.prog 8 #[.string T] w fun e w' => e = .returned (.tuple #[.int .i64 ms, .int .i64 0]) ∧ Below w.heap.size w w')
    (kF : ∀ w, Units w → Calls Tryd.prog 9 #[.string T'] w fun e w' => e = .returned (.int .i64 T.size) ∧ Below w.heap.size w w') :
    Calls Tryd.prog 3 #[.int .i64 ms] w fun e w' => e = .returned (.bool true) ∧ Below w.heap.size w w' := by
  have k0 := first_parse w hU
  have f1 : ∀ w, (Op.stringOp .add T ⟨#[45]⟩).run Tryd.prog w = .ok (.string T') w := fun w => by
    rw [← hTT]
    exact run_string_add w _ _ (by omega) (by decide)
  have HU : Hid (Units w) := hU
  have HT : Hid (Tab w) := hT
  have a0 : ¬ ms < 0 := by omega
  have a1 : ¬ 315360000000000 < ms := by omega
  have a2 : (ms == 0) = false := by rw [beq_eq_false_iff_ne]; omega
  clear hU hT hTT h0 h1
  go_enter Tryd.func3, Tryd.ntmps3
  go_wp2_with fail
  go_fit k0
  rintro e w1 ⟨rfl, b1⟩
  have kT1 := kT w1 (HU.out.belowS b1) (HT.out.below b1)
  clear kT k0
  go_wp2_with fail
  go_fit kT1
  rintro e w2 ⟨rfl, b2⟩
  have B2 := b1.trans (b2.mono b1.size)
  have kP1 := kP w2 (HU.out.belowS B2)
  clear kT1 kP
  go_wp2_with fail
  go_fit kP1
  rintro e w3 ⟨rfl, b3⟩
  have B3 := B2.trans (b3.mono B2.size)
  have kS1 := kS w3 (HU.out.belowS B3)
  clear kP1 kS
  go_wp2_with fail
  go_fit kS1
  rintro e w4 ⟨rfl, b4⟩
  have B4 := B3.trans (b4.mono B3.size)
  have kF1 := kF w4 (HU.out.belowS B4)
  clear kS1 kF
  go_wp2_with fail
  go_fit kF1
  rintro e w5 ⟨rfl, b5⟩
  go_wp2
  go_ret
  exact ⟨by simp, B4.trans (b5.mono B4.size)⟩

theorem back_any (ms : Int) (w : World) (hU : Units w) (hT : Tab w) : Calls Tryd.prog 3 #[.int .i64 ms] w fun e w' => e = .returned (.bool true) ∧ Below w.heap.size w w' := by
  by_cases c : ms < 0 ∨ 315360000000000 < ms
  · exact back_out ms w hU c
  by_cases z : ms = 0
  · subst z
    exact back_zero w hU
  obtain ⟨n, rfl⟩ : ∃ n : Nat, ms = (n : Int) := ⟨ms.toNat, by omega⟩
  have h0 : 0 < n := by omega
  have h1 : n ≤ 315360000000000 := by omega
  obtain ⟨k1, k2, k3⟩ := hd_all n h0 h1
  have hl := tx_len7 n h1 7 (Nat.le_refl _)
  have hz : (mk (tx n 7)).size ≤ 49 := by rw [mk_size]; exact hl
  refine back_in n (mk (tx n 7)) (mk (tx n 7 ++ [45])) w hU hT (by omega) (by omega) (by omega) (mk_app (tx n 7) [45]) (fun w hU hT => text_any n h0 h1 w hU hT) (fun w hU => ?_) (fun w hU => ?_) (fun w hU => ?_)
  · have := parse_any (mk (tx n 7)) w hU (by omega)
    rw [k1] at this
    have e : paR (mk (tx n 7)).size ((mk (tx n 7)).size, (n : Int)) = ((n : Int), 0) := by
      unfold paR
      rw [if_neg (by omega), if_neg (fun z => z ⟨k2, rfl⟩), if_neg (by show ¬ 315360000000000 < (n : Int); omega)]
    rwa [e] at this
  · have := step_dur (mk (tx n 7)) n w (by omega) (fun w hU => by
      have := duration_any (mk (tx n 7)) w hU (by omega)
      rwa [k1, decide_eq_true (show 0 < ((mk (tx n 7)).size, (n : Int)).1 ∧ ((mk (tx n 7)).size, (n : Int)).1 = (mk (tx n 7)).size from ⟨k2, rfl⟩)] at this) hU
    have e : stR (n : Int) = ((n : Int), 0) := by
      unfold stR
      rw [if_neg (by omega), if_neg (by omega)]
    rwa [e] at this
  · have := prefixS_any (mk (tx n 7 ++ [45])) w hU (by rw [mk_size, List.length_append]; simp; omega)
    rwa [k3] at this
end Go.Proofs.YtmfeckpcnofkhabDoor
