/- The walks of readUnits and readJsonEscape where an escape stands. -/
import Derived.Test.YtdnbkgbgpfmipabDoorUnits
namespace Go.Proofs.YtdnbkgbgpfmipabDoor
open Go.RowKit Go.Lib

set_option maxHeartbeats 4000000 in
set_option maxRecDepth 100000 in
theorem readUnits_some (S : Nat) (v : Value) (l xs : List Int) (c : Nat) (e : ByteArray) (w : World) (hp : 1 ≤ e.size)
    (hS : S ≤ w.heap.size) (hn : l.length + 4 ≤ 140737488355328) (o : w.ownsRow S 5 1 v l.length (bc l)) (h : unitsS e = some (xs, c)) :
    Calls Tryd.prog 56 #[v, .string e] w fun r w' => ∃ v', r = .returned (.tuple #[v', .int .i64 c]) ∧ w'.ownsRow S 5 1 v' (l ++ xs).length (bc (l ++ xs)) ∧ Below S w w' := by
  have kn := number_any (e.extract 1 e.size) 4 16 w (Or.inr rfl) (by omega)
  have hpi : (1 : Int) ≤ e.size := by omega
  unfold unitsS at h
  cases hn1 : num (e.extract 1 e.size) 4 16 with
  | none => rw [hn1] at h; cases h
  | some n =>
    rw [hn1] at kn h
    have kn' : Calls Tryd.prog 72 #[.string (e.extract 1 e.size), .int .i64 4, .int .u32 16] w fun r w' => r = .returned (.tuple #[.int .u32 n, .bool true]) ∧ Below w.heap.size w w' := kn
    have hsz := num_size _ 4 16 n hn1
    have h1s : (e.extract 1 e.size).size = e.size - 1 := by simp
    obtain ⟨hn0, hn2⟩ := num_bd _ 4 16 (Or.inr rfl) (by omega) n hn1
    clear kn hn1
    by_cases hc : 55296 ≤ n ∧ n < 56320
    · simp only [if_pos hc] at h
      obtain ⟨c1, c2⟩ := hc
      have c3 : ¬ 56320 ≤ n := by omega
      have c4 : ¬ n < 55296 := by omega
      have h5i : (5 : Int) ≤ e.size := by omega
      have b0 : bt (e.extract 5 e.size) 0 = bt e 5 := by rw [bt_extract]
      have b1 : bt (e.extract 5 e.size) 1 = bt e 6 := by rw [bt_extract]
      have hT : (e.extract 5 e.size).size = e.size - 5 := by simp
      have hpre := prefix_bu (e.extract 5 e.size)
      rw [b0, b1] at hpre
      cases hh : halfS e with
      | none => rw [hh] at h; cases h
      | some m =>
        rw [hh] at h
        simp only [Option.some.injEq, Prod.mk.injEq] at h
        obtain ⟨rfl, rfl⟩ := h
        unfold halfS at hh
        by_cases hq : 7 ≤ e.size ∧ bt e 5 = 92 ∧ bt e 6 = 117
        · rw [if_pos hq] at hh
          have hp2 := hpre.2 ⟨by omega, hq.2.1, hq.2.2⟩
          have kc := fun w1 => cutPrefix_yes (e.extract 5 e.size) ⟨#[92, 117]⟩ w1 hp2.1 hp2.2
          rw [show (⟨#[92, 117]⟩ : ByteArray).size = 2 from rfl, ext_ext e 5 2 (by omega)] at kc
          have kn2 := fun w1 => number_any (e.extract 7 e.size) 4 16 w1 (Or.inr rfl) (by omega)
          cases hm : num (e.extract 7 e.size) 4 16 with
          | none => rw [hm] at hh; cases hh
          | some m2 =>
            rw [hm] at kn2 hh
            simp only at hh
            by_cases hmc : 56320 ≤ m2 ∧ m2 < 57344
            · rw [if_pos hmc] at hh
              obtain rfl : m2 = m := Option.some.inj hh
              obtain ⟨m1, m3⟩ := hmc
              have m4 : ¬ m2 < 56320 := by omega
              have m5 : ¬ 57344 ≤ m2 := by omega
              have kn3 : ∀ w1, Calls Tryd.prog 72 #[.string (e.extract 7 e.size), .int .i64 4, .int .u32 16] w1 fun r w' => r = .returned (.tuple #[.int .u32 m2, .bool true]) ∧ Below w1.heap.size w1 w' := kn2
              have hr : isRune (65536 + (n - 55296) * 1024 + (m2 - 56320)) = true := (isRune_iff _).2 (by omega)
              have ka := fun (w1 : World) (hb1 : Below w.heap.size w w1) => Tryd.utf8_AppendRune_plain S v l.length (bc l) (65536 + (n - 55296) * 1024 + (m2 - 56320)) (by omega) (by omega) w1 (owns_below o hb1) hn (Nat.le_trans hS hb1.size)
              simp only [runeCells_eq _ hr, ← bc_app, bc_len, ← List.length_append] at ka
              have HOL : Hid (∀ j, v.ownBlock = some j → S ≤ j) := fun j hj => (o.lt j hj).1
              clear kn2 hm hh hq hpre hp2 b0 b1 hT o hr h1s hsz
              go_enter Tryd.func56, Tryd.ntmps56
              go_wp2_with fail
              go_fit kn'
              rintro x w1 ⟨rfl, hb1⟩
              go_wp2_with fail
              go_fit (kc _)
              rintro x w2 ⟨rfl, rfl⟩
              go_wp2_with fail
              go_fit (kn3 _)
              rintro x w3 ⟨rfl, hb3⟩
              have hb4 : Below w.heap.size w w3 := hb1.trans (hb3.mono hb1.size)
              have ka1 := ka w3 hb4
              clear ka
              go_wp2_with fail
              go_fit ka1
              rintro x w5 ⟨v', rfl, o1, ob, g⟩
              have hb5 : Below S w w5 := (hb4.mono hS).trans (((Below.refl S w3).alloc (Nat.le_trans hS hb4.size) ob).grown g (by have := hb4.size; simp; omega) HOL.out)
              clear g
              go_wp2
              go_ret2
              exact ⟨v', rfl, o1, hb5⟩
            · rw [if_neg hmc] at hh; cases hh
        · rw [if_neg hq] at hh; cases hh
    · simp only [if_neg hc] at h
      have HR : Hid (∀ w1, Below w.heap.size w w1 → Calls Tryd.prog 59 #[v, .string e, .int .i64 4] w1 fun r w' => ∃ v', r = .returned (.tuple #[v', .int .i64 c]) ∧ w'.ownsRow S 5 1 v' (l ++ xs).length (bc (l ++ xs)) ∧ Below S w1 w') :=
        fun w1 hb1 => readRune_some S v l xs c e 4 w1 (by omega) hp (Nat.le_trans hS hb1.size) hn (owns_below o hb1) h
      clear h h1s hsz o
      by_cases c1 : n < 55296
      · clear hc
        go_enter Tryd.func56, Tryd.ntmps56
        go_wp2_with fail
        go_fit kn'
        rintro x w1 ⟨rfl, hb1⟩
        have kr := HR.out w1 hb1
        go_wp2_with (go_at_call 59; go_fit kr; rintro x w2 ⟨v', rfl, o2, hb2⟩)
        go_ret2
        exact ⟨v', rfl, o2, (hb1.mono hS).trans hb2⟩
      · have c2 : 56320 ≤ n := by omega
        clear hc
        go_enter Tryd.func56, Tryd.ntmps56
        go_wp2_with fail
        go_fit kn'
        rintro x w1 ⟨rfl, hb1⟩
        have kr := HR.out w1 hb1
        go_wp2_with (go_at_call 59; go_fit kr; rintro x w2 ⟨v', rfl, o2, hb2⟩)
        go_ret2
        exact ⟨v', rfl, o2, (hb1.mono hS).trans hb2⟩
end Go.Proofs.YtdnbkgbgpfmipabDoor
