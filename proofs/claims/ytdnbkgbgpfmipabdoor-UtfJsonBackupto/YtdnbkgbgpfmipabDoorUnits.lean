/- The escapes of a string of JSON: what they mean, and the walks of readUnits and readJsonEscape. -/
import Derived.Test.YtdnbkgbgpfmipabDoorPre
import Derived.Test.YtdnbkgbgpfmipabDoorWj
namespace Go.Proofs.YtdnbkgbgpfmipabDoor
open Go.RowKit Go.Lib

/-- The number of the second half behind the first, where it stands. -/
def halfS (e : ByteArray) : Option Int :=
  if 7 ≤ e.size ∧ bt e 5 = 92 ∧ bt e 6 = 117 then (match num (e.extract 7 e.size) 4 16 with | some m => if 56320 ≤ m ∧ m < 57344 then some m else none | none => none) else none
/-- An escape u. -/
def unitsS (e : ByteArray) : Option (List Int × Nat) :=
  match num (e.extract 1 e.size) 4 16 with
  | some n => if 55296 ≤ n ∧ n < 56320 then (match halfS e with | some m => some (formL (65536 + (n - 55296) * 1024 + (m - 56320)), 11) | none => none) else runeS e 4
  | none => none
def jmeans (c : Int) : Int := if c = 98 then 8 else if c = 116 then 9 else if c = 110 then 10 else if c = 102 then 12 else if c = 114 then 13 else -1
/-- What the escape at the head of a text means in a string of JSON, and its length. -/
def jescS (e : ByteArray) : Option (List Int × Nat) :=
  if bt e 0 = 117 then unitsS e else if bt e 0 = 34 ∨ bt e 0 = 92 ∨ bt e 0 = 47 then some ([bt e 0], 1) else if 0 ≤ jmeans (bt e 0) then some ([jmeans (bt e 0)], 1) else none

theorem num_size (s : ByteArray) (k : Nat) (base r : Int) (h : num s k base = some r) : k ≤ s.size := by
  unfold num at h
  split at h
  · cases h
  · omega
theorem prefix_bu (T : ByteArray) : ((⟨#[92, 117]⟩ : ByteArray).size ≤ T.size ∧ T.extract 0 (⟨#[92, 117]⟩ : ByteArray).size = ⟨#[92, 117]⟩) ↔ 2 ≤ T.size ∧ bt T 0 = 92 ∧ bt T 1 = 117 := by
  have hs : (⟨#[92, 117]⟩ : ByteArray).size = 2 := rfl
  rw [hs]
  constructor
  · rintro ⟨h1, h2⟩
    have := (extract_nums T 0 [92, 117] (by simpa using h1) (by decide)).1 h2
    exact ⟨h1, this 0 (by decide), this 1 (by decide)⟩
  · rintro ⟨h1, h2, h3⟩
    refine ⟨h1, (extract_nums T 0 [92, 117] (by simpa using h1) (by decide)).2 ?_⟩
    intro j hj
    match j, hj with
    | 0, _ => exact h2
    | 1, _ => exact h3
theorem ext_ext (e : ByteArray) (a b : Nat) (h : a + b ≤ e.size) : (e.extract a e.size).extract b (e.extract a e.size).size = e.extract (a + b) e.size := suffix_suffix e a b h

set_option maxHeartbeats 4000000 in
set_option maxRecDepth 100000 in
theorem readUnits_none (v : Value) (e : ByteArray) (w : World) (hp : 1 ≤ e.size) (h : unitsS e = none) :
    Calls Tryd.prog 56 #[v, .string e] w fun r w' => r = .returned (.tuple #[v, .int .i64 0]) ∧ Below w.heap.size w w' := by
  have kn := number_any (e.extract 1 e.size) 4 16 w (Or.inr rfl) (by omega)
  have hpi : (1 : Int) ≤ e.size := by omega
  unfold unitsS at h
  cases hn : num (e.extract 1 e.size) 4 16 with
  | none =>
    rw [hn] at kn
    have kn' : Calls Tryd.prog 72 #[.string (e.extract 1 e.size), .int .i64 4, .int .u32 16] w fun r w' => r = .returned (.tuple #[.int .u32 0, .bool false]) ∧ Below w.heap.size w w' := kn
    have hrs : runeS e 4 = none := by unfold runeS; rw [hn]
    have kr := fun w1 => readRune_none v e 4 w1 (by omega) hp hrs
    have kr' : ∀ w1, Calls Tryd.prog 59 #[v, .string e, .int .i64 4] w1 fun r w' => r = .returned (.tuple #[v, .int .i64 0]) ∧ Below w1.heap.size w1 w' := kr
    clear kn kr hrs hn h
    go_enter Tryd.func56, Tryd.ntmps56
    go_wp2_with (first | (go_at_call 72; go_fit kn'; rintro x w1 ⟨rfl, hb1⟩) | (go_at_call 59; go_fit (kr' _); rintro x w2 ⟨rfl, hb2⟩))
    go_ret2
    exact ⟨rfl, hb1.trans (hb2.mono hb1.size)⟩
  | some n =>
    rw [hn] at kn h
    have kn' : Calls Tryd.prog 72 #[.string (e.extract 1 e.size), .int .i64 4, .int .u32 16] w fun r w' => r = .returned (.tuple #[.int .u32 n, .bool true]) ∧ Below w.heap.size w w' := kn
    have hsz := num_size _ 4 16 n hn
    have h1s : (e.extract 1 e.size).size = e.size - 1 := by simp
    have hbd := num_bd _ 4 16 (Or.inr rfl) (by omega) n hn
    obtain ⟨hn0, hn1⟩ := hbd
    clear kn hn
    by_cases hc : 55296 ≤ n ∧ n < 56320
    · simp only [if_pos hc] at h
      obtain ⟨c1, c2⟩ := hc
      have c3 : ¬ 56320 ≤ n := by omega
      have c4 : ¬ n < 55296 := by omega
      have h5 : 5 ≤ e.size := by omega
      have h5i : (5 : Int) ≤ e.size := by omega
      have hT : (e.extract 5 e.size).size = e.size - 5 := by simp
      have b0 : bt (e.extract 5 e.size) 0 = bt e 5 := by rw [bt_extract]
      have b1 : bt (e.extract 5 e.size) 1 = bt e 6 := by rw [bt_extract]
      have hpre := prefix_bu (e.extract 5 e.size)
      rw [b0, b1] at hpre
      have hhalf : halfS e = none := by
        cases hh : halfS e with
        | none => rfl
        | some m => rw [hh] at h; cases h
      clear h
      unfold halfS at hhalf
      by_cases hq : 7 ≤ e.size ∧ bt e 5 = 92 ∧ bt e 6 = 117
      · rw [if_pos hq] at hhalf
        have hp2 := hpre.2 ⟨by omega, hq.2.1, hq.2.2⟩
        have kc := fun w1 => cutPrefix_yes (e.extract 5 e.size) ⟨#[92, 117]⟩ w1 hp2.1 hp2.2
        rw [show (⟨#[92, 117]⟩ : ByteArray).size = 2 from rfl, ext_ext e 5 2 (by omega)] at kc
        have kn2 := fun w1 => number_any (e.extract 7 e.size) 4 16 w1 (Or.inr rfl) (by omega)
        clear hpre hp2 b0 b1 hT h1s hsz
        cases hm : num (e.extract 7 e.size) 4 16 with
        | none =>
          rw [hm] at kn2
          have kn3 : ∀ w1, Calls Tryd.prog 72 #[.string (e.extract 7 e.size), .int .i64 4, .int .u32 16] w1 fun r w' => r = .returned (.tuple #[.int .u32 0, .bool false]) ∧ Below w1.heap.size w1 w' := kn2
          clear kn2 hm hhalf hq
          go_enter Tryd.func56, Tryd.ntmps56
          go_wp2_with fail
          go_fit kn'
          rintro x w1 ⟨rfl, hb1⟩
          go_wp2_with (first | (go_at_call 73; go_fit (kc _); rintro x w2 ⟨rfl, rfl⟩) | (go_at_call 72; go_fit (kn3 _); rintro x w3 ⟨rfl, hb3⟩))
          go_ret2
          exact ⟨rfl, hb1.trans (hb3.mono hb1.size)⟩
        | some m =>
          rw [hm] at kn2 hhalf
          have kn3 : ∀ w1, Calls Tryd.prog 72 #[.string (e.extract 7 e.size), .int .i64 4, .int .u32 16] w1 fun r w' => r = .returned (.tuple #[.int .u32 m, .bool true]) ∧ Below w1.heap.size w1 w' := kn2
          have hmc : ¬ (56320 ≤ m ∧ m < 57344) := fun hmc => by simp only [if_pos hmc] at hhalf; cases hhalf
          clear kn2 hm hhalf hq
          by_cases m1 : m < 56320
          · clear hmc
            go_enter Tryd.func56, Tryd.ntmps56
            go_wp2_with fail
            go_fit kn'
            rintro x w1 ⟨rfl, hb1⟩
            go_wp2_with (first | (go_at_call 73; go_fit (kc _); rintro x w2 ⟨rfl, rfl⟩) | (go_at_call 72; go_fit (kn3 _); rintro x w3 ⟨rfl, hb3⟩))
            go_ret2
            exact ⟨rfl, hb1.trans (hb3.mono hb1.size)⟩
          · have m2 : 57344 ≤ m := by omega
            clear hmc
            go_enter Tryd.func56, Tryd.ntmps56
            go_wp2_with fail
            go_fit kn'
            rintro x w1 ⟨rfl, hb1⟩
            go_wp2_with (first | (go_at_call 73; go_fit (kc _); rintro x w2 ⟨rfl, rfl⟩) | (go_at_call 72; go_fit (kn3 _); rintro x w3 ⟨rfl, hb3⟩))
            go_ret2
            exact ⟨rfl, hb1.trans (hb3.mono hb1.size)⟩
      · have kc := fun w1 => cutPrefix_no (e.extract 5 e.size) ⟨#[92, 117]⟩ w1 (fun hx => hq (by have := hpre.1 hx; exact ⟨by omega, this.2⟩))
        have kn3 := fun w1 => number_any (e.extract 5 e.size) 4 16 w1 (Or.inr rfl) (by omega)
        clear hpre b0 b1 hT h1s hsz hhalf hq
        generalize (num (e.extract 5 e.size) 4 16).getD 0 = A at *
        generalize (num (e.extract 5 e.size) 4 16).isSome = Z at *
        have kn4 : ∀ w1, Calls Tryd.prog 72 #[.string (e.extract 5 e.size), .int .i64 4, .int .u32 16] w1 fun r w' => r = .returned (.tuple #[.int .u32 A, .bool Z]) ∧ Below w1.heap.size w1 w' := kn3
        clear kn3
        go_enter Tryd.func56, Tryd.ntmps56
        go_wp2_with fail
        go_fit kn'
        rintro x w1 ⟨rfl, hb1⟩
        go_wp2_with (first | (go_at_call 73; go_fit (kc _); rintro x w2 ⟨rfl, rfl⟩) | (go_at_call 72; go_fit (kn4 _); rintro x w3 ⟨rfl, hb3⟩))
        go_ret2
        exact ⟨rfl, hb1.trans (hb3.mono hb1.size)⟩
    · simp only [if_neg hc] at h
      have kr' : ∀ w1, Calls Tryd.prog 59 #[v, .string e, .int .i64 4] w1 fun r w' => r = .returned (.tuple #[v, .int .i64 0]) ∧ Below w1.heap.size w1 w' := fun w1 => readRune_none v e 4 w1 (by omega) hp h
      clear h h1s hsz
      by_cases c1 : n < 55296
      · clear hc
        go_enter Tryd.func56, Tryd.ntmps56
        go_wp2_with (first | (go_at_call 72; go_fit kn'; rintro x w1 ⟨rfl, hb1⟩) | (go_at_call 59; go_fit (kr' _); rintro x w2 ⟨rfl, hb2⟩))
        go_ret2
        exact ⟨rfl, hb1.trans (hb2.mono hb1.size)⟩
      · have c2 : 56320 ≤ n := by omega
        clear hc
        go_enter Tryd.func56, Tryd.ntmps56
        go_wp2_with (first | (go_at_call 72; go_fit kn'; rintro x w1 ⟨rfl, hb1⟩) | (go_at_call 59; go_fit (kr' _); rintro x w2 ⟨rfl, hb2⟩))
        go_ret2
        exact ⟨rfl, hb1.trans (hb2.mono hb1.size)⟩
end Go.Proofs.YtdnbkgbgpfmipabDoor
