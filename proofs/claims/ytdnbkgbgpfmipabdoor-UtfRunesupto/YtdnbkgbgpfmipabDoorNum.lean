/- The walks of digit and number. -/
import Derived.Test.YtdnbkgbgpfmipabDoorLit
import Derived.Test.YtdnbkgbgpfmipabDoorValid
namespace Go.Proofs.YtdnbkgbgpfmipabDoor
open Go.RowKit Go.Lib

/-- A hexadecimal digit's value; 16: none. -/
def dg (r : Int) : Int := if 48 ≤ r ∧ r ≤ 57 then r - 48 else if 97 ≤ r ∧ r ≤ 102 then r - 87 else if 65 ≤ r ∧ r ≤ 70 then r - 55 else 16
theorem dg_bd (r : Int) : 0 ≤ dg r ∧ dg r ≤ 16 := by unfold dg; repeat' split
                                                     all_goals omega
theorem dg_high (r : Int) (h : 128 ≤ r) : dg r = 16 := by unfold dg; rw [if_neg (by omega), if_neg (by omega), if_neg (by omega)]

set_option maxHeartbeats 1000000 in
theorem digit_any (r : Int) (w : World) (hr0 : -2147483648 ≤ r) (hr1 : r ≤ 2147483647) : Calls Tryd.prog 79 #[.int .i32 r] w fun e w' => e = .returned (.int .u32 (dg r)) ∧ w' = w := by
  by_cases a1 : 48 ≤ r ∧ r ≤ 57
  · have e1 : dg r = r - 48 := by unfold dg; rw [if_pos a1]
    rw [e1]
    obtain ⟨b1, b2⟩ := a1
    clear e1
    go_enter Tryd.func79, Tryd.ntmps79
    go_wp2
    go_ret
    exact ⟨rfl, rfl⟩
  · by_cases a2 : 97 ≤ r ∧ r ≤ 102
    · have e1 : dg r = r - 97 + 10 := by unfold dg; rw [if_neg a1, if_pos a2]; omega
      rw [e1]
      obtain ⟨b1, b2⟩ := a2
      have c1 : 48 ≤ r := by omega
      have c2 : ¬ r ≤ 57 := by omega
      clear e1 a1
      go_enter Tryd.func79, Tryd.ntmps79
      go_wp2
      go_ret
      exact ⟨rfl, rfl⟩
    · by_cases a3 : 65 ≤ r ∧ r ≤ 70
      · have e1 : dg r = r - 65 + 10 := by unfold dg; rw [if_neg a1, if_neg a2, if_pos a3]; omega
        rw [e1]
        obtain ⟨b1, b2⟩ := a3
        have c1 : 48 ≤ r := by omega
        have c2 : ¬ r ≤ 57 := by omega
        have c3 : ¬ 97 ≤ r := by omega
        clear e1 a1 a2
        go_enter Tryd.func79, Tryd.ntmps79
        go_wp2
        go_ret
        exact ⟨rfl, rfl⟩
      · have e1 : dg r = 16 := by unfold dg; rw [if_neg a1, if_neg a2, if_neg a3]
        rw [e1]
        clear e1
        by_cases d1 : 48 ≤ r
        · have d2 : ¬ r ≤ 57 := by omega
          by_cases d3 : 97 ≤ r
          · have d4 : ¬ r ≤ 102 := by omega
            have d5 : 65 ≤ r := by omega
            have d6 : ¬ r ≤ 70 := by omega
            clear a1 a2 a3
            go_enter Tryd.func79, Tryd.ntmps79
            go_wp2
            go_ret
            exact ⟨rfl, rfl⟩
          · by_cases d5 : 65 ≤ r
            · have d6 : ¬ r ≤ 70 := by omega
              clear a1 a2 a3
              go_enter Tryd.func79, Tryd.ntmps79
              go_wp2
              go_ret
              exact ⟨rfl, rfl⟩
            · clear a1 a2 a3
              go_enter Tryd.func79, Tryd.ntmps79
              go_wp2
              go_ret
              exact ⟨rfl, rfl⟩
        · have d3 : ¬ 97 ≤ r := by omega
          have d5 : ¬ 65 ≤ r := by omega
          clear a1 a2 a3
          go_enter Tryd.func79, Tryd.ntmps79
          go_wp2
          go_ret
          exact ⟨rfl, rfl⟩

/-- The number that digits of a base tell, from what is known on; none: one of them is no digit of it. -/
def numA (s : ByteArray) (base : Int) : Nat → Nat → Int → Option Int
  | 0, _, acc => some acc
  | k + 1, i, acc => if dg (bt s i) < base then numA s base k (i + 1) (acc * base + dg (bt s i)) else none
/-- The number that k digits of a base at the head of a text tell. -/
def num (s : ByteArray) (k : Nat) (base : Int) : Option Int := if s.size < k then none else numA s base k 0 0

theorem numA_bd (s : ByteArray) (base : Int) (hb : base = 8 ∨ base = 16) : ∀ (k i : Nat) (acc X : Int), 0 ≤ acc → acc < X → ∀ r, numA s base k i acc = some r → 0 ≤ r ∧ r < X * 16 ^ k
  | 0, _, acc, X, h0, h1, r, h => by simp [numA] at h; subst h; simp; omega
  | k + 1, i, acc, X, h0, h1, r, h => by
    unfold numA at h
    split at h
    · rename_i hd
      have hq := dg_bd (bt s i)
      have := numA_bd s base hb k (i + 1) (acc * base + dg (bt s i)) (X * 16) (by rcases hb with rfl | rfl <;> omega) (by rcases hb with rfl | rfl <;> omega) r h
      rw [Int.pow_succ]
      constructor
      · exact this.1
      · have e : X * (16 ^ k * 16) = X * 16 * 16 ^ k := by rw [Int.mul_comm (16 ^ k) 16, Int.mul_assoc]
        rw [e]; exact this.2
    · cases h

theorem decode_ascii_at (s : ByteArray) (i : Nat) (_h : i < s.size) (ha : bt s i < 128) : Utf8.decode s i = ((bt s i).toNat, 1) := by
  rw [decode_at]
  have hb : bt s i = ((s.get! i).toNat : Int) := rfl
  unfold decodeN
  rw [if_pos (by omega), hb]
  simp
theorem decode_high_at (s : ByteArray) (i : Nat) (h : i < s.size) (ha : 128 ≤ bt s i) : 128 ≤ ((Utf8.decode s i).1 : Int) ∧ ((Utf8.decode s i).1 : Int) ≤ 2147483647 := by
  have hx := bt_at s i h
  have h1 := decode_high s i h (by omega)
  have h2 := decode_le s i
  omega

theorem pow16 (p : Nat) (h : p ≤ 7) : (16 : Int) ^ p ≤ 268435456 := by
  match p, h with
  | 0, _ => decide
  | 1, _ => decide
  | 2, _ => decide
  | 3, _ => decide
  | 4, _ => decide
  | 5, _ => decide
  | 6, _ => decide
  | 7, _ => decide
theorem numA_step (s : ByteArray) (base : Int) (k p : Nat) (acc : Int) (h : p < k) (hd : dg (bt s p) < base) : numA s base (k - p) p acc = numA s base (k - (p + 1)) (p + 1) (acc * base + dg (bt s p)) := by
  obtain ⟨m, hm⟩ : ∃ m, k - p = m + 1 := ⟨k - p - 1, by omega⟩
  rw [hm, show k - (p + 1) = m by omega, numA, if_pos hd]
theorem numA_none (s : ByteArray) (base : Int) (k p : Nat) (acc : Int) (h : p < k) (hd : ¬ dg (bt s p) < base) : numA s base (k - p) p acc = none := by
  obtain ⟨m, hm⟩ : ∃ m, k - p = m + 1 := ⟨k - p - 1, by omega⟩
  rw [hm, numA, if_neg hd]

set_option maxHeartbeats 2000000 in
set_option maxRecDepth 100000 in
theorem number_ok (s : ByteArray) (k : Nat) (base : Int) (w : World) (hb : base = 8 ∨ base = 16) (hk : k ≤ 8) (hs : k ≤ s.size) :
    Calls Tryd.prog 72 #[.string s, .int .i64 k, .int .u32 base] w fun e w' => e = .returned (.tuple #[.int .u32 ((numA s base k 0 0).getD 0), .bool (numA s base k 0 0).isSome]) ∧ Below w.heap.size w w' := by
  have hxs : (s.extract 0 k).size = k := by simp; omega
  have hbt : ∀ i, i < k → bt (s.extract 0 k) i = bt s i := fun i hi => by
    unfold bt
    rw [get!_lt _ i (by omega), get!_lt s i (by omega), ByteArray.getElem_extract]
    simp
  have hki : ¬ (s.size : Int) < k := by omega
  have HBT : Hid (∀ i, i < k → bt (s.extract 0 k) i = bt s i) := hbt
  generalize hO : numA s base k 0 0 = O
  have HO : Hid (numA s base k 0 0 = O) := hO
  have HB : Hid (base = 8 ∨ base = 16) := hb
  have hb0 : 0 ≤ base := by omega
  have hb1 : base ≤ 16 := by omega
  clear hO hbt hb
  generalize hT : s.extract 0 k = T at *
  go_enter Tryd.func72, Tryd.ntmps72
  go_wp2
  go_loopw [8] (fun n w' => ∃ (pos : Nat) (acc : Int), w'.heap[w.heap.size]? = some (.stringIter T pos) ∧ Below w.heap.size w w' ∧ n = .int .u32 acc ∧ pos ≤ k ∧ 0 ≤ acc ∧ acc < 16 ^ pos ∧ numA s base (k - pos) pos acc = O) (fun _ w' => k - w'.iterPos w.heap.size)
  case atStart => exact ⟨0, 0, World.iter_heap w T 0, (Below.refl _ _).alloc (Nat.le_refl _) _, rfl, by omega, by omega, by decide, HO.out⟩
  case round =>
    obtain ⟨pos, acc, hkk, hbw, rfl, hpk, ha0, ha1, hv⟩ := hrel
    have HV : Hid (numA s base (k - pos) pos acc = O) := hv
    have HP : Hid (acc < 16 ^ pos) := ha1
    clear hv ha1
    by_cases hp : pos < k
    · have hnx : ∀ ty, (Instr.next (.pointer (some ⟨w.heap.size, 0, none⟩)) true ty).run Tryd.prog wr = _ := fun ty => run_next_any_at wr w.heap.size T pos ty hkk (by omega)
      have hb1' : Below w.heap.size w (wr.iterAt w.heap.size T (pos + (Utf8.decode T pos).2)) := below_iterAt hbw (Nat.le_refl _) _ _
      have hk1 := iterAt_heap wr w.heap.size T pos (pos + (Utf8.decode T pos).2) hkk
      have hbs := HBT.out pos hp
      have hbd := bt_bd s pos
      by_cases hasc : bt s pos < 128
      · have hdec := decode_ascii_at T pos (by omega) (by rw [hbs]; exact hasc)
        rw [hbs] at hdec
        rw [hdec] at hnx hb1' hk1
        have hcast : (((bt s pos).toNat : Nat) : Int) = bt s pos := by omega
        simp only [hcast] at hnx
        have kd := fun w' => digit_any (bt s pos) w' (by omega) (by omega)
        have hdb := dg_bd (bt s pos)
        have hst := numA_step s base k pos acc hp
        have hno := numA_none s base k pos acc hp
        generalize wr.iterAt w.heap.size T (pos + 1) = W at *
        generalize dg (bt s pos) = d at *
        generalize bt s pos = c at *
        have HW1 : Hid (W.heap[w.heap.size]? = some (.stringIter T (pos + 1))) := hk1
        have HW2 : Hid (wr.heap[w.heap.size]? = some (.stringIter T pos)) := hkk
        have hacc : acc ≤ 268435455 := by have h1 := HP.out; have h2 := pow16 pos (by omega); omega
        obtain ⟨hd0, hd1⟩ := hdb
        clear hk1 hkk hdec hcast hbs hbd
        by_cases hdl : d < base
        · have HE : Hid (numA s base (k - pos) pos acc = numA s base (k - (pos + 1)) (pos + 1) (acc * base + d)) := hst hdl
          have tg : ¬ base ≤ d := by omega
          clear hst hno
          rcases HB.out with rfl | rfl
          all_goals
            go_wp2_with (go_at_call 79; go_fit (kd _); rintro e w3 ⟨rfl, rfl⟩)
            go_roundw
            case rel => exact ⟨pos + 1, _, HW1.out, hb1', rfl, by omega, by omega, by have h1 := HP.out; rw [Int.pow_succ]; omega, by rw [← HE.out]; exact HV.out⟩
            case measure =>
              rw [iterPos_at HW2.out, iterPos_at HW1.out]
              omega
        · have HE : Hid (O = none) := by show _ = _; rw [← HV.out]; exact hno hdl
          have tg : base ≤ d := by omega
          clear hst hno
          go_wp2_with (go_at_call 79; go_fit (kd _); rintro e w3 ⟨rfl, rfl⟩)
          go_ret2
          exact ⟨by rw [HE.out]; rfl, hb1'⟩
      · have hhi := decode_high_at T pos (by omega) (by rw [hbs]; omega)
        have hdh := dg_high _ hhi.1
        have kd := fun w' => digit_any ((Utf8.decode T pos).1 : Int) w' (by omega) hhi.2
        rw [hdh] at kd
        have HE : Hid (O = none) := by
          show _ = _
          rw [← HV.out]
          exact numA_none s base k pos acc hp (by rw [dg_high _ (by omega)]; omega)
        generalize wr.iterAt w.heap.size T (pos + (Utf8.decode T pos).2) = W at *
        generalize (Utf8.decode T pos).1 = R at *
        have tg : base ≤ 16 := hb1
        clear hk1 hkk hdh hbs hbd
        go_wp2_with (go_at_call 79; go_fit (kd _); rintro e w3 ⟨rfl, rfl⟩)
        go_ret2
        exact ⟨by rw [HE.out]; rfl, hb1'⟩
    · have hpe : pos = k := by omega
      have HE : Hid (O = some acc) := by
        show _ = _
        rw [← HV.out, hpe, Nat.sub_self]; rfl
      have hnx : ∀ ty, (Instr.next (.pointer (some ⟨w.heap.size, 0, none⟩)) true ty).run Tryd.prog wr = _ := fun ty => run_next_end_at wr w.heap.size T pos ty hkk (by omega)
      clear hkk hpe
      go_wp2
      go_ret2
      exact ⟨by rw [HE.out]; rfl, hbw⟩

set_option maxHeartbeats 400000 in
theorem number_short (s : ByteArray) (k : Nat) (base : Int) (w : World) (hs : s.size < k) :
    Calls Tryd.prog 72 #[.string s, .int .i64 k, .int .u32 base] w fun e w' => e = .returned (.tuple #[.int .u32 0, .bool false]) ∧ Below w.heap.size w w' := by
  have h : (s.size : Int) < k := by omega
  go_enter Tryd.func72, Tryd.ntmps72
  go_wp2
  go_ret2
  exact ⟨rfl, Below.refl _ _⟩

theorem number_any (s : ByteArray) (k : Nat) (base : Int) (w : World) (hb : base = 8 ∨ base = 16) (hk : k ≤ 8) :
    Calls Tryd.prog 72 #[.string s, .int .i64 k, .int .u32 base] w fun e w' => e = .returned (.tuple #[.int .u32 ((num s k base).getD 0), .bool (num s k base).isSome]) ∧ Below w.heap.size w w' := by
  unfold num
  by_cases h : s.size < k
  · rw [if_pos h]; exact number_short s k base w h
  · rw [if_neg h]; exact number_ok s k base w hb hk (by omega)
theorem num_bd (s : ByteArray) (k : Nat) (base : Int) (hb : base = 8 ∨ base = 16) (hk : k ≤ 8) (r : Int) (h : num s k base = some r) : 0 ≤ r ∧ r ≤ 4294967295 := by
  unfold num at h
  split at h
  · cases h
  · have := numA_bd s base hb k 0 0 1 (by omega) (by omega) r h
    have h2 : (16 : Int) ^ k ≤ 4294967296 := by
      rcases Nat.lt_or_ge k 8 with h8 | h8
      · have := pow16 k (by omega); omega
      · have : k = 8 := by omega
        rw [this]; decide
    omega
end Go.Proofs.YtdnbkgbgpfmipabDoor
