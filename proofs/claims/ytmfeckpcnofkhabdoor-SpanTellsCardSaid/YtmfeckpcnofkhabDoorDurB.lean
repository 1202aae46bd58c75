/- The walks of HasPrefix, unitAt, length, and of the reference's unit. -/
import Derived.Test.YtmfeckpcnofkhabDoorDurA
namespace Go.Proofs.YtmfeckpcnofkhabDoor
open Go.RowKit

set_option maxHeartbeats 1000000 in
theorem hasPrefix_yes (s p : ByteArray) (w : World) (h : p.size ≤ s.size) (he : s.extract 0 p.size = p) :
    Calls Tryd.prog 84 #[.string s, .string p] w fun e w' => e = .returned (.bool true) ∧ w' = w := by
  have hi : (p.size : Int) ≤ s.size := by omega
  go_enter Tryd.func84, Tryd.ntmps84
  go_wp2
  go_ret
  exact ⟨by simp, rfl⟩
set_option maxHeartbeats 1000000 in
theorem hasPrefix_no (s p : ByteArray) (w : World) (h : ¬ (p.size ≤ s.size ∧ s.extract 0 p.size = p)) :
    Calls Tryd.prog 84 #[.string s, .string p] w fun e w' => e = .returned (.bool false) ∧ w' = w := by
  by_cases h1 : p.size ≤ s.size
  · have he : ¬ s.extract 0 p.size = p := fun he => h ⟨h1, he⟩
    have hb : ((s.extract 0 p.size).toList == p.toList) = false := by
      rw [beq_eq_false_iff_ne]
      intro hx
      exact he (Go.WideShapes.bytes_inj (by rw [← ByteArray.toList_eq, ← ByteArray.toList_eq]; exact hx))
    have hi : (p.size : Int) ≤ s.size := by omega
    go_enter Tryd.func84, Tryd.ntmps84
    go_wp2
    go_ret
    exact ⟨rfl, rfl⟩
  · have hi : ¬ (p.size : Int) ≤ s.size := by omega
    go_enter Tryd.func84, Tryd.ntmps84
    go_wp2
    go_ret
    exact ⟨rfl, rfl⟩
set_option maxHeartbeats 1000000 in
theorem prefix_any (s p : ByteArray) (w : World) :
    Calls Tryd.prog 66 #[.string s, .string p] w fun e w' => e = .returned (.bool (decide (p.size ≤ s.size ∧ s.extract 0 p.size = p))) ∧ w' = w := by
  by_cases h : p.size ≤ s.size ∧ s.extract 0 p.size = p
  · rw [decide_eq_true h]
    have k := fun w => hasPrefix_yes s p w h.1 h.2
    go_enter Tryd.func66, Tryd.ntmps66
    go_wp2_with (go_at_call 84; go_fit (k _); rintro x w1 ⟨rfl, rfl⟩)
    go_ret
    exact ⟨rfl, rfl⟩
  · rw [decide_eq_false h]
    have k := fun w => hasPrefix_no s p w h
    go_enter Tryd.func66, Tryd.ntmps66
    go_wp2_with (go_at_call 84; go_fit (k _); rintro x w1 ⟨rfl, rfl⟩)
    go_ret
    exact ⟨rfl, rfl⟩

theorem ba_ext {a b : ByteArray} (h : a.size = b.size) (hb : ∀ i, i < a.size → bt a i = bt b i) : a = b := by
  apply ByteArray.ext
  apply Array.ext h
  intro i h1 h2
  have := hb i h1
  unfold bt at this
  rw [get!_lt a i h1, get!_lt b i h2] at this
  show a[i]'h1 = b[i]'h2
  exact UInt8.toNat_inj.1 (Int.ofNat.inj this)
theorem Units.at1' {w : World} (h : Units w) (i : Nat) (hi : i < 7) : w.cell? ⟨0, 2 * i + 1, none⟩ = some (.int .i64 (ulen i)) := (h.2 i hi).2
theorem pre1 (s : ByteArray) (c : UInt8) : ((⟨#[c]⟩ : ByteArray).size ≤ s.size ∧ s.extract 0 (⟨#[c]⟩ : ByteArray).size = ⟨#[c]⟩) ↔ (0 < s.size ∧ bt s 0 = c.toNat) := by
  have e : (⟨#[c]⟩ : ByteArray).size = 1 := rfl
  rw [e]
  have hc : bt ⟨#[c]⟩ 0 = c.toNat := rfl
  constructor
  · rintro ⟨h1, h2⟩
    refine ⟨by omega, ?_⟩
    rw [← hc, ← h2, bt_ext s 0 1 0 (by omega) h1]
  · rintro ⟨h1, h2⟩
    refine ⟨by omega, ba_ext (by simp; omega) ?_⟩
    intro i hi
    obtain rfl : i = 0 := by simp at hi; omega
    rw [bt_ext s 0 1 0 (by omega) (by omega), hc]
    exact h2
theorem pre2 (s : ByteArray) (c d : UInt8) : ((⟨#[c, d]⟩ : ByteArray).size ≤ s.size ∧ s.extract 0 (⟨#[c, d]⟩ : ByteArray).size = ⟨#[c, d]⟩) ↔ (1 < s.size ∧ bt s 0 = c.toNat ∧ bt s 1 = d.toNat) := by
  have e : (⟨#[c, d]⟩ : ByteArray).size = 2 := rfl
  rw [e]
  have hc : bt ⟨#[c, d]⟩ 0 = c.toNat := rfl
  have hd : bt ⟨#[c, d]⟩ 1 = d.toNat := rfl
  constructor
  · rintro ⟨h1, h2⟩
    refine ⟨by omega, ?_, ?_⟩
    · rw [← hc, ← h2, bt_ext s 0 2 0 (by omega) h1]
    · rw [← hd, ← h2, bt_ext s 0 2 1 (by omega) h1]
  · rintro ⟨h1, h2, h3⟩
    refine ⟨by omega, ba_ext (by simp; omega) ?_⟩
    intro i hi
    obtain rfl | rfl : i = 0 ∨ i = 1 := by simp at hi; omega
    · rw [bt_ext s 0 2 0 (by omega) (by omega), hc]; exact h2
    · rw [bt_ext s 0 2 1 (by omega) (by omega), hd]; exact h3

/-- Does a unit's name stand at the head? -/
def preU (s : ByteArray) : Nat → Prop
  | 0 => 0 < s.size ∧ bt s 0 = 121 | 1 => 0 < s.size ∧ bt s 0 = 119 | 2 => 0 < s.size ∧ bt s 0 = 100 | 3 => 0 < s.size ∧ bt s 0 = 104
  | 4 => 0 < s.size ∧ bt s 0 = 109 | 5 => 0 < s.size ∧ bt s 0 = 115 | _ => 1 < s.size ∧ bt s 0 = 109 ∧ bt s 1 = 115
theorem preU_iff (s : ByteArray) (u : Nat) (hu : u < 7) : ((uname u).size ≤ s.size ∧ s.extract 0 (uname u).size = uname u) ↔ preU s u := by
  have : u = 0 ∨ u = 1 ∨ u = 2 ∨ u = 3 ∨ u = 4 ∨ u = 5 ∨ u = 6 := by omega
  rcases this with rfl | rfl | rfl | rfl | rfl | rfl | rfl
  · exact pre1 s 121
  · exact pre1 s 119
  · exact pre1 s 100
  · exact pre1 s 104
  · exact pre1 s 109
  · exact pre1 s 115
  · exact pre2 s 109 115
theorem prefixU_t (s : ByteArray) (u : Nat) (hu : u < 7) (h : preU s u) (w : World) : Calls Tryd.prog 66 #[.string s, .string (uname u)] w fun e w' => e = .returned (.bool true) ∧ w' = w := by
  have := prefix_any s (uname u) w
  rwa [decide_eq_true ((preU_iff s u hu).2 h)] at this
theorem prefixU_f (s : ByteArray) (u : Nat) (hu : u < 7) (h : ¬ preU s u) (w : World) : Calls Tryd.prog 66 #[.string s, .string (uname u)] w fun e w' => e = .returned (.bool false) ∧ w' = w := by
  have := prefix_any s (uname u) w
  rwa [decide_eq_false (fun x => h ((preU_iff s u hu).1 x))] at this
theorem uAt_pre (s : ByteArray) (u : Nat) (hu : u < 7) (h : preU s u) (hn : ∀ v, u < v → v < 7 → ¬ preU s v) : uAt s 0 = u := by
  have h6 := hn 6
  have : u = 0 ∨ u = 1 ∨ u = 2 ∨ u = 3 ∨ u = 4 ∨ u = 5 ∨ u = 6 := by omega
  unfold uAt
  rcases this with rfl | rfl | rfl | rfl | rfl | rfl | rfl
  all_goals simp only [preU] at h h6
  · simp [h.1, h.2]
  · simp [h.1, h.2]
  · simp [h.1, h.2]
  · simp [h.1, h.2]
  · simp [h.1, h.2]
    intro a b
    exact h6 (by omega) (by omega) ⟨a, h.2, b⟩
  · simp [h.1, h.2]
  · simp [h.1, h.2.1, h.2.2, show 0 < s.size by omega]
theorem uAt_none (s : ByteArray) (hn : ∀ v, v < 7 → ¬ preU s v) : uAt s 0 = 7 := by
  unfold uAt
  by_cases h : 0 < s.size
  · rw [if_pos h]
    have a0 := hn 0 (by omega)
    have a1 := hn 1 (by omega)
    have a2 := hn 2 (by omega)
    have a3 := hn 3 (by omega)
    have a4 := hn 4 (by omega)
    have a5 := hn 5 (by omega)
    simp only [preU, h, true_and] at a0 a1 a2 a3 a4 a5
    rw [if_neg a0, if_neg a1, if_neg a2, if_neg a3, if_neg a4, if_neg a5]
  · rw [if_neg h]

/-- What unitAt tells: the unit, and whether there is one. -/
def uI (u : Nat) : Int := if u < 7 then (u : Int) else 0
def uB (u : Nat) : Bool := decide (u < 7)
set_option maxHeartbeats 2000000 in
theorem unitAt_any (s : ByteArray) (w : World) (hU : Units w) : Calls Tryd.prog 45 #[.string s] w fun e w' => e = .returned (.tuple #[.int .i64 (uI (uAt s 0)), .bool (uB (uAt s 0))]) ∧ w' = w := by
  generalize hO : uAt s 0 = O
  generalize hA : uI O = A
  generalize hB : uB O = B
  have HO : Hid (uAt s 0 = O) := hO
  have HA : Hid (uI O = A) := hA
  have HB : Hid (uB O = B) := hB
  clear hO hA hB
  have HU : Hid (Units w) := hU
  clear hU
  go_enter Tryd.func45, Tryd.ntmps45
  go_wp2
  go_loop [4] (fun t => ∃ u : Int, t = .int .i64 u ∧ -1 ≤ u ∧ u ≤ 6 ∧ ∀ v : Nat, u < v → v < 7 → ¬ preU s v) (fun t => (RowKit.intOf t + 1).toNat)
  case atStart => exact ⟨6, rfl, by omega, by omega, fun v h1 h2 => by omega⟩
  case round =>
    obtain ⟨u, rfl, u0, u1, hn⟩ := hrel
    have HN : Hid (∀ v : Nat, u < v → v < 7 → ¬ preU s v) := hn
    clear hn
    have hu : u = 6 ∨ u = 5 ∨ u = 4 ∨ u = 3 ∨ u = 2 ∨ u = 1 ∨ u = 0 ∨ u = -1 := by omega
    clear u0 u1
    rcases hu with rfl | rfl | rfl | rfl | rfl | rfl | rfl | rfl
    · have c : w.cell? ⟨0, 12, none⟩ = some (.string (uname 6)) := (HU.out.2 6 (by omega)).1
      by_cases q : preU s 6
      · have k := prefixU_t s 6 (by omega) q
        have HE : Hid (O = 6) := by show _ = _; rw [← HO.out]; exact uAt_pre s 6 (by omega) q (fun v h1 h2 => HN.out v (by omega) h2)
        go_wp2_with fail
        go_fit (k _)
        rintro e w' ⟨rfl, rfl⟩
        clear k
        go_wp2
        go_ret2
        exact ⟨by rw [← HA.out, ← HB.out, HE.out]; rfl, rfl⟩
      · have k := prefixU_f s 6 (by omega) q
        have HE : Hid (¬ preU s 6) := q
        go_wp2_with fail
        go_fit (k _)
        rintro e w' ⟨rfl, rfl⟩
        clear k q
        go_wp2
        exact ⟨⟨5, by go_num, by omega, by omega, fun v h1 h2 => by
          by_cases e : v = 6
          · subst e; exact HE.out
          · exact HN.out v (by omega) h2⟩, by simp [RowKit.intOf]⟩
    · have c : w.cell? ⟨0, 10, none⟩ = some (.string (uname 5)) := (HU.out.2 5 (by omega)).1
      by_cases q : preU s 5
      · have k := prefixU_t s 5 (by omega) q
        have HE : Hid (O = 5) := by show _ = _; rw [← HO.out]; exact uAt_pre s 5 (by omega) q (fun v h1 h2 => HN.out v (by omega) h2)
        go_wp2_with fail
        go_fit (k _)
        rintro e w' ⟨rfl, rfl⟩
        clear k
        go_wp2
        go_ret2
        exact ⟨by rw [← HA.out, ← HB.out, HE.out]; rfl, rfl⟩
      · have k := prefixU_f s 5 (by omega) q
        have HE : Hid (¬ preU s 5) := q
        go_wp2_with fail
        go_fit (k _)
        rintro e w' ⟨rfl, rfl⟩
        clear k q
        go_wp2
        exact ⟨⟨4, by go_num, by omega, by omega, fun v h1 h2 => by
          by_cases e : v = 5
          · subst e; exact HE.out
          · exact HN.out v (by omega) h2⟩, by simp [RowKit.intOf]⟩
    · have c : w.cell? ⟨0, 8, none⟩ = some (.string (uname 4)) := (HU.out.2 4 (by omega)).1
      by_cases q : preU s 4
      · have k := prefixU_t s 4 (by omega) q
        have HE : Hid (O = 4) := by show _ = _; rw [← HO.out]; exact uAt_pre s 4 (by omega) q (fun v h1 h2 => HN.out v (by omega) h2)
        go_wp2_with fail
        go_fit (k _)
        rintro e w' ⟨rfl, rfl⟩
        clear k
        go_wp2
        go_ret2
        exact ⟨by rw [← HA.out, ← HB.out, HE.out]; rfl, rfl⟩
      · have k := prefixU_f s 4 (by omega) q
        have HE : Hid (¬ preU s 4) := q
        go_wp2_with fail
        go_fit (k _)
        rintro e w' ⟨rfl, rfl⟩
        clear k q
        go_wp2
        exact ⟨⟨3, by go_num, by omega, by omega, fun v h1 h2 => by
          by_cases e : v = 4
          · subst e; exact HE.out
          · exact HN.out v (by omega) h2⟩, by simp [RowKit.intOf]⟩
    · have c : w.cell? ⟨0, 6, none⟩ = some (.string (uname 3)) := (HU.out.2 3 (by omega)).1
      by_cases q : preU s 3
      · have k := prefixU_t s 3 (by omega) q
        have HE : Hid (O = 3) := by show _ = _; rw [← HO.out]; exact uAt_pre s 3 (by omega) q (fun v h1 h2 => HN.out v (by omega) h2)
        go_wp2_with fail
        go_fit (k _)
        rintro e w' ⟨rfl, rfl⟩
        clear k
        go_wp2
        go_ret2
        exact ⟨by rw [← HA.out, ← HB.out, HE.out]; rfl, rfl⟩
      · have k := prefixU_f s 3 (by omega) q
        have HE : Hid (¬ preU s 3) := q
        go_wp2_with fail
        go_fit (k _)
        rintro e w' ⟨rfl, rfl⟩
        clear k q
        go_wp2
        exact ⟨⟨2, by go_num, by omega, by omega, fun v h1 h2 => by
          by_cases e : v = 3
          · subst e; exact HE.out
          · exact HN.out v (by omega) h2⟩, by simp [RowKit.intOf]⟩
    · have c : w.cell? ⟨0, 4, none⟩ = some (.string (uname 2)) := (HU.out.2 2 (by omega)).1
      by_cases q : preU s 2
      · have k := prefixU_t s 2 (by omega) q
        have HE : Hid (O = 2) := by show _ = _; rw [← HO.out]; exact uAt_pre s 2 (by omega) q (fun v h1 h2 => HN.out v (by omega) h2)
        go_wp2_with fail
        go_fit (k _)
        rintro e w' ⟨rfl, rfl⟩
        clear k
        go_wp2
        go_ret2
        exact ⟨by rw [← HA.out, ← HB.out, HE.out]; rfl, rfl⟩
      · have k := prefixU_f s 2 (by omega) q
        have HE : Hid (¬ preU s 2) := q
        go_wp2_with fail
        go_fit (k _)
        rintro e w' ⟨rfl, rfl⟩
        clear k q
        go_wp2
        exact ⟨⟨1, by go_num, by omega, by omega, fun v h1 h2 => by
          by_cases e : v = 2
          · subst e; exact HE.out
          · exact HN.out v (by omega) h2⟩, by simp [RowKit.intOf]⟩
    · have c : w.cell? ⟨0, 2, none⟩ = some (.string (uname 1)) := (HU.out.2 1 (by omega)).1
      by_cases q : preU s 1
      · have k := prefixU_t s 1 (by omega) q
        have HE : Hid (O = 1) := by show _ = _; rw [← HO.out]; exact uAt_pre s 1 (by omega) q (fun v h1 h2 => HN.out v (by omega) h2)
        go_wp2_with fail
        go_fit (k _)
        rintro e w' ⟨rfl, rfl⟩
        clear k
        go_wp2
        go_ret2
        exact ⟨by rw [← HA.out, ← HB.out, HE.out]; rfl, rfl⟩
      · have k := prefixU_f s 1 (by omega) q
        have HE : Hid (¬ preU s 1) := q
        go_wp2_with fail
        go_fit (k _)
        rintro e w' ⟨rfl, rfl⟩
        clear k q
        go_wp2
        exact ⟨⟨0, by go_num, by omega, by omega, fun v h1 h2 => by
          by_cases e : v = 1
          · subst e; exact HE.out
          · exact HN.out v (by omega) h2⟩, by simp [RowKit.intOf]⟩
    · have c : w.cell? ⟨0, 0, none⟩ = some (.string (uname 0)) := (HU.out.2 0 (by omega)).1
      by_cases q : preU s 0
      · have k := prefixU_t s 0 (by omega) q
        have HE : Hid (O = 0) := by show _ = _; rw [← HO.out]; exact uAt_pre s 0 (by omega) q (fun v h1 h2 => HN.out v (by omega) h2)
        go_wp2_with fail
        go_fit (k _)
        rintro e w' ⟨rfl, rfl⟩
        clear k
        go_wp2
        go_ret2
        exact ⟨by rw [← HA.out, ← HB.out, HE.out]; rfl, rfl⟩
      · have k := prefixU_f s 0 (by omega) q
        have HE : Hid (¬ preU s 0) := q
        go_wp2_with fail
        go_fit (k _)
        rintro e w' ⟨rfl, rfl⟩
        clear k q
        go_wp2
        exact ⟨⟨-1, by go_num, by omega, by omega, fun v h1 h2 => by
          by_cases e : v = 0
          · subst e; exact HE.out
          · exact HN.out v (by omega) h2⟩, by simp [RowKit.intOf]⟩
    · have HE : Hid (O = 7) := by show _ = _; rw [← HO.out]; exact uAt_none s (fun v h2 => HN.out v (by omega) h2)
      go_wp2
      go_ret2
      exact ⟨by rw [← HA.out, ← HB.out, HE.out]; rfl, rfl⟩

set_option maxHeartbeats 1000000 in
theorem length_any (s : ByteArray) (u : Nat) (w : World) (hU : Units w) (hs : s.size ≤ 140737488355328) (hd : ∀ i, i < s.size → isD s i) (hu : u < 7) : Calls Tryd.prog 44 #[.string s, .int .i64 u] w fun e w' => e = .returned (.int .i64 (min (vl s s.size) (315360000000000 / ulen u + 1) * ulen u)) ∧ w' = w := by
  have hv := vl_nn s hd s.size (Nat.le_refl _)
  have : u = 0 ∨ u = 1 ∨ u = 2 ∨ u = 3 ∨ u = 4 ∨ u = 5 ∨ u = 6 := by omega
  rcases this with rfl | rfl | rfl | rfl | rfl | rfl | rfl
  · have c : w.cell? ⟨0, 1, none⟩ = some (.int .i64 31536000000) := hU.at1' 0 (by omega)
    have k := fun w => upTo_any s 10001 w hs hd (by omega) (by omega)
    show Calls Tryd.prog 44 #[.string s, .int .i64 0] w fun e w' => e = .returned (.int .i64 (min (vl s s.size) 10001 * 31536000000)) ∧ w' = w
    generalize vl s s.size = V at *
    clear hd hU
    go_enter Tryd.func44, Tryd.ntmps44
    go_wp2_with fail
    go_fit (k _)
    rintro e w' ⟨rfl, rfl⟩
    clear k
    go_wp2
    go_ret
    exact ⟨rfl, rfl⟩
  · have c : w.cell? ⟨0, 3, none⟩ = some (.int .i64 604800000) := hU.at1' 1 (by omega)
    have k := fun w => upTo_any s 521429 w hs hd (by omega) (by omega)
    show Calls Tryd.prog 44 #[.string s, .int .i64 1] w fun e w' => e = .returned (.int .i64 (min (vl s s.size) 521429 * 604800000)) ∧ w' = w
    generalize vl s s.size = V at *
    clear hd hU
    go_enter Tryd.func44, Tryd.ntmps44
    go_wp2_with fail
    go_fit (k _)
    rintro e w' ⟨rfl, rfl⟩
    clear k
    go_wp2
    go_ret
    exact ⟨rfl, rfl⟩
  · have c : w.cell? ⟨0, 5, none⟩ = some (.int .i64 86400000) := hU.at1' 2 (by omega)
    have k := fun w => upTo_any s 3650001 w hs hd (by omega) (by omega)
    show Calls Tryd.prog 44 #[.string s, .int .i64 2] w fun e w' => e = .returned (.int .i64 (min (vl s s.size) 3650001 * 86400000)) ∧ w' = w
    generalize vl s s.size = V at *
    clear hd hU
    go_enter Tryd.func44, Tryd.ntmps44
    go_wp2_with fail
    go_fit (k _)
    rintro e w' ⟨rfl, rfl⟩
    clear k
    go_wp2
    go_ret
    exact ⟨rfl, rfl⟩
  · have c : w.cell? ⟨0, 7, none⟩ = some (.int .i64 3600000) := hU.at1' 3 (by omega)
    have k := fun w => upTo_any s 87600001 w hs hd (by omega) (by omega)
    show Calls Tryd.prog 44 #[.string s, .int .i64 3] w fun e w' => e = .returned (.int .i64 (min (vl s s.size) 87600001 * 3600000)) ∧ w' = w
    generalize vl s s.size = V at *
    clear hd hU
    go_enter Tryd.func44, Tryd.ntmps44
    go_wp2_with fail
    go_fit (k _)
    rintro e w' ⟨rfl, rfl⟩
    clear k
    go_wp2
    go_ret
    exact ⟨rfl, rfl⟩
  · have c : w.cell? ⟨0, 9, none⟩ = some (.int .i64 60000) := hU.at1' 4 (by omega)
    have k := fun w => upTo_any s 5256000001 w hs hd (by omega) (by omega)
    show Calls Tryd.prog 44 #[.string s, .int .i64 4] w fun e w' => e = .returned (.int .i64 (min (vl s s.size) 5256000001 * 60000)) ∧ w' = w
    generalize vl s s.size = V at *
    clear hd hU
    go_enter Tryd.func44, Tryd.ntmps44
    go_wp2_with fail
    go_fit (k _)
    rintro e w' ⟨rfl, rfl⟩
    clear k
    go_wp2
    go_ret
    exact ⟨rfl, rfl⟩
  · have c : w.cell? ⟨0, 11, none⟩ = some (.int .i64 1000) := hU.at1' 5 (by omega)
    have k := fun w => upTo_any s 315360000001 w hs hd (by omega) (by omega)
    show Calls Tryd.prog 44 #[.string s, .int .i64 5] w fun e w' => e = .returned (.int .i64 (min (vl s s.size) 315360000001 * 1000)) ∧ w' = w
    generalize vl s s.size = V at *
    clear hd hU
    go_enter Tryd.func44, Tryd.ntmps44
    go_wp2_with fail
    go_fit (k _)
    rintro e w' ⟨rfl, rfl⟩
    clear k
    go_wp2
    go_ret
    exact ⟨rfl, rfl⟩
  · have c : w.cell? ⟨0, 13, none⟩ = some (.int .i64 1) := hU.at1' 6 (by omega)
    have k := fun w => upTo_any s 315360000000001 w hs hd (by omega) (by omega)
    show Calls Tryd.prog 44 #[.string s, .int .i64 6] w fun e w' => e = .returned (.int .i64 (min (vl s s.size) 315360000000001 * 1)) ∧ w' = w
    generalize vl s s.size = V at *
    clear hd hU
    go_enter Tryd.func44, Tryd.ntmps44
    go_wp2_with fail
    go_fit (k _)
    rintro e w' ⟨rfl, rfl⟩
    clear k
    go_wp2
    go_ret
    exact ⟨by rw [Int.mul_one]; rfl, rfl⟩

/-- What the reference's unit tells: its bytes, its ms, its rank. -/
def uR (u : Nat) : Int × Int × Int := if u < 7 then ((uw u : Int), ulen u, (u : Int) + 1) else (0, 0, 0)
set_option maxHeartbeats 2000000 in
theorem runit_any (s : ByteArray) (j : Nat) (w : World) (hs : s.size ≤ 140737488355328) (hj : j ≤ s.size) : Calls Tryd.prog 34 #[.string s, .int .i64 j] w fun e w' => e = .returned (.tuple #[.int .i64 (uR (uAt s j)).1, .int .i64 (uR (uAt s j)).2.1, .int .i64 (uR (uAt s j)).2.2]) ∧ w' = w := by
  by_cases hlt : j < s.size
  · have hx := bt_at s j hlt
    have hli : ¬ (s.size : Int) ≤ j := by omega
    by_cases m1 : bt s j = 109
    · by_cases m2 : j + 1 < s.size ∧ bt s (j + 1) = 115
      · have e : uAt s j = 6 := by unfold uAt; simp [hlt, m1, m2]
        rw [e]
        obtain ⟨l2, m3⟩ := m2
        have hx2 := bt_at s (j + 1) l2
        have hl2 : (j : Int) + 1 < s.size := by omega
        rw [m1] at hx
        rw [m3] at hx2
        clear e m3 m1
        go_enter Tryd.func34, Tryd.ntmps34
        go_wp2
        go_ret3
        exact ⟨rfl, rfl⟩
      · have e : uAt s j = 4 := by unfold uAt; simp [hlt, m1, m2]
        rw [e]
        rw [m1] at hx
        clear e m1
        by_cases l2 : j + 1 < s.size
        · have hx2 := bt_at s (j + 1) l2
          have hl2 : (j : Int) + 1 < s.size := by omega
          have n2 : ¬ bt s (j + 1) = 115 := fun h => m2 ⟨l2, h⟩
          clear m2
          go_enter Tryd.func34, Tryd.ntmps34
          go_wp2
          go_ret3
          exact ⟨rfl, rfl⟩
        · have hl2 : ¬ (j : Int) + 1 < s.size := by omega
          clear m2
          go_enter Tryd.func34, Tryd.ntmps34
          go_wp2
          go_ret3
          exact ⟨rfl, rfl⟩
    · by_cases c0 : bt s j = 121
      · have e : uAt s j = 0 := by unfold uAt; simp [hlt, c0]
        rw [e]; rw [c0] at hx; clear e c0 m1
        go_enter Tryd.func34, Tryd.ntmps34
        go_wp2
        go_ret3
        exact ⟨rfl, rfl⟩
      · by_cases c1 : bt s j = 119
        · have e : uAt s j = 1 := by unfold uAt; simp [hlt, c1]
          rw [e]; rw [c1] at hx; clear e c1 c0 m1
          go_enter Tryd.func34, Tryd.ntmps34
          go_wp2
          go_ret3
          exact ⟨rfl, rfl⟩
        · by_cases c2 : bt s j = 100
          · have e : uAt s j = 2 := by unfold uAt; simp [hlt, c2]
            rw [e]; rw [c2] at hx; clear e c2 c1 c0 m1
            go_enter Tryd.func34, Tryd.ntmps34
            go_wp2
            go_ret3
            exact ⟨rfl, rfl⟩
          · by_cases c3 : bt s j = 104
            · have e : uAt s j = 3 := by unfold uAt; simp [hlt, c3]
              rw [e]; rw [c3] at hx; clear e c3 c2 c1 c0 m1
              go_enter Tryd.func34, Tryd.ntmps34
              go_wp2
              go_ret3
              exact ⟨rfl, rfl⟩
            · by_cases c5 : bt s j = 115
              · have e : uAt s j = 5 := by unfold uAt; simp [hlt, c5]
                rw [e]; rw [c5] at hx; clear e c5 c3 c2 c1 c0 m1
                go_enter Tryd.func34, Tryd.ntmps34
                go_wp2
                go_ret3
                exact ⟨rfl, rfl⟩
              · have e : uAt s j = 7 := by unfold uAt; rw [if_pos hlt, if_neg c0, if_neg c1, if_neg c2, if_neg c3, if_neg m1, if_neg c5]
                rw [e]; clear e
                generalize bt s j = q at *
                go_enter Tryd.func34, Tryd.ntmps34
                go_wp2
                go_ret3
                exact ⟨rfl, rfl⟩
  · have e : uAt s j = 7 := by unfold uAt; rw [if_neg hlt]
    rw [e]
    have hli : (s.size : Int) ≤ j := by omega
    go_enter Tryd.func34, Tryd.ntmps34
    go_wp2
    go_ret3
    exact ⟨rfl, rfl⟩
end Go.Proofs.YtmfeckpcnofkhabDoor
