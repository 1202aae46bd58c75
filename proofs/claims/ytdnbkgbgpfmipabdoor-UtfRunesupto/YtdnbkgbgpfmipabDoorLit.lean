/- The walks of closing and Literal, and of the reference's Literal. -/
import Derived.Test.YtdnbkgbgpfmipabDoorGuess
import Derived.Lib.IndexLaws
namespace Go.Proofs.YtdnbkgbgpfmipabDoor
open Go.RowKit Go.Lib

/-- From a place on: the place behind the quote that closes; none, if the line or the text ends sooner. 'esc': a backslash takes up what stands behind it, and no newline is let by. -/
def litF (s : ByteArray) (q : Int) (esc : Bool) : Nat → Nat → Option Nat
  | 0, _ => none
  | f + 1, i => if i < s.size then (if bt s i = q then some (i + 1) else if esc = true ∧ bt s i = 10 then none
      else if esc = true ∧ bt s i = 92 then (if i + 1 < s.size ∧ bt s (i + 1) = 10 then none else litF s q esc f (i + 2)) else litF s q esc f (i + 1)) else none
theorem litF_end (s : ByteArray) (q : Int) (e : Bool) (f i : Nat) (h : ¬ i < s.size) : litF s q e f i = none := by
  cases f with
  | zero => rfl
  | succ f => unfold litF; rw [if_neg h]
theorem litF_le (s : ByteArray) (q : Int) (e : Bool) : ∀ (f i j : Nat), litF s q e f i = some j → i < j ∧ j ≤ s.size
  | 0, _, _, h => by cases h
  | f + 1, i, j, h => by
    unfold litF at h
    split at h
    · split at h
      · simp at h; omega
      · split at h
        · cases h
        · split at h
          · split at h
            · cases h
            · have := litF_le s q e f (i + 2) j h; omega
          · have := litF_le s q e f (i + 1) j h; omega
    · cases h
theorem bt_extract (s : ByteArray) (a i : Nat) : bt (s.extract a s.size) i = bt s (a + i) := by unfold bt; rw [get!_extract]
/-- The same in what is left of a text. -/
theorem litF_from (s : ByteArray) (q : Int) (e : Bool) (a : Nat) (ha : a ≤ s.size) : ∀ (f i : Nat), litF (s.extract a s.size) q e f i = (litF s q e f (a + i)).map (· - a)
  | 0, _ => rfl
  | f + 1, i => by
    have hsz : (s.extract a s.size).size = s.size - a := by simp
    unfold litF
    rw [bt_extract, bt_extract, litF_from s q e a ha f, litF_from s q e a ha f, hsz]
    have e1 : (i < s.size - a) = (a + i < s.size) := propext ⟨fun _ => by omega, fun _ => by omega⟩
    have e2 : (i + 1 < s.size - a) = (a + i + 1 < s.size) := propext ⟨fun _ => by omega, fun _ => by omega⟩
    simp only [e1, e2]
    rw [show a + (i + 1) = a + i + 1 by omega, show a + (i + 2) = a + i + 2 by omega]
    repeat' split
    all_goals first | rfl | (simp; omega)

theorem litF_fuel (s : ByteArray) (q : Int) (e : Bool) : ∀ (f g i : Nat), s.size ≤ i + f → s.size ≤ i + g → litF s q e f i = litF s q e g i
  | 0, g, i, h, _ => by rw [litF_end s q e g i (by omega), litF_end s q e 0 i (by omega)]
  | f + 1, 0, i, _, h => by rw [litF_end s q e (f + 1) i (by omega), litF_end s q e 0 i (by omega)]
  | f + 1, g + 1, i, h, k => by
    unfold litF
    rw [litF_fuel s q e f g (i + 1) (by omega) (by omega), litF_fuel s q e f g (i + 2) (by omega) (by omega)]

/-- A place, or -1. -/
def orNeg (o : Option Nat) : Int := match o with | some j => (j : Int) | none => -1

theorem litF_q (s : ByteArray) (q : Int) (e : Bool) (f i : Nat) (h : i < s.size) (hf : 0 < f) (hq : bt s i = q) : litF s q e f i = some (i + 1) := by
  obtain ⟨g, rfl⟩ : ∃ g, f = g + 1 := ⟨f - 1, by omega⟩
  unfold litF; rw [if_pos h, if_pos hq]
theorem litF_nl (s : ByteArray) (q : Int) (f i : Nat) (hq : bt s i ≠ q) (hn : bt s i = 10) : litF s q true f i = none := by
  cases f with
  | zero => rfl
  | succ f =>
    unfold litF
    by_cases h : i < s.size
    · rw [if_pos h, if_neg hq, if_pos ⟨rfl, hn⟩]
    · rw [if_neg h]
theorem litF_bsnl (s : ByteArray) (q : Int) (f i : Nat) (h1 : i + 1 < s.size) (hq : bt s i ≠ q) (hb : bt s i = 92) (hn : bt s (i + 1) = 10) : litF s q true f i = none := by
  cases f with
  | zero => rfl
  | succ f => unfold litF; rw [if_pos (by omega), if_neg hq, if_neg (by omega), if_pos ⟨rfl, hb⟩, if_pos ⟨h1, hn⟩]
theorem litF_bs (s : ByteArray) (q : Int) (f i : Nat) (h : i < s.size) (hf : 0 < f) (hq : bt s i ≠ q) (hb : bt s i = 92) (hn : ¬ (i + 1 < s.size ∧ bt s (i + 1) = 10)) : litF s q true f i = litF s q true (f - 1) (i + 2) := by
  obtain ⟨g, rfl⟩ : ∃ g, f = g + 1 := ⟨f - 1, by omega⟩
  rw [litF, if_pos h, if_neg hq, if_neg (by omega), if_pos ⟨rfl, hb⟩, if_neg hn]; rfl
theorem litF_go (s : ByteArray) (q : Int) (e : Bool) (f i : Nat) (h : i < s.size) (hf : 0 < f) (hq : bt s i ≠ q) (h1 : ¬ (e = true ∧ bt s i = 10)) (h2 : ¬ (e = true ∧ bt s i = 92)) : litF s q e f i = litF s q e (f - 1) (i + 1) := by
  obtain ⟨g, rfl⟩ : ∃ g, f = g + 1 := ⟨f - 1, by omega⟩
  rw [litF, if_pos h, if_neg hq, if_neg h1, if_neg h2]; rfl

set_option maxHeartbeats 1000000 in
theorem closing_any (s : ByteArray) (q : Int) (w : World) (hs : s.size ≤ 140737488355328) :
    Calls Tryd.prog 44 #[.string s, .int .u8 q] w fun e w' => e = .returned (.int .i64 (orNeg ((litF s q true s.size 0).map (· - 1)))) ∧ w' = w := by
  generalize hR : orNeg ((litF s q true s.size 0).map (· - 1)) = R
  have HR : Hid (orNeg ((litF s q true s.size 0).map (· - 1)) = R) := hR
  clear hR
  go_enter Tryd.func44, Tryd.ntmps44
  go_wp2
  go_loop [5] (fun t => ∃ i f : Nat, t = .int .i64 i ∧ i ≤ s.size + 1 ∧ litF s q true f i = litF s q true s.size 0 ∧ s.size ≤ i + f) (fun t => s.size + 2 - (RowKit.intOf t).toNat)
  case atStart => exact ⟨0, s.size, rfl, by omega, rfl, by omega⟩
  case round =>
    obtain ⟨i, f, rfl, hi, hv, hf⟩ := hrel
    have HV : Hid (litF s q true f i = litF s q true s.size 0) := hv
    clear hv
    by_cases hlt : i < s.size
    · have hli : (i : Int) < s.size := by omega
      have hx := bt_at s i hlt
      by_cases hq : bt s i = q
      · have hb : (bt s i == q) = true := by rw [beq_iff_eq]; exact hq
        have HE : Hid (R = (i : Int)) := by
          show _ = _
          rw [← HR.out, ← HV.out, litF_q s q true f i hlt (by omega) hq]
          simp [orNeg]
        clear hq
        go_wp2
        go_ret
        exact ⟨by rw [HE.out]; rfl, rfl⟩
      · have hb : (bt s i == q) = false := by rw [beq_eq_false_iff_ne]; exact hq
        by_cases hbs : bt s i = 92
        · have hb2 : (bt s i == 92) = true := by rw [beq_iff_eq]; exact hbs
          by_cases hnx : i + 1 < s.size
          · have hli2 : (i : Int) + 1 < s.size := by omega
            have hx2 := bt_at s (i + 1) hnx
            by_cases hnl : bt s (i + 1) = 10
            · have hb3 : (bt s (i + 1) == 10) = true := by rw [beq_iff_eq]; exact hnl
              have HE : Hid (R = -1) := by
                show _ = _
                rw [← HR.out, ← HV.out, litF_bsnl s q f i hnx hq hbs hnl]
                rfl
              clear hq hbs hnl
              go_wp2
              go_ret
              exact ⟨by rw [HE.out]; rfl, rfl⟩
            · have hb3 : (bt s (i + 1) == 10) = false := by rw [beq_eq_false_iff_ne]; exact hnl
              have HE : Hid (litF s q true f i = litF s q true (f - 1) (i + 2)) := litF_bs s q f i hlt (by omega) hq hbs (fun h => hnl h.2)
              clear hq hbs hnl
              go_wp2
              go_round
              case rel => exact ⟨i + 2, f - 1, by go_num, by omega, by rw [← HE.out]; exact HV.out, by omega⟩
              case measure => simp [RowKit.intOf]; omega
          · have hli2 : ¬ (i : Int) + 1 < s.size := by omega
            have HE : Hid (litF s q true f i = litF s q true (f - 1) (i + 2)) := litF_bs s q f i hlt (by omega) hq hbs (fun h => hnx h.1)
            clear hq hbs
            go_wp2
            go_round
            case rel => exact ⟨i + 2, f - 1, by go_num, by omega, by rw [← HE.out]; exact HV.out, by omega⟩
            case measure => simp [RowKit.intOf]; omega
        · have hb2 : (bt s i == 92) = false := by rw [beq_eq_false_iff_ne]; exact hbs
          by_cases hnl : bt s i = 10
          · have hb3 : (bt s i == 10) = true := by rw [beq_iff_eq]; exact hnl
            have HE : Hid (R = -1) := by
              show _ = _
              rw [← HR.out, ← HV.out, litF_nl s q f i hq hnl]
              rfl
            clear hq hbs hnl
            go_wp2
            go_ret
            exact ⟨by rw [HE.out]; rfl, rfl⟩
          · have hb3 : (bt s i == 10) = false := by rw [beq_eq_false_iff_ne]; exact hnl
            have HE : Hid (litF s q true f i = litF s q true (f - 1) (i + 1)) := litF_go s q true f i hlt (by omega) hq (fun h => hnl h.2) (fun h => hbs h.2)
            clear hq hbs hnl
            go_wp2
            go_round
            case rel => exact ⟨i + 1, f - 1, by go_num, by omega, by rw [← HE.out]; exact HV.out, by omega⟩
            case measure => simp [RowKit.intOf]; omega
    · have HE : Hid (R = -1) := by
        show _ = _
        rw [← HR.out, ← HV.out, litF_end s q true f i hlt]
        rfl
      go_wp2
      go_ret
      exact ⟨by rw [HE.out]; rfl, rfl⟩

theorem data_at (s : ByteArray) (k : Nat) (h : k < s.size) : s.data.toList[k]? = some (s.get! k) := by
  rw [get!_lt s k h]
  have : k < s.data.toList.length := by simpa using h
  rw [List.getElem?_eq_getElem this]
  rfl
theorem data_drop (s : ByteArray) (k : Nat) (h : k < s.size) : s.data.toList.drop k = s.get! k :: s.data.toList.drop (k + 1) := by
  have hk : k < s.data.toList.length := by simpa using h
  rw [List.drop_eq_getElem_cons hk]
  congr 1
  have := data_at s k h
  rw [List.getElem?_eq_getElem hk] at this
  exact Option.some.inj this
theorem data_drop_end (s : ByteArray) (k : Nat) (h : ¬ k < s.size) : s.data.toList.drop k = [] := by
  apply List.drop_of_length_le
  have : s.data.toList.length = s.size := by simp
  omega
theorem litF_index (s : ByteArray) (q : Int) (c : UInt8) (hc : (c.toNat : Int) = q) : ∀ (f i : Nat), s.size ≤ i + f → orNeg ((litF s q false f i).map (· - 1 - i)) = Lib.indexByte (s.data.toList.drop i) c
  | 0, i, h => by rw [litF_end s q false 0 i (by omega), data_drop_end s i (by omega)]; rfl
  | f + 1, i, h => by
    by_cases hl : i < s.size
    · rw [data_drop s i hl]
      unfold Lib.indexByte
      have ih := litF_index s q c hc f (i + 1) (by omega)
      by_cases hq : bt s i = q
      · rw [litF_q s q false (f + 1) i hl (by omega) hq]
        have hb : (s.get! i == c) = true := by
          rw [beq_iff_eq]
          apply UInt8.toNat_inj.1
          have : bt s i = ((s.get! i).toNat : Int) := rfl
          omega
        rw [if_pos hb]
        simp [orNeg]
      · have hb : (s.get! i == c) = false := by
          rw [beq_eq_false_iff_ne]
          intro hx
          apply hq
          show ((s.get! i).toNat : Int) = q
          rw [hx]; exact hc
        rw [litF_go s q false (f + 1) i hl (by omega) hq (fun h => by cases h.1) (fun h => by cases h.1), if_neg (by rw [hb]; exact Bool.false_ne_true), ← ih]
        show orNeg (Option.map (fun x => x - 1 - i) (litF s q false f (i + 1))) = _
        cases ho : litF s q false f (i + 1) with
        | none => rfl
        | some j =>
          have hj := litF_le s q false f (i + 1) j ho
          show ((j - 1 - i : Nat) : Int) = _
          have hne : (((j - 1 - (i + 1) : Nat) : Int) == -1) = false := by rw [beq_eq_false_iff_ne]; omega
          show ((j - 1 - i : Nat) : Int) = if (((j - 1 - (i + 1) : Nat) : Int) == -1) = true then -1 else ((j - 1 - (i + 1) : Nat) : Int) + 1
          rw [hne, if_neg Bool.false_ne_true]
          omega
    · rw [litF_end s q false (f + 1) i hl, data_drop_end s i hl]; rfl

def litO (o : Option Nat) : Int × Int := match o with | some j => ((j : Int), 0) | none => (0, 10)
/-- What Literal answers. -/
def litR (s : ByteArray) (i : Nat) : Int × Int :=
  if i < s.size ∧ (bt s i = 34 ∨ bt s i = 39 ∨ bt s i = 96) then litO (litF s (bt s i) (decide (bt s i ≠ 96)) s.size (i + 1)) else (0, 10)
def litZ (s : ByteArray) (a : Int) : Int × Int := if 0 ≤ a then litR s a.toNat else (0, 10)

theorem closing_from (s : ByteArray) (q : Int) (i : Nat) (w : World) (hs : s.size ≤ 140737488355328) (hi : i < s.size) :
    Calls Tryd.prog 44 #[.string (s.extract (i + 1) s.size), .int .u8 q] w fun e w' => e = .returned (.int .i64 (orNeg ((litF s q true s.size (i + 1)).map (· - (i + 1) - 1)))) ∧ w' = w := by
  have h := closing_any (s.extract (i + 1) s.size) q w (by simp; omega)
  rw [litF_from s q true (i + 1) (by omega), Nat.add_zero, litF_fuel s q true _ s.size (i + 1) (by simp; omega) (by omega), Option.map_map] at h
  exact h
theorem index_from (s : ByteArray) (i : Nat) (w : World) (hi : i < s.size) :
    Calls Tryd.prog 43 #[.string (s.extract (i + 1) s.size), .int .u8 96] w fun e w' => e = .returned (.int .i64 (orNeg ((litF s 96 false s.size (i + 1)).map (· - (i + 1) - 1)))) ∧ w' = w := by
  have h := Tryd.strings_IndexByte (s.extract (i + 1) s.size) 96 w
  have hd : (s.extract (i + 1) s.size).data.toList = s.data.toList.drop (i + 1) := by
    rw [Lib.extract_data]
    apply List.take_of_length_le
    have : s.data.toList.length = s.size := by simp
    rw [List.length_drop]; omega
  rw [hd, ← litF_index s 96 _ rfl s.size (i + 1) (by omega)] at h
  have e1 : (litF s 96 false s.size (i + 1)).map (· - 1 - (i + 1)) = (litF s 96 false s.size (i + 1)).map (· - (i + 1) - 1) := by
    congr 1; funext x; omega
  rw [e1] at h
  exact h

set_option maxHeartbeats 1000000 in
theorem literal_out (s : ByteArray) (a : Int) (w : World) (h : a < 0 ∨ (s.size : Int) ≤ a) :
    Calls Tryd.prog 20 #[.string s, .int .i64 a] w fun e w' => e = .returned (.tuple #[.int .i64 0, .int .i64 10]) ∧ w' = w := by
  rcases h with h | h
  · go_enter Tryd.func20, Tryd.ntmps20
    go_wp2
    go_ret2
    exact ⟨rfl, rfl⟩
  · have h0 : ¬ a < 0 := by omega
    go_enter Tryd.func20, Tryd.ntmps20
    go_wp2
    go_ret2
    exact ⟨rfl, rfl⟩

set_option maxHeartbeats 1000000 in
theorem literal_in (s : ByteArray) (i : Nat) (w : World) (hs : s.size ≤ 140737488355328) (hi : i < s.size) :
    Calls Tryd.prog 20 #[.string s, .int .i64 i] w fun e w' => e = .returned (.tuple #[.int .i64 (litR s i).1, .int .i64 (litR s i).2]) ∧ w' = w := by
  have h0 : ¬ (i : Int) < 0 := by omega
  have h1 : ¬ (s.size : Int) ≤ i := by omega
  have hx := bt_at s i hi
  have hbb := bt_bd s i
  have kc := fun q => closing_from s q i w hs hi
  have ki := index_from s i w hi
  have hR : litR s i = if (bt s i = 34 ∨ bt s i = 39 ∨ bt s i = 96) then litO (litF s (bt s i) (decide (bt s i ≠ 96)) s.size (i + 1)) else (0, 10) := by
    unfold litR; simp only [hi, true_and]
  have hle := fun q e j => litF_le s q e s.size (i + 1) j
  generalize bt s i = q at *
  by_cases q1 : q = 96
  · subst q1
    have e1 : (decide ((96 : Int) ≠ 96)) = false := by decide
    rw [e1, if_pos (by omega)] at hR
    cases ho : litF s 96 false s.size (i + 1) with
    | none =>
      rw [ho] at hR ki
      rw [hR]
      clear hR hle kc ho e1
      have ki' : Calls Tryd.prog 43 #[.string (s.extract (i + 1) s.size), .int .u8 96] w fun e w' => e = .returned (.int .i64 (-1)) ∧ w' = w := ki
      clear ki
      go_enter Tryd.func20, Tryd.ntmps20
      go_wp2_with (go_at_call 43; go_fit ki'; rintro e w' ⟨rfl, rfl⟩)
      go_ret2
      exact ⟨rfl, rfl⟩
    | some j =>
      rw [ho] at hR ki
      rw [hR]
      have hj := hle 96 false j ho
      have ki' : Calls Tryd.prog 43 #[.string (s.extract (i + 1) s.size), .int .u8 96] w fun e w' => e = .returned (.int .i64 ((j - (i + 1) - 1 : Nat) : Int)) ∧ w' = w := ki
      obtain ⟨d, rfl⟩ : ∃ d, j = i + 1 + 1 + d := ⟨j - (i + 2), by omega⟩
      rw [show i + 1 + 1 + d - (i + 1) - 1 = d by omega] at ki'
      clear hR hle kc ho e1 ki
      go_enter Tryd.func20, Tryd.ntmps20
      go_wp2_with (go_at_call 43; go_fit ki'; rintro e w' ⟨rfl, rfl⟩)
      go_ret2
      exact ⟨by rw [show (litO (some (i + 1 + 1 + d))).1 = (i : Int) + 1 + d + 1 by simp only [litO]; omega]; rfl, rfl⟩
  · by_cases q2 : q = 34
    · subst q2
      have e1 : (decide ((34 : Int) ≠ 96)) = true := by decide
      rw [e1, if_pos (by omega)] at hR
      have kq := kc 34
      cases ho : litF s 34 true s.size (i + 1) with
      | none =>
        rw [ho] at hR kq
        rw [hR]
        clear hR hle kc ki ho e1
        have kq' : Calls Tryd.prog 44 #[.string (s.extract (i + 1) s.size), .int .u8 34] w fun e w' => e = .returned (.int .i64 (-1)) ∧ w' = w := kq
        clear kq
        go_enter Tryd.func20, Tryd.ntmps20
        go_wp2_with (go_at_call 44; go_fit kq'; rintro e w' ⟨rfl, rfl⟩)
        go_ret2
        exact ⟨rfl, rfl⟩
      | some j =>
        rw [ho] at hR kq
        rw [hR]
        have hj := hle 34 true j ho
        have kq' : Calls Tryd.prog 44 #[.string (s.extract (i + 1) s.size), .int .u8 34] w fun e w' => e = .returned (.int .i64 ((j - (i + 1) - 1 : Nat) : Int)) ∧ w' = w := kq
        obtain ⟨d, rfl⟩ : ∃ d, j = i + 1 + 1 + d := ⟨j - (i + 2), by omega⟩
        rw [show i + 1 + 1 + d - (i + 1) - 1 = d by omega] at kq'
        clear hR hle kc ki ho e1 kq
        go_enter Tryd.func20, Tryd.ntmps20
        go_wp2_with (go_at_call 44; go_fit kq'; rintro e w' ⟨rfl, rfl⟩)
        go_ret2
        exact ⟨by rw [show (litO (some (i + 1 + 1 + d))).1 = (i : Int) + 1 + d + 1 by simp only [litO]; omega]; rfl, rfl⟩
    · by_cases q3 : q = 39
      · subst q3
        have e1 : (decide ((39 : Int) ≠ 96)) = true := by decide
        rw [e1, if_pos (by omega)] at hR
        have kq := kc 39
        cases ho : litF s 39 true s.size (i + 1) with
        | none =>
          rw [ho] at hR kq
          rw [hR]
          clear hR hle kc ki ho e1
          have kq' : Calls Tryd.prog 44 #[.string (s.extract (i + 1) s.size), .int .u8 39] w fun e w' => e = .returned (.int .i64 (-1)) ∧ w' = w := kq
          clear kq
          go_enter Tryd.func20, Tryd.ntmps20
          go_wp2_with (go_at_call 44; go_fit kq'; rintro e w' ⟨rfl, rfl⟩)
          go_ret2
          exact ⟨rfl, rfl⟩
        | some j =>
          rw [ho] at hR kq
          rw [hR]
          have hj := hle 39 true j ho
          have kq' : Calls Tryd.prog 44 #[.string (s.extract (i + 1) s.size), .int .u8 39] w fun e w' => e = .returned (.int .i64 ((j - (i + 1) - 1 : Nat) : Int)) ∧ w' = w := kq
          obtain ⟨d, rfl⟩ : ∃ d, j = i + 1 + 1 + d := ⟨j - (i + 2), by omega⟩
          rw [show i + 1 + 1 + d - (i + 1) - 1 = d by omega] at kq'
          clear hR hle kc ki ho e1 kq
          go_enter Tryd.func20, Tryd.ntmps20
          go_wp2_with (go_at_call 44; go_fit kq'; rintro e w' ⟨rfl, rfl⟩)
          go_ret2
          exact ⟨by rw [show (litO (some (i + 1 + 1 + d))).1 = (i : Int) + 1 + d + 1 by simp only [litO]; omega]; rfl, rfl⟩
      · have b1 : (q == 96) = false := by rw [beq_eq_false_iff_ne]; exact q1
        have b2 : (q == 34) = false := by rw [beq_eq_false_iff_ne]; exact q2
        have b3 : (q == 39) = false := by rw [beq_eq_false_iff_ne]; exact q3
        rw [if_neg (by omega)] at hR
        rw [hR]
        clear hR hle kc ki q1 q2 q3
        go_enter Tryd.func20, Tryd.ntmps20
        go_wp2
        go_ret2
        exact ⟨rfl, rfl⟩

theorem literal_any (s : ByteArray) (a : Int) (w : World) (hs : s.size ≤ 140737488355328) :
    Calls Tryd.prog 20 #[.string s, .int .i64 a] w fun e w' => e = .returned (.tuple #[.int .i64 (litZ s a).1, .int .i64 (litZ s a).2]) ∧ w' = w := by
  by_cases h0 : a < 0
  · have e1 : litZ s a = (0, 10) := by unfold litZ; rw [if_neg (by omega)]
    rw [e1]
    exact literal_out s a w (Or.inl h0)
  · obtain ⟨i, rfl⟩ := Int.eq_ofNat_of_zero_le (show 0 ≤ a by omega)
    have e1 : litZ s (i : Int) = litR s i := by unfold litZ; rw [if_pos (by omega)]; simp
    rw [e1]
    by_cases h1 : i < s.size
    · exact literal_in s i w hs h1
    · have e2 : litR s i = (0, 10) := by unfold litR; rw [if_neg (fun h => h1 h.1)]
      rw [e2]
      exact literal_out s i w (Or.inr (by omega))
end Go.Proofs.YtdnbkgbgpfmipabDoor
