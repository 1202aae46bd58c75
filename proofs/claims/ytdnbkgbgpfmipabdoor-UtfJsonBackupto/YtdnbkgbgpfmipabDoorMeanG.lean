/- The meaning of a body whose escapes are read by any reader: the mathematics, and the walk of meaning under function 34. -/
import Derived.Test.YtdnbkgbgpfmipabDoorOwnUnq
namespace Go.Proofs.YtdnbkgbgpfmipabDoor
open Go.RowKit Go.Lib

def mgF (esc : ByteArray → Option (List Int × Nat)) (s : ByteArray) : Nat → Nat → Option (List Int)
  | 0, _ => some []
  | f + 1, p => if p < s.size then (if bt s p = 92 then (match esc (s.extract (p + 1) s.size) with | some x => (mgF esc s f (p + 1 + x.2)).map (x.1 ++ ·) | none => none) else (mgF esc s f (p + 1)).map (bt s p :: ·)) else some []
theorem mgF_end (esc : ByteArray → Option (List Int × Nat)) (s : ByteArray) (f p : Nat) (h : ¬ p < s.size) : mgF esc s f p = some [] := by
  cases f with
  | zero => rfl
  | succ f => unfold mgF; rw [if_neg h]
theorem mgF_fuel (esc : ByteArray → Option (List Int × Nat)) (s : ByteArray) : ∀ (f g p : Nat), s.size ≤ p + f → s.size ≤ p + g → mgF esc s f p = mgF esc s g p
  | 0, g, p, h, _ => by rw [mgF_end esc s g p (by omega), mgF_end esc s 0 p (by omega)]
  | f + 1, 0, p, _, h => by rw [mgF_end esc s (f + 1) p (by omega), mgF_end esc s 0 p (by omega)]
  | f + 1, g + 1, p, h, k => by
    unfold mgF
    rw [mgF_fuel esc s f g (p + 1) (by omega) (by omega)]
    cases he : esc (s.extract (p + 1) s.size) with
    | none => rfl
    | some x =>
      simp only
      rw [mgF_fuel esc s f g (p + 1 + x.2) (by omega) (by omega)]
/-- What a text means from a place on; none: an escape is none. -/
def mg (esc : ByteArray → Option (List Int × Nat)) (s : ByteArray) (p : Nat) : Option (List Int) := mgF esc s s.size p
theorem mg_end (esc : ByteArray → Option (List Int × Nat)) (s : ByteArray) (p : Nat) (h : ¬ p < s.size) : mg esc s p = some [] := mgF_end esc s s.size p h
theorem mg_plain (esc : ByteArray → Option (List Int × Nat)) (s : ByteArray) (p : Nat) (h : p < s.size) (hb : bt s p ≠ 92) : mg esc s p = (mg esc s (p + 1)).map (bt s p :: ·) := by
  unfold mg
  obtain ⟨f, hf⟩ : ∃ f, s.size = f + 1 := ⟨s.size - 1, by omega⟩
  rw [mgF_fuel esc s s.size (f + 1) p (by omega) (by omega), mgF, if_pos h, if_neg hb, mgF_fuel esc s f s.size (p + 1) (by omega) (by omega)]
theorem mg_none (esc : ByteArray → Option (List Int × Nat)) (s : ByteArray) (p : Nat) (h : p < s.size) (hb : bt s p = 92) (he : esc (s.extract (p + 1) s.size) = none) : mg esc s p = none := by
  unfold mg
  obtain ⟨f, hf⟩ : ∃ f, s.size = f + 1 := ⟨s.size - 1, by omega⟩
  rw [mgF_fuel esc s s.size (f + 1) p (by omega) (by omega), mgF, if_pos h, if_pos hb, he]
theorem mg_some (esc : ByteArray → Option (List Int × Nat)) (s : ByteArray) (p : Nat) (xs : List Int) (c : Nat) (h : p < s.size) (hb : bt s p = 92) (he : esc (s.extract (p + 1) s.size) = some (xs, c)) : mg esc s p = (mg esc s (p + 1 + c)).map (xs ++ ·) := by
  unfold mg
  obtain ⟨f, hf⟩ : ∃ f, s.size = f + 1 := ⟨s.size - 1, by omega⟩
  rw [mgF_fuel esc s s.size (f + 1) p (by omega) (by omega), mgF, if_pos h, if_pos hb, he]
  simp only
  rw [mgF_fuel esc s f s.size (p + 1 + c) (by omega) (by omega)]
/-- A run without a backslash. -/
theorem mg_run (esc : ByteArray → Option (List Int × Nat)) (s : ByteArray) : ∀ (k p : Nat), p + k ≤ s.size → (∀ j, p ≤ j → j < p + k → bt s j ≠ 92) → mg esc s p = (mg esc s (p + k)).map (bts s k p ++ ·)
  | 0, p, _, _ => by
    simp only [bts, Nat.add_zero]
    cases mg esc s p <;> rfl
  | k + 1, p, h, hb => by
    rw [mg_plain esc s p (by omega) (hb p (by omega) (by omega)), mg_run esc s k (p + 1) (by omega) (fun j h1 h2 => hb j (by omega) (by omega)), show p + 1 + k = p + (k + 1) by omega]
    cases mg esc s (p + (k + 1)) <;> rfl

set_option maxHeartbeats 2000000 in
set_option maxRecDepth 100000 in
theorem meaningJ_any (esc : ByteArray → Option (List Int × Nat))
    (hN : ∀ (v : Value) (e : ByteArray) (w : World), 1 ≤ e.size → esc e = none → Calls Tryd.prog 34 #[v, .string e] w fun r w' => r = .returned (.tuple #[v, .int .i64 0]) ∧ Below w.heap.size w w')
    (hY : ∀ (S : Nat) (v : Value) (l xs : List Int) (n : Nat) (e : ByteArray) (w : World), 1 ≤ e.size → S ≤ w.heap.size → l.length + 4 ≤ 140737488355328 → w.ownsRow S 5 1 v l.length (bc l) → esc e = some (xs, n) →
      Calls Tryd.prog 34 #[v, .string e] w fun r w' => ∃ v', r = .returned (.tuple #[v', .int .i64 n]) ∧ w'.ownsRow S 5 1 v' (l ++ xs).length (bc (l ++ xs)) ∧ Below S w w')
    (hT : ∀ (s : ByteArray) (p : Nat) (xs : List Int) (c : Nat), p < s.size → bt s p = 92 → rd s p = true → esc (s.extract (p + 1) s.size) = some (xs, c) → p + 1 + c ≤ s.size ∧ 1 ≤ c ∧ xs.length ≤ c + 1 ∧ rd s (p + 1 + c) = true)
    (s : ByteArray) (w : World) (hs : s.size ≤ 140737488351232) (hr : rd s 0 = true) :
    Calls Tryd.prog 33 #[.string (s.extract 0 s.size), .func (.func 34) #[] #[]] w fun r w' => r = .returned (.tuple #[.string (mnV (mg esc s 0)).1, .bool (mnV (mg esc s 0)).2]) ∧ Below w.heap.size w w' := by
  generalize hO : mg esc s 0 = O
  have HO : Hid (mg esc s 0 = O) := hO
  have HR : Hid (rd s 0 = true) := hr
  clear hO hr
  go_enter Tryd.func33, Tryd.ntmps33
  go_wp2_with fail
  go_loopw [0, 6] (fun t b w' => ∃ (p : Nat) (l : List Int), t = .string (s.extract p s.size) ∧ w'.ownsRow w.heap.size 5 1 b l.length (bc l) ∧ p ≤ s.size ∧ rd s p = true ∧ (mg esc s p).map (l ++ ·) = O ∧ l.length ≤ p ∧ Below w.heap.size w w')
    (fun t _ _ => (match t with | .string x => x.size | _ => 0))
  case atStart => exact ⟨0, [], rfl, World.ownsRow_nil _ _ _ _, by omega, HR.out, by rw [HO.out]; cases O <;> rfl, by simp, Below.refl _ _⟩
  case round =>
    obtain ⟨p, l, rfl, hown, hp, hrd, hm, hlp, hbw⟩ := hrel
    have hge := bsF_ge s s.size p
    have hle := bsF_le s s.size p hp
    have hbef := bsF_before s s.size p
    have hrun := mg_run esc s (bsF s s.size p - p) p (by omega) (fun j h1 h2 => hbef j h1 (by omega))
    have hrr := rd_run s (bsF s s.size p - p) p (by omega) (fun j h1 h2 => hbef j h1 (by omega))
    rw [show p + (bsF s s.size p - p) = bsF s s.size p by omega] at hrun hrr
    by_cases hbs : bsF s s.size p < s.size
    · have kc := cut_yes s p wr hp (by omega) hbs
      have hat := bsF_at s s.size p (by omega) hbs
      have hrb : rd s (bsF s s.size p) = true := by rw [← hrr]; exact hrd
      obtain ⟨hb1, hr2⟩ := (rd_bs s _ hbs hat).1 hrb
      have HA : Hid (∀ w1, Below wr.heap.size wr w1 → ∃ v' w', (Builtin.append_ #[29, 9] 29 #[u6, .string (s.extract p (bsF s s.size p))]).run Tryd.prog w1 = .ok v' w' ∧ w'.ownsRow w.heap.size 5 1 v' (l ++ bts s (bsF s s.size p - p) p).length (bc (l ++ bts s (bsF s s.size p - p) p)) ∧ Below w.heap.size w1 w') :=
        fun w1 hb1 => append_text w1 w.heap.size u6 l s p (bsF s s.size p) hge hle (Nat.le_trans hbw.size hb1.size) (by omega) (owns_below hown hb1)
      have hlen : (l ++ bts s (bsF s s.size p - p) p).length ≤ bsF s s.size p := by rw [List.length_append, bts_len]; omega
      have hsx : 1 ≤ (s.extract (bsF s s.size p + 1) s.size).size := by simp; omega
      cases hesc : esc (s.extract (bsF s s.size p + 1) s.size) with
      | none =>
        have HE : Hid (O = none) := by
          show _ = _
          rw [← hm, hrun, mg_none esc s _ hbs hat hesc]
          rfl
        have HK : Hid (∀ v w1, Calls Tryd.prog 34 #[v, .string (s.extract (bsF s s.size p + 1) s.size)] w1 fun r w' => r = .returned (.tuple #[v, .int .i64 0]) ∧ Below w1.heap.size w1 w') :=
          fun v w1 => hN v _ w1 hsx hesc
        clear hrun hrr hbef hown hm hrd hesc hrb hr2 hat
        go_wp2_with fail
        go_fit kc
        rintro x w1 ⟨rfl, hbb⟩
        obtain ⟨v', w2, r1, o1, b1⟩ := HA.out w1 hbb
        have hB2 : Below w.heap.size w w2 := (hbw.trans (hbb.mono hbw.size)).trans b1
        have kk := HK.out v' w2
        clear o1
        go_wp2_with (at_builtin; refine wpList_append_run rfl (.tmp 17) (.tmp 18) 29 9 rfl _ _ rfl rfl r1 ?_)
        go_fit kk
        rintro x w3 ⟨rfl, hb3⟩
        go_wp2_with fail
        go_ret2
        exact ⟨by rw [HE.out]; rfl, hB2.trans (hb3.mono hB2.size)⟩
      | some xc =>
        obtain ⟨xs, c⟩ := xc
        obtain ⟨t1, t2, t3, hre⟩ := hT s _ xs c hbs hat hrb hesc
        have HE : Hid ((mg esc s (bsF s s.size p + 1 + c)).map (((l ++ bts s (bsF s s.size p - p) p) ++ xs) ++ ·) = O) := by
          show _ = _
          rw [← hm, hrun, mg_some esc s _ xs c hbs hat hesc]
          cases mg esc s (bsF s s.size p + 1 + c) <;> simp
        have HL : Hid (((l ++ bts s (bsF s s.size p - p) p) ++ xs).length ≤ bsF s s.size p + 1 + c) := by
          show _ ≤ _
          rw [List.length_append]; omega
        have HK : Hid (∀ v w1, w.heap.size ≤ w1.heap.size → w1.ownsRow w.heap.size 5 1 v (l ++ bts s (bsF s s.size p - p) p).length (bc (l ++ bts s (bsF s s.size p - p) p)) → Calls Tryd.prog 34 #[v, .string (s.extract (bsF s s.size p + 1) s.size)] w1 fun r w' => ∃ v', r = .returned (.tuple #[v', .int .i64 c]) ∧ w'.ownsRow w.heap.size 5 1 v' ((l ++ bts s (bsF s s.size p - p) p) ++ xs).length (bc ((l ++ bts s (bsF s s.size p - p) p) ++ xs)) ∧ Below w.heap.size w1 w') :=
          fun v w1 hS o => hY w.heap.size v _ xs c _ w1 hsx hS (by omega) o hesc
        have HX : Hid ((s.extract (bsF s s.size p + 1) s.size).extract c (s.extract (bsF s s.size p + 1) s.size).size = s.extract (bsF s s.size p + 1 + c) s.size) := suffix_suffix s _ c (by omega)
        have hcs : (c : Int) ≤ (s.extract (bsF s s.size p + 1) s.size).size := by simp; omega
        have hmz : (s.extract (bsF s s.size p + 1 + c) s.size).size < (s.extract p s.size).size := by simp; omega
        clear hrun hrr hbef hown hm hrd hesc hrb hr2 hat
        generalize bsF s s.size p = b at *
        generalize hT : s.extract (b + 1) s.size = T at *
        clear hT
        have hc0 : (c : Int) ≠ 0 := by omega
        go_wp2_with fail
        go_fit kc
        rintro x w1 ⟨rfl, hbb⟩
        obtain ⟨v', w2, r1, o1, b1⟩ := HA.out w1 hbb
        have hB2 : Below w.heap.size w w2 := (hbw.trans (hbb.mono hbw.size)).trans b1
        have kk := HK.out v' w2 hB2.size o1
        clear o1
        go_wp2_with (at_builtin; refine wpList_append_run rfl (.tmp 17) (.tmp 18) 29 9 rfl _ _ rfl rfl r1 ?_)
        go_fit kk
        rintro x w3 ⟨v3, rfl, o3, hb3⟩
        have HO3 : Hid (w3.ownsRow w.heap.size 5 1 v3 ((l ++ bts s (b - p) p) ++ xs).length (bc ((l ++ bts s (b - p) p) ++ xs))) := o3
        clear o3
        go_wp2_with fail
        refine ⟨⟨b + 1 + c, _, by rw [HX.out], HO3.out, t1, hre, HE.out, HL.out, hB2.trans hb3⟩, ?_⟩
        rw [HX.out]
        exact hmz
    · have kc := cut_no s p wr hp hbs
      have hbe : bsF s s.size p = s.size := by omega
      rw [hbe] at hrun
      rw [mg_end esc s s.size (by omega)] at hrun
      have HE : Hid (O = some (l ++ bts s (s.size - p) p)) := by
        show _ = _
        rw [← hm, hrun]
        simp
      have HA : Hid (∀ w1, Below wr.heap.size wr w1 → ∃ v' w', (Builtin.append_ #[29, 9] 29 #[u6, .string (s.extract p s.size)]).run Tryd.prog w1 = .ok v' w' ∧ w'.ownsRow w.heap.size 5 1 v' (l ++ bts s (s.size - p) p).length (bc (l ++ bts s (s.size - p) p)) ∧ Below w.heap.size w1 w') :=
        fun w1 hb1 => append_text w1 w.heap.size u6 l s p s.size hp (Nat.le_refl _) (Nat.le_trans hbw.size hb1.size) (by omega) (owns_below hown hb1)
      clear hrun hrr hbef hge hle hbs hbe hown hm hrd
      go_wp2_with fail
      go_fit kc
      rintro x w1 ⟨rfl, hb1⟩
      obtain ⟨v', w2, r1, o1, b1⟩ := HA.out w1 hb1
      have hcv := conv_owned w2 w.heap.size v' _ o1
      clear o1
      go_wp2_with (at_builtin; refine wpList_append_run rfl (.tmp 17) (.tmp 18) 29 9 rfl _ _ rfl rfl r1 ?_)
      go_ret2
      exact ⟨by rw [HE.out]; rfl, (hbw.trans (hb1.mono hbw.size)).trans b1⟩
end Go.Proofs.YtdnbkgbgpfmipabDoor
