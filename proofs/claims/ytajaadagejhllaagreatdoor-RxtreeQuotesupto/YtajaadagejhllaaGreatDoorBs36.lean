/- A bundle of texts. -/
import Derived.Test.YtajaadagejhllaaGreatDoorBs32
import Derived.Test.YtajaadagejhllaaGreatDoorBs35
/- The reference's texts: put, special, lit, end. -/
namespace Go.Proofs.YtajaadagejhllaaGreatDoor
open Go.RowKit Go.Lib

/-- A row of bytes that holds a text. -/
abbrev Ro (S : Nat) (w : World) (v : Value) (T : ByteArray) : Prop := w.ownsRow S 5 1 v T.size (strCells T)
abbrev Mo (v : Value) (k : Nat) : Prop := v.ownBlock = some k
structure Bo (S : Nat) (v : Value) (w : World) : Prop where
  sz : S ≤ w.heap.size
  lo : ∀ k, Mo v k → S ≤ k ∧ k < w.heap.size
theorem Bo.of {S : Nat} {v : Value} {w : World} {T : ByteArray} (h : Ro S w v T) (hS : S ≤ w.heap.size) : Bo S v w := ⟨hS, fun k hk => by
  rcases h.2 with ⟨e', _⟩ | ⟨G, _, _, e', hG, hh, _⟩
  · rw [e'] at hk; cases hk
  · rw [e'] at hk
    have : G = k := Option.some.inj hk
    subst this
    exact ⟨hG, (Array.getElem?_eq_some_iff.1 hh).1⟩⟩
theorem Bo.below {S : Nat} {v : Value} {w w' : World} (h : Bo S v w) (k : Kp (Mo v) w w') : Below S w w' := k.below h.sz (fun i hi e => by have := (h.lo i e).1; omega)
theorem Kp.nextO {w w1 w2 : World} {v v1 : Value} (h : Kp (Mo v) w w1) (hs : Sub w v v1) (k : Kp (Mo v1) w1 w2) : Kp (Mo v) w w2 := h.trans' k (fun i hi e => hs i e hi)
/-- A text under way. -/
def Rq (S : Nat) (v : Value) (w : World) (T : ByteArray) (v' : Value) (w' : World) : Prop := Ro S w' v' T ∧ Sub w v v' ∧ Kp (Mo v) w w'
namespace Rq
variable {S : Nat} {v v' : Value} {w w1 w2 : World} {T X : ByteArray}
theorem below (h : Rq S v w T v' w1) (b : Below w1.heap.size w1 w2) : Rq S v w T v' w2 := ⟨(Kp.of (M := fun _ => False) b).row h.1 (fun _ _ => id), h.2.1, h.2.2.trans (Kp.of b)⟩
theorem re {v1 : Value} {W : World} (h : Rq S v1 W X v' w2) (s : Sub w v v1) (k : Kp (Mo v) w W) : Rq S v w X v' w2 := ⟨h.1, s.trans h.2.1 k.size, k.nextO s h.2.2⟩
theorem form (h : Rq S v w T v' w1) : ∃ a c, v' = .slice a T.size c := row_form h.1
end Rq
theorem Rq.refl {S : Nat} {v : Value} {w : World} {T : ByteArray} (h : Ro S w v T) : Rq S v w T v w := ⟨h, Sub.refl _ _, Kp.refl _ _⟩

set_option maxRecDepth 100000 in
theorem rput_any (S : Nat) (v : Value) (T X : ByteArray) (w : World) (h : Ro S w v T) (hS : S ≤ w.heap.size) (hn : T.size + X.size ≤ 140737488355328) :
    Calls Tryz.prog 58 #[v, .string X] w fun e w' => ∃ v', e = .returned v' ∧ Rq S v w (T ++ X) v' w' := by
  obtain ⟨v', w', r, o, k, hs⟩ := append_w w S v T X hS hn h
  obtain ⟨a, c, rfl⟩ := row_form h
  obtain ⟨a2, c2, rfl⟩ := row_form o
  have HO : Hid _ := And.intro o (And.intro hs k)
  clear o k hs h
  go_enter Tryz.func58, Tryz.ntmps58
  go_wp2_with (at_builtin; refine wpList_append_run rfl (.tmp 5) (.tmp 6) 53 9 rfl _ _ rfl rfl r ?_)
  go_ret
  refine ⟨_, rfl, ?_⟩
  show Rq S _ w (T ++ X) (Value.slice a2 (T.size + X.size) c2) w'
  rw [← ByteArray.size_append]
  exact HO.out
theorem Rq.put {S : Nat} {v v' : Value} {w w1 : World} {T : ByteArray} (h : Rq S v w T v' w1) (hb : Bo S v w) (X : ByteArray) (hn : T.size + X.size ≤ 140737488355328) :
    Calls Tryz.prog 58 #[v', .string X] w1 fun e w2 => ∃ v2, e = .returned v2 ∧ Rq S v w (T ++ X) v2 w2 :=
  (rput_any S v' T X w1 h.1 (Nat.le_trans hb.sz h.2.2.size) hn).mono fun _ _ ⟨v2, he, q⟩ => ⟨v2, he, q.re h.2.1 h.2.2⟩

set_option maxHeartbeats 1000000 in
set_option maxRecDepth 100000 in
theorem special_any (r : Int) (w : World) : Calls Tryz.prog 37 #[.int .i32 r] w fun e w' => e = .returned (.bool (spcB r)) ∧ w' = w := by
  obtain ⟨s, hs⟩ : ∃ s, s = spA := ⟨_, rfl⟩
  have hsz : (s.size : Int) = 14 := by rw [hs]; rfl
  have HA : Hid (∀ k (h : k < s.size), (((s[k]'h).toNat : Int) = r → spcB r = true)) := by
    subst hs
    intro k h e
    have h14 : k < 14 := h
    have : ∀ j : Fin 14, spcB ((spA.get! j.val).toNat : Int) = true := by decide +kernel
    have h2 := this ⟨k, h14⟩
    rw [get!_ix _ k h, e] at h2
    exact h2
  have HN : Hid ((∀ k (h : k < s.size), ((s[k]'h).toNat : Int) ≠ r) → spcB r = false) := by
    subst hs
    intro h
    cases hc : spcB r with
    | false => rfl
    | true =>
      exfalso
      unfold spcB at hc
      have g : ∀ k, k < 14 → ((spA.get! k).toNat : Int) ≠ r := fun k hk => by rw [get!_ix spA k (show k < spA.size from hk)]; exact h k hk
      simp only [Bool.or_eq_true, beq_iff_eq] at hc
      have g0 := g 0 (by decide); have g1 := g 1 (by decide); have g2 := g 2 (by decide); have g3 := g 3 (by decide); have g4 := g 4 (by decide); have g5 := g 5 (by decide); have g6 := g 6 (by decide)
      have g7 := g 7 (by decide); have g8 := g 8 (by decide); have g9 := g 9 (by decide); have g10 := g 10 (by decide); have g11 := g 11 (by decide); have g12 := g 12 (by decide); have g13 := g 13 (by decide)
      rw [show ((spA.get! 0).toNat : Int) = 92 from rfl] at g0
      rw [show ((spA.get! 1).toNat : Int) = 46 from rfl] at g1
      rw [show ((spA.get! 2).toNat : Int) = 43 from rfl] at g2
      rw [show ((spA.get! 3).toNat : Int) = 42 from rfl] at g3
      rw [show ((spA.get! 4).toNat : Int) = 63 from rfl] at g4
      rw [show ((spA.get! 5).toNat : Int) = 40 from rfl] at g5
      rw [show ((spA.get! 6).toNat : Int) = 41 from rfl] at g6
      rw [show ((spA.get! 7).toNat : Int) = 124 from rfl] at g7
      rw [show ((spA.get! 8).toNat : Int) = 91 from rfl] at g8
      rw [show ((spA.get! 9).toNat : Int) = 93 from rfl] at g9
      rw [show ((spA.get! 10).toNat : Int) = 123 from rfl] at g10
      rw [show ((spA.get! 11).toNat : Int) = 125 from rfl] at g11
      rw [show ((spA.get! 12).toNat : Int) = 94 from rfl] at g12
      rw [show ((spA.get! 13).toNat : Int) = 36 from rfl] at g13
      omega
  have HS : Hid (s = ⟨#[92, 46, 43, 42, 63, 40, 41, 124, 91, 93, 123, 125, 94, 36]⟩) := hs
  clear hs
  go_enter Tryz.func37, Tryz.ntmps37
  go_upto_region 2 with fail
  rw [← HS.out]
  go_wp2
  go_loop [4] (fun t => ∃ j : Nat, t = .int .i64 (j : Int) ∧ j ≤ s.size ∧ Hid (∀ k (h : k < s.size), k < j → ((s[k]'h).toNat : Int) ≠ r)) (fun t => 14 - (RowKit.intOf t).toNat)
  case atStart => exact ⟨0, rfl, Nat.zero_le _, fun k h h2 => by omega⟩
  case round =>
    obtain ⟨j, rfl, hj, HJ⟩ := hrel
    by_cases hlt : j < s.size
    · have hii : (j : Int) < (s.size : Int) := by omega
      have hb0 : 0 ≤ (j : Int) ∧ (j : Int) < (s.size : Int) := by omega
      by_cases he : ((s[j]'hlt).toNat : Int) = r
      · have e1 : (((s[j]'hlt).toNat : Int) == r) = true := by simpa using he
        have HT : Hid (spcB r = true) := HA.out j hlt he
        have hw : IntKind.i32.wrap ((s[j]'hlt).toNat : Int) = ((s[j]'hlt).toNat : Int) := by have := (s[j]'hlt).toNat_lt; rw [IntKind.wrap_i32]; omega
        clear he
        go_wp2
        go_ret
        exact ⟨by rw [HT.out]; rfl, rfl⟩
      · have e1 : (((s[j]'hlt).toNat : Int) == r) = false := by simpa using he
        have HT : Hid (((s[j]'hlt).toNat : Int) ≠ r) := he
        have hw : IntKind.i32.wrap ((s[j]'hlt).toNat : Int) = ((s[j]'hlt).toNat : Int) := by have := (s[j]'hlt).toNat_lt; rw [IntKind.wrap_i32]; omega
        clear he
        go_wp2
        go_round
        case rel => exact ⟨j + 1, by go_num, by omega, fun k h h2 => by
          by_cases e : k = j
          · subst e; exact HT.out
          · exact HJ.out k h (by omega)⟩
        case measure => simp [RowKit.intOf]; omega
    · have hii : ¬ (j : Int) < (s.size : Int) := by omega
      have HT : Hid (spcB r = false) := HN.out (fun k h => HJ.out k h (by omega))
      go_wp2
      go_ret
      exact ⟨by rw [HT.out]; rfl, rfl⟩
theorem form_enc (r : Int) (h : Utf8.valid r = true) : strOfNums (formL r) = Utf8.encode r := by
  have hr : isRune r = true := by
    unfold isRune
    unfold Utf8.valid at h
    simp at h ⊢
    omega
  have hq := (isRune_iff r).1 hr
  unfold strOfNums formL Utf8.encode
  rw [if_pos hr]
  dsimp only
  rw [if_pos h]
  obtain ⟨n, rfl⟩ := Int.eq_ofNat_of_zero_le hq.1
  have f1 : (192 + (n : Int) / 64).toNat = 192 + n / 64 := by omega
  have f2 : (128 + (n : Int) % 64).toNat = 128 + n % 64 := by omega
  have f3 : (224 + (n : Int) / 4096).toNat = 224 + n / 4096 := by omega
  have f4 : (128 + (n : Int) / 64 % 64).toNat = 128 + n / 64 % 64 := by omega
  have f5 : (240 + (n : Int) / 262144).toNat = 240 + n / 262144 := by omega
  have f6 : (128 + (n : Int) / 4096 % 64).toNat = 128 + n / 4096 % 64 := by omega
  by_cases c1 : n < 128
  · rw [if_pos (show (n : Int) < 128 by omega), if_pos (show ((n : Int)).toNat < 128 by omega)]; simp
  rw [if_neg (show ¬ (n : Int) < 128 by omega), if_neg (show ¬ ((n : Int)).toNat < 128 by omega)]
  by_cases c2 : n < 2048
  · rw [if_pos (show (n : Int) < 2048 by omega), if_pos (show ((n : Int)).toNat < 2048 by omega)]; simp only [List.map_cons, List.map_nil, f1, f2, Int.toNat_natCast]
  rw [if_neg (show ¬ (n : Int) < 2048 by omega), if_neg (show ¬ ((n : Int)).toNat < 2048 by omega)]
  by_cases c3 : n < 65536
  · rw [if_pos (show (n : Int) < 65536 by omega), if_pos (show ((n : Int)).toNat < 65536 by omega)]; simp only [List.map_cons, List.map_nil, f2, f3, f4, Int.toNat_natCast]
  rw [if_neg (show ¬ (n : Int) < 65536 by omega), if_neg (show ¬ ((n : Int)).toNat < 65536 by omega)]
  simp only [List.map_cons, List.map_nil, f2, f4, f5, f6, Int.toNat_natCast]
theorem one_enc (r : Int) (h0 : 0 ≤ r) (h1 : r < 128) : strOfNums [r] = Utf8.encode r := by
  have hv : Utf8.valid r = true := by unfold Utf8.valid; simp; omega
  rw [← form_enc r hv]
  unfold formL
  rw [if_pos (by unfold isRune; simp; omega), if_pos h1]
theorem sp_bd (r : Int) (h : spcB r = true) : 0 ≤ r ∧ r < 128 := by
  unfold spcB at h
  simp only [Bool.or_eq_true, beq_iff_eq] at h
  omega
set_option maxHeartbeats 2000000 in
set_option maxRecDepth 100000 in
theorem rlit_any (r : Int) (h0 : 0 ≤ r) (h1 : r ≤ 1114111) (w : World) (hz : TbZ w) : Calls Tryz.prog 59 #[.int .i32 r] w fun e w' => e = .returned (.string (liB r)) ∧ Below w.heap.size w w' := by
  have kS := special_any r w
  cases hs : spcB r
  · have hs' : ¬ spcB r = true := by simp [hs]
    unfold liB
    rw [if_neg hs']
    rw [hs] at kS
    by_cases c1 : r < 32 ∨ r = 127 ∨ (55296 ≤ r ∧ r ≤ 57343)
    · rw [if_pos c1]
      have kH := hexed_any r h0 h1 w hz
      generalize heB r = H at *
      have HC : Hid (r < 32 ∨ r = 127 ∨ (55296 ≤ r ∧ r ≤ 57343)) := c1
      clear hs' c1
      by_cases d1 : r < 32
      · go_enter Tryz.func59, Tryz.ntmps59
        go_wp2_with (first | (go_at_call 37; go_fit kS; rintro e w1 ⟨rfl, hw1⟩; obtain rfl := hw1.symm) | (go_at_call 76; go_fit kH; rintro e w2 ⟨rfl, b2⟩))
        go_ret
        exact ⟨rfl, b2⟩
      by_cases d2 : r = 127
      · have e2 : (r == 127) = true := by simpa using d2
        clear d2
        go_enter Tryz.func59, Tryz.ntmps59
        go_wp2_with (first | (go_at_call 37; go_fit kS; rintro e w1 ⟨rfl, hw1⟩; obtain rfl := hw1.symm) | (go_at_call 76; go_fit kH; rintro e w2 ⟨rfl, b2⟩))
        go_ret
        exact ⟨rfl, b2⟩
      · have e2 : (r == 127) = false := by simpa using d2
        have d3 : 55296 ≤ r := by have := HC.out; omega
        have d4 : r ≤ 57343 := by have := HC.out; omega
        clear d2
        go_enter Tryz.func59, Tryz.ntmps59
        go_wp2_with (first | (go_at_call 37; go_fit kS; rintro e w1 ⟨rfl, hw1⟩; obtain rfl := hw1.symm) | (go_at_call 76; go_fit kH; rintro e w2 ⟨rfl, b2⟩))
        go_ret
        exact ⟨rfl, b2⟩
    · rw [if_neg c1]
      have hv : Utf8.valid r = true := by unfold Utf8.valid; simp; omega
      have kF := form_any r w
      rw [form_enc r hv] at kF
      show Calls Tryz.prog 59 #[.int .i32 r] w fun e w' => e = .returned (.string (Utf8.encode r)) ∧ Below w.heap.size w w'
      generalize Utf8.encode r = E at *
      have hw : IntKind.i64.wrap r = r := by rw [IntKind.wrap_i64]; omega
      have e1 : ¬ r < 32 := by omega
      have e2 : (r == 127) = false := by simp; omega
      by_cases d3 : 55296 ≤ r
      · have d4 : ¬ r ≤ 57343 := by omega
        clear c1 hs' hs hv
        go_enter Tryz.func59, Tryz.ntmps59
        go_wp2_with (first | (go_at_call 37; go_fit kS; rintro e w1 ⟨rfl, hw1⟩; obtain rfl := hw1.symm) | (go_at_call 39; go_fit kF; rintro e w2 ⟨rfl, b2⟩))
        go_ret
        exact ⟨rfl, b2⟩
      · clear c1 hs' hs hv
        go_enter Tryz.func59, Tryz.ntmps59
        go_wp2_with (first | (go_at_call 37; go_fit kS; rintro e w1 ⟨rfl, hw1⟩; obtain rfl := hw1.symm) | (go_at_call 39; go_fit kF; rintro e w2 ⟨rfl, b2⟩))
        go_ret
        exact ⟨rfl, b2⟩
  · have hb := sp_bd r hs
    unfold liB
    rw [if_pos hs]
    rw [hs] at kS
    show Calls Tryz.prog 59 #[.int .i32 r] w fun e w' => e = .returned (.string ((⟨#[92]⟩ : ByteArray) ++ Utf8.encode r)) ∧ Below w.heap.size w w'
    have hcv := conv1 w r
    rw [one_enc r hb.1 hb.2] at hcv
    have hE := enB_size r
    unfold enB at hE
    generalize Utf8.encode r = E at *
    have hw : IntKind.u8.wrap r = r := by rw [IntKind.wrap_u8]; omega
    have n1 : ¬ 9223372036854775807 < 1 + E.size := by omega
    have HB : Hid (Below w.heap.size w (w.alloc (.cells #[.int .u8 r] 5))) := (Below.refl _ w).alloc (Nat.le_refl _) _
    clear hs hb
    go_enter Tryz.func59, Tryz.ntmps59
    go_wp2_with (first | (go_at_call 37; go_fit kS; rintro e w1 ⟨rfl, hw1⟩; obtain rfl := hw1.symm))
    go_ret
    exact ⟨rfl, HB.out⟩
theorem wd_al (r : Int) (hn : r ≠ 95) : wdB r = (ltB r || dgB r) := by
  unfold wdB
  rw [decide_eq_false hn, Bool.or_false, Bool.or_comm]
set_option maxHeartbeats 2000000 in
set_option maxRecDepth 100000 in
theorem rend_any (r : Int) (h0 : 0 ≤ r) (h1 : r ≤ 1114111) (w : World) (hz : TbZ w) : Calls Tryz.prog 77 #[.int .i32 r] w fun e w' => e = .returned (.string (meB r)) ∧ Below w.heap.size w w' := by
  have kW := rWord_any r w
  unfold meB
  by_cases hn : r = 95
  · have e1 : (r != 95) = false := by simpa using hn
    have hf : ¬ (ltB r || dgB r) = true := by rw [hn]; decide
    have ht : wdB r = true := by rw [hn]; decide
    rw [if_neg hf]
    rw [ht] at kW
    have kH := hexed_any r h0 h1 w hz
    generalize heB r = H at *
    clear hn hf ht
    go_enter Tryz.func77, Tryz.ntmps77
    go_wp2_with (first | (go_at_call 75; go_fit kW; rintro e w1 ⟨rfl, hw1⟩; obtain rfl := hw1.symm) | (go_at_call 76; go_fit kH; rintro e w2 ⟨rfl, b2⟩))
    go_ret
    exact ⟨rfl, b2⟩
  · have e1 : (r != 95) = true := by simpa using hn
    rw [wd_al r hn] at kW
    cases hc : (ltB r || dgB r)
    · rw [hc] at kW
      rw [if_neg Bool.false_ne_true]
      have kH := hexed_any r h0 h1 w hz
      generalize heB r = H at *
      clear hn hc
      go_enter Tryz.func77, Tryz.ntmps77
      go_wp2_with (first | (go_at_call 75; go_fit kW; rintro e w1 ⟨rfl, hw1⟩; obtain rfl := hw1.symm) | (go_at_call 76; go_fit kH; rintro e w2 ⟨rfl, b2⟩))
      go_ret
      exact ⟨rfl, b2⟩
    · rw [hc] at kW
      rw [if_pos rfl]
      have hb : 0 ≤ r ∧ r < 128 := by
        unfold ltB dgB at hc
        simp at hc
        omega
      show Calls Tryz.prog 77 #[.int .i32 r] w fun e w' => e = .returned (.string (Utf8.encode r)) ∧ Below w.heap.size w w'
      have hcv := conv1 w r
      rw [one_enc r hb.1 hb.2] at hcv
      generalize Utf8.encode r = E at *
      have hw : IntKind.u8.wrap r = r := by rw [IntKind.wrap_u8]; omega
      have HB : Hid (Below w.heap.size w (w.alloc (.cells #[.int .u8 r] 5))) := (Below.refl _ w).alloc (Nat.le_refl _) _
      clear hn hc hb
      go_enter Tryz.func77, Tryz.ntmps77
      go_wp2_with (first | (go_at_call 75; go_fit kW; rintro e w1 ⟨rfl, hw1⟩; obtain rfl := hw1.symm))
      go_ret
      exact ⟨rfl, HB.out⟩
end Go.Proofs.YtajaadagejhllaaGreatDoor
/- The reference's texts: a class. -/
namespace Go.Proofs.YtajaadagejhllaaGreatDoor
open Go.RowKit Go.Lib

theorem meB_size (r : Int) : (meB r).size ≤ 20 := by
  unfold meB
  split
  · have := (enB_size r).2; omega
  · exact heB_size r
theorem raB_size (g : Rg) : (raB g).size ≤ 41 := by
  have h1 := meB_size g.1
  have h2 := meB_size g.2
  unfold raB
  split
  · omega
  · simp only [ByteArray.size_append]
    have : (⟨#[45]⟩ : ByteArray).size = 1 := rfl
    omega

set_option maxHeartbeats 4000000 in
set_option maxRecDepth 100000 in
theorem rclass_any (S : Nat) (v v1 : Value) (w : World) (T : ByteArray) (a : Option Addr) (f : Nat → Rg) (n c : Nat) (w1 : World) (hb : Bo S v w) (hA : TbA S w) (hq : Rq S v w T v1 w1) (hr : Rmb S w a f n)
    (hn : n ≤ 140737488351232) (hset : ∀ j, j < n → 0 ≤ (f j).1 ∧ (f j).1 ≤ 1114111 ∧ 0 ≤ (f j).2 ∧ (f j).2 ≤ 1114111 ∧ (f j).1 ≤ (f j).2) (hT : T.size + (clB f n).size ≤ 140737488355328) :
    Calls Tryz.prog 60 #[v1, .slice a n c] w1 fun e w2 => ∃ v2, e = .returned v2 ∧ Rq S v w (T ++ clB f n) v2 w2 := by
  by_cases h0 : n = 0
  · subst h0
    have k := hq.put hb (clB f 0) hT
    unfold clB at k ⊢
    rw [if_pos rfl] at k ⊢
    clear hr hset hq
    go_enter Tryz.func60, Tryz.ntmps60
    go_wp2_with fail
    go_fit k
    rintro e w2 ⟨v2, rfl, h2⟩
    have H2 : Hid (Rq S v w _ v2 w2) := h2
    clear h2
    go_wp2
    go_ret
    exact ⟨_, rfl, H2.out⟩
  · have hn0 : ((n : Int) == 0) = false := by simp; omega
    have hsz : (clB f n).size = (clK f n).size + 1 := by
      unfold clB
      rw [if_neg h0, ByteArray.size_append]
      rfl
    have HE : Hid (clB f n = clK f n ++ ⟨#[93]⟩) := by unfold Hid clB; rw [if_neg h0]
    have H1 : Hid (∀ i, i ≤ n → T.size + (clK f i).size + 1 ≤ 140737488355328) := fun i hi => by have := clK_le f hi; omega
    have k := hq.put hb ⟨#[91]⟩ (by have := H1.out 0 (by omega); have e : (clK f 0).size = 1 := rfl; have e2 : (⟨#[91]⟩ : ByteArray).size = 1 := rfl; omega)
    have HB : Hid (Bo S v w) := hb
    have HA : Hid (TbA S w) := hA
    have HR : Hid (Rmb S w a f n) := hr
    have HST : Hid (∀ j, j < n → 0 ≤ (f j).1 ∧ (f j).1 ≤ 1114111 ∧ 0 ≤ (f j).2 ∧ (f j).2 ≤ 1114111 ∧ (f j).1 ≤ (f j).2) := hset
    clear hr hset hq hb hA hsz hT
    go_enter Tryz.func60, Tryz.ntmps60
    go_wp2_with fail
    go_fit k
    rintro e w2 ⟨v2, rfl, h2⟩
    have H2 : Hid (Rq S v w (T ++ clK f 0) v2 w2) := h2
    clear h2 k
    go_wp2_with fail
    go_loopw [0, 5] (fun wv ivv w' => ∃ i : Nat, ivv = .int .i64 (i : Int) ∧ i ≤ n ∧ Hid (Rq S v w (T ++ clK f i) wv w')) (fun _ ivv _ => n - (RowKit.intOf ivv).toNat)
    case atStart => exact ⟨0, rfl, by omega, H2⟩
    case round =>
      obtain ⟨i, rfl, hi, hI⟩ := hrel
      by_cases hlt : i < n
      · have hii : (i : Int) < n := by omega
        have hkp := hI.out.2.2
        obtain ⟨g, o, rfl, hg, hlo, hhi⟩ := (HR.out.below (HB.out.below hkp)).at i hlt
        obtain ⟨l0, l1, u0, u1, lu⟩ := HST.out i hlt
        have HC : Hid (∀ w5, Kp (Mo v) w w5 → w5.cell? ⟨g, o + i * 2, none⟩ = some (.int .i32 (f i).1) ∧ w5.cell? ⟨g, o + i * 2 + 1, none⟩ = some (.int .i32 (f i).2)) := fun w5 k5 => by
          obtain ⟨g', o', e', _, h1', h2'⟩ := (HR.out.below (HB.out.below k5)).at i hlt
          cases e'
          exact ⟨h1', h2'⟩
        have HS1 : Hid (clK f (i + 1) = clK f i ++ raB (f i)) := rfl
        obtain ⟨⟨x, y⟩, hxy⟩ : ∃ p : Rg, f i = p := ⟨_, rfl⟩
        have HB2 : Hid (T.size + (clK f i).size + (raB (x, y)).size + 1 ≤ 140737488355328) := by
          have := H1.out (i + 1) (by omega)
          rw [HS1.out, hxy, ByteArray.size_append] at this
          unfold Hid
          omega
        rw [hxy] at hlo hhi l0 l1 u0 u1 lu HC HS1
        dsimp only at hlo hhi l0 l1 u0 u1 lu HC
        have hmx := meB_size x
        have hmy := meB_size y
        have HRS : Hid (raB (x, y) = if x = y then meB x else (meB x ++ ⟨#[45]⟩) ++ meB y) := rfl
        have HME : Hid (∀ r, 0 ≤ r → r ≤ 1114111 → ∀ w5, Kp (Mo v) w w5 → Calls Tryz.prog 77 #[.int .i32 r] w5 fun e w' => e = .returned (.string (meB r)) ∧ Below w5.heap.size w5 w') := fun r r0 r1 w5 k5 => rend_any r r0 r1 w5 (HA.out w5 (HB.out.below k5)).2
        have kx := HME.out x l0 l1 wr hkp
        have HX : Hid (0 ≤ y ∧ y ≤ 1114111) := ⟨u0, u1⟩
        have HLE : Hid (x ≤ y) := lu
        clear hkp hxy l0 l1 u0 u1 lu
        have e1 : (meB x).size ≤ (raB (x, y)).size := by
          rw [HRS.out]
          split
          · exact Nat.le_refl _
          · simp only [ByteArray.size_append]; omega
        go_wp2_with fail
        go_fit kx
        rintro e w3 ⟨rfl, b3⟩
        have k3 := (hI.out.below b3).put HB.out (meB x) (by have := HB2.out; rw [ByteArray.size_append]; omega)
        clear b3 kx hlo hhi
        go_wp2_with fail
        go_fit k3
        rintro e w4 ⟨v4, rfl, h4⟩
        have Q4 : Hid (Rq S v w ((T ++ clK f i) ++ meB x) v4 w4) := h4
        obtain ⟨c0, c1⟩ := HC.out w4 h4.2.2
        clear h4 k3
        go_wp2_with fail
        go_quiet (fail)
        have q5 : Rq S v w ((T ++ clK f i) ++ meB x) v4 (w4.drewN nq) := Q4.out.below (Below.drewN (Below.refl _ _) nq)
        obtain ⟨W5, hW5⟩ : ∃ W5, W5 = w4.drewN nq := ⟨_, rfl⟩
        rw [← hW5] at q5
        rw [← hW5]
        have Q5 : Hid (Rq S v w ((T ++ clK f i) ++ meB x) v4 W5) := q5
        clear q5 hW5 c0 c1
        by_cases hxy : x = y
        · have e2 : ¬ x < y := by omega
          have HXY : Hid (raB (x, y) = meB x) := by unfold Hid; rw [HRS.out, if_pos hxy]
          clear hxy
          go_wp2_with fail
          refine ⟨⟨i + 1, by go_num, by omega, ?_⟩, by simp [RowKit.intOf]; omega⟩
          unfold Hid
          rw [HS1.out, HXY.out, ← ByteArray.append_assoc]
          exact Q5.out
        · have e2 : x < y := by have := HLE.out; omega
          have HXY : Hid (raB (x, y) = (meB x ++ ⟨#[45]⟩) ++ meB y) := by unfold Hid; rw [HRS.out, if_neg hxy]
          obtain ⟨c0, c1⟩ := HC.out W5 Q5.out.2.2
          have ky := HME.out y HX.out.1 HX.out.2 W5 Q5.out.2.2
          have n1 : ¬ 9223372036854775807 < 1 + (meB y).size := by omega
          clear hxy
          go_wp2_with fail
          go_fit ky
          rintro e w6 ⟨rfl, b6⟩
          have k6 := (Q5.out.below b6).put HB.out ((⟨#[45]⟩ : ByteArray) ++ meB y) (by
            have := HB2.out
            rw [HXY.out] at this
            have e45 : (⟨#[45]⟩ : ByteArray).size = 1 := rfl
            simp only [ByteArray.size_append] at this ⊢
            omega)
          clear b6 ky c0 c1
          go_wp2_with fail
          go_fit k6
          rintro e w7 ⟨v7, rfl, h7⟩
          have Q7 : Hid (Rq S v w (((T ++ clK f i) ++ meB x) ++ ((⟨#[45]⟩ : ByteArray) ++ meB y)) v7 w7) := h7
          clear h7 k6
          go_wp2_with fail
          refine ⟨⟨i + 1, by go_num, by omega, ?_⟩, by simp [RowKit.intOf]; omega⟩
          unfold Hid
          have := Q7.out
          rw [HS1.out, HXY.out]
          simpa only [ByteArray.append_assoc] using this
      · obtain rfl : i = n := by omega
        have k9 := hI.out.put HB.out ⟨#[93]⟩ (by have := H1.out i (by omega); have e93 : (⟨#[93]⟩ : ByteArray).size = 1 := rfl; rw [ByteArray.size_append]; omega)
        go_wp2_with fail
        go_fit k9
        rintro e w9 ⟨v9, rfl, h9⟩
        have Q9 : Hid (Rq S v w ((T ++ clK f i) ++ ⟨#[93]⟩) v9 w9) := h9
        clear h9 k9
        go_wp2
        go_ret
        refine ⟨_, rfl, ?_⟩
        rw [HE.out, ← ByteArray.append_assoc]
        exact Q9.out
end Go.Proofs.YtajaadagejhllaaGreatDoor
