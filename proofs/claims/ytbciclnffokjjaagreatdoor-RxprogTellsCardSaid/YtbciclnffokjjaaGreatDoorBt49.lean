/- A bundle of texts. -/
import Derived.Test.YtbciclnffokjjaaGreatDoorBt26
import Derived.Test.YtbciclnffokjjaaGreatDoorBt44
import Derived.Test.YtbciclnffokjjaaGreatDoorBt47
import Derived.Test.YtbciclnffokjjaaGreatDoorBt48
/- RxprogTells: the walk. -/
namespace Go.Proofs.YtbciclnffokjjaaGreatDoor
open Go.RowKit Go.Lib

set_option maxHeartbeats 1000000 in
set_option maxRecDepth 100000 in
theorem lit_any (w : World) : Calls Tryz.prog 5 #[.int .i32 97] w fun e w' => e = .returned (ndV ltN) ∧ Below w.heap.size w w' := by
  go_enter Tryz.func5, Tryz.ntmps5
  go_wp2
  have hc := ndX_cells (w := w) ltN (W := w.alloc (ndX ltN)) (Below.refl _ _)
  obtain ⟨q0, q1, q2, q3, q4, q5, q6, q7, q8⟩ := hc
  simp only [Nat.zero_add, ltN, ndX, rxX] at q0 q1 q2 q3 q4 q5 q6 q7 q8
  refine bodyPost_ret (v := ndV ltN) (by simp [results, Tryz.results5, go_sem, q0, q1, q2, q3, q4, q5, q6, q7, q8, ltN]) rfl ⟨rfl, (Below.refl _ _).alloc (Nat.le_refl _) _⟩
theorem StV.rl {S : Nat} {w : World} {v : Value} {m : Bool} {r : Sto} (h : StV S w v m r) : RlV w v m r := by
  rcases h with ⟨h1, h2, h3⟩ | ⟨L, h1, h2, h3⟩
  · exact .inl ⟨h1, h3, h2⟩
  · rw [h1, h2]; exact RlV.row h3
theorem RlV.tx {w : World} {v : Value} {m : Bool} {r : Sto} (h : RlV w v m r) : ∃ a c, v = .slice a (r.getD []).length c ∧ TxV w a (r.getD []) ∧ (!m) = r.isSome := by
  rcases h with ⟨h1, h2, h3⟩ | ⟨L, a, c, h1, h2, h3, h4⟩
  · exact ⟨none, 0, by rw [h1, h3]; rfl, by rw [h1]; exact .inl rfl, by rw [h1, h2]; rfl⟩
  · exact ⟨a, c, by rw [h1, h3]; rfl, by rw [h1]; exact h4, by rw [h1, h2]; rfl⟩
theorem TxV.below {w w' : World} {a : Option Addr} {L : List ByteArray} (h : TxV w a L) (b : Below w.heap.size w w') : TxV w' a L := by
  rcases h with h | ⟨g, o, h1, h2, h3⟩
  · exact .inl h
  · exact .inr ⟨g, o, h1, Nat.lt_of_lt_of_le h2 b.size, fun j x hj => (b.cell (p := ⟨g, o + j, none⟩) h2).trans (h3 j x hj)⟩
/-- What a walk's call of either Words leaves. -/
def WsP (W : World) (L : List ByteArray) (y : Bool) (V : World) (e : Ending) (w' : World) : Prop := ∃ a c, e = .returned (.tuple #[.slice a L.length c, .bool y]) ∧ Hid (TxV w' a L) ∧ Below W.heap.size W w' ∧ Below V.heap.size V w'
theorem WsP.of {W V : World} {r : Sto} {v : Value} {m : Bool} {e : Ending} {w' : World} (he : e = .returned (.tuple #[v, .bool (!m)])) (hr : RlV w' v m r) (bV : Below W.heap.size W V) (b : Below V.heap.size V w') : WsP W (r.getD []) r.isSome V e w' := by
  obtain ⟨a, c, rfl, h1, h2⟩ := hr.tx
  exact ⟨a, c, by rw [he, h2], h1, bV.trans (b.mono bV.size), b⟩
set_option maxHeartbeats 8000000 in
set_option maxRecDepth 100000 in
theorem tells_walk (t : Tr) (w : World) (ht : Tat w.heap.size w t) (hT : Lib.Utf8Tabs 0 1 w) :
    Calls Tryz.prog 3 #[ndV (t [])] w fun e w' => e = .returned (.bool true) ∧ Below w.heap.size w w' := by
  have hsz := tabs_size hT
  obtain ⟨W, hW⟩ : ∃ W, W = w.alloc (ndX (t [])) := ⟨_, rfl⟩
  have HW : Hid (W = w.alloc (ndX (t []))) := hW
  have hb0 : Below w.heap.size w W := by rw [hW]; exact (Below.refl _ w).alloc (Nat.le_refl _) _
  have hWz : W.heap.size = w.heap.size + 1 := by rw [hW]; simp
  have hc0 : Cs W w.heap.size 0 (t []) := ndX_cells (w := w) (t []) (by rw [hW]; exact Below.refl _ _)
  have HK : Hid (∀ V, Below W.heap.size W V → Cs V w.heap.size 0 (t []) ∧ Tat V.heap.size V t ∧ Lib.Utf8Tabs 0 1 V ∧ Below w.heap.size w V) := fun V b => ⟨hc0.below b (by omega), (((ht.below hb0).mono hb0.size).below b).mono b.size, tabs_below (tabs_below hT hsz hb0) (by omega) b, hb0.trans (b.mono hb0.size)⟩
  have up : ∀ V w', Below W.heap.size W V → Below V.heap.size V w' → Below W.heap.size W w' := fun V w' b b' => b.trans (b'.mono b.size)
  have HL : Hid (∀ V, Below W.heap.size W V → Calls Tryz.prog 5 #[.int .i32 97] V fun e w' => e = .returned (ndV ltN) ∧ Below W.heap.size W w') := fun V b => (lit_any V).mono fun e w' ⟨h1, h2⟩ => ⟨h1, up V w' b h2⟩
  have HWL : Hid (∀ V, Below W.heap.size W V → Calls Tryz.prog 4 #[ndV ltN] V (WsP W [⟨#[97]⟩] true V)) := fun V b => by
    refine (words_any ltT V (lt_at _ _)).mono fun e w' ⟨⟨v, m, he, hv⟩, hb⟩ => ?_
    have := WsP.of he hv.rl b hb
    rw [wds_lt] at this
    exact this
  have HPL : Hid (∀ V, Below W.heap.size W V → Calls Tryz.prog 7 #[ndV ltN] V fun e w' => e = .returned (.string ⟨#[97]⟩) ∧ Below W.heap.size W w') := fun V b => by
    have := prefix_any ltT V (lt_at _ _) (HK.out V b).2.2.1
    rw [pre_lt] at this
    exact this.mono fun e w' ⟨h1, h2⟩ => ⟨h1, up V w' b h2⟩
  have HHL : Hid (∀ V, Below W.heap.size W V → Calls Tryz.prog 8 #[.agg #[.int .i64 1, .int .i32 0, .slice none 0 0, .int .i64 0, .int .i64 0, .bool false, .int .i64 0, .string ⟨#[]⟩, .slice none 0 0]] V fun e w' => e = .returned (.bool true) ∧ Below W.heap.size W w') := fun V b => by
    have := hollowP_any emT V (em_at _ _)
    rw [ok_em, hol_em] at this
    exact this.mono fun e w' ⟨h1, h2⟩ => ⟨h1, up V w' b h2⟩
  have HS : Hid (∀ (a b : Option Addr) (c e : Nat) (L : List ByteArray) (V : World), L.length ≤ 64 → TxV V a L → TxV V b L → Below W.heap.size W V → Calls Tryz.prog 6 #[.slice a L.length c, .slice b L.length e] V fun e w' => e = .returned (.bool true) ∧ Below W.heap.size W w') := fun a b c e L V hL ha hb bV => (sameTexts_any a b c e L V hL ha hb).mono fun e w' ⟨h1, h2⟩ => ⟨h1, up V w' bV h2⟩
  have HW9 : Hid (∀ V, Below W.heap.size W V → Calls Tryz.prog 9 #[ndV (t [])] V (WsP W ((wdsF t).getD []) (wdsF t).isSome V)) := fun V b => (rwords_any t V (HK.out V b).2.1).mono fun e w' ⟨⟨v, m, he, hv⟩, hb⟩ => WsP.of he hv b hb
  have HW4 : Hid (∀ V, Below W.heap.size W V → Calls Tryz.prog 4 #[ndV (t [])] V (WsP W ((wdsF t).getD []) (wdsF t).isSome V)) := fun V b => (words_any t V (HK.out V b).2.1).mono fun e w' ⟨⟨v, m, he, hv⟩, hb⟩ => WsP.of he hv.rl b hb
  have HP7 : Hid (∀ V, Below W.heap.size W V → Calls Tryz.prog 7 #[ndV (t [])] V fun e w' => e = .returned (.string (bA (preF t))) ∧ Below W.heap.size W w') := fun V b => (prefix_any t V (HK.out V b).2.1 (HK.out V b).2.2.1).mono fun e w' ⟨h1, h2⟩ => ⟨h1, up V w' b h2⟩
  have HP10 : Hid (∀ V, Below W.heap.size W V → Calls Tryz.prog 10 #[ndV (t [])] V fun e w' => e = .returned (.string (bA (preF t))) ∧ Below W.heap.size W w') := fun V b => (rPrefix_any t V (HK.out V b).2.1).mono fun e w' ⟨h1, h2⟩ => ⟨h1, up V w' b h2⟩
  have HH8 : Hid (∀ V, Below W.heap.size W V → Calls Tryz.prog 8 #[ndV (t [])] V fun e w' => e = .returned (.bool (okT t && holF 8195 t)) ∧ Below W.heap.size W w') := fun V b => (hollowP_any t V (HK.out V b).2.1).mono fun e w' ⟨h1, h2⟩ => ⟨h1, up V w' b h2⟩
  have HH11 : Hid (∀ V, Below W.heap.size W V → Calls Tryz.prog 11 #[ndV (t [])] V fun e w' => e = .returned (.bool (okT t && holF 8195 t)) ∧ Below W.heap.size W w') := fun V b => (hollowR_any t V (HK.out V b).2.1).mono fun e w' ⟨h1, h2⟩ => ⟨h1, up V w' b h2⟩
  have HLN : Hid (((wdsF t).getD []).length ≤ 64) := by
    unfold Hid
    cases e : wdsF t with
    | none => exact Nat.zero_le _
    | some L => exact (wdsF_ok t L e).2
  have HCS : Hid (∀ V, Below W.heap.size W V → Cs V w.heap.size 0 (t []) ∧ Below w.heap.size w V) := fun V b => ⟨(HK.out V b).1, (HK.out V b).2.2.2⟩
  clear HK up hb0 hWz hc0 ht hT hsz hW
  generalize (wdsF t).getD [] = L at *
  generalize (wdsF t).isSome = y at *
  generalize (okT t && holF 8195 t) = hh at *
  generalize bA (preF t) = px at *
  generalize t [] = d at *
  have kL := HL.out W (Below.refl _ _)
  go_enter Tryz.func3, Tryz.ntmps3
  go_upto_region 1 with fail
  rw [← HW.out]
  go_wp2_with fail
  go_fit kL
  rintro e w1 ⟨rfl, b1⟩
  have kW := HWL.out w1 b1
  clear kL b1 HWL
  go_wp2_with fail
  go_fit kW
  rintro e w2 ⟨a, c, rfl, hx, b2, _⟩
  have bA2 : Below w2.heap.size w2 (w2.alloc (.cells #[.string ⟨#[97]⟩] 9)) := (Below.refl _ w2).alloc (Nat.le_refl _) _
  have B3 : Hid (Below W.heap.size W (w2.alloc (.cells #[.string ⟨#[97]⟩] 9))) := b2.trans (bA2.mono b2.size)
  have kS := HS.out a (some ⟨w2.heap.size, 0, none⟩) c 1 [⟨#[97]⟩] (w2.alloc (.cells #[.string ⟨#[97]⟩] 9)) (by decide) (hx.out.below bA2) (.inr ⟨w2.heap.size, 0, rfl, by simp, fun j x hj => by
    cases j with
    | zero =>
      cases hj
      unfold World.cell?
      rw [World.alloc_heap_new]
      rfl
    | succ j => simp at hj⟩) B3.out
  clear kW b2 hx bA2
  go_wp2_with fail
  go_fit kS
  rintro e w3 ⟨rfl, b3⟩
  have kL := HL.out w3 b3
  clear kS b3 B3
  go_wp2_with fail
  go_fit kL
  rintro e w4 ⟨rfl, b4⟩
  have kP := HPL.out w4 b4
  clear kL b4 HL HPL
  go_wp2_with fail
  go_fit kP
  rintro e w5 ⟨rfl, b5⟩
  have kH := HHL.out w5 b5
  clear kP b5 HHL
  go_wp2_with fail
  go_fit kH
  rintro e w6 ⟨rfl, b6⟩
  have k9 := HW9.out w6 b6
  obtain ⟨q0, q1, q2, q3, q4, q5, q6, q7, q8⟩ := (HCS.out w6 b6).1
  simp only [Nat.zero_add] at q0 q1 q2 q3 q4 q5 q6 q7 q8
  clear kH b6 HW9
  go_wp2_with fail
  go_fit k9
  rintro e w7 ⟨a1, c1, rfl, hx1, b7, _⟩
  have k4 := HW4.out w7 b7
  clear k9 q0 q1 q2 q3 q4 q5 q6 q7 q8
  obtain ⟨q0, q1, q2, q3, q4, q5, q6, q7, q8⟩ := (HCS.out w7 b7).1
  simp only [Nat.zero_add] at q0 q1 q2 q3 q4 q5 q6 q7 q8
  clear b7 HW4
  go_wp2_with fail
  go_fit k4
  rintro e w8 ⟨a2, c2, rfl, hx2, b8, b78⟩
  have HS6 : Hid (∀ V, Below w8.heap.size w8 V → Calls Tryz.prog 6 #[.slice a2 L.length c2, .slice a1 L.length c1] V fun e w' => e = .returned (.bool true) ∧ Below W.heap.size W w') := fun V b => HS.out a2 a1 c2 c1 L V HLN.out (hx2.out.below b) ((hx1.out.below b78).below b) (b8.trans (b.mono b8.size))
  have b0 : Below w8.heap.size w8 w8 := Below.refl _ _
  clear k4 b78 hx1 hx2 HS HLN q0 q1 q2 q3 q4 q5 q6 q7 q8
  have hyy : (y == y) = true := by simp
  have hpp : (px.toList == px.toList) = true := by simp
  have hhh : (hh == hh) = true := by simp
  go_wp2_with fail
  go_region_with (first | (go_at_call 6; go_fit (HS6.out _ b0); rintro e w9 ⟨rfl, b9⟩; obtain ⟨q0, q1, q2, q3, q4, q5, q6, q7, q8⟩ := (HCS.out w9 b9).1; simp only [Nat.zero_add] at q0 q1 q2 q3 q4 q5 q6 q7 q8) | (go_at_call 6; go_fit (HS6.out _ b0.drew); rintro e w9 ⟨rfl, b9⟩; obtain ⟨q0, q1, q2, q3, q4, q5, q6, q7, q8⟩ := (HCS.out w9 b9).1; simp only [Nat.zero_add] at q0 q1 q2 q3 q4 q5 q6 q7 q8) | (go_at_call 7; go_fit (HP7.out _ b9); rintro e w10 ⟨rfl, b10⟩; obtain ⟨q0, q1, q2, q3, q4, q5, q6, q7, q8⟩ := (HCS.out w10 b10).1; simp only [Nat.zero_add] at q0 q1 q2 q3 q4 q5 q6 q7 q8) | (go_at_call 7; go_fit (HP7.out _ b9.drew); rintro e w10 ⟨rfl, b10⟩; obtain ⟨q0, q1, q2, q3, q4, q5, q6, q7, q8⟩ := (HCS.out w10 b10).1; simp only [Nat.zero_add] at q0 q1 q2 q3 q4 q5 q6 q7 q8) | (go_at_call 10; go_fit (HP10.out _ b10); rintro e w11 ⟨rfl, b11⟩; obtain ⟨q0, q1, q2, q3, q4, q5, q6, q7, q8⟩ := (HCS.out w11 b11).1; simp only [Nat.zero_add] at q0 q1 q2 q3 q4 q5 q6 q7 q8) | (go_at_call 10; go_fit (HP10.out _ b10.drew); rintro e w11 ⟨rfl, b11⟩; obtain ⟨q0, q1, q2, q3, q4, q5, q6, q7, q8⟩ := (HCS.out w11 b11).1; simp only [Nat.zero_add] at q0 q1 q2 q3 q4 q5 q6 q7 q8) | (go_at_call 8; go_fit (HH8.out _ b11); rintro e w12 ⟨rfl, b12⟩; obtain ⟨q0, q1, q2, q3, q4, q5, q6, q7, q8⟩ := (HCS.out w12 b12).1; simp only [Nat.zero_add] at q0 q1 q2 q3 q4 q5 q6 q7 q8) | (go_at_call 8; go_fit (HH8.out _ b11.drew); rintro e w12 ⟨rfl, b12⟩; obtain ⟨q0, q1, q2, q3, q4, q5, q6, q7, q8⟩ := (HCS.out w12 b12).1; simp only [Nat.zero_add] at q0 q1 q2 q3 q4 q5 q6 q7 q8) | (go_at_call 11; go_fit (HH11.out _ b12); rintro e w13 ⟨rfl, b13⟩; have B13 : Hid _ := (HCS.out w13 b13).2) | (go_at_call 11; go_fit (HH11.out _ b12.drew); rintro e w13 ⟨rfl, b13⟩; have B13 : Hid _ := (HCS.out w13 b13).2))
  all_goals
    go_wp2
    go_ret
    exact ⟨ret_bool (by simp), B13.out⟩
end Go.Proofs.YtbciclnffokjjaaGreatDoor
