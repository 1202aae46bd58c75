/- Between. -/
import Derived.Test.YtedlmjieclaojabDoorGa
namespace Go.Proofs.YtedlmjieclaojabDoor
open Go.RowKit

theorem own_low {w : World} {S e s n : Nat} {v : Value} {xs : List Value} (o : w.ownsRow S e s v n xs) : ∀ k, k < S → ¬ v.ownBlock = some k := by
  intro k hk h
  rcases o.2 with ⟨h', _⟩ | ⟨g', _, _, h', h2, _⟩
  · rw [h'] at h; cases h
  · rw [h'] at h
    have : g' = k := Option.some.inj h
    omega
theorem row_lower {w : World} {S S' e s n : Nat} {v : Value} {xs : List Value} (o : w.ownsRow S e s v n xs) (h : S' ≤ S) : w.ownsRow S' e s v n xs :=
  ⟨o.1, o.2.imp id (fun ⟨g', cap, cur, h1, h2, h3⟩ => ⟨g', cap, cur, h1, Nat.le_trans h h2, h3⟩)⟩
/-- What Between answers. -/
def BwR (xs : List Int) (after upto : Int) (w : World) (e : Ending) (w' : World) : Prop := ∃ v, e = .returned (.tuple #[v, .int .i64 (upE xs)]) ∧ w'.ownsRow w.heap.size 31 3 v (btw after upto (upL xs)).length (smc (btw after upto (upL xs))) ∧ Below w.heap.size w w'
theorem up_small (xs : List Int) : (upL xs).length ≤ 100000 := by
  rcases up_cases xs with ⟨_, h⟩ | ⟨l, h1, _, h2⟩
  · rw [h]; simp
  · rw [h2]; exact (pkE_zero (unp_form h1).1).1
set_option maxHeartbeats 4000000 in
set_option maxRecDepth 100000 in
theorem between_any (a : Option Addr) (c : Nat) (xs : List Int) (after upto : Int) (w : World) (hi : Im w a xs) (hx : By xs) (hs : Scl w) (ht : Tab w) (hcap : xs.length ≤ c) :
    Calls Tryd.prog 17 #[.slice a xs.length c, .int .i64 after, .int .i64 upto] w (BwR xs after upto w) := by
  have k := unpack_any a c xs w hi hx hs ht hcap
  have hup := up_small xs
  have HFIN : Hid (∀ v w', w'.ownsRow w.heap.size 31 3 v (btw after upto (upL xs)).length (smc (btw after upto (upL xs))) → Below w.heap.size w w' → BwR xs after upto w (.returned (.tuple #[v, .int .i64 (upE xs)])) w') := fun v w' h1 h2 => ⟨v, rfl, h1, h2⟩
  unfold UpR at k
  clear hi hx hs ht hcap
  generalize upL xs = ul at *
  generalize upE xs = ue at *
  go_enter Tryd.func17, Tryd.ntmps17
  go_wp2_with fail
  go_fit k
  rintro e w1 ⟨v, rfl, o1, b1⟩
  obtain ⟨av, cv, rfl⟩ := row_form o1
  have HSM : Hid (Sm w1 av ul) := Sm.of_row o1
  have HB1 : Hid (Below w.heap.size w w1) := b1
  obtain ⟨n, hn⟩ : ∃ n, n = ul.length := ⟨_, rfl⟩
  have HN : Hid (n = ul.length) := hn
  rw [← hn] at hup ⊢
  clear k o1 b1 hn
  go_wp2_with fail
  go_loopw [10, 20] (fun fv iv w' => ∃ i : Nat, iv = .int .i64 (i : Nat) ∧ i ≤ n ∧ Hid (w'.ownsRow w1.heap.size 31 3 fv (btw after upto (ul.take i)).length (smc (btw after upto (ul.take i)))) ∧ Hid (Below w1.heap.size w1 w')) (fun _ iv _ => n - (RowKit.intOf iv).toNat)
  case atStart => exact ⟨0, rfl, Nat.zero_le _, World.ownsRow_nil _ _ _ _, Below.refl _ _⟩
  case round =>
    obtain ⟨i, rfl, hi, ho, hbw⟩ := hrel
    by_cases hlt : i < n
    · have hii : (i : Int) < (n : Int) := by omega
      obtain ⟨x, hx⟩ : ∃ x, ul[i]? = some x := ⟨ul[i]'(by have := HN.out; omega), List.getElem?_eq_getElem _⟩
      obtain ⟨g, o, rfl, hg, hcs⟩ : ∃ g o, av = some ⟨g, o, none⟩ ∧ g < w1.heap.size ∧ _ := by
        rcases HSM.out with h | h
        · have := HN.out; rw [h] at this; simp at this; omega
        · exact h
      obtain ⟨x0, x1, x2⟩ := hcs i x hx
      have y0 := (hbw.out.cell (p := ⟨g, o + i * 3, none⟩) hg).trans x0
      have y1 := (hbw.out.cell (p := ⟨g, o + i * 3 + 1, none⟩) hg).trans x1
      have y2 := (hbw.out.cell (p := ⟨g, o + i * 3 + 2, none⟩) hg).trans x2
      have htk : ul.take (i + 1) = ul.take i ++ [x] := by rw [List.take_add_one, hx]; rfl
      have hsn : btw after upto (ul.take (i + 1)) = btw after upto (ul.take i) ++ if (decide (after < x.t) && decide (x.t ≤ upto)) = true then [x] else [] := by rw [htk, btw_snoc]
      have hbl : (btw after upto (ul.take i)).length ≤ 100000 := by have := btw_len after upto (ul.take i); rw [List.length_take] at this; omega
      have hba : Below wr.heap.size wr (wr.alloc (smX x)) := (Below.refl _ _).alloc (Nat.le_refl _) _
      have HBA : Hid (Below w1.heap.size w1 (wr.alloc (smX x))) := hbw.out.trans (hba.mono hbw.out.size)
      have HOA : Hid ((wr.alloc (smX x)).ownsRow w1.heap.size 31 3 u10 (btw after upto (ul.take i)).length (smc (btw after upto (ul.take i)))) := World.ownsRow.alloc ho.out _
      have HSN : Hid (_ = _) := hsn
      have HBL : Hid ((btw after upto (ul.take i)).length ≤ 100000) := hbl
      obtain ⟨t, vv, s⟩ := x
      dsimp only at y0 y1 y2 HSN
      have hsf := @run_store_float Tryd.prog
      have n0 : (wr.alloc (smX ⟨t, vv, s⟩)).cell? ⟨wr.heap.size, 0, none⟩ = some (.int .i64 t) := by simp
      have n1 : (wr.alloc (smX ⟨t, vv, s⟩)).cell? ⟨wr.heap.size, 1, none⟩ = some (.float .f64 vv) := by simp
      have n2 : (wr.alloc (smX ⟨t, vv, s⟩)).cell? ⟨wr.heap.size, 2, none⟩ = some (.bool s) := by simp
      clear hcs hx x0 x1 x2 htk hsn hbl hba ho hbw
      generalize btw after upto (ul.take i) = bl at *
      obtain ⟨bl2, hbl2⟩ : ∃ b, b = btw after upto (ul.take (i + 1)) := ⟨_, rfl⟩
      have HB2 : Hid (bl2 = btw after upto (ul.take (i + 1))) := hbl2
      rw [← hbl2] at HSN
      clear hbl2
      go_upto_region 6 with fail
      generalize wr.alloc (.cells #[.int .i64 t, .float .f64 vv, .bool s] 31) = W3 at *
      generalize wr.heap.size = SB at *
      clear y0 y1 y2
      by_cases h1 : after < t
      · by_cases h2 : t ≤ upto
        · rw [decide_eq_true h1, decide_eq_true h2] at HSN
          have e2 : bl2 = bl ++ [⟨t, vv, s⟩] := by have := HSN.out; simpa using this
          obtain ⟨v4, w4, r4, o4, k4, hv4⟩ := append_s W3 w1.heap.size u10 bl ⟨t, vv, s⟩ HBA.out.size (by have := HBL.out; omega) HOA.out
          have HO4 : Hid (w4.ownsRow w1.heap.size 31 3 v4 bl2.length (smc bl2)) := by
            rw [e2, List.length_append]; exact o4
          have HB4 : Hid (Below w1.heap.size w1 w4) := HBA.out.trans (k4.below HBA.out.size (own_low HOA.out))
          obtain ⟨a10, c10, rfl⟩ := row_form HOA.out
          clear HSN e2 o4 k4 hv4 HBA HOA
          go_wp2_with (at_builtin; refine wpList_append_run rfl (.tmp 34) (.tmp 36) 35 35 rfl _ _ rfl rfl r4 ?_)
          exact ⟨⟨i + 1, by go_num, by omega, by rw [← HB2.out]; exact HO4, HB4⟩, by simp [RowKit.intOf]; omega⟩
        · rw [decide_eq_false h2, Bool.and_false] at HSN
          have e2 : bl2 = bl := by have := HSN.out; simpa using this
          rw [← e2] at HOA
          clear HSN e2
          go_wp2
          exact ⟨⟨i + 1, by go_num, by omega, by rw [← HB2.out]; exact HOA, HBA⟩, by simp [RowKit.intOf]; omega⟩
      · rw [decide_eq_false h1, Bool.false_and] at HSN
        have e2 : bl2 = bl := by have := HSN.out; simpa using this
        rw [← e2] at HOA
        clear HSN e2
        go_wp2
        exact ⟨⟨i + 1, by go_num, by omega, by rw [← HB2.out]; exact HOA, HBA⟩, by simp [RowKit.intOf]; omega⟩
    · have hii : ¬ (i : Int) < (n : Int) := by omega
      have htk : ul.take i = ul := List.take_of_length_le (by have := HN.out; omega)
      rw [htk] at ho
      have HF : Hid (BwR xs after upto w (.returned (.tuple #[u10, .int .i64 ue])) wr) := HFIN.out _ _ (row_lower ho.out HB1.out.size) (HB1.out.trans (hbw.out.mono HB1.out.size))
      clear ho hbw htk
      go_wp2
      go_ret2
      exact HF.out
end Go.Proofs.YtedlmjieclaojabDoor
