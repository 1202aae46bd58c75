/- The walks of the closure in Unquote and of meaning under it. -/
import Derived.Test.YtdnbkgbgpfmipabDoorMean
namespace Go.Proofs.YtdnbkgbgpfmipabDoor
open Go.RowKit Go.Lib

set_option maxHeartbeats 400000 in
theorem unq1_none (v : Value) (e : ByteArray) (q : Int) (qb : Nat) (w : World) (hq : w.cell? ⟨qb, 0, none⟩ = some (.int .u8 q)) (hp : 1 ≤ e.size) (h : escS e q = none) :
    Calls Tryd.prog 37 #[v, .string e, .pointer (some ⟨qb, 0, none⟩)] w fun r w' => r = .returned (.tuple #[v, .int .i64 0]) ∧ Below w.heap.size w w' := by
  have k := readEscape_none v e q w hp h
  clear h
  go_enter Tryd.func37, Tryd.ntmps37
  go_wp2_with (go_at_call 38; go_fit k; rintro x w1 ⟨rfl, hb⟩)
  go_ret2
  exact ⟨rfl, hb⟩
set_option maxHeartbeats 400000 in
theorem unq1_some (S : Nat) (v : Value) (l xs : List Int) (n : Nat) (e : ByteArray) (q : Int) (qb : Nat) (w : World) (hq : w.cell? ⟨qb, 0, none⟩ = some (.int .u8 q)) (hp : 1 ≤ e.size)
    (hS : S ≤ w.heap.size) (hn : l.length + 4 ≤ 140737488355328) (o : w.ownsRow S 5 1 v l.length (bc l)) (h : escS e q = some (xs, n)) :
    Calls Tryd.prog 37 #[v, .string e, .pointer (some ⟨qb, 0, none⟩)] w fun r w' => ∃ v', r = .returned (.tuple #[v', .int .i64 n]) ∧ w'.ownsRow S 5 1 v' (l ++ xs).length (bc (l ++ xs)) ∧ Below S w w' := by
  have k := readEscape_some S v l xs n e q w hp hS hn o h
  clear h o
  go_enter Tryd.func37, Tryd.ntmps37
  go_wp2_with (go_at_call 38; go_fit k; rintro x w1 ⟨v', rfl, o1, hb⟩)
  go_ret2
  exact ⟨v', rfl, o1, hb⟩

/-- A text's bytes as a list of numbers. -/
theorem strCells_bts (s : ByteArray) (p b : Nat) (h : p ≤ b) (hb : b ≤ s.size) : strCells (s.extract p b) = bc (bts s (b - p) p) := by
  have h1 : ∀ k p, p + k ≤ s.size → (s.extract p (p + k)).data.toList.map (fun x => (x.toNat : Int)) = bts s k p := by
    intro k
    induction k with
    | zero => intro p hp; rw [Lib.extract_data]; simp [bts]
    | succ k ih =>
      intro p hp
      have := ih (p + 1) (by omega)
      rw [Lib.extract_data] at this ⊢
      rw [show p + (k + 1) - p = k + 1 by omega, data_drop s p (by omega), List.take_succ_cons, List.map_cons, bts]
      rw [show p + 1 + k - (p + 1) = k by omega] at this
      rw [this]
      rfl
  have h2 := h1 (b - p) p (by omega)
  rw [show p + (b - p) = b by omega] at h2
  unfold strCells bc
  rw [← h2, List.map_map]
  rfl

theorem append_text (w : World) (S : Nat) (v : Value) (l : List Int) (s : ByteArray) (p b : Nat) (h : p ≤ b) (hb : b ≤ s.size) (hS : S ≤ w.heap.size) (hn : l.length + (b - p) ≤ 140737488355328) (o : w.ownsRow S 5 1 v l.length (bc l)) :
    ∃ v' w', (Builtin.append_ #[29, 9] 29 #[v, .string (s.extract p b)]).run Tryd.prog w = .ok v' w' ∧ w'.ownsRow S 5 1 v' (l ++ bts s (b - p) p).length (bc (l ++ bts s (b - p) p)) ∧ Below S w w' := by
  obtain ⟨i0, hi, hz0, hz1, hz2⟩ := info_parts info5
  have hsz : (s.extract p b).size = b - p := by simp; omega
  obtain ⟨v', w', r, o', g, _⟩ := run_append_own_string (P := Tryd.prog) w S 29 9 29 5 i0 Tryd.underlying29 Tryd.underlying9 hi hz0 hz1 hz2 v l.length (bc l) o (s.extract p b) (by unfold maxLen; omega) (by omega) hS
  refine ⟨v', w', r, ?_, ?_⟩
  · rw [List.length_append, bts_len, bc_app, ← strCells_bts s p b h hb, ← hsz]; exact o'
  · exact (Below.refl S w).grown g hS (fun k hk => (o.lt k hk).1)

theorem conv_owned (w : World) (S : Nat) (v : Value) (l : List Int) (o : w.ownsRow S 5 1 v l.length (bc l)) : (convert 29 9 v).run Tryd.prog w = .ok (.string (strOfNums l)) w := by
  have hc := fun g => o.cells (g := g)
  rcases o.2 with ⟨rfl, h0⟩ | ⟨g, c, cur, rfl, _⟩
  · have hl : l = [] := List.eq_nil_of_length_eq_zero h0
    subst hl
    have := run_convert_bytes_nil (P := Tryd.prog) w 29 5 Tryd.underlying29 Tryd.underlying5 0 0 9 Tryd.underlying9
    rw [this]
    rfl
  · exact run_convert_bytes_arg (P := Tryd.prog) w 29 5 Tryd.underlying29 Tryd.underlying5 g 0 l.length c l rfl (fun i hi => by
      have := hc g rfl i (.int .u8 (l.getD i 0)) (by simp [bc, List.getD, hi])
      rw [Go.WideShapes.add_plain] at this
      exact this) 9 Tryd.underlying9

/-- What meaning answers. -/
def mnV (O : Option (List Int)) : ByteArray × Bool := match O with | some l => (strOfNums l, true) | none => (⟨#[]⟩, false)

set_option maxHeartbeats 2000000 in
set_option maxRecDepth 100000 in
theorem meaning_any (s : ByteArray) (q : Int) (qb : Nat) (w : World) (hs : s.size ≤ 140737488351232) (hq : w.cell? ⟨qb, 0, none⟩ = some (.int .u8 q)) (hr : rd s 0 = true) :
    Calls Tryd.prog 33 #[.string (s.extract 0 s.size), .func (.func 37) #[] #[.pointer (some ⟨qb, 0, none⟩)]] w fun r w' => r = .returned (.tuple #[.string (mnV (mn s q 0)).1, .bool (mnV (mn s q 0)).2]) ∧ Below w.heap.size w w' := by
  generalize hO : mn s q 0 = O
  have HO : Hid (mn s q 0 = O) := hO
  have hqb := lt_of_cell hq
  have HQ : Hid (w.cell? ⟨qb, 0, none⟩ = some (.int .u8 q)) := hq
  have HR : Hid (rd s 0 = true) := hr
  clear hO hq hr
  go_enter Tryd.func33, Tryd.ntmps33
  go_wp2_with fail
  go_loopw [0, 6] (fun t b w' => ∃ (p : Nat) (l : List Int), t = .string (s.extract p s.size) ∧ w'.ownsRow w.heap.size 5 1 b l.length (bc l) ∧ p ≤ s.size ∧ rd s p = true ∧ (mn s q p).map (l ++ ·) = O ∧ l.length ≤ p ∧ Below w.heap.size w w')
    (fun t _ _ => (match t with | .string x => x.size | _ => 0))
  case atStart => exact ⟨0, [], rfl, World.ownsRow_nil _ _ _ _, by omega, HR.out, by rw [HO.out]; cases O <;> rfl, by simp, Below.refl _ _⟩
  case round =>
    obtain ⟨p, l, rfl, hown, hp, hrd, hm, hlp, hbw⟩ := hrel
    have hge := bsF_ge s s.size p
    have hle := bsF_le s s.size p hp
    have hbef := bsF_before s s.size p
    have hrun := mn_run s q (bsF s s.size p - p) p (by omega) (fun j h1 h2 => hbef j h1 (by omega))
    have hrr := rd_run s (bsF s s.size p - p) p (by omega) (fun j h1 h2 => hbef j h1 (by omega))
    rw [show p + (bsF s s.size p - p) = bsF s s.size p by omega] at hrun hrr
    by_cases hbs : bsF s s.size p < s.size
    · have kc := cut_yes s p wr hp (by omega) hbs
      have hat := bsF_at s s.size p (by omega) hbs
      have hrb : rd s (bsF s s.size p) = true := by rw [← hrr]; exact hrd
      obtain ⟨hb1, hr2⟩ := (rd_bs s _ hbs hat).1 hrb
      have HA : Hid (∀ w1, Below wr.heap.size wr w1 → ∃ v' w', (Builtin.append_ #[29, 9] 29 #[u6, .string (s.extract p (bsF s s.size p))]).run Tryd.prog w1 = .ok v' w' ∧ w'.ownsRow w.heap.size 5 1 v' (l ++ bts s (bsF s s.size p - p) p).length (bc (l ++ bts s (bsF s s.size p - p) p)) ∧ Below w.heap.size w1 w') :=
        fun w1 hb1 => append_text w1 w.heap.size u6 l s p (bsF s s.size p) hge hle (Nat.le_trans hbw.size hb1.size) (by omega) (owns_below hown hb1)
      have hlen : (l ++ bts s (bsF s s.size p - p) p).length ≤ bsF s s.size p := by rw [List.length_append, bts_len]; omega
      have hsx : 1 ≤ (s.extract (bsF s s.size p + 1) s.size).size := by simp; omega
      cases hesc : escS (s.extract (bsF s s.size p + 1) s.size) q with
      | none =>
        have HE : Hid (O = none) := by
          show _ = _
          rw [← hm, hrun, mn_none s q _ hbs hat hesc]
          rfl
        have HK : Hid (∀ v w1, w1.cell? ⟨qb, 0, none⟩ = some (.int .u8 q) → Calls Tryd.prog 37 #[v, .string (s.extract (bsF s s.size p + 1) s.size), .pointer (some ⟨qb, 0, none⟩)] w1 fun r w' => r = .returned (.tuple #[v, .int .i64 0]) ∧ Below w1.heap.size w1 w') :=
          fun v w1 h => unq1_none v _ q qb w1 h hsx hesc
        clear hrun hrr hbef hown hm hrd hesc hrb hr2 hat
        go_wp2_with fail
        go_fit kc
        rintro x w1 ⟨rfl, hbb⟩
        obtain ⟨v', w2, r1, o1, b1⟩ := HA.out w1 hbb
        have hB2 : Below w.heap.size w w2 := (hbw.trans (hbb.mono hbw.size)).trans b1
        have kk := HK.out v' w2 (by rw [hB2.cell hqb]; exact HQ.out)
        clear o1
        go_wp2_with (at_builtin; refine wpList_append_run rfl (.tmp 17) (.tmp 18) 29 9 rfl _ _ rfl rfl r1 ?_)
        go_fit kk
        rintro x w3 ⟨rfl, hb3⟩
        go_wp2_with fail
        go_ret2
        exact ⟨by rw [HE.out]; rfl, hB2.trans (hb3.mono hB2.size)⟩
      | some xc =>
        obtain ⟨xs, c⟩ := xc
        have hre := rd_esc s q _ xs c hbs hat hrb hesc
        obtain ⟨t1, t2, t3, _⟩ := esc_takes s q _ xs c hb1 hesc
        have HE : Hid ((mn s q (bsF s s.size p + 1 + c)).map (((l ++ bts s (bsF s s.size p - p) p) ++ xs) ++ ·) = O) := by
          show _ = _
          rw [← hm, hrun, mn_some s q _ xs c hbs hat hesc]
          cases mn s q (bsF s s.size p + 1 + c) <;> simp
        have HL : Hid (((l ++ bts s (bsF s s.size p - p) p) ++ xs).length ≤ bsF s s.size p + 1 + c) := by
          show _ ≤ _
          rw [List.length_append]; omega
        have HK : Hid (∀ v w1, w.heap.size ≤ w1.heap.size → w1.ownsRow w.heap.size 5 1 v (l ++ bts s (bsF s s.size p - p) p).length (bc (l ++ bts s (bsF s s.size p - p) p)) → w1.cell? ⟨qb, 0, none⟩ = some (.int .u8 q) → Calls Tryd.prog 37 #[v, .string (s.extract (bsF s s.size p + 1) s.size), .pointer (some ⟨qb, 0, none⟩)] w1 fun r w' => ∃ v', r = .returned (.tuple #[v', .int .i64 c]) ∧ w'.ownsRow w.heap.size 5 1 v' ((l ++ bts s (bsF s s.size p - p) p) ++ xs).length (bc ((l ++ bts s (bsF s s.size p - p) p) ++ xs)) ∧ Below w.heap.size w1 w') :=
          fun v w1 hS o h => unq1_some w.heap.size v _ xs c _ q qb w1 h hsx hS (by omega) o hesc
        have HX : Hid ((s.extract (bsF s s.size p + 1) s.size).extract c (s.extract (bsF s s.size p + 1) s.size).size = s.extract (bsF s s.size p + 1 + c) s.size) := suffix_suffix s _ c (by omega)
        have hcs : (c : Int) ≤ (s.extract (bsF s s.size p + 1) s.size).size := by simp; omega
        have hmz : (s.extract (bsF s s.size p + 1 + c) s.size).size < (s.extract p s.size).size := by simp; omega
        clear hrun hrr hbef hown hm hrd hesc hrb hr2 hat
        generalize bsF s s.size p = b at *
        generalize hT : s.extract (b + 1) s.size = T at *
        clear hT
        have hc0 : (c : Int) ≠ 0 := by omega
        go_wp2_with fail
        go_fit kc
        rintro x w1 ⟨rfl, hbb⟩
        obtain ⟨v', w2, r1, o1, b1⟩ := HA.out w1 hbb
        have hB2 : Below w.heap.size w w2 := (hbw.trans (hbb.mono hbw.size)).trans b1
        have kk := HK.out v' w2 hB2.size o1 (by rw [hB2.cell hqb]; exact HQ.out)
        clear o1
        go_wp2_with (at_builtin; refine wpList_append_run rfl (.tmp 17) (.tmp 18) 29 9 rfl _ _ rfl rfl r1 ?_)
        go_fit kk
        rintro x w3 ⟨v3, rfl, o3, hb3⟩
        have HO3 : Hid (w3.ownsRow w.heap.size 5 1 v3 ((l ++ bts s (b - p) p) ++ xs).length (bc ((l ++ bts s (b - p) p) ++ xs))) := o3
        clear o3
        go_wp2_with fail
        refine ⟨⟨b + 1 + c, _, by rw [HX.out], HO3.out, t1, hre, HE.out, HL.out, hB2.trans hb3⟩, ?_⟩
        rw [HX.out]
        exact hmz
    · have kc := cut_no s p wr hp hbs
      have hbe : bsF s s.size p = s.size := by omega
      rw [hbe] at hrun
      rw [mn_end s q s.size (by omega)] at hrun
      have HE : Hid (O = some (l ++ bts s (s.size - p) p)) := by
        show _ = _
        rw [← hm, hrun]
        simp
      have HA : Hid (∀ w1, Below wr.heap.size wr w1 → ∃ v' w', (Builtin.append_ #[29, 9] 29 #[u6, .string (s.extract p s.size)]).run Tryd.prog w1 = .ok v' w' ∧ w'.ownsRow w.heap.size 5 1 v' (l ++ bts s (s.size - p) p).length (bc (l ++ bts s (s.size - p) p)) ∧ Below w.heap.size w1 w') :=
        fun w1 hb1 => append_text w1 w.heap.size u6 l s p s.size hp (Nat.le_refl _) (Nat.le_trans hbw.size hb1.size) (by omega) (owns_below hown hb1)
      clear hrun hrr hbef hge hle hbs hbe hown hm hrd
      go_wp2_with fail
      go_fit kc
      rintro x w1 ⟨rfl, hb1⟩
      obtain ⟨v', w2, r1, o1, b1⟩ := HA.out w1 hb1
      have hcv := conv_owned w2 w.heap.size v' _ o1
      clear o1
      go_wp2_with (at_builtin; refine wpList_append_run rfl (.tmp 17) (.tmp 18) 29 9 rfl _ _ rfl rfl r1 ?_)
      go_ret2
      exact ⟨by rw [HE.out]; rfl, (hbw.trans (hb1.mono hbw.size)).trans b1⟩
end Go.Proofs.YtdnbkgbgpfmipabDoor
