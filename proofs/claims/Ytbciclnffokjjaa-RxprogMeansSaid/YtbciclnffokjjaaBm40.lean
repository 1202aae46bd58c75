/- A bundle of texts. -/
import Derived.Test.YtbciclnffokjjaaBm39
import Derived.Test.YtbciclnffokjjaaBm22
import Derived.Test.YtbciclnffokjjaaBm31
/- The reference's matching: in, same, add. -/
namespace Go.Proofs.Ytbciclnffokjjaa
open Go.RowKit Go.Lib

/-- Is a rune in one of the ranges? -/
def inB (c : Int) (f : Nat → Rg) : Nat → Bool
  | 0 => false
  | n + 1 => inB c f n || (decide ((f n).1 ≤ c) && decide (c ≤ (f n).2))
theorem inB_yes {c : Int} {f : Nat → Rg} {i : Nat} (h : (decide ((f i).1 ≤ c) && decide (c ≤ (f i).2)) = true) : ∀ {n : Nat}, i < n → inB c f n = true
  | 0, hi => by omega
  | n + 1, hi => by
    unfold inB
    by_cases e : i = n
    · subst e; rw [h, Bool.or_true]
    · rw [inB_yes h (n := n) (by omega), Bool.true_or]
set_option maxHeartbeats 2000000 in
set_option maxRecDepth 100000 in
theorem rIn_any (c : Int) (a : Option Addr) (n cc : Nat) (f : Nat → Rg) (w : World) (hR : Rml w a f n) (hn : n ≤ 1152921504606846976) : Calls Try.prog 75 #[.int .i32 c, .slice a n cc] w fun e w' => e = .returned (.bool (inB c f n)) ∧ w' = w := by
  have HR : Hid (Rml w a f n) := hR
  have hnI : (n : Int) ≤ 1152921504606846976 := by omega
  clear hR
  go_enter Try.func75, Try.ntmps75
  go_wp2_with fail
  go_loopw [5] (fun ivv w' => ∃ i : Nat, ivv = .int .i64 (i : Int) ∧ i ≤ n ∧ Hid (inB c f i = false) ∧ w' = w) (fun ivv _ => n - (RowKit.intOf ivv).toNat)
  case atStart => exact ⟨0, rfl, Nat.zero_le _, rfl, rfl⟩
  case round =>
    obtain ⟨i, rfl, hi, HI, hw⟩ := hrel
    have hw' := hw.symm
    subst hw'
    by_cases hlt : i < n
    · have hii : (i : Int) < n := by omega
      obtain ⟨g, o, ea, _, c0, c1⟩ := HR.out.at i hlt
      subst ea
      have HN : Hid (inB c f (i + 1) = (inB c f i || (decide ((f i).1 ≤ c) && decide (c ≤ (f i).2)))) := rfl
      have HY : Hid ((decide ((f i).1 ≤ c) && decide (c ≤ (f i).2)) = true → inB c f n = true) := fun h => inB_yes h hlt
      clear HR
      generalize f i = x at *
      by_cases h0 : x.1 ≤ c
      · by_cases h1 : c ≤ x.2
        · have HT : Hid (inB c f n = true) := HY.out (by rw [decide_eq_true h0, decide_eq_true h1]; rfl)
          clear HN HY HI
          go_wp2
          go_ret
          exact ⟨ret_bool HT.out.symm, rfl⟩
        · have HF : Hid (inB c f (i + 1) = false) := by unfold Hid; rw [HN.out, HI.out, decide_eq_true h0, decide_eq_false h1]; rfl
          clear HN HY HI
          go_wp2
          exact ⟨⟨i + 1, by go_num, by omega, HF, trivial⟩, by simp [RowKit.intOf]; omega⟩
      · have HF : Hid (inB c f (i + 1) = false) := by unfold Hid; rw [HN.out, HI.out, decide_eq_false h0]; rfl
        clear HN HY HI
        go_wp2
        exact ⟨⟨i + 1, by go_num, by omega, HF, trivial⟩, by simp [RowKit.intOf]; omega⟩
    · have hii : ¬ (i : Int) < n := by omega
      have hiN : n = i := by omega
      subst hiN
      clear HR
      go_wp2
      go_ret
      exact ⟨ret_bool HI.out.symm, rfl⟩

/-- A row of truths. -/
def Bml (w : World) (a : Option Addr) (s : Nat → Bool) (n : Nat) : Prop := n = 0 ∨ ∃ g o, a = some ⟨g, o, none⟩ ∧ g < w.heap.size ∧ ∀ j, j < n → w.cell? ⟨g, o + j, none⟩ = some (.bool (s j))
theorem Bml.below {w w' : World} {a : Option Addr} {s : Nat → Bool} {n : Nat} (h : Bml w a s n) (hb : Below w.heap.size w w') : Bml w' a s n := h.imp id (fun ⟨g, o, e, hg, hc⟩ => ⟨g, o, e, Nat.lt_of_lt_of_le hg hb.size, fun j hj => bcell2 hb (hc j hj)⟩)
theorem Bml.kp {w w' : World} {a : Option Addr} {s : Nat → Bool} {n : Nat} {M : Nat → Prop} (h : Bml w a s n) (k : Kp M w w') (hM : ∀ p, a = some p → ¬ M p.block) : Bml w' a s n := h.imp id (fun ⟨g, o, e, hg, hc⟩ => ⟨g, o, e, Nat.lt_of_lt_of_le hg k.size, fun j hj => k.cell (hc j hj) (show ¬ M g from hM ⟨g, o, none⟩ e)⟩)
theorem Bml.at {w : World} {a : Option Addr} {s : Nat → Bool} {n : Nat} (h : Bml w a s n) (j : Nat) (hj : j < n) : ∃ g o, a = some ⟨g, o, none⟩ ∧ g < w.heap.size ∧ w.cell? ⟨g, o + j, none⟩ = some (.bool (s j)) := by
  rcases h with h | ⟨g, o, e, hg, hc⟩
  · omega
  · exact ⟨g, o, e, hg, hc j hj⟩
def smB (s u : Nat → Bool) : Nat → Bool
  | 0 => true
  | n + 1 => smB s u n && (s n == u n)
theorem smB_no {s u : Nat → Bool} {i : Nat} (h : (s i == u i) = false) : ∀ {n : Nat}, i < n → smB s u n = false
  | 0, hi => by omega
  | n + 1, hi => by
    unfold smB
    by_cases e : i = n
    · subst e; rw [h, Bool.and_false]
    · rw [smB_no h (n := n) (by omega), Bool.false_and]
theorem smB_iff {s u : Nat → Bool} : ∀ {n : Nat}, smB s u n = true ↔ ∀ j, j < n → s j = u j
  | 0 => by simp [smB]
  | n + 1 => by
    unfold smB
    rw [Bool.and_eq_true, smB_iff]
    constructor
    · rintro ⟨h1, h2⟩ j hj
      by_cases e : j = n
      · subst e; simpa using h2
      · exact h1 j (by omega)
    · intro h
      exact ⟨fun j hj => h j (by omega), by simpa using h n (by omega)⟩
set_option maxHeartbeats 2000000 in
set_option maxRecDepth 100000 in
theorem rSame_any (a b : Option Addr) (n ac bc : Nat) (s u : Nat → Bool) (w : World) (ha : Bml w a s n) (hb : Bml w b u n) (hn : n ≤ 1152921504606846976) : Calls Try.prog 93 #[.slice a n ac, .slice b n bc] w fun e w' => e = .returned (.bool (smB s u n)) ∧ Below w.heap.size w w' := by
  have HA : Hid (Bml w a s n) := ha
  have HB : Hid (Bml w b u n) := hb
  have hnI : (n : Int) ≤ 1152921504606846976 := by omega
  clear ha hb
  go_enter Try.func93, Try.ntmps93
  go_wp2_with fail
  go_loopw [5] (fun ivv w' => ∃ i : Nat, ivv = .int .i64 (i : Int) ∧ i ≤ n ∧ Hid (smB s u i = true) ∧ Hid (Below w.heap.size w w')) (fun ivv _ => n - (RowKit.intOf ivv).toNat)
  case atStart => exact ⟨0, rfl, Nat.zero_le _, rfl, Below.refl _ _⟩
  case round =>
    obtain ⟨i, rfl, hi, HI, HW⟩ := hrel
    by_cases hlt : i < n
    · have hii : (i : Int) < n := by omega
      obtain ⟨g, o, ea, _, c0⟩ := (HA.out.below HW.out).at i hlt
      obtain ⟨g', o', eb, _, c1⟩ := (HB.out.below HW.out).at i hlt
      subst ea
      subst eb
      have HN : Hid (smB s u (i + 1) = (smB s u i && (s i == u i))) := rfl
      have HY : Hid ((s i == u i) = false → smB s u n = false) := fun h => smB_no h hlt
      have HD : Hid (∀ q, Below w.heap.size w (wr.drewN q)) := fun q => Below.drewN HW.out q
      clear HA HB HW
      generalize s i = x at *
      generalize u i = y at *
      cases x <;> cases y
      · have HT : Hid (smB s u (i + 1) = true) := by unfold Hid; rw [HN.out, HI.out]; rfl
        clear HN HY HI
        go_wp2_with fail
        go_big_quiet (fail)
        go_wp2
        exact ⟨⟨i + 1, by go_num, by omega, HT, HD.out _⟩, by simp [RowKit.intOf]; omega⟩
      · have HF : Hid (smB s u n = false) := HY.out rfl
        clear HN HY HI
        go_wp2_with fail
        go_big_quiet (fail)
        go_wp2
        go_ret
        exact ⟨ret_bool HF.out.symm, HD.out _⟩
      · have HF : Hid (smB s u n = false) := HY.out rfl
        clear HN HY HI
        go_wp2_with fail
        go_big_quiet (fail)
        go_wp2
        go_ret
        exact ⟨ret_bool HF.out.symm, HD.out _⟩
      · have HT : Hid (smB s u (i + 1) = true) := by unfold Hid; rw [HN.out, HI.out]; rfl
        clear HN HY HI
        go_wp2_with fail
        go_big_quiet (fail)
        go_wp2
        exact ⟨⟨i + 1, by go_num, by omega, HT, HD.out _⟩, by simp [RowKit.intOf]; omega⟩
    · have hii : ¬ (i : Int) < n := by omega
      have hiN : n = i := by omega
      subst hiN
      clear HA HB
      go_wp2
      go_ret
      exact ⟨ret_bool HI.out.symm, HW.out⟩

theorem bcS_put (s : Nat → Bool) (n j : Nat) (x : Bool) : (bcS s n).set j (.bool x) = bcS (up s j x) n := by
  unfold bcS
  apply List.ext_getElem?
  intro i
  rw [List.getElem?_set, List.getElem?_map, List.getElem?_map, List.length_map, List.length_range]
  by_cases h : i < n
  · rw [List.getElem?_range h, Option.map_some, Option.map_some]
    by_cases e : j = i
    · subst e; rw [if_pos rfl, if_pos h, up_same]
    · rw [if_neg e, up_other _ _ _ _ (Ne.symm e)]
  · rw [List.getElem?_eq_none (by rw [List.length_range]; omega), Option.map_none, Option.map_none]
    by_cases e : j = i
    · subst e; rw [if_pos rfl, if_neg h]
    · rw [if_neg e]
theorem bcS_congr (s u : Nat → Bool) (n : Nat) (h : ∀ j, j < n → s j = u j) : bcS s n = bcS u n := by
  unfold bcS
  exact List.map_congr_left fun j hj => by rw [h j (List.mem_range.1 hj)]
/-- More truths come in. -/
def orB (s u : Nat → Bool) (j : Nat) : Bool := s j || u j
def orI (s u : Nat → Bool) (i j : Nat) : Bool := if j < i then s j || u j else s j
def grB (s u : Nat → Bool) : Nat → Bool
  | 0 => false
  | n + 1 => grB s u n || (u n && !s n)
theorem grB_no {s u : Nat → Bool} : ∀ {n : Nat}, grB s u n = false ↔ ∀ j, j < n → u j = true → s j = true
  | 0 => by simp [grB]
  | n + 1 => by
    unfold grB
    rw [Bool.or_eq_false_iff, grB_no]
    constructor
    · rintro ⟨h1, h2⟩ j hj hu
      by_cases e : j = n
      · subst e
        rw [hu] at h2
        simpa using h2
      · exact h1 j (by omega) hu
    · intro h
      refine ⟨fun j hj => h j (by omega), ?_⟩
      cases hu : u n with
      | false => rfl
      | true => rw [h n (by omega) hu]; rfl
theorem orI_next (s u : Nat → Bool) (i : Nat) : up (orI s u i) i (s i || u i) = orI s u (i + 1) := by
  funext j
  by_cases e : j = i
  · subst e
    rw [up_same]
    unfold orI
    rw [if_pos (by omega)]
  · rw [up_other _ _ _ _ e]
    unfold orI
    by_cases h : j < i
    · rw [if_pos h, if_pos (by omega)]
    · rw [if_neg h, if_neg (by omega)]
set_option maxHeartbeats 2000000 in
set_option maxRecDepth 100000 in
theorem rAdd_any (S g n c : Nat) (b : Option Addr) (bc : Nat) (s u : Nat → Bool) (w : World) (ho : w.ownsRow S 4 1 (.slice (some ⟨g, 0, none⟩) n c) n (bcS s n)) (hb : Bml w b u n) (hbg : ∀ p, b = some p → p.block ≠ g) (hn : n ≤ 1000000) :
    Calls Try.prog 77 #[.slice (some ⟨g, 0, none⟩) n c, .slice b n bc] w fun e w' => e = .returned (.bool (grB s u n)) ∧ w'.ownsRow S 4 1 (.slice (some ⟨g, 0, none⟩) n c) n (bcS (orB s u) n) ∧ Kp (· = g) w w' := by
  have HB : Hid (∀ w', Kp (· = g) w w' → Bml w' b u n) := fun w' k => hb.kp k hbg
  have hnI : (n : Int) ≤ 1000000 := by omega
  have H0 : Hid (w.ownsRow S 4 1 (.slice (some ⟨g, 0, none⟩) n c) n (bcS (orI s u 0) n) ∧ Kp (· = g) w w) := ⟨by
    rw [bcS_congr (orI s u 0) s n (fun j _ => by unfold orI; rw [if_neg (by omega)])]
    exact ho, Kp.refl _ _⟩
  clear ho hb hbg
  go_enter Try.func77, Try.ntmps77
  go_wp2_with fail
  go_loopw [5, 6] (fun gv ivv w' => ∃ i : Nat, ivv = .int .i64 (i : Int) ∧ gv = .bool (grB s u i) ∧ i ≤ n ∧ Hid (w'.ownsRow S 4 1 (.slice (some ⟨g, 0, none⟩) n c) n (bcS (orI s u i) n) ∧ Kp (· = g) w w')) (fun _ ivv _ => n - (RowKit.intOf ivv).toNat)
  case atStart => exact ⟨0, rfl, rfl, Nat.zero_le _, H0⟩
  case round =>
    obtain ⟨i, rfl, rfl, hi, HI⟩ := hrel
    by_cases hlt : i < n
    · have hii : (i : Int) < n := by omega
      obtain ⟨hrow, hk⟩ := HI.out
      obtain ⟨gb, ob, eb, _, c1⟩ := (HB.out wr hk).at i hlt
      have c0 : wr.cell? ⟨g, i, none⟩ = some (.bool (s i)) := by
        rw [World.ownsRow.cellAt hrow i (by omega), bcS_get _ _ _ hlt]
        unfold orI
        rw [if_neg (by omega)]
      have f0 := World.ownsRow.frozenAt hrow i
      have HN : Hid (∀ x, x = (s i || u i) → (wr.setCell ⟨g, i, none⟩ (.bool x)).ownsRow S 4 1 (.slice (some ⟨g, 0, none⟩) n c) n (bcS (orI s u (i + 1)) n) ∧ Kp (· = g) w (wr.setCell ⟨g, i, none⟩ (.bool x))) := fun x ex => by
        subst ex
        have := (World.ownsRow.stored hrow i (.bool (s i || u i))).1
        rw [bcS_put, orI_next] at this
        exact ⟨this, hk.trans ((Kp.refl (· = g) wr).setCell (p := ⟨g, i, none⟩) rfl _)⟩
      have HG : Hid (grB s u (i + 1) = (grB s u i || (u i && !s i))) := rfl
      subst eb
      clear hrow hk HI HB H0
      generalize grB s u i = gr at *
      generalize s i = x at *
      generalize u i = y at *
      cases gr <;> cases x <;> cases y
      all_goals
        go_wp2
        exact ⟨⟨i + 1, by go_num, by rw [HG.out]; rfl, by omega, HN.out _ rfl⟩, by simp [RowKit.intOf]; omega⟩
    · have hii : ¬ (i : Int) < n := by omega
      have hiN : n = i := by omega
      subst hiN
      obtain ⟨hrow, hk⟩ := HI.out
      have HE : Hid (wr.ownsRow S 4 1 (.slice (some ⟨g, 0, none⟩) n c) n (bcS (orB s u) n) ∧ Kp (· = g) w wr) := ⟨by
        rw [bcS_congr (orB s u) (orI s u n) n (fun j hj => by unfold orI orB; rw [if_pos hj])]
        exact hrow, hk⟩
      clear hrow hk HI HB H0
      go_wp2
      go_ret
      exact ⟨rfl, HE.out⟩
end Go.Proofs.Ytbciclnffokjjaa
/- The reference's matching: wordRune. -/
namespace Go.Proofs.Ytbciclnffokjjaa
open Go.RowKit

set_option maxHeartbeats 4000000 in
theorem rWord9_any (r : Int) (w : World) : Calls Try.prog 94 #[.int .i32 r] w fun e w' => e = .returned (.bool (wdB r)) ∧ w' = w := by
  have HE : Hid (wdB r = decide ((48 ≤ r ∧ r ≤ 57) ∨ (65 ≤ r ∧ r ≤ 90 ∨ 97 ≤ r ∧ r ≤ 122) ∨ r = 95)) := by
    unfold Hid wdB dgB ltB
    rw [Bool.eq_iff_iff]
    simp
    omega
  by_cases h95 : r = 95
  · subst h95
    go_enter Try.func94, Try.ntmps94
    go_wp2
    go_ret
    exact ⟨ret_bool (by rw [HE.out]; decide), rfl⟩
  have t95 : (r == 95) = false := by simpa using h95
  have H95 : Hid (¬ r = 95) := h95
  clear h95
  by_cases c0 : r < 48
  · clear t95
    have t95 : (r == 95) = false := by have := H95.out; simpa using this
    have g0 : ¬ 48 ≤ r := by omega
    have g1 : r ≤ 57 := by omega
    have g2 : ¬ 65 ≤ r := by omega
    have g3 : r ≤ 90 := by omega
    have g4 : ¬ 97 ≤ r := by omega
    have g5 : r ≤ 122 := by omega
    clear c0
    go_enter Try.func94, Try.ntmps94
    go_wp2
    go_ret
    exact ⟨ret_bool (by rw [HE.out]; have := H95.out; simp <;> omega), rfl⟩
  by_cases c1 : r ≤ 57
  · clear t95
    have t95 : (r == 95) = false := by have := H95.out; simpa using this
    have g0 : 48 ≤ r := by omega
    have g1 : r ≤ 57 := by omega
    have g2 : ¬ 65 ≤ r := by omega
    have g3 : r ≤ 90 := by omega
    have g4 : ¬ 97 ≤ r := by omega
    have g5 : r ≤ 122 := by omega
    clear c0 c1
    go_enter Try.func94, Try.ntmps94
    go_wp2
    go_ret
    exact ⟨ret_bool (by rw [HE.out]; have := H95.out; simp <;> omega), rfl⟩
  by_cases c2 : r < 65
  · clear t95
    have t95 : (r == 95) = false := by have := H95.out; simpa using this
    have g0 : 48 ≤ r := by omega
    have g1 : ¬ r ≤ 57 := by omega
    have g2 : ¬ 65 ≤ r := by omega
    have g3 : r ≤ 90 := by omega
    have g4 : ¬ 97 ≤ r := by omega
    have g5 : r ≤ 122 := by omega
    clear c0 c1 c2
    go_enter Try.func94, Try.ntmps94
    go_wp2
    go_ret
    exact ⟨ret_bool (by rw [HE.out]; have := H95.out; simp <;> omega), rfl⟩
  by_cases c3 : r ≤ 90
  · clear t95
    have t95 : (r == 95) = false := by have := H95.out; simpa using this
    have g0 : 48 ≤ r := by omega
    have g1 : ¬ r ≤ 57 := by omega
    have g2 : 65 ≤ r := by omega
    have g3 : r ≤ 90 := by omega
    have g4 : ¬ 97 ≤ r := by omega
    have g5 : r ≤ 122 := by omega
    clear c0 c1 c2 c3
    go_enter Try.func94, Try.ntmps94
    go_wp2
    go_ret
    exact ⟨ret_bool (by rw [HE.out]; have := H95.out; simp <;> omega), rfl⟩
  by_cases c4 : r < 97
  · clear t95
    have t95 : (r == 95) = false := by have := H95.out; simpa using this
    have g0 : 48 ≤ r := by omega
    have g1 : ¬ r ≤ 57 := by omega
    have g2 : 65 ≤ r := by omega
    have g3 : ¬ r ≤ 90 := by omega
    have g4 : ¬ 97 ≤ r := by omega
    have g5 : r ≤ 122 := by omega
    clear c0 c1 c2 c3 c4
    go_enter Try.func94, Try.ntmps94
    go_wp2
    go_ret
    exact ⟨ret_bool (by rw [HE.out]; have := H95.out; simp <;> omega), rfl⟩
  by_cases c5 : r ≤ 122
  · clear t95
    have t95 : (r == 95) = false := by have := H95.out; simpa using this
    have g0 : 48 ≤ r := by omega
    have g1 : ¬ r ≤ 57 := by omega
    have g2 : 65 ≤ r := by omega
    have g3 : ¬ r ≤ 90 := by omega
    have g4 : 97 ≤ r := by omega
    have g5 : r ≤ 122 := by omega
    clear c0 c1 c2 c3 c4 c5
    go_enter Try.func94, Try.ntmps94
    go_wp2
    go_ret
    exact ⟨ret_bool (by rw [HE.out]; have := H95.out; simp <;> omega), rfl⟩
  have g0 : 48 ≤ r := by omega
  have g1 : ¬ r ≤ 57 := by omega
  have g2 : 65 ≤ r := by omega
  have g3 : ¬ r ≤ 90 := by omega
  have g4 : 97 ≤ r := by omega
  have g5 : ¬ r ≤ 122 := by omega
  clear c0 c1 c2 c3 c4 c5
  go_enter Try.func94, Try.ntmps94
  go_wp2
  go_ret
  exact ⟨ret_bool (by rw [HE.out]; have := H95.out; simp <;> omega), rfl⟩
end Go.Proofs.Ytbciclnffokjjaa
