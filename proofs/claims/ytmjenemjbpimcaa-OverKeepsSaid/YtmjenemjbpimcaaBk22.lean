/- A bundle of texts. -/
import Derived.Test.YtmjenemjbpimcaaBk21
/- Over: the law's small functions. -/
namespace Go.Proofs.Ytmjenemjbpimcaa
open Go.RowKit

/-- The law's list of names, by the places in the table. -/
def piF (j : Nat) : Nat := ([5, 22, 12, 0, 16, 19, 21, 2, 18, 15, 17, 3, 11, 8, 9, 20, 1, 10, 14, 13, 6, 7, 4] : List Nat).getD j 0
theorem pi_lt : ∀ j, j < 23 → piF j < 23 := by decide +kernel
theorem str_cell {w : World} {g : Nat} {cs : Array Value} (h : w.heap[g]? = some (.cells cs 9)) (j : Nat) (s : ByteArray) (hj : cs[j]? = some (.string s)) : w.cell? ⟨g, j, none⟩ = some (.string s) := by
  unfold World.cell?
  rw [h]
  exact hj
set_option maxHeartbeats 4000000 in
set_option maxRecDepth 100000 in
theorem names_any (w : World) : Calls Try.prog 9 #[] w fun r w' => Below w.heap.size w w' ∧ ∃ g, r = .returned (.slice (some ⟨g, 0, none⟩) 23 23) ∧ g < w'.heap.size ∧ w.heap.size ≤ g ∧ ∀ j, j < 23 → w'.cell? ⟨g, j, none⟩ = some (.string (fnAt (piF j)).1) := by
  have hb0 := Below.refl w.heap.size w
  go_enter Try.func9, Try.ntmps9
  go_wp2
  go_ret
  refine ⟨hb0.alloc (Nat.le_refl _) _, w.heap.size, rfl, by simp, Nat.le_refl _, fun j hj => str_cell (heap_alloc_new w _) j _ ?_⟩
  rcases (show j = 0 ∨ j = 1 ∨ j = 2 ∨ j = 3 ∨ j = 4 ∨ j = 5 ∨ j = 6 ∨ j = 7 ∨ j = 8 ∨ j = 9 ∨ j = 10 ∨ j = 11 ∨ j = 12 ∨ j = 13 ∨ j = 14 ∨ j = 15 ∨ j = 16 ∨ j = 17 ∨ j = 18 ∨ j = 19 ∨ j = 20 ∨ j = 21 ∨ j = 22 by omega) with rfl | rfl | rfl | rfl | rfl | rfl | rfl | rfl | rfl | rfl | rfl | rfl | rfl | rfl | rfl | rfl | rfl | rfl | rfl | rfl | rfl | rfl | rfl
  all_goals rfl

/-- As many numbers as a function asks for. -/
def nums (k a b : Nat) : List Nat := if (fnAt k).2.1 = 1 then [a] else if (fnAt k).2.1 = 2 then [a, b] else []
theorem nums_len (k a b : Nat) (hk : k < 23) : (nums k a b).length = (fnAt k).2.1 := by
  have h : ∀ k, k < 23 → (fnAt k).2.1 = 0 ∨ (fnAt k).2.1 = 1 ∨ (fnAt k).2.1 = 2 := by decide +kernel
  unfold nums
  rcases h k hk with e | e | e <;> rw [e] <;> rfl
def q1 : ByteArray := ⟨#[113, 117, 97, 110, 116, 105, 108, 101, 95, 111, 118, 101, 114, 95, 116, 105, 109, 101]⟩
def q2 : ByteArray := ⟨#[112, 114, 101, 100, 105, 99, 116, 95, 108, 105, 110, 101, 97, 114]⟩
def q3 : ByteArray := ⟨#[98, 101, 97, 116, 95, 111, 118, 101, 114, 95, 116, 105, 109, 101]⟩
def q4 : ByteArray := ⟨#[100, 111, 117, 98, 108, 101, 95, 101, 120, 112, 111, 110, 101, 110, 116, 105, 97, 108, 95, 115, 109, 111, 111, 116, 104, 105, 110, 103]⟩
theorem nm_q : ∀ k, k < 23 → ((fnAt k).2.1 = 1 ↔ (fnAt k).1 = q1 ∨ (fnAt k).1 = q2 ∨ (fnAt k).1 = q3) ∧ ((fnAt k).2.1 = 2 ↔ (fnAt k).1 = q4) ∧ ¬ ((fnAt k).1 = q1 ∧ (fnAt k).1 = q2) := by decide +kernel
theorem eqB (a b : ByteArray) (l : List UInt8) (h : b.toList = l) : ∃ c, (a.toList == l) = c ∧ (c = true ↔ a = b) := ⟨_, rfl, by rw [← h]; exact teq a b⟩
theorem fm_new (w : World) (xs : List Nat) (t : TypeId) : Fm (w.alloc (.cells (xs.map (Value.float .f64)).toArray t)) (some ⟨w.heap.size, 0, none⟩) xs := .inr ⟨w.heap.size, 0, rfl, by simp, fun j hj => by
  unfold World.cell?
  rw [heap_alloc_new]
  simp [List.getD, hj]⟩
set_option maxHeartbeats 4000000 in
set_option maxRecDepth 100000 in
theorem numbers_any (k : Nat) (hk : k < 23) (nm : ByteArray) (hnm : nm = (fnAt k).1) (a b : Nat) (w : World) : Calls Try.prog 16 #[.string nm, .float .f64 a, .float .f64 b] w fun r w' => Below w.heap.size w w' ∧ ∃ aa ca, r = .returned (.slice aa (fnAt k).2.1 ca) ∧ (fnAt k).2.1 ≤ ca ∧ Fm w' aa (nums k a b) ∧ (∀ g o, aa = some ⟨g, o, none⟩ → w.heap.size ≤ g) := by
  have hb0 := Below.refl w.heap.size w
  have hq := nm_q k hk
  rw [← hnm] at hq
  have hq9 : (fnAt k).2.1 = 0 ∨ (fnAt k).2.1 = 1 ∨ (fnAt k).2.1 = 2 := (show ∀ k, k < 23 → (fnAt k).2.1 = 0 ∨ (fnAt k).2.1 = 1 ∨ (fnAt k).2.1 = 2 by decide +kernel) k hk
  have HN : Hid (nums k a b = if (fnAt k).2.1 = 1 then [a] else if (fnAt k).2.1 = 2 then [a, b] else []) := rfl
  generalize nums k a b = L at *
  generalize (fnAt k).2.1 = sc at *
  obtain ⟨c1, e1, t1⟩ := eqB nm q1 [113, 117, 97, 110, 116, 105, 108, 101, 95, 111, 118, 101, 114, 95, 116, 105, 109, 101] (by rw [Lib.toList_data]; rfl)
  obtain ⟨c2, e2, t2⟩ := eqB nm q2 [112, 114, 101, 100, 105, 99, 116, 95, 108, 105, 110, 101, 97, 114] (by rw [Lib.toList_data]; rfl)
  obtain ⟨c3, e3, t3⟩ := eqB nm q3 [98, 101, 97, 116, 95, 111, 118, 101, 114, 95, 116, 105, 109, 101] (by rw [Lib.toList_data]; rfl)
  obtain ⟨c4, e4, t4⟩ := eqB nm q4 [100, 111, 117, 98, 108, 101, 95, 101, 120, 112, 111, 110, 101, 110, 116, 105, 97, 108, 95, 115, 109, 111, 111, 116, 104, 105, 110, 103] (by rw [Lib.toList_data]; rfl)
  rw [← t1, ← t2, ← t3, ← t4] at hq
  have H1 : Hid (∀ (w : World), sc = 1 → Below w.heap.size w (w.alloc (.cells #[.float .f64 a] 25)) ∧ Fm (w.alloc (.cells #[.float .f64 a] 25)) (some ⟨w.heap.size, 0, none⟩) L) := (show ∀ w, _ → _ from fun w h => ⟨(Below.refl _ w).alloc (Nat.le_refl _) _, by rw [HN.out, if_pos h]; exact fm_new w [a] 25⟩)
  have H2 : Hid (∀ (w : World), sc = 2 → Below w.heap.size w (w.alloc (.cells #[.float .f64 a, .float .f64 b] 25)) ∧ Fm (w.alloc (.cells #[.float .f64 a, .float .f64 b] 25)) (some ⟨w.heap.size, 0, none⟩) L) := (show ∀ w, _ → _ from fun w h => ⟨(Below.refl _ w).alloc (Nat.le_refl _) _, by rw [HN.out, if_neg (by omega), if_pos h]; exact fm_new w [a, b] 25⟩)
  have H0 : Hid (∀ (w : World), sc = 0 → Fm w none L) := (show ∀ w, _ → _ from fun w h => .inl (by rw [HN.out, if_neg (by omega), if_neg (by omega)]))
  clear HN t1 t2 t3 t4 hnm hk
  obtain ⟨h1, h2, h3⟩ := hq
  have HQ1 : Hid (sc = 1 ↔ c1 = true ∨ c2 = true ∨ c3 = true) := h1
  have HQ2 : Hid (sc = 2 ↔ c4 = true) := h2
  have HQ9 : Hid (sc = 0 ∨ sc = 1 ∨ sc = 2) := hq9
  clear h1 h2 h3 hq9
  have fin1 : Hid (sc = 1 → ∃ aa ca, (Ending.returned (.slice (some ⟨w.heap.size, 0, none⟩) 1 1) = .returned (.slice aa sc ca)) ∧ sc ≤ ca ∧ Fm (w.alloc (.cells #[.float .f64 a] 25)) aa L ∧ (∀ g o, aa = some ⟨g, o, none⟩ → w.heap.size ≤ g)) := fun h => ⟨_, 1, by rw [h], by omega, (H1.out w h).2, fun g o e => by cases e; exact Nat.le_refl _⟩
  have fin2 : Hid (sc = 2 → ∃ aa ca, (Ending.returned (.slice (some ⟨w.heap.size, 0, none⟩) 2 2) = .returned (.slice aa sc ca)) ∧ sc ≤ ca ∧ Fm (w.alloc (.cells #[.float .f64 a, .float .f64 b] 25)) aa L ∧ (∀ g o, aa = some ⟨g, o, none⟩ → w.heap.size ≤ g)) := fun h => ⟨_, 2, by rw [h], by omega, (H2.out w h).2, fun g o e => by cases e; exact Nat.le_refl _⟩
  have fin0 : Hid (sc = 0 → ∃ aa ca, (Ending.returned (.slice none 0 0) = .returned (.slice aa sc ca)) ∧ sc ≤ ca ∧ Fm w aa L ∧ (∀ g o, aa = some ⟨g, o, none⟩ → w.heap.size ≤ g)) := fun h => ⟨_, 0, by rw [h], by omega, H0.out w h, fun g o e => by cases e⟩
  have B1 : Hid (∀ o, Below w.heap.size w (w.alloc o)) := fun o => hb0.alloc (Nat.le_refl _) o
  clear H0 H1 H2
  cases c1
  · cases c2
    · cases c3
      · cases c4
        · have hs : sc = 0 := by
            rcases HQ9.out with h | h | h
            · exact h
            · have := HQ1.out.1 h; simp at this
            · have := HQ2.out.1 h; cases this
          have F : Hid _ := fin0.out hs
          clear fin0 fin1 fin2 hs
          go_enter Try.func16, Try.ntmps16
          go_wp2
          go_ret
          exact ⟨hb0, F.out⟩
        · have F : Hid _ := fin2.out (HQ2.out.2 rfl)
          clear fin0 fin1 fin2
          go_enter Try.func16, Try.ntmps16
          go_wp2
          go_ret
          exact ⟨B1.out _, F.out⟩
      · have F : Hid _ := fin1.out (HQ1.out.2 (by simp))
        clear fin0 fin1 fin2
        go_enter Try.func16, Try.ntmps16
        go_wp2
        go_ret
        exact ⟨B1.out _, F.out⟩
    · have F : Hid _ := fin1.out (HQ1.out.2 (by simp))
      clear fin0 fin1 fin2
      go_enter Try.func16, Try.ntmps16
      go_wp2
      go_ret
      exact ⟨B1.out _, F.out⟩
  · have F : Hid _ := fin1.out (HQ1.out.2 (by simp))
    clear fin0 fin1 fin2
    go_enter Try.func16, Try.ntmps16
    go_wp2
    go_ret
    exact ⟨B1.out _, F.out⟩
end Go.Proofs.Ytmjenemjbpimcaa
/- Over: same and made. -/
namespace Go.Proofs.Ytmjenemjbpimcaa
open Go.RowKit

def smB (a b : Option Nat) : Bool := decide (a = b)
theorem fo_refl (x : Nat) : (FloatKind.f64.format.order x x != some .eq) = (cl x).isNone := by
  rw [fo_self, ← nan_cl]
  cases nanB x <;> rfl
set_option maxHeartbeats 4000000 in
set_option maxRecDepth 100000 in
theorem same_any (a b : Nat) (w : World) : Calls Try.prog 15 #[.float .f64 a, .float .f64 b] w fun r w' => r = .returned (.bool (smB (cl a) (cl b))) ∧ w' = w := by
  have h3 := callBits
  have d1 := fo_refl a
  have d2 := fo_refl b
  have HS : Hid (smB (cl a) (cl b) = (decide (a = b) || ((cl a).isNone && (cl b).isNone))) := (show _ = _ by
    unfold smB
    by_cases h : a = b
    · subst h
      simp
    · simp [h]
      unfold cl
      cases nanB a <;> cases nanB b <;> simp [h])
  generalize smB (cl a) (cl b) = R at *
  by_cases h : a = b
  · subst h
    have HR : Hid (R = true) := (show _ = _ by rw [HS.out]; simp)
    clear HS d2
    go_enter Try.func15, Try.ntmps15
    go_wp2
    go_ret
    exact ⟨by rw [HR.out]; rfl, rfl⟩
  · have hi : ((a : Int) == (b : Int)) = false := by
      rw [beq_eq_false_iff_ne]
      omega
    have h' : decide (a = b) = false := decide_eq_false h
    rw [h'] at HS
    cases e1 : (cl a).isNone
    · rw [e1] at HS d1
      have HR : Hid (R = false) := HS.out
      clear HS e1 h h'
      go_enter Try.func15, Try.ntmps15
      go_wp2
      go_ret
      exact ⟨by rw [HR.out]; rfl, rfl⟩
    · rw [e1] at HS d1
      cases e2 : (cl b).isNone
      · rw [e2] at HS d2
        have HR : Hid (R = false) := HS.out
        clear HS e1 e2 h h'
        go_enter Try.func15, Try.ntmps15
        go_wp2
        go_ret
        exact ⟨by rw [HR.out]; rfl, rfl⟩
      · rw [e2] at HS d2
        have HR : Hid (R = true) := HS.out
        clear HS e1 e2 h h'
        go_enter Try.func15, Try.ntmps15
        go_wp2
        go_ret
        exact ⟨by rw [HR.out]; rfl, rfl⟩
end Go.Proofs.Ytmjenemjbpimcaa
/- Over: made. -/
namespace Go.Proofs.Ytmjenemjbpimcaa
open Go.RowKit

/-- A point that stands in the window, behind the one ahead. -/
def GdW (ss : Nat → Smp) (F T : Int) (i : Nat) : Prop := (ss i).s = false ∧ (ss i).t ≤ T ∧ F < (ss i).t ∧ (i = 0 ∨ (ss (i - 1)).t < (ss i).t)
theorem snd_of (ss : Nat → Smp) (n : Nat) (F T N : Int) (hB : Bds F T N) (h : ∀ i, i < n → GdW ss F T i) : Snd ss n F T N := by
  refine ⟨hB, fun i hi => ⟨(h i hi).1, ?_⟩, ?_⟩
  · unfold pv
    split
    · exact (h i hi).2.2.1
    · rcases (h i hi).2.2.2 with e | e
      · omega
      · exact e
  · unfold pv
    split
    · exact hB.2.1
    · exact (h (n - 1) (by omega)).2.1
theorem pv_low {ss : Nat → Smp} {n : Nat} {F T N : Int} (h : Snd ss n F T N) : ∀ i, i ≤ n → F ≤ pv ss F i
  | 0, _ => by unfold pv; rw [if_pos rfl]; exact Int.le_refl _
  | i + 1, hi => by
    rw [pv_succ]
    have a := pv_low h i (by omega)
    have b := (h.2.1 i (by omega)).2
    omega
theorem pv_high {ss : Nat → Smp} {n : Nat} {F T N : Int} (h : Snd ss n F T N) : ∀ k i, i + k = n → pv ss F i ≤ T
  | 0, i, e => by
    obtain rfl : i = n := by omega
    exact h.2.2
  | k + 1, i, e => by
    have a := pv_high h k (i + 1) (by omega)
    rw [pv_succ] at a
    have b := (h.2.1 i (by omega)).2
    omega
theorem snd_gd {ss : Nat → Smp} {n : Nat} {F T N : Int} (h : Snd ss n F T N) (i : Nat) (hi : i < n) : GdW ss F T i := by
  have a := pv_low h i (by omega)
  have b := pv_high h (n - (i + 1)) (i + 1) (by omega)
  rw [pv_succ] at b
  have c := h.2.1 i hi
  refine ⟨c.1, b, by omega, ?_⟩
  by_cases h0 : i = 0
  · exact .inl h0
  · right
    have d := c.2
    unfold pv at d
    rw [if_neg h0] at d
    exact d

set_option maxHeartbeats 8000000 in
set_option maxRecDepth 100000 in
theorem made_any (a : Option Addr) (n c : Nat) (F T N : Int) (ss : Nat → Smp) (w : World) (hf : Sml w a ss n) (hl : n ≤ 9223372036854775807) :
    Calls Try.prog 13 #[Wn a n c F T N] w (RP w (Snd ss n F T N)) := by
  have hb0 : Hid (Below w.heap.size w (w.alloc (wnX a n c F T N))) := (Below.refl _ w).alloc (Nat.le_refl _) _
  have HC : Hid (∀ W, Below (w.alloc (wnX a n c F T N)).heap.size (w.alloc (wnX a n c F T N)) W → WnC a n c F T N w.heap.size W) := wnC_new a n c F T N w
  have HF : Hid (Sml w a ss n) := hf
  have HN : Hid (n ≤ 9223372036854775807) := hl
  have hsf := @run_store_float Try.prog
  clear hf
  by_cases hB : Bds F T N
  · have HB : Hid (Bds F T N) := hB
    obtain ⟨h1, h2, h3, h4, h5⟩ := hB
    have d1 : decide (F < -9007199254740992) = false := decide_eq_false (by omega)
    have d2 : decide (T < F) = false := decide_eq_false (by omega)
    have d3 : decide (9007199254740992 < T) = false := decide_eq_false (by omega)
    have d4 : decide (N < -9007199254740992) = false := decide_eq_false (by omega)
    have d5 : decide (9007199254740992 < N) = false := decide_eq_false (by omega)
    clear h1 h2 h3 h4 h5
    go_enter Try.func13, Try.ntmps13
    go_wp2
    clear d1 d2 d3 d4 d5
    go_loopw [3] (fun iv w' => ∃ i : Nat, iv = .int .i64 (i : Nat) ∧ i ≤ n ∧ Hid (∀ j, j < i → GdW ss F T j) ∧ Hid (Below (w.alloc (wnX a n c F T N)).heap.size (w.alloc (wnX a n c F T N)) w')) (fun iv _ => n - (RowKit.intOf iv).toNat)
    case atStart => exact ⟨0, rfl, by omega, fun j hj => absurd hj (by omega), Below.refl _ _⟩
    case round =>
      obtain ⟨i, rfl, hi, hall, hb⟩ := hrel
      have hbw : Hid (Below w.heap.size w wr) := hb0.out.trans (hb.out.mono hb0.out.size)
      obtain ⟨x0, x1, x2, x3⟩ := HC.out wr hb.out
      by_cases hlt : i < n
      · have hii : (i : Int) < (n : Int) := by omega
        rcases HF.out with h0 | ⟨g, o, rfl, hg, hat⟩
        · omega
        obtain ⟨f1, f2, f3⟩ := hat i hlt
        have q1 := bcell hbw.out f1 hg
        have q2 := bcell hbw.out f2 hg
        have q3 := bcell hbw.out f3 hg
        have H1 : Hid (GdW ss F T i → ∀ j, j < i + 1 → GdW ss F T j) := fun h j hj => by
          by_cases hji : j < i
          · exact hall.out j hji
          · obtain rfl : j = i := by omega
            exact h
        have H2 : Hid (¬ GdW ss F T i → ¬ Snd ss n F T N) := fun h g => h (snd_gd g i hlt)
        have HI : Hid (i + 1 ≤ n) := hlt
        have HbA : Hid (∀ o', Below (w.alloc (wnX (some ⟨g, o, none⟩) n c F T N)).heap.size (w.alloc (wnX (some ⟨g, o, none⟩) n c F T N)) (wr.alloc o')) := fun o' => hb.out.alloc hb.out.size _
        have HbB : Hid (∀ o', Below w.heap.size w (wr.alloc o')) := fun o' => hbw.out.alloc hbw.out.size _
        by_cases h0 : i = 0
        · subst h0
          have hg0 : decide ((0 : Int) < ((0 : Nat) : Int)) = false := decide_eq_false (by omega)
          have HG : Hid (GdW ss F T 0 ↔ (ss 0).s = false ∧ (ss 0).t ≤ T ∧ F < (ss 0).t) := ⟨fun h => ⟨h.1, h.2.1, h.2.2.1⟩, fun h => ⟨h.1, h.2.1, h.2.2, .inl rfl⟩⟩
          obtain ⟨u, hu⟩ : ∃ u, ss 0 = u := ⟨_, rfl⟩
          rw [hu] at q1 q2 q3 HG
          rw [show o + 0 * 3 = o by omega] at q1 q2 q3
          clear hu f1 f2 f3 hat hall hg
          obtain ⟨ut, uvv, us⟩ := u
          dsimp only at q1 q2 q3 HG
          cases us
          · by_cases hT : T < ut
            · have e1 : decide (T < ut) = true := decide_eq_true hT
              have HX : Hid (¬ Snd ss n F T N) := H2.out (fun h => by have := HG.out.1 h; omega)
              have n0 := cp_cell wr (Smp.mk ut uvv false) 0 (.int .i64 ut) rfl
              have n2 := cp_cell wr (Smp.mk ut uvv false) 2 (.bool false) rfl
              obtain ⟨y0, y1, y2, y3⟩ := HC.out (wr.alloc (cp (Smp.mk ut uvv false))) (HbA.out _)
              dsimp only [cp] at y0 y1 y2 y3
              dsimp only [cp] at n0 n2
              clear H1 H2 HG
              go_wp2_with fail
              go_big_quiet (fail)
              go_wp2
              go_ret
              exact ⟨false, rfl, ⟨fun h => (by cases h), fun h => absurd h HX.out⟩, below_drewN (HbB.out _) _⟩
            have e1 : decide (T < ut) = false := decide_eq_false hT
            by_cases hF : ut ≤ F
            · have e2 : decide (ut ≤ F) = true := decide_eq_true hF
              have HX : Hid (¬ Snd ss n F T N) := H2.out (fun h => by have := HG.out.1 h; omega)
              have n0 := cp_cell wr (Smp.mk ut uvv false) 0 (.int .i64 ut) rfl
              have n2 := cp_cell wr (Smp.mk ut uvv false) 2 (.bool false) rfl
              obtain ⟨y0, y1, y2, y3⟩ := HC.out (wr.alloc (cp (Smp.mk ut uvv false))) (HbA.out _)
              dsimp only [cp] at y0 y1 y2 y3
              dsimp only [cp] at n0 n2
              clear H1 H2 HG
              go_wp2_with fail
              go_big_quiet (fail)
              go_wp2
              go_ret
              exact ⟨false, rfl, ⟨fun h => (by cases h), fun h => absurd h HX.out⟩, below_drewN (HbB.out _) _⟩
            have e2 : decide (ut ≤ F) = false := decide_eq_false hF
            have HX : Hid _ := H1.out (HG.out.2 ⟨rfl, by omega, by omega⟩)
            have n0 := cp_cell wr (Smp.mk ut uvv false) 0 (.int .i64 ut) rfl
            have n2 := cp_cell wr (Smp.mk ut uvv false) 2 (.bool false) rfl
            obtain ⟨y0, y1, y2, y3⟩ := HC.out (wr.alloc (cp (Smp.mk ut uvv false))) (HbA.out _)
            dsimp only [cp] at y0 y1 y2 y3
            dsimp only [cp] at n0 n2
            clear H1 H2 HG
            go_wp2_with fail
            go_big_quiet (fail)
            go_wp2
            exact ⟨⟨0 + 1, by go_num, HI.out, HX, below_drewN (HbA.out _) _⟩, by simp [RowKit.intOf]; omega⟩
          · have HX : Hid (¬ Snd ss n F T N) := H2.out (fun h => by have := HG.out.1 h; simp at this)
            have n0 := cp_cell wr (Smp.mk ut uvv true) 0 (.int .i64 ut) rfl
            have n2 := cp_cell wr (Smp.mk ut uvv true) 2 (.bool true) rfl
            obtain ⟨y0, y1, y2, y3⟩ := HC.out (wr.alloc (cp (Smp.mk ut uvv true))) (HbA.out _)
            dsimp only [cp] at y0 y1 y2 y3
            dsimp only [cp] at n0 n2
            clear H1 H2 HG
            go_wp2_with fail
            go_big_quiet (fail)
            go_wp2
            go_ret
            exact ⟨false, rfl, ⟨fun h => (by cases h), fun h => absurd h HX.out⟩, below_drewN (HbB.out _) _⟩
        · have hg0 : decide ((0 : Int) < (i : Int)) = true := decide_eq_true (by omega)
          have hgn : decide (0 < i) = true := decide_eq_true (by omega)
          obtain ⟨k, hk⟩ : ∃ k, i = k + 1 := ⟨i - 1, by omega⟩
          have P1 : Hid (∀ W, Below w.heap.size w W → W.cell? ⟨g, o + k * 3, none⟩ = some (.int .i64 (ss k).t)) := (show ∀ W, _ → _ from fun W b => bcell b (hat k (by omega)).1 hg)
          have wk : IntKind.i64.wrap ((i : Int) - 1) = (k : Int) := by have := HN.out; rw [IntKind.wrap_i64]; omega
          have k1 : (0 : Int) ≤ (k : Int) := by omega
          have k2 : (k : Int) < (n : Int) := by omega
          have k3 : ¬ (k : Int) < 0 := by omega
          have HG : Hid (GdW ss F T i ↔ (ss i).s = false ∧ (ss i).t ≤ T ∧ F < (ss i).t ∧ (ss k).t < (ss i).t) := ⟨fun h => ⟨h.1, h.2.1, h.2.2.1, by rcases h.2.2.2 with e | e; exact absurd e h0; rw [hk, Nat.add_sub_cancel] at e; rw [hk]; exact e⟩, fun h => ⟨h.1, h.2.1, h.2.2.1, .inr (by rw [hk, Nat.add_sub_cancel]; rw [hk] at h; exact h.2.2.2)⟩⟩
          obtain ⟨u, hu⟩ : ∃ u, ss i = u := ⟨_, rfl⟩
          obtain ⟨tp, htp⟩ : ∃ tp, (ss k).t = tp := ⟨_, rfl⟩
          rw [hu] at q1 q2 q3 HG
          rw [htp] at P1 HG
          clear hu htp f1 f2 f3 hat hall hg hk
          obtain ⟨ut, uvv, us⟩ := u
          dsimp only at q1 q2 q3 HG
          cases us
          · by_cases hT : T < ut
            · have e1 : decide (T < ut) = true := decide_eq_true hT
              have HX : Hid (¬ Snd ss n F T N) := H2.out (fun h => by have := HG.out.1 h; omega)
              have n0 := cp_cell wr (Smp.mk ut uvv false) 0 (.int .i64 ut) rfl
              have n2 := cp_cell wr (Smp.mk ut uvv false) 2 (.bool false) rfl
              obtain ⟨y0, y1, y2, y3⟩ := HC.out (wr.alloc (cp (Smp.mk ut uvv false))) (HbA.out _)
              dsimp only [cp] at y0 y1 y2 y3
              have p1 := P1.out _ (HbB.out (cp (Smp.mk ut uvv false)))
              dsimp only [cp] at p1
              dsimp only [cp] at n0 n2
              clear H1 H2 HG
              go_wp2_with fail
              go_big_quiet (fail)
              go_wp2
              go_ret
              exact ⟨false, rfl, ⟨fun h => (by cases h), fun h => absurd h HX.out⟩, below_drewN (HbB.out _) _⟩
            have e1 : decide (T < ut) = false := decide_eq_false hT
            by_cases hF : ut ≤ F
            · have e2 : decide (ut ≤ F) = true := decide_eq_true hF
              have HX : Hid (¬ Snd ss n F T N) := H2.out (fun h => by have := HG.out.1 h; omega)
              have n0 := cp_cell wr (Smp.mk ut uvv false) 0 (.int .i64 ut) rfl
              have n2 := cp_cell wr (Smp.mk ut uvv false) 2 (.bool false) rfl
              obtain ⟨y0, y1, y2, y3⟩ := HC.out (wr.alloc (cp (Smp.mk ut uvv false))) (HbA.out _)
              dsimp only [cp] at y0 y1 y2 y3
              have p1 := P1.out _ (HbB.out (cp (Smp.mk ut uvv false)))
              dsimp only [cp] at p1
              dsimp only [cp] at n0 n2
              clear H1 H2 HG
              go_wp2_with fail
              go_big_quiet (fail)
              go_wp2
              go_ret
              exact ⟨false, rfl, ⟨fun h => (by cases h), fun h => absurd h HX.out⟩, below_drewN (HbB.out _) _⟩
            have e2 : decide (ut ≤ F) = false := decide_eq_false hF
            by_cases hP : ut ≤ tp
            · have e3 : decide (ut ≤ tp) = true := decide_eq_true hP
              have HX : Hid (¬ Snd ss n F T N) := H2.out (fun h => by have := HG.out.1 h; omega)
              have n0 := cp_cell wr (Smp.mk ut uvv false) 0 (.int .i64 ut) rfl
              have n2 := cp_cell wr (Smp.mk ut uvv false) 2 (.bool false) rfl
              obtain ⟨y0, y1, y2, y3⟩ := HC.out (wr.alloc (cp (Smp.mk ut uvv false))) (HbA.out _)
              dsimp only [cp] at y0 y1 y2 y3
              have p1 := P1.out _ (HbB.out (cp (Smp.mk ut uvv false)))
              dsimp only [cp] at p1
              dsimp only [cp] at n0 n2
              clear H1 H2 HG
              go_wp2_with fail
              go_big_quiet (fail)
              go_wp2
              go_ret
              exact ⟨false, rfl, ⟨fun h => (by cases h), fun h => absurd h HX.out⟩, below_drewN (HbB.out _) _⟩
            have e3 : decide (ut ≤ tp) = false := decide_eq_false hP
            have HX : Hid _ := H1.out (HG.out.2 ⟨rfl, by omega, by omega, by omega⟩)
            have n0 := cp_cell wr (Smp.mk ut uvv false) 0 (.int .i64 ut) rfl
            have n2 := cp_cell wr (Smp.mk ut uvv false) 2 (.bool false) rfl
            obtain ⟨y0, y1, y2, y3⟩ := HC.out (wr.alloc (cp (Smp.mk ut uvv false))) (HbA.out _)
            dsimp only [cp] at y0 y1 y2 y3
            have p1 := P1.out _ (HbB.out (cp (Smp.mk ut uvv false)))
            dsimp only [cp] at p1
            dsimp only [cp] at n0 n2
            clear H1 H2 HG
            go_wp2_with fail
            go_big_quiet (fail)
            go_wp2
            exact ⟨⟨i + 1, by go_num, HI.out, HX, below_drewN (HbA.out _) _⟩, by simp [RowKit.intOf]; omega⟩
          · have HX : Hid (¬ Snd ss n F T N) := H2.out (fun h => by have := HG.out.1 h; simp at this)
            have n0 := cp_cell wr (Smp.mk ut uvv true) 0 (.int .i64 ut) rfl
            have n2 := cp_cell wr (Smp.mk ut uvv true) 2 (.bool true) rfl
            obtain ⟨y0, y1, y2, y3⟩ := HC.out (wr.alloc (cp (Smp.mk ut uvv true))) (HbA.out _)
            dsimp only [cp] at y0 y1 y2 y3
            have p1 := P1.out _ (HbB.out (cp (Smp.mk ut uvv true)))
            dsimp only [cp] at p1
            dsimp only [cp] at n0 n2
            clear H1 H2 HG
            go_wp2_with fail
            go_big_quiet (fail)
            go_wp2
            go_ret
            exact ⟨false, rfl, ⟨fun h => (by cases h), fun h => absurd h HX.out⟩, below_drewN (HbB.out _) _⟩
      · have HX : Hid (Snd ss n F T N) := snd_of ss n F T N HB.out (fun j hj => hall.out j (by omega))
        have hii : ¬ (i : Int) < (n : Int) := by omega
        clear hall
        go_wp2
        go_ret
        exact ⟨true, rfl, ⟨fun _ => HX.out, fun _ => rfl⟩, hbw.out⟩
  · have HX : Hid (¬ Snd ss n F T N) := fun h => hB h.1
    have key : Hid (∀ w', Below w.heap.size w w' → RP w (Snd ss n F T N) (.returned (.bool false)) w') := fun w' b => ⟨false, rfl, ⟨fun h => (by cases h), fun h => absurd h HX.out⟩, b⟩
    clear HX
    generalize RP w (Snd ss n F T N) = Q at *
    by_cases h1 : F < -9007199254740992
    · have d1 : decide (F < -9007199254740992) = true := decide_eq_true h1
      clear hB h1
      go_enter Try.func13, Try.ntmps13
      go_wp2
      exact key.out _ hb0.out
    have d1 : decide (F < -9007199254740992) = false := decide_eq_false h1
    by_cases h3 : 9007199254740992 < T
    · have d3 : decide (9007199254740992 < T) = true := decide_eq_true h3
      clear hB h1 h3
      go_enter Try.func13, Try.ntmps13
      go_wp2
      exact key.out _ hb0.out
    have d3 : decide (9007199254740992 < T) = false := decide_eq_false h3
    by_cases h2 : T < F
    · have d2 : decide (T < F) = true := decide_eq_true h2
      clear hB h1 h2 h3
      go_enter Try.func13, Try.ntmps13
      go_wp2
      exact key.out _ hb0.out
    have d2 : decide (T < F) = false := decide_eq_false h2
    by_cases h4 : N < -9007199254740992
    · have d4 : decide (N < -9007199254740992) = true := decide_eq_true h4
      clear hB h1 h2 h3 h4
      go_enter Try.func13, Try.ntmps13
      go_wp2
      exact key.out _ hb0.out
    have d4 : decide (N < -9007199254740992) = false := decide_eq_false h4
    have h5 : 9007199254740992 < N := by
      refine Int.not_le.1 fun h5 => hB ⟨?_, ?_, ?_, ?_, h5⟩ <;> omega
    have d5 : decide (9007199254740992 < N) = true := decide_eq_true h5
    clear hB h1 h2 h3 h4 h5
    go_enter Try.func13, Try.ntmps13
    go_wp2
    exact key.out _ hb0.out
end Go.Proofs.Ytmjenemjbpimcaa
