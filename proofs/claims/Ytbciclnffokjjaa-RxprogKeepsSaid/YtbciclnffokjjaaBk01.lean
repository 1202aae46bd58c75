/- A bundle of texts. -/
import Derived.Test.YtbciclnffokjjaaRows
import Derived.WalkKit
import Derived.Below
import Derived.Laws.OwnMore
import Derived.Laws.MakeOwn
import Derived.Laws.AppendOwn
import Derived.Laws.StructEq
import Derived.Maps.AppendAt
import Derived.Deep.RegionLaw
import Derived.Deep.RegionHeld3
import Derived.BigRegion
import Derived.Lib.QuietBelow
import Derived.BigQuiet
import Derived.Deep.DeepFit
/- RxprogSounds: an instruction as data; where it is sound; rows of ranges and of instructions in memory. -/
namespace Go.Proofs.Ytbciclnffokjjaa
open Go.RowKit

abbrev Rg := Int × Int
structure In where
  op : Int
  out : Int
  alt : Int
  arg : Int
  ra : Option Addr
  rn : Nat
  rc : Nat
  rf : Nat → Rg
abbrev inV (op out alt arg : Int) (a : Option Addr) (n c : Nat) : Value := .agg #[.int .i64 op, .int .i64 out, .int .i64 alt, .int .i64 arg, .slice a n c]
abbrev inX (op out alt arg : Int) (a : Option Addr) (n c : Nat) : Obj := .cells #[.int .i64 op, .int .i64 out, .int .i64 alt, .int .i64 arg, .slice a n c] 29

theorem ret_bool {a b : Bool} (h : a = b) : Ending.returned (.bool a) = .returned (.bool b) := by rw [h]

/-- Is a place within? -/
def plB (i n : Int) : Bool := decide (0 ≤ i ∧ i < n)
def spB (op out alt n : Int) : Bool := if op = 1 ∨ op = 11 then decide (out = 0 ∧ alt = 0) else if op = 3 then plB out n && plB alt n else plB out n && decide (alt = 0)
def saB (op arg g : Int) : Bool := if op = 4 then decide (2 ≤ arg ∧ arg ≤ 2 * g + 1) else if op = 9 then decide (arg = 0 ∨ arg = 1) else decide (arg = 0)
/-- A range fits behind those ahead of it. -/
def okB (f : Nat → Rg) (i : Nat) : Bool := decide (0 ≤ (f i).1 ∧ (f i).1 ≤ (f i).2 ∧ (f i).2 ≤ 1114111 ∧ (0 < i → (f (i - 1)).2 < (f i).1))
def rgB (f : Nat → Rg) : Nat → Bool
  | 0 => true
  | n + 1 => rgB f n && okB f n
def srB (op : Int) (n : Nat) (f : Nat → Rg) : Bool := if op = 2 then rgB f n && decide (0 < n) else decide (n = 0)
def sdB (op out alt arg : Int) (n : Nat) (f : Nat → Rg) (m g : Int) : Bool := decide (1 ≤ op ∧ op ≤ 11) && spB op out alt m && saB op arg g && srB op n f
def leF (f : Nat → Rg) (i : Nat) : Int := if i = 0 then 0 else (f (i - 1)).2 + 1

theorem rgB_le {f : Nat → Rg} {m n : Nat} (h : m ≤ n) (hr : rgB f n = true) : rgB f m = true := by
  induction n with
  | zero => obtain rfl : m = 0 := by omega
            exact hr
  | succ n ih =>
    by_cases e : m = n + 1
    · rw [e]; exact hr
    · exact ih (by omega) (by unfold rgB at hr; simp at hr; exact hr.1)
theorem rgB_bad {f : Nat → Rg} {i n : Nat} (h : i < n) (hb : okB f i = false) : rgB f n = false := by
  cases hr : rgB f n with
  | false => rfl
  | true =>
    have := rgB_le (m := i + 1) h hr
    unfold rgB at this
    rw [hb] at this
    simp at this
theorem rgB_succ {f : Nat → Rg} {i : Nat} (h : rgB f i = true) (hb : okB f i = true) : rgB f (i + 1) = true := by
  unfold rgB
  rw [h, hb]
  rfl
theorem rgB_lo {f : Nat → Rg} {i : Nat} (h : rgB f i = true) (h0 : 0 < i) : 0 ≤ (f (i - 1)).2 ∧ (f (i - 1)).2 ≤ 1114111 := by
  obtain ⟨j, rfl⟩ : ∃ j, i = j + 1 := ⟨i - 1, by omega⟩
  unfold rgB okB at h
  simp at h
  simp
  omega
theorem okB_iff {f : Nat → Rg} {i : Nat} (h : rgB f i = true) : okB f i = true ↔ (leF f i ≤ (f i).1 ∧ (f i).1 ≤ (f i).2 ∧ (f i).2 ≤ 1114111) := by
  unfold okB leF
  by_cases h0 : i = 0
  · subst h0; simp
  · have := rgB_lo h (by omega)
    rw [if_neg h0, decide_eq_true_iff]
    omega
theorem leF_bd {f : Nat → Rg} {i : Nat} (h : rgB f i = true) : 0 ≤ leF f i ∧ leF f i ≤ 1114112 := by
  unfold leF
  by_cases h0 : i = 0
  · rw [if_pos h0]; omega
  · have := rgB_lo h (by omega)
    rw [if_neg h0]; omega
theorem leF_succ (f : Nat → Rg) (i : Nat) : leF f (i + 1) = (f i).2 + 1 := by
  unfold leF
  rw [if_neg (by omega)]
  rfl
theorem rgB_congr {f g : Nat → Rg} {n : Nat} (h : ∀ j, j < n → f j = g j) : rgB f n = rgB g n := by
  induction n with
  | zero => rfl
  | succ n ih =>
    unfold rgB
    rw [ih fun j hj => h j (by omega)]
    unfold okB
    rw [h n (by omega), h (n - 1) (by omega)]
theorem sdB_congr (op out alt arg : Int) (n : Nat) {f g : Nat → Rg} (m gr : Int) (h : ∀ j, j < n → f j = g j) : sdB op out alt arg n f m gr = sdB op out alt arg n g m gr := by
  unfold sdB srB
  rw [rgB_congr h]

/-- Ranges that a slice shows. -/
def Rml (w : World) (a : Option Addr) (f : Nat → Rg) (n : Nat) : Prop := n = 0 ∨ ∃ g o, a = some ⟨g, o, none⟩ ∧ g < w.heap.size ∧ ∀ j, j < n → w.cell? ⟨g, o + j * 2, none⟩ = some (.int .i32 (f j).1) ∧ w.cell? ⟨g, o + j * 2 + 1, none⟩ = some (.int .i32 (f j).2)
theorem Rml.below {w w' : World} {a : Option Addr} {f : Nat → Rg} {n : Nat} (h : Rml w a f n) (hb : Below w.heap.size w w') : Rml w' a f n := by
  rcases h with h | ⟨g, o, rfl, hg, hc⟩
  · exact .inl h
  · exact .inr ⟨g, o, rfl, Nat.lt_of_lt_of_le hg hb.size, fun j hj => ⟨(hb.cell (p := ⟨g, o + j * 2, none⟩) hg).trans (hc j hj).1, (hb.cell (p := ⟨g, o + j * 2 + 1, none⟩) hg).trans (hc j hj).2⟩⟩
theorem Rml.at {w : World} {a : Option Addr} {f : Nat → Rg} {n : Nat} (h : Rml w a f n) (j : Nat) (hj : j < n) : ∃ g o, a = some ⟨g, o, none⟩ ∧ g < w.heap.size ∧ w.cell? ⟨g, o + j * 2, none⟩ = some (.int .i32 (f j).1) ∧ w.cell? ⟨g, o + j * 2 + 1, none⟩ = some (.int .i32 (f j).2) := by
  rcases h with h | ⟨g, o, rfl, hg, hat⟩
  · omega
  · exact ⟨g, o, rfl, hg, (hat j hj).1, (hat j hj).2⟩
/-- Instructions that a slice shows, their ranges with them. -/
def Nml (w : World) (a : Option Addr) (x : Nat → In) (n : Nat) : Prop := n = 0 ∨ ∃ g o, a = some ⟨g, o, none⟩ ∧ g < w.heap.size ∧ ∀ j, j < n → w.cell? ⟨g, o + j * 5, none⟩ = some (.int .i64 (x j).op) ∧ w.cell? ⟨g, o + j * 5 + 1, none⟩ = some (.int .i64 (x j).out) ∧ w.cell? ⟨g, o + j * 5 + 2, none⟩ = some (.int .i64 (x j).alt) ∧ w.cell? ⟨g, o + j * 5 + 3, none⟩ = some (.int .i64 (x j).arg) ∧ w.cell? ⟨g, o + j * 5 + 4, none⟩ = some (.slice (x j).ra (x j).rn (x j).rc) ∧ Rml w (x j).ra (x j).rf (x j).rn ∧ (x j).rn * 8 ≤ 140737488351232
theorem Nml.below {w w' : World} {a : Option Addr} {x : Nat → In} {n : Nat} (h : Nml w a x n) (hb : Below w.heap.size w w') : Nml w' a x n := by
  rcases h with h | ⟨g, o, rfl, hg, hc⟩
  · exact .inl h
  · refine .inr ⟨g, o, rfl, Nat.lt_of_lt_of_le hg hb.size, fun j hj => ?_⟩
    obtain ⟨h0, h1, h2, h3, h4, h5, h6⟩ := hc j hj
    exact ⟨(hb.cell (p := ⟨g, o + j * 5, none⟩) hg).trans h0, (hb.cell (p := ⟨g, o + j * 5 + 1, none⟩) hg).trans h1, (hb.cell (p := ⟨g, o + j * 5 + 2, none⟩) hg).trans h2, (hb.cell (p := ⟨g, o + j * 5 + 3, none⟩) hg).trans h3, (hb.cell (p := ⟨g, o + j * 5 + 4, none⟩) hg).trans h4, h5.below hb, h6⟩
theorem Nml.at {w : World} {a : Option Addr} {x : Nat → In} {n : Nat} (h : Nml w a x n) (j : Nat) (hj : j < n) : ∃ g o, a = some ⟨g, o, none⟩ ∧ g < w.heap.size ∧ w.cell? ⟨g, o + j * 5, none⟩ = some (.int .i64 (x j).op) ∧ w.cell? ⟨g, o + j * 5 + 1, none⟩ = some (.int .i64 (x j).out) ∧ w.cell? ⟨g, o + j * 5 + 2, none⟩ = some (.int .i64 (x j).alt) ∧ w.cell? ⟨g, o + j * 5 + 3, none⟩ = some (.int .i64 (x j).arg) ∧ w.cell? ⟨g, o + j * 5 + 4, none⟩ = some (.slice (x j).ra (x j).rn (x j).rc) ∧ Rml w (x j).ra (x j).rf (x j).rn ∧ (x j).rn * 8 ≤ 140737488351232 := by
  rcases h with h | ⟨g, o, rfl, hg, hat⟩
  · omega
  · exact ⟨g, o, rfl, hg, hat j hj⟩
/-- Are all instructions sound? -/
def allB (x : Nat → In) (m g : Int) : Nat → Bool
  | 0 => true
  | n + 1 => allB x m g n && sdB (x n).op (x n).out (x n).alt (x n).arg (x n).rn (x n).rf m g
theorem allB_bad {x : Nat → In} {m g : Int} {i : Nat} : ∀ {n : Nat}, i < n → sdB (x i).op (x i).out (x i).alt (x i).arg (x i).rn (x i).rf m g = false → allB x m g n = false
  | 0, h, _ => by omega
  | n + 1, h, hb => by
    unfold allB
    by_cases e : i = n
    · subst e; rw [hb]; simp
    · rw [allB_bad (n := n) (by omega) hb]; rfl
theorem allB_succ {x : Nat → In} {m g : Int} {i : Nat} (h : allB x m g i = true) (hb : sdB (x i).op (x i).out (x i).alt (x i).arg (x i).rn (x i).rf m g = true) : allB x m g (i + 1) = true := by
  unfold allB
  rw [h, hb]
  rfl
/-- May a program be run? -/
def SdB (x : Nat → In) (n : Nat) (st gr : Int) (nn : Nat) : Bool := decide (n ≤ 10000) && plB st n && decide (gr ≤ 100) && decide ((nn : Int) = gr) && allB x n gr n

theorem bcell2 {w w' : World} {p : Addr} {v : Value} (hb : Below w.heap.size w w') (h : w.cell? p = some v) : w'.cell? p = some v := (hb.cell (World.block_lt_of_cell? w _ h)).trans h
end Go.Proofs.Ytbciclnffokjjaa
/- RxprogSounds: isPlace, hasSoundPlaces, hasSoundArg. -/
namespace Go.Proofs.Ytbciclnffokjjaa
open Go.RowKit

set_option maxHeartbeats 400000 in
theorem isPlace_any (i n : Int) (w : World) : Calls Try.prog 22 #[.int .i64 i, .int .i64 n] w fun r w' => r = .returned (.bool (plB i n)) ∧ w' = w := by
  by_cases h0 : 0 ≤ i
  · by_cases h1 : i < n
    · go_enter Try.func22, Try.ntmps22
      go_wp2
      go_ret
      exact ⟨ret_bool (by unfold plB; simp [h0, h1]), rfl⟩
    · go_enter Try.func22, Try.ntmps22
      go_wp2
      go_ret
      exact ⟨ret_bool (by unfold plB; simp [h1]), rfl⟩
  · go_enter Try.func22, Try.ntmps22
    go_wp2
    go_ret
    exact ⟨ret_bool (by unfold plB; rw [decide_eq_false (by omega)]), rfl⟩

set_option maxHeartbeats 1000000 in
theorem places_any (op out alt arg : Int) (a : Option Addr) (n c : Nat) (m : Int) (w : World) :
    Calls Try.prog 38 #[inV op out alt arg a n c, .int .i64 m] w fun r w' => r = .returned (.bool (spB op out alt m)) ∧ Below w.heap.size w w' := by
  have HB : Hid (Below w.heap.size w (w.alloc (inX op out alt arg a n c))) := (Below.refl _ w).alloc (Nat.le_refl _) _
  by_cases h1 : op = 1 ∨ op = 11
  · have HE : Hid (spB op out alt m = (out == 0 && alt == 0)) := by unfold Hid spB; rw [if_pos h1, Bool.eq_iff_iff]; simp
    cases ho : (out == 0)
    all_goals cases ha : (alt == 0)
    all_goals rw [ho, ha] at HE
    all_goals rcases h1 with h1 | h1
    all_goals subst h1
    all_goals
      go_enter Try.func38, Try.ntmps38
      go_wp2
      go_ret
      exact ⟨ret_bool (by rw [HE.out]; rfl), HB.out⟩
  · have e1 : (op == 1) = false := by simp; omega
    have e11 : (op == 11) = false := by simp; omega
    by_cases h3 : op = 3
    · have HE : Hid (spB op out alt m = (plB out m && plB alt m)) := by unfold Hid spB; rw [if_neg h1, if_pos h3]
      clear h1
      subst h3
      cases hp : plB out m
      all_goals cases hq : plB alt m
      all_goals
        rw [hp, hq] at HE
        have kO := isPlace_any out m
        have kA := isPlace_any alt m
        rw [hp] at kO
        rw [hq] at kA
        clear hp hq
        go_enter Try.func38, Try.ntmps38
        go_wp2_with fail
        go_fit (kO _)
        rintro r w1 ⟨rfl, rfl⟩
        try (go_wp2_with fail; go_fit (kA _); rintro r w1 ⟨rfl, rfl⟩)
        go_wp2
        go_ret
        exact ⟨ret_bool (by rw [HE.out]; rfl), HB.out⟩
    · have e3 : (op == 3) = false := by simp; omega
      have HE : Hid (spB op out alt m = (plB out m && alt == 0)) := by unfold Hid spB; rw [if_neg h1, if_neg h3, Bool.eq_iff_iff]; simp
      clear h1 h3
      cases hp : plB out m
      all_goals cases ha : (alt == 0)
      all_goals
        rw [hp, ha] at HE
        have kO := isPlace_any out m
        rw [hp] at kO
        clear hp
        go_enter Try.func38, Try.ntmps38
        go_wp2_with fail
        go_fit (kO _)
        rintro r w1 ⟨rfl, rfl⟩
        go_wp2
        go_ret
        exact ⟨ret_bool (by rw [HE.out]; rfl), HB.out⟩

set_option maxHeartbeats 1000000 in
theorem arg_any (op out alt arg : Int) (a : Option Addr) (n c : Nat) (g : Int) (w : World) (hg0 : 0 ≤ g) (hg1 : g ≤ 100) :
    Calls Try.prog 39 #[inV op out alt arg a n c, .int .i64 g] w fun r w' => r = .returned (.bool (saB op arg g)) ∧ Below w.heap.size w w' := by
  have HB : Hid (Below w.heap.size w (w.alloc (inX op out alt arg a n c))) := (Below.refl _ w).alloc (Nat.le_refl _) _
  by_cases h4 : op = 4
  · have HE : Hid (saB op arg g = (decide (2 ≤ arg) && decide (arg ≤ 2 * g + 1))) := by unfold Hid saB; rw [if_pos h4, Bool.eq_iff_iff]; simp
    subst h4
    cases h2 : decide (2 ≤ arg)
    all_goals cases h3 : decide (arg ≤ 2 * g + 1)
    all_goals
      rw [h2, h3] at HE
      go_enter Try.func39, Try.ntmps39
      go_wp2
      go_ret
      exact ⟨ret_bool (by rw [HE.out]; rfl), HB.out⟩
  · have e4 : (op == 4) = false := by simp; omega
    by_cases h9 : op = 9
    · have HE : Hid (saB op arg g = (arg == 0 || arg == 1)) := by unfold Hid saB; rw [if_neg h4, if_pos h9, Bool.eq_iff_iff]; simp
      subst h9
      cases h2 : (arg == 0)
      all_goals cases h3 : (arg == 1)
      all_goals
        rw [h2, h3] at HE
        go_enter Try.func39, Try.ntmps39
        go_wp2
        go_ret
        exact ⟨ret_bool (by rw [HE.out]; rfl), HB.out⟩
    · have e9 : (op == 9) = false := by simp; omega
      have HE : Hid (saB op arg g = (arg == 0)) := by unfold Hid saB; rw [if_neg h4, if_neg h9, Bool.eq_iff_iff]; simp
      cases h2 : (arg == 0)
      all_goals
        rw [h2] at HE
        go_enter Try.func39, Try.ntmps39
        go_wp2
        go_ret
        exact ⟨ret_bool (by rw [HE.out]), HB.out⟩
end Go.Proofs.Ytbciclnffokjjaa
/- RxprogSounds: hasSoundRanges. -/
namespace Go.Proofs.Ytbciclnffokjjaa
open Go.RowKit

set_option maxHeartbeats 1000000 in
set_option maxRecDepth 100000 in
theorem ranges_any (op out alt arg : Int) (a : Option Addr) (n c : Nat) (f : Nat → Rg) (w : World) (hR : Rml w a f n) (hn : n ≤ 1152921504606846976) :
    Calls Try.prog 40 #[inV op out alt arg a n c] w fun r w' => r = .returned (.bool (srB op n f)) ∧ Below w.heap.size w w' := by
  have HB : Hid (Below w.heap.size w (w.alloc (inX op out alt arg a n c))) := (Below.refl _ w).alloc (Nat.le_refl _) _
  by_cases h2 : op = 2
  · have HE : Hid (srB op n f = (rgB f n && decide (0 < n))) := by unfold Hid srB; rw [if_pos h2]
    subst h2
    obtain ⟨W, hW⟩ : ∃ W, W = w.alloc (inX 2 out alt arg a n c) := ⟨_, rfl⟩
    have hc4 : W.cell? ⟨w.heap.size, 4, none⟩ = some (.slice a n c) := by rw [hW]; unfold World.cell?; rw [show (w.alloc (inX 2 out alt arg a n c)).heap[w.heap.size]? = _ from heap_alloc_new w _]; rfl
    have HW : Hid (W = w.alloc (inX 2 out alt arg a n c)) := hW
    have HBW : Hid (Below w.heap.size w W) := by rw [hW]; exact HB.out
    have HR : Hid (Rml W a f n) := hR.below HBW.out
    have H4 : Hid (W.cell? ⟨w.heap.size, 4, none⟩ = some (.slice a n c)) := hc4
    obtain ⟨G, hG⟩ : ∃ G, G = w.heap.size := ⟨_, rfl⟩
    have HG : Hid (G = w.heap.size) := hG
    clear hR hW hc4 HB hG
    go_enter Try.func40, Try.ntmps40
    go_wp2_with fail
    rw [← HW.out, ← HG.out]
    go_loopw [3, 16] (fun lst ivv w' => ∃ i : Nat, ivv = .int .i64 (i : Int) ∧ i ≤ n ∧ lst = .int .i32 (leF f i) ∧ rgB f i = true ∧ Hid (Below W.heap.size W w')) (fun _ ivv _ => n - (RowKit.intOf ivv).toNat)
    case atStart => exact ⟨0, rfl, by omega, rfl, rfl, Below.refl _ _⟩
    case round =>
      obtain ⟨i, rfl, hi, rfl, hrg, hb⟩ := hrel
      have HRG : Hid (rgB f i = true) := hrg
      have lb := leF_bd hrg
      by_cases hlt : i < n
      · have hii : (i : Int) < n := by omega
        obtain ⟨g1, o1, rfl, hg1, x0, x1⟩ := HR.out.at i hlt
        have e0 := bcell2 hb.out x0
        have e1 := bcell2 hb.out x1
        have HO := okB_iff hrg
        have HS := leF_succ f i
        obtain ⟨⟨lo, hi'⟩, hx⟩ : ∃ x, f i = x := ⟨_, rfl⟩
        rw [hx] at e0 e1 HO HS
        dsimp only at e0 e1 HO HS
        have HOK : Hid (okB f i = true ↔ (leF f i ≤ lo ∧ lo ≤ hi' ∧ hi' ≤ 1114111)) := HO
        have HSC : Hid (leF f (i + 1) = hi' + 1) := HS
        have HI : Hid (i < n) := hlt
        have HB2 : Hid (∀ v, Below W.heap.size W (wr.alloc v)) := fun v => hb.out.alloc hb.out.size v
        clear hx x0 x1 HO HS hrg
        generalize leF f i = L at *
        by_cases k1 : lo < L
        · go_wp2
          go_ret
          refine ⟨ret_bool (by rw [HE.out, rgB_bad HI.out (by cases h : okB f i with | false => rfl | true => have := HOK.out.1 h; omega)]; rfl), ?_⟩
          exact HBW.out.trans ((HB2.out _).mono HBW.out.size)
        · by_cases k2 : hi' < lo
          · go_wp2
            go_ret
            refine ⟨ret_bool (by rw [HE.out, rgB_bad HI.out (by cases h : okB f i with | false => rfl | true => have := HOK.out.1 h; omega)]; rfl), ?_⟩
            exact HBW.out.trans ((HB2.out _).mono HBW.out.size)
          · by_cases k3 : 1114111 < hi'
            · go_wp2
              go_ret
              refine ⟨ret_bool (by rw [HE.out, rgB_bad HI.out (by cases h : okB f i with | false => rfl | true => have := HOK.out.1 h; omega)]; rfl), ?_⟩
              exact HBW.out.trans ((HB2.out _).mono HBW.out.size)
            · go_wp2
              exact ⟨⟨i + 1, by go_num, by omega, by rw [HSC.out], rgB_succ HRG.out (HOK.out.2 (by omega)), HB2.out _⟩, by simp [RowKit.intOf]; omega⟩
      · have hii : ¬ (i : Int) < n := by omega
        have e4 := bcell2 hb.out H4.out
        rw [← HG.out] at e4
        obtain rfl : i = n := by omega
        by_cases k0 : 0 < (i : Int)
        · go_wp2
          go_ret
          exact ⟨ret_bool (by rw [HE.out, HRG.out]; simp), HBW.out.trans (hb.out.mono HBW.out.size)⟩
        · go_wp2
          go_ret
          exact ⟨ret_bool (by rw [HE.out, HRG.out]; simp), HBW.out.trans (hb.out.mono HBW.out.size)⟩
  · have HE : Hid (srB op n f = ((n : Int) == 0)) := by unfold Hid srB; rw [if_neg h2, Bool.eq_iff_iff]; simp
    have e2 : (op == 2) = false := by simpa using h2
    cases h0 : ((n : Int) == 0)
    all_goals
      rw [h0] at HE
      go_enter Try.func40, Try.ntmps40
      go_wp2
      go_ret
      exact ⟨ret_bool (by rw [HE.out]), HB.out⟩
end Go.Proofs.Ytbciclnffokjjaa
/- RxprogSounds: isSound. -/
namespace Go.Proofs.Ytbciclnffokjjaa
open Go.RowKit

theorem inX_cells {w W : World} (op out alt arg : Int) (a : Option Addr) (n c : Nat) (h : Below (w.alloc (inX op out alt arg a n c)).heap.size (w.alloc (inX op out alt arg a n c)) W) :
    W.cell? ⟨w.heap.size, 0, none⟩ = some (.int .i64 op) ∧ W.cell? ⟨w.heap.size, 1, none⟩ = some (.int .i64 out) ∧ W.cell? ⟨w.heap.size, 2, none⟩ = some (.int .i64 alt) ∧ W.cell? ⟨w.heap.size, 3, none⟩ = some (.int .i64 arg) ∧ W.cell? ⟨w.heap.size, 4, none⟩ = some (.slice a n c) := by
  have e : (w.alloc (inX op out alt arg a n c)).heap[w.heap.size]? = some (inX op out alt arg a n c) := heap_alloc_new w _
  refine ⟨bcell2 h ?_, bcell2 h ?_, bcell2 h ?_, bcell2 h ?_, bcell2 h ?_⟩
  all_goals
    unfold World.cell?
    rw [e]
    rfl
theorem alloc_lt (w : World) (o : Obj) : w.heap.size ≤ (w.alloc o).heap.size := by simp

set_option maxHeartbeats 1000000 in
set_option maxRecDepth 100000 in
theorem isSound_any (op out alt arg : Int) (a : Option Addr) (n c : Nat) (f : Nat → Rg) (m g : Int) (w : World) (hR : Rml w a f n) (hn : n ≤ 1152921504606846976) (hg0 : 0 ≤ g) (hg1 : g ≤ 100) :
    Calls Try.prog 23 #[inV op out alt arg a n c, .int .i64 m, .int .i64 g] w fun r w' => r = .returned (.bool (sdB op out alt arg n f m g)) ∧ Below w.heap.size w w' := by
  have HB : Hid (Below w.heap.size w (w.alloc (inX op out alt arg a n c))) := (Below.refl _ w).alloc (Nat.le_refl _) _
  have HE : Hid (sdB op out alt arg n f m g = (decide (1 ≤ op) && decide (op ≤ 11) && spB op out alt m && saB op arg g && srB op n f)) := by unfold Hid sdB; rw [Bool.decide_and]
  have HK : Hid (∀ W, Below (w.alloc (inX op out alt arg a n c)).heap.size (w.alloc (inX op out alt arg a n c)) W → W.cell? ⟨w.heap.size, 0, none⟩ = some (.int .i64 op) ∧ W.cell? ⟨w.heap.size, 1, none⟩ = some (.int .i64 out) ∧ W.cell? ⟨w.heap.size, 2, none⟩ = some (.int .i64 alt) ∧ W.cell? ⟨w.heap.size, 3, none⟩ = some (.int .i64 arg) ∧ W.cell? ⟨w.heap.size, 4, none⟩ = some (.slice a n c)) := fun W h => inX_cells op out alt arg a n c h
  have kP := fun W => places_any op out alt arg a n c m W
  have kA := fun W => arg_any op out alt arg a n c g W hg0 hg1
  have kR := fun W (h : Below (w.alloc (inX op out alt arg a n c)).heap.size (w.alloc (inX op out alt arg a n c)) W) => ranges_any op out alt arg a n c f W (hR.below (HB.out.trans (h.mono (alloc_lt _ _)))) hn
  have HF : Hid (∀ W, Below (w.alloc (inX op out alt arg a n c)).heap.size (w.alloc (inX op out alt arg a n c)) W → Below w.heap.size w W) := fun W h => HB.out.trans (h.mono (alloc_lt _ _))
  clear hR
  by_cases h1 : 1 ≤ op
  · by_cases h2 : op ≤ 11
    · have e1 : decide (1 ≤ op) = true := decide_eq_true h1
      have e2 : decide (op ≤ 11) = true := decide_eq_true h2
      rw [e1, e2] at HE
      clear e1 e2
      cases hp : spB op out alt m
      · rw [hp] at HE
        simp only [hp] at kP
        go_enter Try.func23, Try.ntmps23
        go_wp2_with fail
        go_fit (kP _)
        rintro r w1 ⟨rfl, b1⟩
        have B1 : Hid _ := b1
        clear b1
        go_wp2
        go_ret
        exact ⟨ret_bool (by rw [HE.out]; rfl), HF.out _ B1.out⟩
      · cases ha : saB op arg g
        · rw [hp, ha] at HE
          simp only [hp] at kP
          simp only [ha] at kA
          go_enter Try.func23, Try.ntmps23
          go_wp2_with fail
          go_fit (kP _)
          rintro r w1 ⟨rfl, b1⟩
          have B1 : Hid _ := b1
          obtain ⟨c0, c1, c2, c3, c4⟩ := HK.out w1 b1
          clear b1
          go_wp2_with fail
          go_fit (kA _)
          rintro r w2 ⟨rfl, b2⟩
          have B2 : Hid _ := B1.out.trans (b2.mono B1.out.size)
          clear b2 c0 c1 c2 c3 c4
          go_wp2
          go_ret
          exact ⟨ret_bool (by rw [HE.out]; rfl), HF.out _ B2.out⟩
        · rw [hp, ha] at HE
          simp only [hp] at kP
          simp only [ha] at kA
          cases hs : srB op n f
          all_goals
            rw [hs] at HE
            simp only [hs] at kR
            go_enter Try.func23, Try.ntmps23
            go_wp2_with fail
            go_fit (kP _)
            rintro r w1 ⟨rfl, b1⟩
            have B1 : Hid _ := b1
            obtain ⟨c0, c1, c2, c3, c4⟩ := HK.out w1 b1
            clear b1
            go_wp2_with fail
            go_fit (kA _)
            rintro r w2 ⟨rfl, b2⟩
            have B2 : Hid _ := B1.out.trans (b2.mono B1.out.size)
            have kR2 := kR w2 B2.out
            obtain ⟨d0, d1, d2, d3, d4⟩ := HK.out w2 B2.out
            clear b2 c0 c1 c2 c3 c4 kR
            go_wp2_with fail
            go_fit kR2
            rintro r w3 ⟨rfl, b3⟩
            have B3 : Hid _ := B2.out.trans (b3.mono B2.out.size)
            clear b3 d0 d1 d2 d3 d4 kR2
            go_wp2
            go_ret
            exact ⟨ret_bool (by rw [HE.out]; rfl), HF.out _ B3.out⟩
    · have e2 : decide (op ≤ 11) = false := decide_eq_false h2
      rw [e2] at HE
      clear kP kA kR e2
      go_enter Try.func23, Try.ntmps23
      go_wp2
      go_ret
      exact ⟨ret_bool (by rw [HE.out]; simp), HB.out⟩
  · have e1 : decide (1 ≤ op) = false := decide_eq_false h1
    rw [e1] at HE
    clear kP kA kR e1
    go_enter Try.func23, Try.ntmps23
    go_wp2
    go_ret
    exact ⟨ret_bool (by rw [HE.out]; simp), HB.out⟩
end Go.Proofs.Ytbciclnffokjjaa
