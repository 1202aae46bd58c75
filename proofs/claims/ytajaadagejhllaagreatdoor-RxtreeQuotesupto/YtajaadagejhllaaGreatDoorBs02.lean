/- A bundle of texts. -/
import Derived.Test.YtajaadagejhllaaGreatDoorBs01
import Derived.Deep.QuietTactic
/- Trees: a node as data; a tree as what stands at each path; where it lies in memory. -/
namespace Go.Proofs.YtajaadagejhllaaGreatDoor
open Go.RowKit

/-- A node of a tree, with the lists that it shows. -/
structure Nd where
  kind : Int
  r : Int
  ra : Option Addr
  rn : Nat
  rc : Nat
  rf : Nat → Rg
  mn : Int
  mx : Int
  lz : Bool
  cp : Int
  nm : ByteArray
  ka : Option Addr
  kn : Nat
  kc : Nat
abbrev rxV (kind r : Int) (ra : Option Addr) (rn rc : Nat) (mn mx : Int) (lz : Bool) (cp : Int) (nm : ByteArray) (ka : Option Addr) (kn kc : Nat) : Value :=
  .agg #[.int .i64 kind, .int .i32 r, .slice ra rn rc, .int .i64 mn, .int .i64 mx, .bool lz, .int .i64 cp, .string nm, .slice ka kn kc]
abbrev ndV (d : Nd) : Value := rxV d.kind d.r d.ra d.rn d.rc d.mn d.mx d.lz d.cp d.nm d.ka d.kn d.kc

/-- What stands at each path. -/
abbrev Tr := List Nat → Nd
def kid (t : Tr) (j : Nat) : Tr := fun p => t (j :: p)

/-- Ranges that a slice shows, in blocks below B. -/
def Rmb (B : Nat) (w : World) (a : Option Addr) (f : Nat → Rg) (n : Nat) : Prop := n = 0 ∨ ∃ g o, a = some ⟨g, o, none⟩ ∧ g < B ∧ ∀ j, j < n → w.cell? ⟨g, o + j * 2, none⟩ = some (.int .i32 (f j).1) ∧ w.cell? ⟨g, o + j * 2 + 1, none⟩ = some (.int .i32 (f j).2)
theorem Rmb.below {B : Nat} {w w' : World} {a : Option Addr} {f : Nat → Rg} {n : Nat} (h : Rmb B w a f n) (hb : Below B w w') : Rmb B w' a f n := by
  rcases h with h | ⟨g, o, rfl, hg, hc⟩
  · exact .inl h
  · exact .inr ⟨g, o, rfl, hg, fun j hj => ⟨(hb.cell (p := ⟨g, o + j * 2, none⟩) hg).trans (hc j hj).1, (hb.cell (p := ⟨g, o + j * 2 + 1, none⟩) hg).trans (hc j hj).2⟩⟩
theorem Rmb.mono {B C : Nat} {w : World} {a : Option Addr} {f : Nat → Rg} {n : Nat} (h : Rmb B w a f n) (hb : B ≤ C) : Rmb C w a f n := by
  rcases h with h | ⟨g, o, rfl, hg, hc⟩
  · exact .inl h
  · exact .inr ⟨g, o, rfl, by omega, hc⟩
theorem Rmb.ml {B : Nat} {w : World} {a : Option Addr} {f : Nat → Rg} {n : Nat} (h : Rmb B w a f n) : Rml w a f n := by
  rcases h with h | ⟨g, o, rfl, hg, hc⟩
  · exact .inl h
  · by_cases h0 : n = 0
    · exact .inl h0
    · exact .inr ⟨g, o, rfl, World.block_lt_of_cell? w _ (hc 0 (by omega)).1, hc⟩
theorem Rmb.at {B : Nat} {w : World} {a : Option Addr} {f : Nat → Rg} {n : Nat} (h : Rmb B w a f n) (j : Nat) (hj : j < n) : ∃ g o, a = some ⟨g, o, none⟩ ∧ g < B ∧ w.cell? ⟨g, o + j * 2, none⟩ = some (.int .i32 (f j).1) ∧ w.cell? ⟨g, o + j * 2 + 1, none⟩ = some (.int .i32 (f j).2) := by
  rcases h with h | ⟨g, o, rfl, hg, hat⟩
  · omega
  · exact ⟨g, o, rfl, hg, (hat j hj).1, (hat j hj).2⟩

/-- A node's nine cells at a place. -/
structure Cs (w : World) (g o : Nat) (d : Nd) : Prop where
  c0 : w.cell? ⟨g, o, none⟩ = some (.int .i64 d.kind)
  c1 : w.cell? ⟨g, o + 1, none⟩ = some (.int .i32 d.r)
  c2 : w.cell? ⟨g, o + 2, none⟩ = some (.slice d.ra d.rn d.rc)
  c3 : w.cell? ⟨g, o + 3, none⟩ = some (.int .i64 d.mn)
  c4 : w.cell? ⟨g, o + 4, none⟩ = some (.int .i64 d.mx)
  c5 : w.cell? ⟨g, o + 5, none⟩ = some (.bool d.lz)
  c6 : w.cell? ⟨g, o + 6, none⟩ = some (.int .i64 d.cp)
  c7 : w.cell? ⟨g, o + 7, none⟩ = some (.string d.nm)
  c8 : w.cell? ⟨g, o + 8, none⟩ = some (.slice d.ka d.kn d.kc)
theorem Cs.below {B : Nat} {w w' : World} {g o : Nat} {d : Nd} (h : Cs w g o d) (hb : Below B w w') (hg : g < B) : Cs w' g o d :=
  ⟨(hb.cell (p := ⟨g, _, none⟩) hg).trans h.c0, (hb.cell (p := ⟨g, _, none⟩) hg).trans h.c1, (hb.cell (p := ⟨g, _, none⟩) hg).trans h.c2, (hb.cell (p := ⟨g, _, none⟩) hg).trans h.c3, (hb.cell (p := ⟨g, _, none⟩) hg).trans h.c4, (hb.cell (p := ⟨g, _, none⟩) hg).trans h.c5, (hb.cell (p := ⟨g, _, none⟩) hg).trans h.c6, (hb.cell (p := ⟨g, _, none⟩) hg).trans h.c7, (hb.cell (p := ⟨g, _, none⟩) hg).trans h.c8⟩
/-- Nodes that a slice shows, in a block below B. -/
def Kmb (B : Nat) (w : World) (a : Option Addr) (x : Nat → Nd) (n : Nat) : Prop := n = 0 ∨ ∃ g o, a = some ⟨g, o, none⟩ ∧ g < B ∧ ∀ j, j < n → Cs w g (o + j * 9) (x j)
theorem Kmb.below {B : Nat} {w w' : World} {a : Option Addr} {x : Nat → Nd} {n : Nat} (h : Kmb B w a x n) (hb : Below B w w') : Kmb B w' a x n := by
  rcases h with h | ⟨g, o, rfl, hg, hc⟩
  · exact .inl h
  · exact .inr ⟨g, o, rfl, hg, fun j hj => (hc j hj).below hb hg⟩
theorem Kmb.mono {B C : Nat} {w : World} {a : Option Addr} {x : Nat → Nd} {n : Nat} (h : Kmb B w a x n) (hb : B ≤ C) : Kmb C w a x n := by
  rcases h with h | ⟨g, o, rfl, hg, hc⟩
  · exact .inl h
  · exact .inr ⟨g, o, rfl, by omega, hc⟩
theorem Kmb.at {B : Nat} {w : World} {a : Option Addr} {x : Nat → Nd} {n : Nat} (h : Kmb B w a x n) (j : Nat) (hj : j < n) : ∃ g o, a = some ⟨g, o, none⟩ ∧ g < B ∧ Cs w g (o + j * 9) (x j) := by
  rcases h with h | ⟨g, o, rfl, hg, hat⟩
  · omega
  · exact ⟨g, o, rfl, hg, hat j hj⟩

/-- A tree that lies in blocks below B. -/
def TatN (B : Nat) (w : World) : Nat → Tr → Prop
  | 0, _ => True
  | n + 1, t => ((t []).rn * 8 ≤ 140737488351232 ∧ (t []).kn * 8 ≤ 140737488351232 ∧ (t []).nm.size ≤ 140737488351232 ∧ (t []).kn ≤ (t []).kc) ∧ Rmb B w (t []).ra (t []).rf (t []).rn ∧ Kmb B w (t []).ka (fun j => t [j]) (t []).kn ∧ ∀ j, j < (t []).kn → TatN B w n (kid t j)
def Tat (B : Nat) (w : World) (t : Tr) : Prop := ∀ n, TatN B w n t
theorem TatN.below {B : Nat} {w w' : World} (hb : Below B w w') : ∀ {n : Nat} {t : Tr}, TatN B w n t → TatN B w' n t
  | 0, _, _ => trivial
  | _ + 1, _, h => ⟨h.1, h.2.1.below hb, h.2.2.1.below hb, fun j hj => (h.2.2.2 j hj).below hb⟩
theorem TatN.mono {B C : Nat} {w : World} (hb : B ≤ C) : ∀ {n : Nat} {t : Tr}, TatN B w n t → TatN C w n t
  | 0, _, _ => trivial
  | _ + 1, _, h => ⟨h.1, h.2.1.mono hb, h.2.2.1.mono hb, fun j hj => (h.2.2.2 j hj).mono hb⟩
namespace Tat
variable {B C : Nat} {w w' : World} {t : Tr}
theorem below (h : Tat B w t) (hb : Below B w w') : Tat B w' t := fun n => (h n).below hb
theorem mono (h : Tat B w t) (hb : B ≤ C) : Tat C w t := fun n => (h n).mono hb
theorem node (h : Tat B w t) : (t []).rn * 8 ≤ 140737488351232 ∧ (t []).kn * 8 ≤ 140737488351232 ∧ (t []).nm.size ≤ 140737488351232 ∧ (t []).kn ≤ (t []).kc := (h 1).1
theorem ranges (h : Tat B w t) : Rmb B w (t []).ra (t []).rf (t []).rn := (h 1).2.1
theorem kids (h : Tat B w t) : Kmb B w (t []).ka (fun j => t [j]) (t []).kn := (h 1).2.2.1
theorem kid (h : Tat B w t) (j : Nat) (hj : j < (t []).kn) : Tat B w (kid t j) := fun n => (h (n + 1)).2.2.2 j hj
end Tat
end Go.Proofs.YtajaadagejhllaaGreatDoor
/- Trees: slices.Contains over texts; a row of texts in memory. -/
namespace Go.Proofs.YtajaadagejhllaaGreatDoor
open Go.RowKit

theorem toList_eq (a b : ByteArray) : (a.toList == b.toList) = decide (a = b) := by
  rw [Bool.eq_iff_iff]
  simp only [beq_iff_eq, decide_eq_true_iff]
  constructor
  · intro h
    exact Go.WideShapes.bytes_inj (by rw [← ByteArray.toList_eq, ← ByteArray.toList_eq]; exact h)
  · rintro rfl; rfl
/-- Is a text among the first n? -/
def hasB (x : Nat → ByteArray) (s : ByteArray) : Nat → Bool
  | 0 => false
  | n + 1 => hasB x s n || decide (s = x n)
theorem hasB_yes {x : Nat → ByteArray} {s : ByteArray} {i : Nat} (h : s = x i) : ∀ {n : Nat}, i < n → hasB x s n = true
  | 0, h => by omega
  | n + 1, hi => by
    unfold hasB
    by_cases e : i = n
    · subst e; simp [h]
    · rw [hasB_yes h (n := n) (by omega)]; rfl
theorem hasB_succ {x : Nat → ByteArray} {s : ByteArray} {i : Nat} (h : hasB x s i = false) (hb : ¬ s = x i) : hasB x s (i + 1) = false := by
  unfold hasB
  rw [h]
  simpa using hb

set_option maxHeartbeats 1000000 in
set_option maxRecDepth 100000 in
theorem index_any (a : Option Addr) (n c : Nat) (x : Nat → ByteArray) (s : ByteArray) (w : World) (hS : Sml w a x n) (hn : n ≤ 1152921504606846976) :
    Calls Tryz.prog 103 #[.slice a n c, .string s] w fun e w' => (∃ i : Int, e = .returned (.int .i64 i) ∧ decide (0 ≤ i) = hasB x s n) ∧ w' = w := by
  have HS : Hid (Sml w a x n) := hS
  clear hS
  go_enter Tryz.func103, Tryz.ntmps103
  go_wp2_with fail
  go_loopw [8] (fun ivv w' => ∃ i : Nat, ivv = .int .i64 (i : Int) ∧ i ≤ n ∧ Hid (hasB x s i = false) ∧ w' = w) (fun ivv _ => n - (RowKit.intOf ivv).toNat)
  case atStart => exact ⟨0, rfl, by omega, rfl, rfl⟩
  case round =>
    obtain ⟨i, rfl, hi, hss, rfl⟩ := hrel
    by_cases hlt : i < n
    · have hii : (i : Int) < n := by omega
      obtain ⟨g1, o1, rfl, hg1, x0⟩ := HS.out.at i hlt
      by_cases he : s = x i
      · have hd : (s.toList == (x i).toList) = true := by rw [toList_eq]; exact decide_eq_true he
        have HY : Hid (hasB x s n = true) := hasB_yes he hlt
        generalize x i = u at *
        clear he
        go_wp2
        go_ret
        exact ⟨⟨_, rfl, by rw [HY.out]; simp⟩, rfl⟩
      · have hd : (s.toList == (x i).toList) = false := by rw [toList_eq]; exact decide_eq_false he
        have HY : Hid (hasB x s (i + 1) = false) := hasB_succ hss.out he
        generalize x i = u at *
        clear he
        go_wp2
        exact ⟨⟨i + 1, by go_num, by omega, HY, trivial⟩, by simp [RowKit.intOf]; omega⟩
    · have hii : ¬ (i : Int) < n := by omega
      obtain rfl : i = n := by omega
      go_wp2
      go_ret
      exact ⟨⟨_, rfl, by rw [hss.out]; rfl⟩, rfl⟩
set_option maxHeartbeats 1000000 in
theorem contains_any (a : Option Addr) (n c : Nat) (x : Nat → ByteArray) (s : ByteArray) (w : World) (hS : Sml w a x n) (hn : n ≤ 1152921504606846976) :
    Calls Tryz.prog 88 #[.slice a n c, .string s] w fun e w' => e = .returned (.bool (hasB x s n)) ∧ w' = w := by
  have k := index_any a n c x s w hS hn
  clear hS
  go_enter Tryz.func88, Tryz.ntmps88
  go_wp2_with fail
  go_fit k
  rintro e w1 ⟨⟨i, rfl, hi⟩, rfl⟩
  have HI : Hid _ := hi
  clear hi
  go_wp2
  go_ret
  exact ⟨ret_bool HI.out, rfl⟩
end Go.Proofs.YtajaadagejhllaaGreatDoor
/- Trees: isRune, isTimes, isDigit, isLetter, isWord, isBracketed. -/
namespace Go.Proofs.YtajaadagejhllaaGreatDoor
open Go.RowKit

def ruB (r : Int) : Bool := decide (0 ≤ r ∧ r ≤ 1114111)
def tiB (a b : Int) : Bool := decide (0 ≤ a ∧ a ≤ 1000 ∧ (b = -1 ∨ a ≤ b ∧ b ≤ 1000))
def dgB (r : Int) : Bool := decide (48 ≤ r ∧ r ≤ 57)
def ltB (r : Int) : Bool := decide (65 ≤ r ∧ r ≤ 90 ∨ 97 ≤ r ∧ r ≤ 122)
def wdB (r : Int) : Bool := dgB r || ltB r || decide (r = 95)
/-- Does a kid of that kind stand in brackets in a node of that kind? -/
def brB (k d : Int) : Bool := decide (d = 5 ∧ (k = 5 ∨ k = 4 ∨ k = 6) ∨ (d = 4 ∨ d = 1) ∧ (k = 4 ∨ k = 6) ∨ d = 6 ∧ k = 6)

set_option maxHeartbeats 1000000 in
theorem isRune_any (r : Int) (w : World) : Calls Tryz.prog 84 #[.int .i32 r] w fun e w' => e = .returned (.bool (ruB r)) ∧ w' = w := by
  by_cases h0 : 0 ≤ r
  all_goals by_cases h1 : r ≤ 1114111
  all_goals
    have HE : Hid (ruB r = decide (0 ≤ r ∧ r ≤ 1114111)) := rfl
    go_enter Tryz.func84, Tryz.ntmps84
    go_wp2
    go_ret
    exact ⟨ret_bool (by rw [HE.out]; simp <;> omega), rfl⟩

set_option maxHeartbeats 1000000 in
theorem isTimes_any (a b : Int) (w : World) : Calls Tryz.prog 86 #[.int .i64 a, .int .i64 b] w fun e w' => e = .returned (.bool (tiB a b)) ∧ w' = w := by
  have HE : Hid (tiB a b = decide (0 ≤ a ∧ a ≤ 1000 ∧ (b = -1 ∨ a ≤ b ∧ b ≤ 1000))) := rfl
  by_cases h0 : 0 ≤ a
  · by_cases h1 : a ≤ 1000
    · by_cases h2 : b = -1
      · subst h2
        go_enter Tryz.func86, Tryz.ntmps86
        go_wp2
        go_ret
        exact ⟨ret_bool (by rw [HE.out]; simp <;> omega), rfl⟩
      · have e2 : (b == -1) = false := by simpa using h2
        have h2' : ¬ b = -1 := h2
        have H2 : Hid (¬ b = -1) := h2
        clear h2 h2'
        by_cases h3 : a ≤ b
        all_goals by_cases h4 : b ≤ 1000
        all_goals
          go_enter Tryz.func86, Tryz.ntmps86
          go_wp2
          go_ret
          exact ⟨ret_bool (by have := H2.out; rw [HE.out]; simp <;> omega), rfl⟩
    · go_enter Tryz.func86, Tryz.ntmps86
      go_wp2
      go_ret
      exact ⟨ret_bool (by rw [HE.out]; simp <;> omega), rfl⟩
  · go_enter Tryz.func86, Tryz.ntmps86
    go_wp2
    go_ret
    exact ⟨ret_bool (by rw [HE.out]; simp <;> omega), rfl⟩

set_option maxHeartbeats 1000000 in
theorem isDigit_any (r : Int) (w : World) : Calls Tryz.prog 106 #[.int .i32 r] w fun e w' => e = .returned (.bool (dgB r)) ∧ w' = w := by
  by_cases h0 : 48 ≤ r
  all_goals by_cases h1 : r ≤ 57
  all_goals
    have HE : Hid (dgB r = decide (48 ≤ r ∧ r ≤ 57)) := rfl
    go_enter Tryz.func106, Tryz.ntmps106
    go_wp2
    go_ret
    exact ⟨ret_bool (by rw [HE.out]; simp <;> omega), rfl⟩

set_option maxHeartbeats 1000000 in
theorem isLetter_any (r : Int) (w : World) : Calls Tryz.prog 105 #[.int .i32 r] w fun e w' => e = .returned (.bool (ltB r)) ∧ w' = w := by
  by_cases h0 : 65 ≤ r
  all_goals by_cases h1 : r ≤ 90
  all_goals by_cases h2 : 97 ≤ r
  all_goals by_cases h3 : r ≤ 122
  all_goals first
    | (exfalso; omega)
    | (have HE : Hid (ltB r = decide (65 ≤ r ∧ r ≤ 90 ∨ 97 ≤ r ∧ r ≤ 122)) := rfl
       go_enter Tryz.func105, Tryz.ntmps105
       go_wp2
       go_ret
       exact ⟨ret_bool (by rw [HE.out]; simp <;> omega), rfl⟩)

set_option maxHeartbeats 1000000 in
theorem isWord_any (r : Int) (w : World) : Calls Tryz.prog 102 #[.int .i32 r] w fun e w' => e = .returned (.bool (wdB r)) ∧ w' = w := by
  have HE : Hid (wdB r = (dgB r || ltB r || (r == 95))) := by unfold Hid wdB; congr 1
  have kD := isDigit_any r
  have kL := isLetter_any r
  cases hd : dgB r
  all_goals cases hl : ltB r
  all_goals cases h5 : (r == 95)
  all_goals
    rw [hd, hl, h5] at HE
    rw [hd] at kD
    rw [hl] at kL
    clear hd hl
    go_enter Tryz.func102, Tryz.ntmps102
    go_wp2_with (first | (go_at_call 106; refine (kD _).mono ?_; rintro e w' ⟨rfl, rfl⟩) | (go_at_call 105; refine (kL _).mono ?_; rintro e w' ⟨rfl, rfl⟩))
    go_ret
    exact ⟨ret_bool (by rw [HE.out]; rfl), rfl⟩

set_option maxHeartbeats 1000000 in
theorem notWord_any (r : Int) (w : World) : Calls Tryz.prog 101 #[.int .i32 r] w fun e w' => e = .returned (.bool (!wdB r)) ∧ w' = w := by
  have kW := isWord_any r
  cases hd : wdB r
  all_goals
    rw [hd] at kW
    clear hd
    go_enter Tryz.func101, Tryz.ntmps101
    go_wp2_with (go_at_call 102; refine (kW _).mono ?_; rintro e w' ⟨rfl, rfl⟩)
    go_ret
    exact ⟨rfl, rfl⟩

set_option maxHeartbeats 1000000 in
theorem bracketed_any (k d : Int) (w : World) : Calls Tryz.prog 68 #[.int .i64 k, .int .i64 d] w fun e w' => e = .returned (.bool (brB k d)) ∧ w' = w := by
  have HE : Hid (brB k d = decide (d = 5 ∧ (k = 5 ∨ k = 4 ∨ k = 6) ∨ (d = 4 ∨ d = 1) ∧ (k = 4 ∨ k = 6) ∨ d = 6 ∧ k = 6)) := rfl
  have HK : Hid (k = 4 ∨ k = 5 ∨ k = 6 ∨ (k == 4) = false ∧ (k == 5) = false ∧ (k == 6) = false) := by simp [Hid]; omega
  have HD : Hid (d = 1 ∨ d = 4 ∨ d = 5 ∨ d = 6 ∨ (d == 1) = false ∧ (d == 4) = false ∧ (d == 5) = false ∧ (d == 6) = false) := by simp [Hid]; omega
  rcases HK.out with rfl | rfl | rfl | ⟨k4, k5, k6⟩
  all_goals rcases HD.out with rfl | rfl | rfl | rfl | ⟨d1, d4, d5, d6⟩
  all_goals clear HK HD
  all_goals
    go_enter Tryz.func68, Tryz.ntmps68
    go_wp2
    go_ret
    exact ⟨ret_bool (by simp_all [Hid]), rfl⟩
end Go.Proofs.YtajaadagejhllaaGreatDoor
/- Trees: isSet. -/
namespace Go.Proofs.YtajaadagejhllaaGreatDoor
open Go.RowKit

theorem Below.drewN {B : Nat} {a w : World} (h : Below B a w) (n : Nat) : Below B a (w.drewN n) := ⟨h.os, h.tape, h.output, h.size, h.block⟩
def esB (f : Nat → Rg) (i : Nat) : Bool := decide (0 ≤ (f i).1 ∧ (f i).1 ≤ 1114111 ∧ 0 ≤ (f i).2 ∧ (f i).2 ≤ 1114111 ∧ (f i).1 ≤ (f i).2 ∧ (0 < i → (f (i - 1)).2 + 1 < (f i).1))
def ssB (f : Nat → Rg) : Nat → Bool
  | 0 => true
  | n + 1 => ssB f n && esB f n
/-- Do ranges stand as those of a class do? -/
def setB (f : Nat → Rg) (n : Nat) : Bool := ssB f n && (decide (n ≠ 1) || decide ((f 0).1 < (f 0).2))
theorem ssB_bad {f : Nat → Rg} {i : Nat} (hb : esB f i = false) : ∀ {n : Nat}, i < n → ssB f n = false
  | 0, h => by omega
  | n + 1, h => by
    unfold ssB
    by_cases e : i = n
    · subst e; rw [hb]; simp
    · rw [ssB_bad hb (n := n) (by omega)]; rfl
theorem ssB_succ {f : Nat → Rg} {i : Nat} (h : ssB f i = true) (hb : esB f i = true) : ssB f (i + 1) = true := by
  unfold ssB
  rw [h, hb]
  rfl
theorem ssB_last {f : Nat → Rg} {i : Nat} (h : ssB f i = true) (h0 : 0 < i) : 0 ≤ (f (i - 1)).2 ∧ (f (i - 1)).2 ≤ 1114111 := by
  obtain ⟨j, rfl⟩ : ∃ j, i = j + 1 := ⟨i - 1, by omega⟩
  unfold ssB esB at h
  simp at h
  simp
  omega

set_option maxHeartbeats 2000000 in
set_option maxRecDepth 100000 in
theorem isSet_any (a : Option Addr) (n c : Nat) (f : Nat → Rg) (w : World) (hR : Rml w a f n) (hn : n ≤ 1152921504606846976) :
    Calls Tryz.prog 85 #[.slice a n c] w fun r w' => r = .returned (.bool (setB f n)) ∧ Below w.heap.size w w' := by
  have HR : Hid (Rml w a f n) := hR
  clear hR
  go_enter Tryz.func85, Tryz.ntmps85
  go_wp2_with fail
  go_loopw [7] (fun ivv w' => ∃ i : Nat, ivv = .int .i64 (i : Int) ∧ i ≤ n ∧ ssB f i = true ∧ Hid (Below w.heap.size w w')) (fun ivv _ => n - (RowKit.intOf ivv).toNat)
  case atStart => exact ⟨0, rfl, by omega, rfl, Below.refl _ _⟩
  case round =>
    obtain ⟨i, rfl, hi, hss, hb⟩ := hrel
    have HSS : Hid (ssB f i = true) := hss
    by_cases hlt : i < n
    · have hii : (i : Int) < n := by omega
      have HLT : Hid (i < n) := hlt
      have HO : Hid (esB f i = true ↔ _) := decide_eq_true_iff
      obtain ⟨g1, o1, rfl, hg1, x0, x1⟩ := HR.out.at i hlt
      have e0 := bcell2 hb.out x0
      have e1 := bcell2 hb.out x1
      obtain ⟨⟨lo, hh⟩, hx⟩ : ∃ x, f i = x := ⟨_, rfl⟩
      rw [hx] at e0 e1 HO
      dsimp only at e0 e1 HO
      have kL := isRune_any lo
      have kH := isRune_any hh
      have HB2 : Hid (∀ v, Below w.heap.size w (wr.alloc v)) := fun v => hb.out.alloc hb.out.size v
      have HBad : Hid (esB f i = false → setB f n = false) := fun h => by unfold setB; rw [ssB_bad h HLT.out]; rfl
      clear hx x0 x1 hss
      cases hl : ruB lo
      · rw [hl] at kL
        have HF : Hid (setB f n = false) := HBad.out (by cases h : esB f i with | false => rfl | true => have := HO.out.1 h; unfold ruB at hl; simp at hl; omega)
        clear hl
        go_wp2_with (go_at_call 84; refine (kL _).mono ?_; rintro e w' ⟨rfl, rfl⟩)
        go_ret
        exact ⟨ret_bool HF.out.symm, HB2.out _⟩
      · cases hh2 : ruB hh
        · rw [hl] at kL
          rw [hh2] at kH
          have HF : Hid (setB f n = false) := HBad.out (by cases h : esB f i with | false => rfl | true => have := HO.out.1 h; unfold ruB at hh2; simp at hh2; omega)
          clear hl hh2
          go_wp2_with fail
          go_fit (kL _)
          rintro e w1 ⟨rfl, rfl⟩
          go_wp2_with fail
          go_fit (kH _)
          rintro e w1 ⟨rfl, rfl⟩
          go_wp2
          go_ret
          exact ⟨ret_bool HF.out.symm, HB2.out _⟩
        · rw [hl] at kL
          rw [hh2] at kH
          have bl : 0 ≤ lo ∧ lo ≤ 1114111 := by unfold ruB at hl; simpa using hl
          have bh : 0 ≤ hh ∧ hh ≤ 1114111 := by unfold ruB at hh2; simpa using hh2
          obtain ⟨bl0, bl1⟩ := bl
          obtain ⟨bh0, bh1⟩ := bh
          clear hl hh2
          by_cases h3 : hh < lo
          · have HF : Hid (setB f n = false) := HBad.out (by cases h : esB f i with | false => rfl | true => have := HO.out.1 h; omega)
            go_wp2_with fail
            go_fit (kL _)
            rintro e w1 ⟨rfl, rfl⟩
            go_wp2_with fail
            go_fit (kH _)
            rintro e w1 ⟨rfl, rfl⟩
            go_wp2
            go_ret
            exact ⟨ret_bool HF.out.symm, HB2.out _⟩
          · by_cases h0 : i = 0
            · have hd : decide (0 < i) = false := by simpa using h0
              have HT : Hid (esB f i = true) := HO.out.2 (by omega)
              have H0 : Hid (i = 0) := h0
              clear h0
              go_wp2_with fail
              go_fit (kL _)
              rintro e w1 ⟨rfl, rfl⟩
              go_wp2_with fail
              go_fit (kH _)
              rintro e w1 ⟨rfl, rfl⟩
              go_wp2_with fail
              go_quiet (fail)
              go_wp2
              exact ⟨⟨i + 1, by go_num, by omega, ssB_succ HSS.out HT.out, Below.drewN (HB2.out _) _⟩, by simp [RowKit.intOf]; omega⟩
            · have hd : decide (0 < i) = true := by simp; omega
              have hp1 : (0 : Int) ≤ (i : Int) - 1 := by omega
              have hp2 : (i : Int) - 1 < n := by omega
              obtain ⟨j, rfl⟩ : ∃ j, i = j + 1 := ⟨i - 1, by omega⟩
              obtain ⟨g2, o2, hpo, _, _, y1⟩ := HR.out.at j (by omega)
              cases hpo
              have f1 := bcell2 hb.out y1
              have lb := ssB_last HSS.out (by omega)
              simp only [Nat.add_sub_cancel] at lb HO
              obtain ⟨lb0, lb1⟩ := lb
              have f2 : ∀ v, (wr.alloc v).cell? ⟨g1, o1 + j * 2 + 1, none⟩ = some (.int .i32 (f j).2) := fun v => bcell2 ((Below.refl _ wr).alloc (Nat.le_refl _) v) f1
              generalize (f j).2 = L at *
              have HT : Hid (L + 1 < lo → esB f (j + 1) = true) := fun h => HO.out.2 (by omega)
              have HF : Hid (lo ≤ L + 1 → setB f n = false) := fun h => HBad.out (by cases h' : esB f (j + 1) with | false => rfl | true => have := HO.out.1 h'; omega)
              have hw1 : IntKind.i64.wrap ((j : Int) + 1 - 1) = (j : Int) := by rw [IntKind.wrap_i64]; omega
              have hw2 : IntKind.i32.wrap (L + 1) = L + 1 := by rw [IntKind.wrap_i32]; omega
              clear f1 y1
              by_cases h4 : lo ≤ L + 1
              all_goals
                go_wp2_with fail
                go_fit (kL _)
                rintro e w1 ⟨rfl, rfl⟩
                go_wp2_with fail
                go_fit (kH _)
                rintro e w1 ⟨rfl, rfl⟩
                go_wp2_with fail
                go_quiet (fail)
                go_wp2
              · go_ret
                exact ⟨ret_bool (HF.out h4).symm, Below.drewN (HB2.out _) _⟩
              · exact ⟨⟨j + 1 + 1, by go_num, by omega, ssB_succ HSS.out (HT.out (by omega)), Below.drewN (HB2.out _) _⟩, by simp [RowKit.intOf]; omega⟩
    · have hii : ¬ (i : Int) < n := by omega
      obtain rfl : i = n := by omega
      by_cases h1 : i = 1
      · have hd : ((i : Int) != 1) = false := by simp; omega
        obtain ⟨g1, o1, rfl, hg1, x0, x1⟩ := HR.out.at 0 (by omega)
        have e0 := bcell2 hb.out x0
        have e1 := bcell2 hb.out x1
        simp only [Nat.zero_mul, Nat.add_zero] at e0 e1
        have hpos : (0 : Int) < i := by omega
        have HX : Hid (setB f i = decide ((f 0).1 < (f 0).2)) := by unfold Hid setB; rw [HSS.out, h1]; simp
        clear h1 x0 x1 hss
        go_wp2_with fail
        go_quiet (fail)
        go_wp2
        go_ret
        exact ⟨ret_bool HX.out.symm, Below.drewN hb.out _⟩
      · have hd : ((i : Int) != 1) = true := by simp; omega
        have HX : Hid (setB f i = true) := by unfold Hid setB; rw [HSS.out]; simp [h1]
        clear h1 hss
        go_wp2_with fail
        go_quiet (fail)
        go_wp2
        go_ret
        exact ⟨ret_bool HX.out.symm, Below.drewN hb.out _⟩
end Go.Proofs.YtajaadagejhllaaGreatDoor
