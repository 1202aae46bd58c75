/- A bundle of texts. -/
import Derived.Test.YtajaadagejhllaaGreatDoorBs19
import Derived.Test.YtajaadagejhllaaGreatDoorBs20
import Derived.Test.YtajaadagejhllaaGreatDoorBs06
import Derived.Deep.RegionHeld3
/- The parser: trees that were laid down; rows of nodes. -/
namespace Go.Proofs.YtajaadagejhllaaGreatDoor
open Go.RowKit Go.Lib

/-- Ranges, nodes, trees that lie in blocks of Z. -/
def Rz (Z : Nat → Prop) (w : World) (a : Option Addr) (f : Nat → Rg) (n : Nat) : Prop := n = 0 ∨ ∃ g o, a = some ⟨g, o, none⟩ ∧ Z g ∧ ∀ j, j < n → w.cell? ⟨g, o + j * 2, none⟩ = some (.int .i32 (f j).1) ∧ w.cell? ⟨g, o + j * 2 + 1, none⟩ = some (.int .i32 (f j).2)
def Kz (Z : Nat → Prop) (w : World) (a : Option Addr) (x : Nat → Nd) (n : Nat) : Prop := n = 0 ∨ ∃ g o, a = some ⟨g, o, none⟩ ∧ Z g ∧ ∀ j, j < n → Cs w g (o + j * 9) (x j)
def TzN (Z : Nat → Prop) (w : World) : Nat → Tr → Prop
  | 0, _ => True
  | n + 1, t => ((t []).rn * 8 ≤ 140737488351232 ∧ (t []).kn * 8 ≤ 140737488351232 ∧ (t []).nm.size ≤ 140737488351232 ∧ (t []).kn ≤ (t []).kc) ∧ Rz Z w (t []).ra (t []).rf (t []).rn ∧ Kz Z w (t []).ka (fun j => t [j]) (t []).kn ∧ ∀ j, j < (t []).kn → TzN Z w n (kid t j)
def Tz (Z : Nat → Prop) (w : World) (t : Tr) : Prop := ∀ n, TzN Z w n t
theorem Rz.kp {Z M : Nat → Prop} {w w' : World} {a : Option Addr} {f : Nat → Rg} {n : Nat} (h : Rz Z w a f n) (k : Kp M w w') (hZ : ∀ g, Z g → ¬ M g) : Rz Z w' a f n := by
  rcases h with h | ⟨g, o, e, hg, hc⟩
  · exact .inl h
  · exact .inr ⟨g, o, e, hg, fun j hj => ⟨k.cell (hc j hj).1 (hZ g hg), k.cell (hc j hj).2 (hZ g hg)⟩⟩
theorem Kz.kp {Z M : Nat → Prop} {w w' : World} {a : Option Addr} {x : Nat → Nd} {n : Nat} (h : Kz Z w a x n) (k : Kp M w w') (hZ : ∀ g, Z g → ¬ M g) : Kz Z w' a x n := by
  rcases h with h | ⟨g, o, e, hg, hc⟩
  · exact .inl h
  · exact .inr ⟨g, o, e, hg, fun j hj => (hc j hj).kp k (hZ g hg)⟩
theorem TzN.kp {Z M : Nat → Prop} {w w' : World} (k : Kp M w w') (hZ : ∀ g, Z g → ¬ M g) : ∀ {n : Nat} {t : Tr}, TzN Z w n t → TzN Z w' n t
  | 0, _, _ => trivial
  | _ + 1, _, h => ⟨h.1, h.2.1.kp k hZ, h.2.2.1.kp k hZ, fun j hj => (h.2.2.2 j hj).kp k hZ⟩
theorem Tz.kp {Z M : Nat → Prop} {w w' : World} {t : Tr} (h : Tz Z w t) (k : Kp M w w') (hZ : ∀ g, Z g → ¬ M g) : Tz Z w' t := fun n => (h n).kp k hZ
theorem TzN.mono {Z Y : Nat → Prop} {w : World} (hZ : ∀ g, Z g → Y g) : ∀ {n : Nat} {t : Tr}, TzN Z w n t → TzN Y w n t
  | 0, _, _ => trivial
  | _ + 1, _, h => ⟨h.1, h.2.1.imp id (fun ⟨g, o, e, hg, hc⟩ => ⟨g, o, e, hZ g hg, hc⟩), h.2.2.1.imp id (fun ⟨g, o, e, hg, hc⟩ => ⟨g, o, e, hZ g hg, hc⟩), fun j hj => (h.2.2.2 j hj).mono hZ⟩
theorem Tz.mono {Z Y : Nat → Prop} {w : World} {t : Tr} (h : Tz Z w t) (hZ : ∀ g, Z g → Y g) : Tz Y w t := fun n => (h n).mono hZ
theorem Tz.tat {Z : Nat → Prop} {B : Nat} {w : World} {t : Tr} (h : Tz Z w t) (hZ : ∀ g, Z g → g < B) : Tat B w t := by
  intro n
  have h' : TzN (fun g => g < B) w n t := (h n).mono hZ
  clear h
  induction n generalizing t with
  | zero => exact trivial
  | succ n ih => exact ⟨h'.1, h'.2.1, h'.2.2.1, fun j hj => ih (h'.2.2.2 j hj)⟩
theorem topT_z {Z : Nat → Prop} {W : World} {d : Nd} {T : Nat → Tr} (h : d.rn * 8 ≤ 140737488351232 ∧ d.kn * 8 ≤ 140737488351232 ∧ d.nm.size ≤ 140737488351232 ∧ d.kn ≤ d.kc) (hr : Rz Z W d.ra d.rf d.rn) (hk : Kz Z W d.ka (fun j => T j []) d.kn) (hT : ∀ j, j < d.kn → Tz Z W (T j)) : Tz Z W (topT d T) := by
  intro n
  cases n with
  | zero => exact trivial
  | succ n => exact ⟨h, hr, hk, fun j hj => hT j hj n⟩
def n9 (f : Nat → Nd) (n : Nat) : List Value := (List.range n).flatMap fun j => ndC (f j)
theorem n9_succ (f : Nat → Nd) (n : Nat) : n9 f (n + 1) = n9 f n ++ ndC (f n) := by
  unfold n9
  rw [List.range_succ, List.flatMap_append]
  simp
theorem n9_len (f : Nat → Nd) (n : Nat) : (n9 f n).length = n * 9 := by
  induction n with
  | zero => rfl
  | succ n ih => rw [n9_succ, List.length_append, ih]; simp; omega
theorem n9_congr (f g : Nat → Nd) (n : Nat) (h : ∀ j, j < n → f j = g j) : n9 f n = n9 g n := by
  induction n with
  | zero => rfl
  | succ n ih => rw [n9_succ, n9_succ, ih (fun j hj => h j (by omega)), h n (by omega)]
theorem n9_push (f : Nat → Nd) (n : Nat) (x : Nd) : n9 (up f n x) (n + 1) = n9 f n ++ ndC x := by
  rw [n9_succ, up_same]
  congr 1
  exact n9_congr _ _ n (fun j hj => up_other _ _ _ _ (by omega))
theorem n9_get (f : Nat → Nd) : ∀ (n j k : Nat), j < n → k < 9 → (n9 f n)[j * 9 + k]? = (ndC (f j))[k]?
  | 0, j, k, h, _ => by omega
  | n + 1, j, k, h, hk => by
    rw [n9_succ]
    by_cases e : j = n
    · subst e
      rw [List.getElem?_append_right (by rw [n9_len]; omega), n9_len]
      congr 1
      omega
    · rw [List.getElem?_append_left (by rw [n9_len]; omega)]
      exact n9_get f n j k (by omega) hk
theorem row_kz {S : Nat} {w : World} {v : Value} {f : Nat → Nd} {n : Nat} (h : w.ownsRow S 25 9 v n (n9 f n)) : ∃ a c, v = .slice a n c ∧ n ≤ c ∧ Kz (fun g => v.ownBlock = some g) w a f n := by
  rcases h.2 with ⟨rfl, rfl⟩ | ⟨g, cap, cur, rfl, _, hg, hc, _, _, hct⟩
  · exact ⟨none, 0, rfl, Nat.le_refl _, .inl rfl⟩
  · refine ⟨_, cap, rfl, hc, .inr ⟨g, 0, rfl, rfl, fun j hj => ?_⟩⟩
    have hcell : ∀ k u, k < 9 → (ndC (f j))[k]? = some u → w.cell? ⟨g, 0 + j * 9 + k, none⟩ = some u := fun k u hk hu => by
      have e1 : w.cell? ⟨g, 0 + j * 9 + k, none⟩ = cur[0 + j * 9 + k]? := by
        unfold World.cell?
        dsimp only
        rw [hg]
        rfl
      have e2 : cur[0 + j * 9 + k]? = (n9 f n)[j * 9 + k]? := by
        rw [← hct, List.getElem?_take, if_pos (by omega), Nat.zero_add]
        simp
      rw [e1, e2, n9_get f n j k hj hk, hu]
    exact ⟨hcell 0 _ (by omega) rfl, hcell 1 _ (by omega) rfl, hcell 2 _ (by omega) rfl, hcell 3 _ (by omega) rfl, hcell 4 _ (by omega) rfl, hcell 5 _ (by omega) rfl, hcell 6 _ (by omega) rfl, hcell 7 _ (by omega) rfl, hcell 8 _ (by omega) rfl⟩
theorem infX : (Tryz.prog.info? 25).map (fun i => (i.zero, i.size, i.bytes)) = some (some (.agg #[.int .i64 0, .int .i32 0, .slice none 0 0, .int .i64 0, .int .i64 0, .bool false, .int .i64 0, .string ⟨#[]⟩, .slice none 0 0]), 9, 112) := by kernel_rfl
/-- One node more. -/
theorem append_9 (w : World) (S : Nat) (v : Value) (n : Nat) (f : Nat → Nd) (x : Nd) (hS : S ≤ w.heap.size) (hn : (n + 1) * 112 ≤ 140737488355328) (o : w.ownsRow S 25 9 v n (n9 f n)) :
    ∃ g c w', (Builtin.append_ #[23, 23] 23 #[v, .slice (some ⟨w.heap.size, 0, none⟩) 1 1]).run Tryz.prog (w.alloc (ndX x)) = .ok (.slice (some ⟨g, 0, none⟩) (n + 1) c) w' ∧ w'.ownsRow S 25 9 (.slice (some ⟨g, 0, none⟩) (n + 1) c) (n + 1) (n9 (up f n x) (n + 1)) ∧ Kp (fun k => v.ownBlock = some k) w w' ∧ (v.ownBlock = some g ∨ w.heap.size ≤ g) := by
  obtain ⟨i0, hi, hz0, hz1, hz2⟩ := info_parts infX
  have o0 := World.ownsRow.alloc o (ndX x)
  have e : (w.alloc (ndX x)).heap[w.heap.size]? = some (ndX x) := heap_alloc_new w _
  obtain ⟨v', w', r, o', g, _, h5⟩ := run_append_own_at (P := Tryz.prog) (w.alloc (ndX x)) S 23 23 25 i0 _ 9 112 Tryz.underlying23 hi hz0 hz1 hz2 rfl (by decide) _ n (n9 f n) o0 ⟨w.heap.size, 0, none⟩ 1 1 (ndC x) (by rfl)
    (fun j u hj => by
      rw [Go.WideShapes.add_plain, Nat.zero_add]
      unfold World.cell?
      rw [e]
      simpa using hj) (by intro u hu; simp at hu; rcases hu with rfl | rfl | rfl | rfl | rfl | rfl | rfl | rfl | rfl <;> rfl) (by unfold maxLen; omega) hn (by simp; omega)
  rw [← n9_push] at o'
  rcases o'.2 with ⟨_, h0⟩ | ⟨G, C, cur, rfl, _⟩
  · omega
  · refine ⟨G, C, w', r, o', ((Kp.refl _ w).alloc _).grown g (fun k hk _ => hk), ?_⟩
    rcases h5 with h5 | h5
    · exact .inl (h5.symm.trans rfl)
    · have h6 : G = (w.alloc (ndX x)).heap.size := Option.some.inj h5
      rw [World.size_alloc] at h6
      exact .inr (by omega)
/-- One node, from wherever it lies, laid down alone. -/
theorem append_n1 (w : World) (S g : Nat) (x : Nd) (hS : S ≤ w.heap.size) (h : Cs w g 0 x) :
    ∃ G c w', (Builtin.append_ #[23, 23] 23 #[.slice none 0 0, .slice (some ⟨g, 0, none⟩) 1 1]).run Tryz.prog w = .ok (.slice (some ⟨G, 0, none⟩) 1 c) w' ∧ w'.ownsRow S 25 9 (.slice (some ⟨G, 0, none⟩) 1 c) 1 (n9 (fun _ => x) 1) ∧ Below w.heap.size w w' ∧ w.heap.size ≤ G := by
  obtain ⟨i0, hi, hz0, hz1, hz2⟩ := info_parts infX
  obtain ⟨q0, q1, q2, q3, q4, q5, q6, q7, q8⟩ := h
  simp only [Nat.zero_add] at q0 q1 q2 q3 q4 q5 q6 q7 q8
  obtain ⟨v', w', r, o', g', _, h5⟩ := run_append_own_at (P := Tryz.prog) w S 23 23 25 i0 _ 9 112 Tryz.underlying23 hi hz0 hz1 hz2 rfl (by decide) (.slice none 0 0) 0 [] (World.ownsRow_nil _ _ _ _) ⟨g, 0, none⟩ 1 1 (ndC x) (by rfl)
    (fun j u hj => by
      rw [Go.WideShapes.add_plain, Nat.zero_add]
      match j, hj with
      | 0, hj => cases hj; exact q0
      | 1, hj => cases hj; exact q1
      | 2, hj => cases hj; exact q2
      | 3, hj => cases hj; exact q3
      | 4, hj => cases hj; exact q4
      | 5, hj => cases hj; exact q5
      | 6, hj => cases hj; exact q6
      | 7, hj => cases hj; exact q7
      | 8, hj => cases hj; exact q8
      | j + 9, hj => simp at hj) (by intro u hu; simp at hu; rcases hu with rfl | rfl | rfl | rfl | rfl | rfl | rfl | rfl | rfl <;> rfl) (by decide) (by decide) hS
  have e : n9 (fun _ => x) 1 = [] ++ ndC x := by rw [n9_succ]; rfl
  rw [← e] at o'
  rcases o'.2 with ⟨_, h0⟩ | ⟨G, C, cur, rfl, _⟩
  · omega
  · refine ⟨G, C, w', r, o', (Below.refl _ w).grown g' (Nat.le_refl _) (fun j e => by cases e), ?_⟩
    rcases h5 with h5 | h5
    · cases h5
    · have h6 : G = w.heap.size := Option.some.inj h5
      omega
/-- A tree laid down since n. -/
def Nw (n : Nat) (w : World) (t : Tr) : Prop := Tz (fun k => n ≤ k ∧ k < w.heap.size) w t
theorem Nw.kp {n : Nat} {w w' : World} {t : Tr} {M : Nat → Prop} (h : Nw n w t) (k : Kp M w w') (hM : ∀ g, n ≤ g → g < w.heap.size → ¬ M g) : Nw n w' t :=
  (Tz.kp h k (fun g hg => hM g hg.1 hg.2)).mono (fun _ hg => ⟨hg.1, Nat.lt_of_lt_of_le hg.2 k.size⟩)
theorem Nw.below {n : Nat} {w w' : World} {t : Tr} (h : Nw n w t) (b : Below w.heap.size w w') : Nw n w' t := h.kp (M := fun _ => False) (Kp.of b) (fun _ _ _ => id)
theorem Nw.mono {n m : Nat} {w : World} {t : Tr} (h : Nw n w t) (hm : m ≤ n) : Nw m w t := Tz.mono h (fun _ hg => ⟨Nat.le_trans hm hg.1, hg.2⟩)
theorem Nw.tat {n : Nat} {w : World} {t : Tr} (h : Nw n w t) : Tat w.heap.size w t := Tz.tat h (fun _ hg => hg.2)
def ltT (r : Int) : Tr := topT (ltN r) (fun _ _ => nd0)
def csT (a : Option Addr) (c : Nat) (x : Rg) : Tr := topT (csN a c x) (fun _ _ => nd0)
theorem lt_nw (n : Nat) (w : World) (r : Int) : Nw n w (ltT r) :=
  topT_z ⟨by show 0 * 8 ≤ 140737488351232; decide, by show 0 * 8 ≤ 140737488351232; decide, by show (0 : Nat) ≤ 140737488351232; decide, by show 0 ≤ 0; decide⟩ (.inl rfl) (.inl rfl) (fun j hj => absurd hj (Nat.not_lt_zero _))
theorem cs_nw {n : Nat} {w : World} {a : Option Addr} {c : Nat} {x : Rg} (h : Ro1 n w (.slice a 1 c) x) : Nw n w (csT a c x) := by
  obtain ⟨g, c', e, hg, hlt, c0, c1⟩ := h.open
  cases e
  refine topT_z ⟨by show 1 * 8 ≤ 140737488351232; decide, by show 0 * 8 ≤ 140737488351232; decide, by show (0 : Nat) ≤ 140737488351232; decide, by show 0 ≤ 0; decide⟩ (.inr ⟨g, 0, rfl, ⟨hg, hlt⟩, fun j hj => ?_⟩) (.inl rfl) (fun j hj => absurd hj (Nat.not_lt_zero _))
  have : j = 0 := by have : j < 1 := hj; omega
  subst this
  exact ⟨c0, c1⟩
/-- A function of the reader that answers a tree. -/
def Gv (f : Nat) (S B : Nat) (v : Value) (a : Option Addr) (c : Nat) (R : List Int) (s s' : Ps) (T : Tr → Prop) : Prop :=
  ∀ w w1, S ≤ w.heap.size → Tk S B v a c R s w w1 → Calls Tryz.prog f #[.pointer (some ⟨B, 0, none⟩)] w1 fun e w' => ∃ t, T t ∧ e = .returned (ndV (t [])) ∧ Nw w1.heap.size w' t ∧ Tk S B v a c R s' w w'
/-- The end of a function whose result is boxed. -/
theorem box_end {S B : Nat} {v : Value} {a : Option Addr} {c : Nat} {R : List Int} {s : Ps} {w w1 w5 : World} {t : Tr} (hS : S ≤ w.heap.size) (hG : ¬ Mv B v w1.heap.size) (hsz : w.heap.size ≤ w1.heap.size) (hlt : w1.heap.size < (w1.alloc (ndX zN)).heap.size)
    (HK : Kp (Mv B v) w (w1.alloc (ndX zN))) (h5 : Tk S B v a c R s (w1.alloc (ndX zN)) w5) (hn : Nw (w1.alloc (ndX zN)).heap.size w5 t) :
    Cs w5 w1.heap.size 0 zN ∧ (∀ i, w5.frozen? ⟨w1.heap.size, i, none⟩ = false) ∧ Cs (st9 w5 w1.heap.size (t [])) w1.heap.size 0 (t []) ∧ Nw w1.heap.size (st9 w5 w1.heap.size (t [])) t ∧ Tk S B v a c R s w (st9 w5 w1.heap.size (t [])) := by
  have cc : Cs w5 w1.heap.size 0 zN := (ndX_cells (w := w1) zN (Below.refl _ _)).kp h5.2 hG
  refine ⟨cc, kp_ff h5.2 hG hlt (box_ff w1 zN), st9_cs _ cc, ?_, Tk.past ⟨h5.1, HK.trans h5.2⟩ hS (st9_kp _ _ _) hG hsz⟩
  exact (hn.kp (st9_kp _ _ _) (fun g hg _ e => by omega)).mono (by omega)
end Go.Proofs.YtajaadagejhllaaGreatDoor
/- The parser: single. -/
namespace Go.Proofs.YtajaadagejhllaaGreatDoor
open Go.RowKit Go.Lib

set_option maxRecDepth 100000 in
set_option maxHeartbeats 1000000 in
theorem single_lit {S B : Nat} {v : Value} {a : Option Addr} {c : Nat} {R : List Int} {s : Ps} (hat : s.p ≤ 4000) (hf : s.fl = 0) (x : Int) (hx : ahR R s.p = x) (x1 : ¬ x = -1) (x2 : ¬ x = 46) (x3 : ¬ x = 94) (x4 : ¬ x = 36) (x5 : ¬ x = 91) (x6 : ¬ x = 92) :
    Gv 99 S B v a c R s { s with p := s.p + 1 } (fun t => t = ltT x) := by
  intro w w1 hS h
  have hS1 : S ≤ w1.heap.size := Nat.le_trans hS h.2.size
  obtain ⟨h1, hS2, hG, hlt⟩ := h.1.box hS1 (ndX zN)
  have HK : Hid (Kp (Mv B v) w (w1.alloc (ndX zN))) := h.2.trans (Kp.of ((Below.refl _ w1).alloc (Nat.le_refl _) _))
  have hsz : w.heap.size ≤ w1.heap.size := h.2.size
  have k1 := take_tk (Tk.refl h1) hS2 (by omega) (by rw [hx]; exact x1)
  rw [hx] at k1
  have e2 : (x == 46) = false := by simpa using x2
  have e3 : (x == 94) = false := by simpa using x3
  have e4 : (x == 36) = false := by simpa using x4
  have e5 : (x == 91) = false := by simpa using x5
  have e6 : (x == 92) = false := by simpa using x6
  clear h h1 hx x1 x2 x3 x4 x5 x6
  go_enter Tryz.func99, Tryz.ntmps99
  go_wp2_with fail
  go_fit k1
  rintro e w2 ⟨rfl, h2⟩
  have k2 := literal_any h2.1 hf x
  have H2 : Hid (Tk S B v a c R { s with p := s.p + 1 } (w1.alloc (ndX zN)) w2) := h2
  clear k1 h2
  go_wp2_with fail
  go_fit k2
  rintro e w5 ⟨rfl, b5⟩
  have h5 : Tk S B v a c R { s with p := s.p + 1 } (w1.alloc (ndX zN)) w5 := H2.out.below hS2 b5
  obtain ⟨cc, ff, hE, hN, hT⟩ := box_end hS hG hsz hlt HK.out h5 (lt_nw _ _ x)
  have HE : Hid (Cs (st9 w5 w1.heap.size (ltN x)) w1.heap.size 0 (ltN x)) := hE
  have HN : Hid (Nw w1.heap.size (st9 w5 w1.heap.size (ltN x)) (ltT x) ∧ Tk S B v a c R { s with p := s.p + 1 } w (st9 w5 w1.heap.size (ltN x))) := ⟨hN, hT⟩
  clear k2 b5 h5 hE hN hT
  obtain ⟨q0, q1, q2, q3, q4, q5, q6, q7, q8⟩ := cc
  simp only [Nat.zero_add] at q0 q1 q2 q3 q4 q5 q6 q7 q8
  go_wp2_with fail
  clear q0 q1 q2 q3 q4 q5 q6 q7 q8
  obtain ⟨q0, q1, q2, q3, q4, q5, q6, q7, q8⟩ := HE.out
  have HT := HN.out
  change bodyPost _ _ _ _ _ (st9 w5 w1.heap.size (ltN x))
  generalize (st9 w5 w1.heap.size (ltN x)) = W9 at *
  simp only [Nat.zero_add] at q0 q1 q2 q3 q4 q5 q6 q7 q8
  refine bodyPost_ret (v := ndV (ltN x)) (by simp [results, Tryz.results99, go_sem, q0, q1, q2, q3, q4, q5, q6, q7, q8]; try rfl) rfl ?_
  exact ⟨ltT x, rfl, rfl, HT.1, HT.2⟩
set_option maxRecDepth 100000 in
set_option maxHeartbeats 1000000 in
theorem single_cls {S B : Nat} {v : Value} {a : Option Addr} {c : Nat} {R : List Int} {s : Ps} (hat : s.p ≤ 3000) (hf : s.fl = 0) (h91 : ahR R s.p = 91) (hs0 : seB R (s.p + 1) [94] = false) (hs1 : seB R (s.p + 1) [91, 58] = false) (hs2 : seB R (s.p + 1) [92] = false) (x y : Int) (hx : ahR R (s.p + 1) = x) (x1 : ¬ x = -1) (x2 : ¬ x = 92)
    (hs3 : seB R (s.p + 2) [45] = true) (hy : ahR R (s.p + 3) = y) (y1 : ¬ y = -1) (y2 : ¬ y = 92) (y3 : ¬ y = 93) (hxy : x < y) (hs4 : seB R (s.p + 4) [93] = true) :
    Gv 99 S B v a c R s { s with p := s.p + 5 } (fun t => ∃ a' c', t = csT a' c' (x, y)) := by
  intro w w1 hS h
  have hS1 : S ≤ w1.heap.size := Nat.le_trans hS h.2.size
  obtain ⟨h1, hS2, hG, hlt⟩ := h.1.box hS1 (ndX zN)
  have HK : Hid (Kp (Mv B v) w (w1.alloc (ndX zN))) := h.2.trans (Kp.of ((Below.refl _ w1).alloc (Nat.le_refl _) _))
  have hsz : w.heap.size ≤ w1.heap.size := h.2.size
  have k1 := take_tk (Tk.refl h1) hS2 (by omega) (by rw [h91]; decide)
  rw [h91] at k1
  clear h h1
  go_enter Tryz.func99, Tryz.ntmps99
  go_wp2_with fail
  go_fit k1
  rintro e w2 ⟨rfl, h2⟩
  have k2 := class_range h2 hS2 (by show s.p + 1 ≤ 4000; omega) hf hs0 hs1 hs2 x y hx x1 x2 hs3 hy y1 y2 y3 hxy hs4
  have hs22 : (w1.alloc (ndX zN)).heap.size ≤ w2.heap.size := h2.2.size
  clear k1 h2
  go_wp2_with fail
  go_fit k2
  rintro e w5 ⟨a', c', rfl, r5, h5⟩
  have h5' : Tk S B v a c R { s with p := s.p + 5 } (w1.alloc (ndX zN)) w5 := h5
  obtain ⟨cc, ff, hE, hN, hT⟩ := box_end hS hG hsz hlt HK.out h5' ((cs_nw r5).mono hs22)
  have HE : Hid (Cs (st9 w5 w1.heap.size (csN a' c' (x, y))) w1.heap.size 0 (csN a' c' (x, y))) := hE
  have HN : Hid (Nw w1.heap.size (st9 w5 w1.heap.size (csN a' c' (x, y))) (csT a' c' (x, y)) ∧ Tk S B v a c R { s with p := s.p + 5 } w (st9 w5 w1.heap.size (csN a' c' (x, y)))) := ⟨hN, hT⟩
  clear k2 h5 h5' hE hN hT r5
  obtain ⟨q0, q1, q2, q3, q4, q5, q6, q7, q8⟩ := cc
  simp only [Nat.zero_add] at q0 q1 q2 q3 q4 q5 q6 q7 q8
  go_wp2_with fail
  clear q0 q1 q2 q3 q4 q5 q6 q7 q8
  obtain ⟨q0, q1, q2, q3, q4, q5, q6, q7, q8⟩ := HE.out
  have HT := HN.out
  change bodyPost _ _ _ _ _ (st9 w5 w1.heap.size (csN a' c' (x, y)))
  generalize (st9 w5 w1.heap.size (csN a' c' (x, y))) = W9 at *
  simp only [Nat.zero_add] at q0 q1 q2 q3 q4 q5 q6 q7 q8
  refine bodyPost_ret (v := ndV (csN a' c' (x, y))) (by simp [results, Tryz.results99, go_sem, q0, q1, q2, q3, q4, q5, q6, q7, q8]; try rfl) rfl ?_
  exact ⟨csT a' c' (x, y), ⟨_, _, rfl⟩, rfl, HT.1, HT.2⟩
end Go.Proofs.YtajaadagejhllaaGreatDoor
/- The parser: repeats that stand there. -/
namespace Go.Proofs.YtajaadagejhllaaGreatDoor
open Go.RowKit Go.Lib

def rzN : Nd := ⟨6, 0, none, 0, 0, fun _ => (0, 0), 1, -1, true, 0, ⟨#[]⟩, none, 0, 0⟩
set_option maxRecDepth 100000 in
set_option maxHeartbeats 1000000 in
theorem repeat_plus {S B : Nat} {v : Value} {a : Option Addr} {c : Nat} {R : List Int} {s : Ps} {w w1 : World} (h : Tk S B v a c R s w w1) (hS : S ≤ w.heap.size) (hat : s.p ≤ 4000) (hf : s.fl = 0) (hs1 : seB R s.p [42] = false) (hs2 : seB R s.p [43] = true) (hs3 : seB R (s.p + 1) [63] = true) :
    Calls Tryz.prog 95 #[.pointer (some ⟨B, 0, none⟩)] w1 fun e w' => e = .returned (.tuple #[ndV rzN, .bool true]) ∧ Tk S B v a c R { s with p := s.p + 2 } w w' := by
  have hS1 : S ≤ w1.heap.size := Nat.le_trans hS h.2.size
  obtain ⟨h1, hS2, hG, hlt⟩ := h.1.box hS1 (ndX zN)
  have k := times_plus (Tk.refl h1) hS2 (by omega) hs1 hs2
  have HK : Hid (Kp (Mv B v) w (w1.alloc (ndX zN))) := h.2.trans (Kp.of ((Below.refl _ w1).alloc (Nat.le_refl _) _))
  have hsz : w.heap.size ≤ w1.heap.size := h.2.size
  clear h hs1 hs2 h1
  go_enter Tryz.func95, Tryz.ntmps95
  go_wp2_with fail
  go_fit k
  rintro e w2 ⟨rfl, h2⟩
  have c2 : w2.cell? ⟨B, 2, none⟩ = some (.int .u8 0) := h2.1.c2.trans (by show some (Value.int .u8 s.fl) = _; rw [hf])
  have HC2 : Hid (∀ w', Tk S B v a c R { s with p := s.p + 2 } (w1.alloc (ndX zN)) w' → w'.cell? ⟨B, 2, none⟩ = some (.int .u8 0)) := fun w' h' => h'.1.c2.trans (by show some (Value.int .u8 s.fl) = _; rw [hf])
  have kJ : Calls Tryz.prog 64 #[.pointer (some ⟨B, 0, none⟩), .string ⟨#[63]⟩] w2.drew fun e w'' => e = .returned (.bool true) ∧ Tk S B v a c R { s with p := s.p + 2 } (w1.alloc (ndX zN)) w'' := takes_yes (x := ⟨#[63]⟩) (h2.below hS2 (Below.drew (Below.refl _ _))) hS2 (by decide) (by show s.p + 1 ≤ 5000; omega) hs3
  clear k hs3 h2 hf
  go_wp2_with fail
  go_region_held3 (fun w' => w'.cell? ⟨B, 2, none⟩ = some (.int .u8 0) ∧ True) (first | exact ⟨c2, trivial⟩ | exact ⟨HC2.out _ (by assumption), trivial⟩) ((go_at_call 64; go_fit kJ; rintro e w3 ⟨rfl, h3⟩))
  have h3' : Tk S B v a c R { s with p := s.p + 2 } (w1.alloc (ndX zN)) w3 := h3
  have cc : Cs w3 w1.heap.size 0 zN := (ndX_cells (w := w1) zN (Below.refl _ _)).kp h3.2 hG
  have ff := kp_ff h3.2 hG hlt (box_ff w1 zN)
  have HE : Hid (Cs (st9 w3 w1.heap.size rzN) w1.heap.size 0 rzN) := st9_cs _ cc
  have HH : Hid (Tk S B v a c R { s with p := s.p + 2 } w (st9 w3 w1.heap.size rzN)) := Tk.past ⟨h3'.1, HK.out.trans h3'.2⟩ hS (st9_kp _ _ _) hG hsz
  clear kJ h3 h3' c2
  obtain ⟨q0, q1, q2, q3, q4, q5, q6, q7, q8⟩ := cc
  simp only [Nat.zero_add] at q0 q1 q2 q3 q4 q5 q6 q7 q8
  go_wp2_with fail
  clear q0 q1 q2 q3 q4 q5 q6 q7 q8
  have hb8 : (!(bits BinOp.and IntKind.u8 0 8 != 0)) = true := by kernel_rfl
  simp only [hb8]
  obtain ⟨q0, q1, q2, q3, q4, q5, q6, q7, q8⟩ := HE.out
  have HT := HH.out
  change bodyPost _ _ _ _ _ (st9 w3 w1.heap.size rzN)
  generalize st9 w3 w1.heap.size rzN = W9 at *
  simp only [Nat.zero_add] at q0 q1 q2 q3 q4 q5 q6 q7 q8
  refine bodyPost_ret (v := .tuple #[ndV rzN, .bool true]) (by simp [results, Tryz.results95, go_sem, q0, q1, q2, q3, q4, q5, q6, q7, q8]) rfl ⟨rfl, HT⟩
theorem cells_ndX {w : World} (d : Nd) : Cs (w.alloc (ndX d)) w.heap.size 0 d := ndX_cells (w := w) d (Below.refl _ _)
set_option maxRecDepth 100000 in
set_option maxHeartbeats 1000000 in
theorem repeated_no {S B : Nat} {v : Value} {a : Option Addr} {c : Nat} {R : List Int} {s : Ps} {w w1 : World} (h : Tk S B v a c R s w w1) (hS : S ≤ w.heap.size) (hat : s.p ≤ 5000) (hs1 : seB R s.p [42] = false) (hs2 : seB R s.p [43] = false) (hs3 : seB R s.p [63] = false) (hs : seB R s.p [123] = false) (d : Nd) :
    Calls Tryz.prog 82 #[.pointer (some ⟨B, 0, none⟩), ndV d] w1 fun e w' => e = .returned (ndV d) ∧ Tk S B v a c R s w w' := by
  have hS1 : S ≤ w1.heap.size := Nat.le_trans hS h.2.size
  obtain ⟨h0, hS0, hG0, hlt0⟩ := h.1.box hS1 (ndX d)
  obtain ⟨h1, hS2, hG, hlt⟩ := h0.box hS0 (ndX zN)
  have HK : Hid (Kp (Mv B v) w ((w1.alloc (ndX d)).alloc (ndX zN))) := (h.2.alloc _).alloc _
  have hsz : w.heap.size ≤ w1.heap.size := h.2.size
  have k := repeat_no (Tk.refl h1) hS2 hat hs1 hs2 hs3 hs
  clear h h0 h1 hs1 hs2 hs3 hs
  go_enter Tryz.func82, Tryz.ntmps82
  go_wp2_with fail
  go_fit k
  rintro e w2 ⟨rfl, h2⟩
  have b3 : Below w2.heap.size w2 (w2.alloc (ndX zN)) := (Below.refl _ _).alloc (Nat.le_refl _) _
  have b0 : Below (w1.alloc (ndX d)).heap.size (w1.alloc (ndX d)) ((w1.alloc (ndX d)).alloc (ndX zN)) := (Below.refl _ _).alloc (Nat.le_refl _) _
  have cd : Cs (w2.alloc (ndX zN)) w1.heap.size 0 d := (((cells_ndX (w := w1) d).below b0 hlt0).kp h2.2 hG0).below b3 (Nat.lt_of_lt_of_le (Nat.lt_trans hlt0 hlt) h2.2.size)
  have cz : Cs (w2.alloc (ndX zN)) (w1.heap.size + 1) 0 zN := by
    have := ((cells_ndX (w := w1.alloc (ndX d)) zN).kp h2.2 hG).below b3 (Nat.lt_of_lt_of_le hlt h2.2.size)
    rwa [World.size_alloc] at this
  have ff : ∀ i, (w2.alloc (ndX zN)).frozen? ⟨w1.heap.size + 1, i, none⟩ = false := fun i => by
    have := (b3.frozen (p := ⟨(w1.alloc (ndX d)).heap.size, i, none⟩) (Nat.lt_of_lt_of_le hlt h2.2.size)).trans (kp_ff h2.2 hG hlt (box_ff _ zN) i)
    rwa [World.size_alloc] at this
  have hG' : ¬ Mv B v (w1.heap.size + 1) := by rw [World.size_alloc] at hG; exact hG
  have HE : Hid (Cs (st9 (w2.alloc (ndX zN)) (w1.heap.size + 1) d) (w1.heap.size + 1) 0 d) := st9_cs _ cz
  have HH : Hid (Tk S B v a c R s w (st9 (w2.alloc (ndX zN)) (w1.heap.size + 1) d)) := Tk.past (Tk.below ⟨h2.1, HK.out.trans h2.2⟩ hS b3) hS (st9_kp _ _ _) hG' (by omega)
  clear k h2 b3 b0
  obtain ⟨d0, d1, d2, d3, d4, d5, d6, d7, d8⟩ := cd
  obtain ⟨q0, q1, q2, q3, q4, q5, q6, q7, q8⟩ := cz
  simp only [Nat.zero_add, ndX, rxX] at d0 d1 d2 d3 d4 d5 d6 d7 d8 q0 q1 q2 q3 q4 q5 q6 q7 q8 ff
  go_wp2_with fail
  clear q0 q1 q2 q3 q4 q5 q6 q7 q8 d0 d1 d2 d3 d4 d5 d6 d7 d8 ff
  obtain ⟨q0, q1, q2, q3, q4, q5, q6, q7, q8⟩ := HE.out
  have HT := HH.out
  change bodyPost _ _ _ _ _ (st9 (w2.alloc (ndX zN)) (w1.heap.size + 1) d)
  generalize (st9 (w2.alloc (ndX zN)) (w1.heap.size + 1) d) = W9 at *
  simp only [Nat.zero_add] at q0 q1 q2 q3 q4 q5 q6 q7 q8
  refine bodyPost_ret (v := ndV d) (by simp [results, Tryz.results82, go_sem, q0, q1, q2, q3, q4, q5, q6, q7, q8]; try rfl) rfl ?_
  exact ⟨rfl, HT⟩
end Go.Proofs.YtajaadagejhllaaGreatDoor
