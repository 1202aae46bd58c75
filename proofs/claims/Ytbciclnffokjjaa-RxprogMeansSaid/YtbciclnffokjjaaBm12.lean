/- A bundle of texts. -/
import Derived.Test.YtbciclnffokjjaaBm11
/- Code: end, step, split, class. -/
namespace Go.Proofs.Ytbciclnffokjjaa
open Go.RowKit

theorem Cp.from {Z : Nat → Prop} {S B : Nat} {v : Value} {c l : List Ia} {w w1 : World} {e : Ending} {w' : World} (hb : Below w.heap.size w w1) (h : Cp Z S B v c l w1 e w') : Cp Z S B v c l w e w' := by
  obtain ⟨h1, ⟨v', f', h2, h3⟩, h4⟩ := h
  exact ⟨h1, ⟨v', f', h2, fun i e hi => h3 i e (Nat.lt_of_lt_of_le hi hb.size)⟩, (Kp.of hb).trans h4⟩

set_option maxHeartbeats 1000000 in
theorem end_any (Z : Nat → Prop) (S B : Nat) (v : Value) (f : Nat → In) (c : List Ia) (w : World) (hv : Cd Z S w B v f c) :
    Calls Try.prog 88 #[.pointer (some ⟨B, 0, none⟩)] w fun e w' => e = .returned (.int .i64 (c.length : Int)) ∧ w' = w := by
  obtain ⟨a, cc, rfl⟩ := hv.form
  have c0 := hv.c0
  clear hv
  go_enter Try.func88, Try.ntmps88
  go_wp2
  go_ret
  exact ⟨rfl, rfl⟩

set_option maxHeartbeats 1000000 in
set_option maxRecDepth 100000 in
theorem step_any (Z : Nat → Prop) (S B : Nat) (v : Value) (f : Nat → In) (c : List Ia) (op out alt arg : Int) (a : Option Addr) (n cc : Nat) (rs : List Rg) (w : World) (hv : Cd Z S w B v f c) (hS : S ≤ w.heap.size) (hn : (c.length + 1) * 56 ≤ 140737488355328) (hr : Ro w (MZ Z B v) a n rs) :
    Calls Try.prog 68 #[.pointer (some ⟨B, 0, none⟩), inV op out alt arg a n cc] w (Cp Z S B v c [⟨op, (c.length : Int) + 1, alt, arg, rs⟩] w) := by
  have HA : Hid (∀ o, Below w.heap.size w (w.alloc o)) := fun o => (Below.refl _ w).alloc (Nat.le_refl _) o
  have kE := fun o => end_any Z S B v f c (w.alloc o) (hv.below (HA.out o))
  have kP := fun o => put_any Z S B v f c op ((c.length : Int) + 1) alt arg a n cc rs (w.alloc o) (hv.below (HA.out o)) (Nat.le_trans hS (HA.out o).size) hn (hr.kp (Kp.of (HA.out o)) (fun _ _ e => e))
  have hl : ((c.length : Nat) : Int) < 140737488355328 := by omega
  clear hv hS hr hn
  go_enter Try.func68, Try.ntmps68
  go_wp2_with fail
  go_fit (kE _)
  rintro e w1 ⟨rfl, rfl⟩
  go_wp2_with fail
  go_fit (kP _)
  rintro e w2 h2
  have H2 : Hid _ := Cp.from (HA.out _) h2
  obtain ⟨rfl, _⟩ := h2
  go_wp2
  go_end0
  exact ⟨rfl, H2.out.2⟩

set_option maxHeartbeats 1000000 in
set_option maxRecDepth 100000 in
theorem split_any (Z : Nat → Prop) (S B : Nat) (v : Value) (f : Nat → In) (c : List Ia) (leave : Int) (lz : Bool) (w : World) (hv : Cd Z S w B v f c) (hS : S ≤ w.heap.size) (hn : (c.length + 1) * 56 ≤ 140737488355328) :
    Calls Try.prog 90 #[.pointer (some ⟨B, 0, none⟩), .int .i64 leave, .bool lz] w (Cp Z S B v c [⟨3, if lz = true then leave else (c.length : Int) + 1, if lz = true then (c.length : Int) + 1 else leave, 0, []⟩] w) := by
  have HA : Hid (∀ o, Below w.heap.size w (w.alloc o)) := fun o => (Below.refl _ w).alloc (Nat.le_refl _) o
  have kE := end_any Z S B v f c w hv
  have kP := fun o out alt => put_any Z S B v f c 3 out alt 0 none 0 0 [] (w.alloc o) (hv.below (HA.out o)) (Nat.le_trans hS (HA.out o).size) hn ⟨rfl, .inl rfl⟩
  have hl : ((c.length : Nat) : Int) < 140737488355328 := by omega
  clear hv hS hn
  have HX : Hid (∀ out alt e w2 o, Cp Z S B v c [⟨3, out, alt, 0, []⟩] (w.alloc o) e w2 → Cp Z S B v c [⟨3, out, alt, 0, []⟩] w e w2) := fun out alt e w2 o h => Cp.from (HA.out _) h
  cases lz
  · show Calls Try.prog 90 #[.pointer (some ⟨B, 0, none⟩), .int .i64 leave, .bool false] w (Cp Z S B v c [⟨3, (c.length : Int) + 1, leave, 0, []⟩] w)
    go_enter Try.func90, Try.ntmps90
    go_wp2_with fail
    go_fit kE
    rintro e w1 ⟨rfl, rfl⟩
    go_wp2_with fail
    go_fit (kP _ _ _)
    rintro e w2 h2
    have H2 : Hid _ := HX.out _ _ _ _ _ h2
    have he := h2.1
    clear HX kP kE h2 HA
    subst he
    go_wp2
    go_end0
    exact ⟨rfl, H2.out.2⟩
  · show Calls Try.prog 90 #[.pointer (some ⟨B, 0, none⟩), .int .i64 leave, .bool true] w (Cp Z S B v c [⟨3, leave, (c.length : Int) + 1, 0, []⟩] w)
    go_enter Try.func90, Try.ntmps90
    go_wp2_with fail
    go_fit kE
    rintro e w1 ⟨rfl, rfl⟩
    go_wp2_with fail
    go_fit (kP _ _ _)
    rintro e w2 h2
    have H2 : Hid _ := HX.out _ _ _ _ _ h2
    have he := h2.1
    clear HX kP kE h2 HA
    subst he
    go_wp2
    go_end0
    exact ⟨rfl, H2.out.2⟩

/-- The code of a class. -/
def clsC (rs : List Rg) (k : Int) : Ia := if rs.length = 0 then ⟨11, 0, 0, 0, []⟩ else ⟨2, k + 1, 0, 0, rs⟩
set_option maxHeartbeats 1000000 in
set_option maxRecDepth 100000 in
theorem class_any (Z : Nat → Prop) (S B : Nat) (v : Value) (f : Nat → In) (c : List Ia) (a : Option Addr) (n cc : Nat) (rs : List Rg) (w : World) (hv : Cd Z S w B v f c) (hS : S ≤ w.heap.size) (hn : (c.length + 1) * 56 ≤ 140737488355328) (hr : Ro w (MZ Z B v) a n rs) :
    Calls Try.prog 69 #[.pointer (some ⟨B, 0, none⟩), .slice a n cc] w (Cp Z S B v c [clsC rs c.length] w) := by
  have kP := put_any Z S B v f c 11 0 0 0 none 0 0 [] w hv hS hn ⟨rfl, .inl rfl⟩
  have kS := step_any Z S B v f c 2 0 0 0 a n cc rs w hv hS hn hr
  have hl := hr.1
  clear hv hS hn hr
  by_cases h0 : n = 0
  · have HE : Hid (clsC rs c.length = ⟨11, 0, 0, 0, []⟩) := by unfold Hid clsC; rw [if_pos (by omega)]
    have t0 : ((n : Int) == 0) = true := by simpa using h0
    clear h0 hl kS
    go_enter Try.func69, Try.ntmps69
    go_wp2_with fail
    go_fit kP
    rintro e w2 h2
    have H2 : Hid _ := h2
    obtain ⟨rfl, _⟩ := h2
    go_wp2
    go_end0
    rw [HE.out]
    exact ⟨rfl, H2.out.2⟩
  · have HE : Hid (clsC rs c.length = ⟨2, (c.length : Int) + 1, 0, 0, rs⟩) := by unfold Hid clsC; rw [if_neg (by omega)]
    have t0 : ((n : Int) == 0) = false := by simpa using h0
    clear h0 hl kP
    go_enter Try.func69, Try.ntmps69
    go_wp2_with fail
    go_fit kS
    rintro e w2 h2
    have H2 : Hid _ := h2
    obtain ⟨rfl, _⟩ := h2
    go_wp2
    go_end0
    rw [HE.out]
    exact ⟨rfl, H2.out.2⟩
end Go.Proofs.Ytbciclnffokjjaa
/- Code: the code of a tree, as mathematics. -/
namespace Go.Proofs.Ytbciclnffokjjaa
open Go.RowKit

/-- An instruction moved. -/
def mv (b : Int) (i : Ia) : Ia := ⟨i.op, if i.op = 11 then i.out else i.out + b, if i.op = 3 then i.alt + b else i.alt, i.arg, i.rs⟩
def mvs (b : Int) (c : List Ia) : List Ia := c.map (mv b)
theorem mvs_len (b : Int) (c : List Ia) : (mvs b c).length = c.length := by simp [mvs]
/-- The ranges that a node shows. -/
def rsL (d : Nd) : List Rg := (List.range d.rn).map d.rf
theorem rsL_len (d : Nd) : (rsL d).length = d.rn := by simp [rsL]
theorem rsL_get {d : Nd} {j : Nat} {x : Rg} (h : (rsL d)[j]? = some x) : j < d.rn ∧ d.rf j = x := by
  have hj : j < d.rn := by have := (List.getElem?_eq_some_iff.1 h).1; rwa [rsL_len] at this
  refine ⟨hj, ?_⟩
  simp [rsL, List.getElem?_range hj] at h
  exact h
/-- The choice between going on and leaving. -/
def spl (k leave : Int) (lz : Bool) : Ia := ⟨3, if lz = true then leave else k + 1, if lz = true then k + 1 else leave, 0, []⟩
def catF (F : Nat → Int → List Ia) : Nat → Int → List Ia
  | 0, _ => []
  | j + 1, b => catF F j b ++ F j (b + (catF F j b).length)
/-- The alternatives ahead of the last one, with their jumps to e. -/
def altF (F : Nat → Int → List Ia) (e : Int) : Nat → Int → List Ia
  | 0, _ => []
  | j + 1, b => altF F e j b ++ (⟨3, b + (altF F e j b).length + 1, b + (altF F e j b).length + 1 + (F j (b + (altF F e j b).length + 1)).length + 1, 0, []⟩ :: (F j (b + (altF F e j b).length + 1) ++ [⟨10, e, 0, 0, []⟩]))
theorem altF_len (F : Nat → Int → List Ia) (e e' : Int) (b : Int) : ∀ j, (altF F e j b).length = (altF F e' j b).length
  | 0 => rfl
  | j + 1 => by
    unfold altF
    rw [altF_len F e e' b j]
    simp [altF_len F e e' b j]
def altC (F : Nat → Int → List Ia) (n : Nat) (b : Int) : List Ia := altF F (b + (altF F 0 n b).length + (F n (b + (altF F 0 n b).length)).length) n b ++ F n (b + (altF F 0 n b).length)
def layF (k : List Ia) : Nat → Int → List Ia
  | 0, _ => []
  | j + 1, b => layF k j b ++ mvs (b + (layF k j b).length) k
def optF (k : List Ia) (lz : Bool) (e : Int) : Nat → Int → List Ia
  | 0, _ => []
  | j + 1, b => optF k lz e j b ++ (spl (b + (optF k lz e j b).length) e lz :: mvs (b + (optF k lz e j b).length + 1) k)
def repC (k : List Ia) (mn mx : Int) (lz : Bool) (b : Int) : List Ia :=
  if mx = 0 then [] else if mx = -1 then layF k mn.toNat b ++ (spl (b + (layF k mn.toNat b).length) (b + (layF k mn.toNat b).length + 1 + k.length + 1) lz :: (mvs (b + (layF k mn.toNat b).length + 1) k ++ [⟨10, b + (layF k mn.toNat b).length, 0, 0, []⟩]))
  else layF k mn.toNat b ++ optF k lz (b + (layF k mn.toNat b).length + (mx - mn) * (1 + k.length)) (mx - mn).toNat (b + (layF k mn.toNat b).length)
/-- The code of a tree that is laid from the place b on. -/
def cod : Nat → Tr → Int → List Ia
  | 0, _, _ => []
  | m + 1, t, b =>
    if (t []).kind = 2 then [⟨2, b + 1, 0, 0, [((t []).r, (t []).r)]⟩]
    else if (t []).kind = 3 then [clsC (rsL (t [])) b]
    else if (t []).kind = 4 then catF (fun j b => cod m (kid t j) b) (t []).kn b
    else if (t []).kind = 5 then altC (fun j b => cod m (kid t j) b) ((t []).kn - 1) b
    else if (t []).kind = 6 then repC (cod m (kid t 0) 0) (t []).mn (t []).mx (t []).lz b
    else if (t []).kind = 7 then ⟨4, b + 1, 0, 2 * (t []).cp, []⟩ :: (cod m (kid t 0) (b + 1) ++ [⟨4, b + 1 + (cod m (kid t 0) (b + 1)).length + 1, 0, 2 * (t []).cp + 1, []⟩])
    else if (t []).kind = 13 then [⟨9, b + 1, 0, 1, []⟩]
    else if 8 ≤ (t []).kind then [⟨(t []).kind - 3, b + 1, 0, 0, []⟩]
    else []
/-- All places lie between 0 and L. -/
def Pl (L : Int) (i : Ia) : Prop := 0 ≤ i.out ∧ i.out ≤ L ∧ 0 ≤ i.alt ∧ i.alt ≤ L
theorem Pl.mono {L L' : Int} {i : Ia} (h : Pl L i) (hl : L ≤ L') : Pl L' i := ⟨h.1, by have := h.2.1; omega, h.2.2.1, by have := h.2.2.2; omega⟩
theorem Pl.mv {L b : Int} {i : Ia} (h : Pl L i) (hb : 0 ≤ b) : Pl (b + L) (mv b i) := by
  obtain ⟨h1, h2, h3, h4⟩ := h
  unfold Go.Proofs.Ytbciclnffokjjaa.mv
  refine ⟨?_, ?_, ?_, ?_⟩ <;> dsimp only <;> split <;> omega
theorem Pl.mvs {L b : Int} {k : List Ia} (h : ∀ i ∈ k, Pl L i) (hb : 0 ≤ b) : ∀ i ∈ mvs b k, Pl (b + L) i := by
  intro i hi
  unfold Go.Proofs.Ytbciclnffokjjaa.mvs at hi
  obtain ⟨j, hj, rfl⟩ := List.mem_map.1 hi
  exact (h j hj).mv hb
theorem spl_pl {k l L : Int} {lz : Bool} (h0 : 0 ≤ k) (h1 : k + 1 ≤ L) (h2 : 0 ≤ l) (h3 : l ≤ L) : Pl L (spl k l lz) := by
  unfold spl Pl
  cases lz <;> simp <;> omega
theorem catF_pl {F : Nat → Int → List Ia} (b : Int) (hb : 0 ≤ b) : ∀ (j : Nat), (∀ i, i < j → ∀ b, 0 ≤ b → ∀ x ∈ F i b, Pl (b + (F i b).length) x) → ∀ x ∈ catF F j b, Pl (b + (catF F j b).length) x
  | 0, _, x, hx => by cases hx
  | j + 1, h, x, hx => by
    have ih := catF_pl b hb j (fun i hi => h i (by omega))
    unfold catF at hx ⊢
    rcases List.mem_append.1 hx with hx | hx
    · exact (ih x hx).mono (by simp; omega)
    · exact (h j (by omega) _ (by omega) x hx).mono (by simp; omega)
theorem altF_pl {F : Nat → Int → List Ia} (e L : Int) (b : Int) (hb : 0 ≤ b) (he : 0 ≤ e) (heL : e ≤ L) : ∀ (j : Nat), b + (altF F e j b).length ≤ L → (∀ i, i < j → ∀ b, 0 ≤ b → ∀ x ∈ F i b, Pl (b + (F i b).length) x) → ∀ x ∈ altF F e j b, Pl L x
  | 0, _, _, x, hx => by cases hx
  | j + 1, hL, h, x, hx => by
    have hlen : (altF F e (j + 1) b).length = (altF F e j b).length + 1 + (F j (b + (altF F e j b).length + 1)).length + 1 := by
      conv => lhs; unfold altF
      simp
      omega
    rw [hlen] at hL
    push_cast at hL
    have ih := altF_pl e L b hb he heL j (by omega) (fun i hi => h i (by omega))
    unfold altF at hx
    rcases List.mem_append.1 hx with hx | hx
    · exact ih x hx
    · rcases List.mem_cons.1 hx with rfl | hx
      · refine ⟨?_, ?_, ?_, ?_⟩ <;> dsimp only <;> omega
      · rcases List.mem_append.1 hx with hx | hx
        · exact (h j (by omega) _ (by omega) x hx).mono (by omega)
        · rcases List.mem_singleton.1 hx with rfl
          exact ⟨he, heL, by simp, by dsimp only; omega⟩
theorem layF_len (k : List Ia) (b : Int) : ∀ j, (layF k j b).length = j * k.length
  | 0 => by simp [layF]
  | j + 1 => by
    unfold layF
    rw [List.length_append, mvs_len, layF_len k b j, Nat.add_mul, Nat.one_mul]
theorem layF_pl {k : List Ia} (hk : ∀ x ∈ k, Pl k.length x) (b : Int) (hb : 0 ≤ b) : ∀ j, ∀ x ∈ layF k j b, Pl (b + (layF k j b).length) x
  | 0, x, hx => by cases hx
  | j + 1, x, hx => by
    have ih := layF_pl hk b hb j
    unfold layF at hx ⊢
    rcases List.mem_append.1 hx with hx | hx
    · exact (ih x hx).mono (by simp; omega)
    · exact (Pl.mvs hk (by omega) x hx).mono (by simp [mvs_len]; omega)
theorem optF_len (k : List Ia) (lz : Bool) (e b : Int) : ∀ j, (optF k lz e j b).length = j * (1 + k.length)
  | 0 => by simp [optF]
  | j + 1 => by
    unfold optF
    rw [List.length_append, List.length_cons, mvs_len, optF_len k lz e b j, Nat.add_mul, Nat.one_mul]
    omega
theorem optF_pl {k : List Ia} (hk : ∀ x ∈ k, Pl k.length x) (lz : Bool) (e L b : Int) (hb : 0 ≤ b) (he : 0 ≤ e) (heL : e ≤ L) : ∀ j, b + (optF k lz e j b).length ≤ L → ∀ x ∈ optF k lz e j b, Pl L x
  | 0, _, x, hx => by cases hx
  | j + 1, hL, x, hx => by
    have hlen : (optF k lz e (j + 1) b).length = (optF k lz e j b).length + 1 + k.length := by
      conv => lhs; unfold optF
      simp [mvs_len]
      omega
    rw [hlen] at hL
    push_cast at hL
    have ih := optF_pl hk lz e L b hb he heL j (by omega)
    unfold optF at hx
    rcases List.mem_append.1 hx with hx | hx
    · exact ih x hx
    · rcases List.mem_cons.1 hx with rfl | hx
      · exact spl_pl (by omega) (by omega) he heL
      · exact (Pl.mvs hk (by omega) x hx).mono (by omega)
end Go.Proofs.Ytbciclnffokjjaa
