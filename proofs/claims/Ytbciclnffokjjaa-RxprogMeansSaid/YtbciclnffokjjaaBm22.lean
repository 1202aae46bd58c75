/- A bundle of texts. -/
import Derived.Test.YtbciclnffokjjaaBm21
/- Programs run: spread, what it wants. -/
namespace Go.Proofs.Ytbciclnffokjjaa
open Go.RowKit

/-- Code that a slice shows, in blocks below D. -/
def Pg (D : Nat) (w : World) (a : Option Addr) (c : List Ia) : Prop := c.length = 0 ∨ ∃ (g o : Nat) (f : Nat → In), a = some ⟨g, o, none⟩ ∧ g < D ∧ ∀ j i, c[j]? = some i → (w.cell? ⟨g, o + j * 5, none⟩ = some (.int .i64 i.op) ∧ w.cell? ⟨g, o + j * 5 + 1, none⟩ = some (.int .i64 i.out) ∧ w.cell? ⟨g, o + j * 5 + 2, none⟩ = some (.int .i64 i.alt) ∧ w.cell? ⟨g, o + j * 5 + 3, none⟩ = some (.int .i64 i.arg) ∧ w.cell? ⟨g, o + j * 5 + 4, none⟩ = some (.slice (f j).ra (f j).rn (f j).rc)) ∧ (f j).rn = i.rs.length ∧ Rmb D w (f j).ra (fun q => i.rs.getD q (0, 0)) (f j).rn
theorem Pg.below {D : Nat} {w w' : World} {a : Option Addr} {c : List Ia} (h : Pg D w a c) (hb : Below D w w') : Pg D w' a c := by
  rcases h with h | ⟨g, o, f, e, hg, hc⟩
  · exact .inl h
  · refine .inr ⟨g, o, f, e, hg, fun j i hj => ?_⟩
    obtain ⟨⟨c0, c1, c2, c3, c4⟩, hn, hr⟩ := hc j i hj
    exact ⟨⟨(hb.cell (p := ⟨g, _, none⟩) hg).trans c0, (hb.cell (p := ⟨g, _, none⟩) hg).trans c1, (hb.cell (p := ⟨g, _, none⟩) hg).trans c2, (hb.cell (p := ⟨g, _, none⟩) hg).trans c3, (hb.cell (p := ⟨g, _, none⟩) hg).trans c4⟩, hn, hr.below hb⟩
/-- A program of one's own is code below all that comes. -/
theorem Ow.pg {S : Nat} {w : World} {v : Value} {c : List Ia} (h : Ow S w v c) : ∃ a cc, v = .slice a c.length cc ∧ Pg w.heap.size w a c := by
  obtain ⟨g, cc, f, rfl, hrow, hi⟩ := h
  refine ⟨_, cc, rfl, ?_⟩
  by_cases h0 : c.length = 0
  · exact .inl h0
  · have hg : g < w.heap.size := (World.ownsRow.lt hrow g rfl).2
    refine .inr ⟨g, 0, f, rfl, hg, fun j i hj => ?_⟩
    have hjl : j < c.length := (List.getElem?_eq_some_iff.1 hj).1
    obtain ⟨i1, i2, i3, i4, hro⟩ := hi j i hj
    have hc : ∀ q u, q < 5 → (i5 (f j))[q]? = some u → w.cell? ⟨g, 0 + j * 5 + q, none⟩ = some u := fun q u hq hu => by
      rw [Nat.zero_add, World.ownsRow.cellAt hrow (j * 5 + q) (by omega), n5_get f c.length j q hjl hq]
      exact hu
    refine ⟨⟨by rw [← i1]; exact hc 0 _ (by omega) rfl, by rw [← i2]; exact hc 1 _ (by omega) rfl, by rw [← i3]; exact hc 2 _ (by omega) rfl, by rw [← i4]; exact hc 3 _ (by omega) rfl, hc 4 _ (by omega) rfl⟩, hro.1, ?_⟩
    rcases hro.rml with h0 | ⟨g', o', e', hg', hc'⟩
    · exact .inl h0
    · exact .inr ⟨g', o', e', hg', hc'⟩

/-- Which instructions are reached at the place i from those of ls without taking anything. -/
def Rch (c : List Ia) (s : ByteArray) (i : Int) (ls : List Nat) (x : Nat) : Prop :=
  ∀ P : Nat → Prop, (∀ y ∈ ls, P y) → (∀ y ins, P y → c[y]? = some ins → goB ins.op ins.arg s i = true → P ins.out.toNat ∧ (ins.op = 3 → P ins.alt.toNat)) → P x
theorem Rch.of {c : List Ia} {s : ByteArray} {i : Int} {ls : List Nat} {x : Nat} (h : x ∈ ls) : Rch c s i ls x := fun _ h0 _ => h0 x h
theorem Rch.out {c : List Ia} {s : ByteArray} {i : Int} {ls : List Nat} {x : Nat} {ins : Ia} (h : Rch c s i ls x) (hx : c[x]? = some ins) (hg : goB ins.op ins.arg s i = true) : Rch c s i ls ins.out.toNat := fun P h0 h1 => (h1 x ins (h P h0 h1) hx hg).1
theorem Rch.alt {c : List Ia} {s : ByteArray} {i : Int} {ls : List Nat} {x : Nat} {ins : Ia} (h : Rch c s i ls x) (hx : c[x]? = some ins) (hg : goB ins.op ins.arg s i = true) (h3 : ins.op = 3) : Rch c s i ls ins.alt.toNat := fun P h0 h1 => (h1 x ins (h P h0 h1) hx hg).2 h3
/-- What spread answers. -/
structure SprOk (c : List Ia) (s : ByteArray) (i : Int) (ls o : List Nat) : Prop where
  sound : ∀ x ∈ o, x < c.length ∧ Rch c s i ls x
  small : o.length ≤ c.length
  begins : ∀ x ∈ ls, x ∈ o
  closed : ∀ x ∈ o, ∀ ins, c[x]? = some ins → goB ins.op ins.arg s i = true → ins.out.toNat ∈ o ∧ (ins.op = 3 → ins.alt.toNat ∈ o)
/-- How many of the first n have not been seen. -/
def unS (sn : Nat → Bool) : Nat → Nat
  | 0 => 0
  | n + 1 => unS sn n + if sn n = true then 0 else 1
theorem unS_up {sn : Nat → Bool} {x : Nat} (hx : sn x = false) : ∀ {n : Nat}, x < n → unS sn n = unS (up sn x true) n + 1
  | 0, h => by omega
  | n + 1, h => by
    unfold unS
    by_cases e : x = n
    · subst e
      rw [up_same, hx]
      have : ∀ m, m ≤ x → unS sn m = unS (up sn x true) m := by
        intro m
        induction m with
        | zero => intro _; rfl
        | succ m ih =>
          intro hm
          unfold unS
          rw [ih (by omega), up_other _ _ _ _ (by omega)]
      rw [this x (Nat.le_refl _)]
      simp
    · rw [unS_up hx (n := n) (by omega), up_other _ _ _ _ (by omega)]
      omega
/-- The walk of spread under way. -/
structure SprI (c : List Ia) (s : ByteArray) (i : Int) (l0 ls o : List Nat) (sn : Nat → Bool) (k : Nat) : Prop where
  ok : ∀ x ∈ ls, x < c.length ∧ Rch c s i l0 x
  seen : ∀ x, sn x = true ↔ x ∈ o
  som : ∀ x ∈ o, x < c.length ∧ Rch c s i l0 x
  edge : ∀ x ∈ o, ∀ ins, c[x]? = some ins → goB ins.op ins.arg s i = true → ins.out.toNat ∈ ls ∧ (ins.op = 3 → ins.alt.toNat ∈ ls)
  done : ∀ j x, j < k → ls[j]? = some x → x ∈ o
  init : ∀ x ∈ l0, x ∈ ls
  le : k ≤ ls.length
  cnt : o.length + unS sn c.length = c.length
  len : ls.length ≤ l0.length + 2 * o.length
theorem SprI.fin {c : List Ia} {s : ByteArray} {i : Int} {l0 ls o : List Nat} {sn : Nat → Bool} {k : Nat} (h : SprI c s i l0 ls o sn k) (hk : k = ls.length) : SprOk c s i l0 o := by
  have hall : ∀ x ∈ ls, x ∈ o := fun x hx => by
    obtain ⟨j, hj, e⟩ := List.getElem_of_mem hx
    exact h.done j x (by omega) (by rw [List.getElem?_eq_getElem hj, e])
  exact ⟨h.som, (by have := h.cnt; omega), fun x hx => hall x (h.init x hx), fun x hx ins hi hg => ⟨hall _ (h.edge x hx ins hi hg).1, fun h3 => hall _ ((h.edge x hx ins hi hg).2 h3)⟩⟩
theorem SprI.skip {c : List Ia} {s : ByteArray} {i : Int} {l0 ls o : List Nat} {sn : Nat → Bool} {k x : Nat} (h : SprI c s i l0 ls o sn k) (hx : ls[k]? = some x) (hs : sn x = true) : SprI c s i l0 ls o sn (k + 1) :=
  { h with
    done := fun j y hj hy => by
      by_cases e : j = k
      · subst e; rw [hx] at hy; cases hy; exact (h.seen x).1 hs
      · exact h.done j y (by omega) hy
    le := by have := (List.getElem?_eq_some_iff.1 hx).1; omega }
/-- A new one: whether it goes on or not. -/
theorem SprI.take {c : List Ia} {s : ByteArray} {i : Int} {l0 ls o : List Nat} {sn : Nat → Bool} {k x : Nat} {ins : Ia} (h : SprI c s i l0 ls o sn k) (hx : ls[k]? = some x) (hs : sn x = false) (hi : c[x]? = some ins) (ls' : List Nat) (hl : (goB ins.op ins.arg s i = false ∧ ls' = ls) ∨ (goB ins.op ins.arg s i = true ∧ ¬ ins.op = 3 ∧ ls' = ls ++ [ins.out.toNat]) ∨ (goB ins.op ins.arg s i = true ∧ ins.op = 3 ∧ ls' = ls ++ [ins.out.toNat] ++ [ins.alt.toNat])) (hp : ins.out.toNat < c.length ∧ ins.alt.toNat < c.length) :
    SprI c s i l0 ls' (o ++ [x]) (up sn x true) (k + 1) := by
  obtain ⟨hxc, hxr⟩ := h.ok x (List.mem_of_getElem? hx)
  have hkl := (List.getElem?_eq_some_iff.1 hx).1
  have hsub : ∀ y ∈ ls, y ∈ ls' := fun y hy => by
    rcases hl with ⟨_, rfl⟩ | ⟨_, _, rfl⟩ | ⟨_, _, rfl⟩
    · exact hy
    · simp [hy]
    · simp [hy]
  have hget : ∀ j y, j < ls.length → ls'[j]? = some y → ls[j]? = some y := fun j y hj hy => by
    rcases hl with ⟨_, rfl⟩ | ⟨_, _, rfl⟩ | ⟨_, _, rfl⟩
    · exact hy
    · rwa [List.getElem?_append_left hj] at hy
    · rwa [List.getElem?_append_left (by simp; omega), List.getElem?_append_left hj] at hy
  have hlen : ls.length ≤ ls'.length ∧ ls'.length ≤ ls.length + 2 := by
    rcases hl with ⟨_, rfl⟩ | ⟨_, _, rfl⟩ | ⟨_, _, rfl⟩ <;> simp
  refine ⟨fun y hy => ?_, fun y => ?_, fun y hy => ?_, fun y hy j hj hg => ?_, fun j y hj hy => ?_, fun y hy => hsub y (h.init y hy), by omega, ?_, ?_⟩
  · rcases hl with ⟨_, rfl⟩ | ⟨hg, _, rfl⟩ | ⟨hg, h3, rfl⟩
    · exact h.ok y hy
    · rcases List.mem_append.1 hy with hy | hy
      · exact h.ok y hy
      · rcases List.mem_singleton.1 hy with rfl
        exact ⟨hp.1, hxr.out hi hg⟩
    · rcases List.mem_append.1 hy with hy | hy
      · rcases List.mem_append.1 hy with hy | hy
        · exact h.ok y hy
        · rcases List.mem_singleton.1 hy with rfl
          exact ⟨hp.1, hxr.out hi hg⟩
      · rcases List.mem_singleton.1 hy with rfl
        exact ⟨hp.2, hxr.alt hi hg h3⟩
  · by_cases e : y = x
    · subst e; rw [up_same]; simp
    · rw [up_other _ _ _ _ e, h.seen y]; simp [e]
  · rcases List.mem_append.1 hy with hy | hy
    · exact h.som y hy
    · rcases List.mem_singleton.1 hy with rfl
      exact ⟨hxc, hxr⟩
  · rcases List.mem_append.1 hy with hy | hy
    · exact ⟨hsub _ (h.edge y hy j hj hg).1, fun h3 => hsub _ ((h.edge y hy j hj hg).2 h3)⟩
    · rcases List.mem_singleton.1 hy with rfl
      rw [hi] at hj
      cases hj
      rcases hl with ⟨hg', _⟩ | ⟨_, h3, rfl⟩ | ⟨_, _, rfl⟩
      · rw [hg'] at hg; cases hg
      · exact ⟨by simp, fun e => absurd e h3⟩
      · exact ⟨by simp, fun _ => by simp⟩
  · by_cases e : j = k
    · subst e
      have := hget j y hkl hy
      rw [hx] at this
      cases this
      simp
    · exact List.mem_append.2 (.inl (h.done j y (by omega) (hget j y (by omega) hy)))
  · rw [List.length_append, List.length_singleton]
    have := unS_up hs hxc
    have := h.cnt
    omega
  · rw [List.length_append, List.length_singleton]
    have := h.len
    omega
theorem SprOk.iff {c : List Ia} {s : ByteArray} {i : Int} {ls o : List Nat} (h : SprOk c s i ls o) (x : Nat) : x ∈ o ↔ Rch c s i ls x :=
  ⟨fun hx => (h.sound x hx).2, fun hx => hx (· ∈ o) h.begins (fun y ins hy hi hg => h.closed y hy ins hi hg)⟩
/-- Is a rune in one of the ranges? -/
def inR (r : Int) (rs : List Rg) : Prop := ∃ x ∈ rs, x.1 ≤ r ∧ r ≤ x.2
/-- Reached from those of P without taking anything. -/
def RcP (c : List Ia) (s : ByteArray) (i : Int) (P : Nat → Prop) (x : Nat) : Prop :=
  ∀ Q : Nat → Prop, (∀ y, P y → Q y) → (∀ y ins, Q y → c[y]? = some ins → goB ins.op ins.arg s i = true → Q ins.out.toNat ∧ (ins.op = 3 → Q ins.alt.toNat)) → Q x
/-- What a program answers of a text from the place i on, standing at those of P. -/
def TkF (c : List Ia) (s : ByteArray) : Nat → Nat → (Nat → Prop) → Int → Prop
  | 0, _, _, _ => False
  | f + 1, i, P, t =>
    if s.size ≤ i then (t = 1 ∧ ∃ x ins, RcP c s i P x ∧ c[x]? = some ins ∧ ins.op = 1) ∨ (t = 0 ∧ ¬ ∃ x ins, RcP c s i P x ∧ c[x]? = some ins ∧ ins.op = 1)
    else if rnBad s i = true then t = 2
    else TkF c s f (i + (Utf8.encode (rnR s i)).size) (fun y => ∃ x ins, RcP c s i P x ∧ c[x]? = some ins ∧ ins.op = 2 ∧ inR (rnR s i) ins.rs ∧ y = ins.out.toNat) t
end Go.Proofs.Ytbciclnffokjjaa
/- Programs run: spread's rows. -/
namespace Go.Proofs.Ytbciclnffokjjaa
open Go.RowKit

def bcS (sn : Nat → Bool) (n : Nat) : List Value := (List.range n).map fun j => .bool (sn j)
theorem bcS_len (sn : Nat → Bool) (n : Nat) : (bcS sn n).length = n := by simp [bcS]
theorem bcS_get (sn : Nat → Bool) (n j : Nat) (h : j < n) : (bcS sn n)[j]? = some (.bool (sn j)) := by simp [bcS, List.getElem?_range h]
theorem bcS_set (sn : Nat → Bool) (n j : Nat) : (bcS sn n).set j (.bool true) = bcS (up sn j true) n := by
  apply List.ext_getElem?
  intro k
  by_cases hk : k < n
  · rw [bcS_get _ _ _ hk]
    by_cases e : k = j
    · subst e
      rw [List.getElem?_set_self (by rw [bcS_len]; exact hk), up_same]
    · rw [List.getElem?_set_ne (fun h => e h.symm), bcS_get _ _ _ hk, up_other _ _ _ _ e]
  · rw [List.getElem?_eq_none (by rw [List.length_set, bcS_len]; omega), List.getElem?_eq_none (by rw [bcS_len]; omega)]
theorem infB : (Try.prog.info? 4).map (fun i => (i.zero, i.size, i.bytes)) = some (some (.bool false), 1, 1) := by kernel_rfl
theorem made_b (n : Nat) : (madeCells (Value.bool false).cells (n * 1)).toList = bcS (fun _ => false) n := by
  apply List.ext_getElem?
  intro k
  rw [Nat.mul_one]
  by_cases hk : k < n
  · rw [bcS_get _ _ _ hk]
    simp [madeCells, hk, Value.cells]
    rw [Nat.mod_one]
    rfl
  · rw [List.getElem?_eq_none (by simp [madeCells]; omega), List.getElem?_eq_none (by rw [bcS_len]; omega)]
theorem make_b (w : World) (S n : Nat) (hS : S ≤ w.heap.size) (hn : n ≤ 1000000) : ∃ w', (Instr.makeSlice 72 (.int .i64 (n : Int)) (.int .i64 (n : Int))).run Try.prog w = .ok (.slice (some ⟨w.heap.size, 0, none⟩) n n) w' ∧ w'.ownsRow S 4 1 (.slice (some ⟨w.heap.size, 0, none⟩) n n) n (bcS (fun _ => false) n) ∧ Below w.heap.size w w' := by
  obtain ⟨i0, hi, hz0, hz1, hz2⟩ := info_parts infB
  obtain ⟨w1, r, o, g⟩ := run_make_full (P := Try.prog) w S 72 4 i0 (.bool false) 1 Try.underlying72 hi hz0 hz1 .i64 .i64 n (by rw [hz2]; omega) (by unfold maxLen; omega) hS
  rw [made_b] at o
  exact ⟨w1, r, o, (Below.refl _ w).grown g (Nat.le_refl _) (fun k hk => by cases hk)⟩

/-- The list, the marks and what is answered, side by side; the program's box besides. -/
structure Sp (D : Nat) (w : World) (G gs n : Nat) (lv : Value) (ls : List Nat) (ov : Value) (o : List Nat) (sn : Nat → Bool) : Prop where
  rl : w.ownsRow D 3 1 lv ls.length (jc ls)
  ro : w.ownsRow D 3 1 ov o.length (jc o)
  rs : w.ownsRow D 4 1 (.slice (some ⟨gs, 0, none⟩) n n) n (bcS sn n)
  d1 : lv.ownBlock ≠ some gs ∧ lv.ownBlock ≠ some G
  d2 : ov.ownBlock ≠ some gs ∧ ov.ownBlock ≠ some G
  d3 : ∀ g, lv.ownBlock = some g → ov.ownBlock ≠ some g
  d4 : gs ≠ G
  Gl : G < w.heap.size
namespace Sp
variable {D G gs n : Nat} {w w' : World} {lv ov : Value} {ls o : List Nat} {sn : Nat → Bool}
theorem below (h : Sp D w G gs n lv ls ov o sn) (hb : Below w.heap.size w w') : Sp D w' G gs n lv ls ov o sn :=
  ⟨(Kp.of (M := fun _ => False) hb).row h.rl (fun _ _ => id), (Kp.of (M := fun _ => False) hb).row h.ro (fun _ _ => id), (Kp.of (M := fun _ => False) hb).row h.rs (fun _ _ => id), h.d1, h.d2, h.d3, h.d4, Nat.lt_of_lt_of_le h.Gl hb.size⟩
theorem rlt {S e m : Nat} {v : Value} {xs : List Value} (h : w.ownsRow S e 1 v m xs) : ∀ g, v.ownBlock = some g → S ≤ g ∧ g < w.heap.size := by
  intro g hg
  rcases h.2 with ⟨e', _⟩ | ⟨G, _, _, e', hG, hh, _⟩
  · rw [e'] at hg; cases hg
  · rw [e'] at hg
    have : G = g := Option.some.inj hg
    subst this
    exact ⟨hG, (Array.getElem?_eq_some_iff.1 hh).1⟩
/-- A place is marked. -/
theorem mark (h : Sp D w G gs n lv ls ov o sn) (x : Nat) : Sp D (w.setCell ⟨gs, x, none⟩ (.bool true)) G gs n lv ls ov o (up sn x true) ∧ Kp (· = gs) w (w.setCell ⟨gs, x, none⟩ (.bool true)) := by
  have k : Kp (· = gs) w (w.setCell ⟨gs, x, none⟩ (.bool true)) := (Kp.refl (· = gs) w).setCell (p := ⟨gs, x, none⟩) rfl _
  refine ⟨⟨k.row h.rl (fun g e e' => h.d1.1 (by rw [e, e'])), k.row h.ro (fun g e e' => h.d2.1 (by rw [e, e'])), ?_, h.d1, h.d2, h.d3, h.d4, Nat.lt_of_lt_of_le h.Gl k.size⟩, k⟩
  rw [← bcS_set]
  exact (World.ownsRow.stored h.rs x _).1
/-- One more is answered. -/
theorem pushO {g c x : Nat} (h : Sp D w G gs n lv ls ov o sn) (r : w'.ownsRow D 3 1 (.slice (some ⟨g, 0, none⟩) (o.length + 1) c) (o.length + 1) (jc (o ++ [x]))) (k : Kp (fun k => ov.ownBlock = some k) w w') (hg : ov.ownBlock = some g ∨ w.heap.size ≤ g) : Sp D w' G gs n lv ls (.slice (some ⟨g, 0, none⟩) (o.length + 1) c) (o ++ [x]) sn := by
  have hs := (rlt h.rs gs rfl).2
  refine ⟨k.row h.rl (fun q e e' => h.d3 q e e'), by rw [List.length_append]; exact r, k.row h.rs (fun q e e' => by cases e; exact h.d2.1 e'), h.d1, ⟨fun e => ?_, fun e => ?_⟩, fun q e e' => ?_, h.d4, Nat.lt_of_lt_of_le h.Gl k.size⟩
  · have e2 : g = gs := Option.some.inj e
    rcases hg with hg | hg
    · exact h.d2.1 (by rw [hg, e2])
    · omega
  · have e2 : g = G := Option.some.inj e
    rcases hg with hg | hg
    · exact h.d2.2 (by rw [hg, e2])
    · have := h.Gl; omega
  · have e2 : g = q := Option.some.inj e'
    rcases hg with hg | hg
    · exact h.d3 q e (by rw [hg, e2])
    · have := (rlt h.rl q e).2; omega
/-- The list grows. -/
theorem pushL {g c x : Nat} (h : Sp D w G gs n lv ls ov o sn) (r : w'.ownsRow D 3 1 (.slice (some ⟨g, 0, none⟩) (ls.length + 1) c) (ls.length + 1) (jc (ls ++ [x]))) (k : Kp (fun k => lv.ownBlock = some k) w w') (hg : lv.ownBlock = some g ∨ w.heap.size ≤ g) : Sp D w' G gs n (.slice (some ⟨g, 0, none⟩) (ls.length + 1) c) (ls ++ [x]) ov o sn := by
  have hs := (rlt h.rs gs rfl).2
  refine ⟨by rw [List.length_append]; exact r, k.row h.ro (fun q e e' => h.d3 q e' e), k.row h.rs (fun q e e' => by cases e; exact h.d1.1 e'), ⟨fun e => ?_, fun e => ?_⟩, h.d2, fun q e e' => ?_, h.d4, Nat.lt_of_lt_of_le h.Gl k.size⟩
  · have e2 : g = gs := Option.some.inj e
    rcases hg with hg | hg
    · exact h.d1.1 (by rw [hg, e2])
    · omega
  · have e2 : g = G := Option.some.inj e
    rcases hg with hg | hg
    · exact h.d1.2 (by rw [hg, e2])
    · have := h.Gl; omega
  · have e2 : g = q := Option.some.inj e
    rcases hg with hg | hg
    · exact h.d3 q (by rw [hg, e2]) e'
    · have := (rlt h.ro q e').2; omega
theorem form {S e m : Nat} {v : Value} {xs : List Value} (h : w.ownsRow S e 1 v m xs) : ∃ a c, v = .slice a m c := by
  rcases h.2 with ⟨e1, e2⟩ | ⟨g, cc, cur, e1, _⟩
  · exact ⟨none, 0, by rw [e1, e2]⟩
  · exact ⟨_, cc, e1⟩
/-- All that is written lies at D or behind. -/
theorem low {v : Value} {m e : Nat} {xs : List Value} (r : w.ownsRow D e 1 v m xs) (hD : D ≤ w.heap.size) (k : Kp (fun k => v.ownBlock = some k) w w') : Below D w w' := k.below hD (fun i hi e => by have := (rlt r i e).1; omega)
end Sp
theorem jc_get (js : List Nat) (k x : Nat) (h : js[k]? = some x) : (jc js)[k]? = some (.int .i64 (x : Int)) := by simp [jc, h]
end Go.Proofs.Ytbciclnffokjjaa
