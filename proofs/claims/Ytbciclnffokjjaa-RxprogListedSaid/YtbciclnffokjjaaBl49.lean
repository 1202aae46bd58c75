/- A bundle of texts. -/
import Derived.Test.YtbciclnffokjjaaBl46
import Derived.Test.YtbciclnffokjjaaBl48
import Derived.Test.YtbciclnffokjjaaBl44
import Derived.Test.YtbciclnffokjjaaBl36
/- The tree ab; lit. -/
namespace Go.Proofs.Ytbciclnffokjjaa
open Go.RowKit Go.Lib

def ltN (c : Int) : Nd := ⟨2, c, none, 0, 0, fun _ => (0, 0), 0, 0, false, 0, ⟨#[]⟩, none, 0, 0⟩
def ctN (g : Nat) : Nd := ⟨4, 0, none, 0, 0, fun _ => (0, 0), 0, 0, false, 0, ⟨#[]⟩, some ⟨g, 0, none⟩, 2, 2⟩
def ltT (c : Int) : Tr := topT (ltN c) (fun _ _ => nd0)
def ctT (g : Nat) : Tr := topT (ctN g) (fun j => if j = 0 then ltT 97 else ltT 98)
theorem ltT_root (c : Int) : ltT c [] = ltN c := rfl
theorem ctT_root (g : Nat) : ctT g [] = ctN g := rfl
theorem ctT_kid0 (g : Nat) : kid (ctT g) 0 = ltT 97 := rfl
theorem ctT_kid1 (g : Nat) : kid (ctT g) 1 = ltT 98 := rfl
theorem ltN_ok (c : Int) (h : c = 97 ∨ c = 98) : ndB (ltN c) = true := by
  rcases h with rfl | rfl
  · kernel_rfl
  · kernel_rfl
theorem vd_lt (m : Nat) (c op : Int) (s : St) (hc : c = 97 ∨ c = 98) (h : s.k + 1 ≤ 8194) (ho : op ≤ 250) : vd (m + 1) (ltT c) op s = some { s with k := s.k + 1 } := by
  unfold vd
  rw [ltT_root, if_neg (by
    rintro (h1 | h1 | h1)
    · omega
    · omega
    · rw [ltN_ok c hc] at h1; cases h1)]
  rfl
theorem ctN_ok (g : Nat) : ndB (ctN g) = true := by
  have e : ndB (ctN 0) = true := by kernel_rfl
  exact e
theorem vd_ct (g : Nat) : vd 8195 (ctT g) 0 s0 = some { s0 with k := 3 } := by
  show vd (8194 + 1) (ctT g) 0 s0 = _
  unfold vd
  rw [ctT_root, if_neg (by
    rintro (h1 | h1 | h1)
    · exact absurd h1 (by decide)
    · exact absurd h1 (by decide)
    · rw [ctN_ok] at h1; cases h1)]
  have e1 : mid (ctN g) { s0 with k := s0.k + 1 } = some { s0 with k := 1 } := rfl
  rw [e1]
  show vds (vd 8194) (ctT g) (if (ctN g).kind = 7 then 0 + 1 else 0) 2 { s0 with k := 1 } = _
  rw [if_neg (by show ¬ (4 : Int) = 7; decide)]
  have e2 : vds (vd 8194) (ctT g) 0 2 { s0 with k := 1 } = (vd 8194 (ltT 97) (if brB (ctT g []).kind (ctT g [0]).kind = true then 0 + 1 else 0) { s0 with k := 1 }).bind fun s' => vd 8194 (ltT 98) (if brB (ctT g []).kind (ctT g [1]).kind = true then 0 + 1 else 0) s' := rfl
  rw [e2]
  have e3 : brB (ctT g []).kind (ctT g [0]).kind = false := by show brB 4 2 = false; decide
  have e4 : brB (ctT g []).kind (ctT g [1]).kind = false := by show brB 4 2 = false; decide
  rw [e3, e4]
  have e5 := vd_lt 8193 97 0 { s0 with k := 1 } (.inl rfl) (by decide) (by decide)
  have e6 := vd_lt 8193 98 0 { s0 with k := 2 } (.inr rfl) (by decide) (by decide)
  show (vd 8194 (ltT 97) 0 { s0 with k := 1 }).bind (fun s' => vd 8194 (ltT 98) 0 s') = _
  rw [show vd 8194 (ltT 97) 0 { s0 with k := 1 } = some { s0 with k := 2 } from e5]
  exact e6
theorem ok_ct (g : Nat) : okT (ctT g) = true := by
  unfold okT svd
  rw [vd_ct]
  rfl
theorem len_lt (m : Nat) (c : Int) : lenF (m + 1) (ltT c) = 1 := by
  unfold lenF
  rw [ltT_root]
  have : lenK (ltN c) (sumN (fun j => lenF m (kid (ltT c) j)) (ltN c).kn) = 1 := by
    unfold lenK
    rw [if_neg (by show ¬ ((2 : Int) = 1 ∨ (2 : Int) = 4); decide), if_neg (by show ¬ (2 : Int) = 5; decide), if_neg (by show ¬ (2 : Int) = 7; decide), if_neg (by show ¬ (2 : Int) = 6; decide)]
  rw [this]
  decide
theorem len_ct (g : Nat) : lenF 8195 (ctT g) = 2 := by
  show lenF (8194 + 1) (ctT g) = 2
  unfold lenF
  rw [ctT_root]
  have e : sumN (fun j => lenF 8194 (kid (ctT g) j)) (ctN g).kn = 2 := by
    show (0 + lenF 8194 (kid (ctT g) 0)) + lenF 8194 (kid (ctT g) 1) = 2
    rw [ctT_kid0, ctT_kid1, len_lt 8193, len_lt 8193]
    rfl
  rw [e]
  have e2 : lenK (ctN g) 2 = 2 := by
    unfold lenK
    rw [if_pos (by show ((4 : Int) = 1 ∨ (4 : Int) = 4); decide)]
  rw [e2]
  decide
theorem siz_ct (g : Nat) : sizF (ctT g) = 3 := by
  unfold sizF
  rw [if_pos (ok_ct g), len_ct]
  decide
theorem ask_lt (m : Nat) (c : Int) : askF (m + 1) (ltT c) = false := rfl
theorem ask_two {m : Nat} {t : Tr} (h : (t []).kind = 4) (hn : (t []).kn = 2) (h0 : askF m (kid t 0) = false) (h1 : askF m (kid t 1) = false) : askF (m + 1) t = false := by
  unfold askF
  rw [hn, h]
  unfold anyN anyN anyN
  rw [h0, h1]
  decide
theorem ask_ct (g : Nat) : askF 8195 (ctT g) = false := ask_two (m := 8194) rfl rfl (by rw [ctT_kid0]; exact ask_lt 8193 97) (by rw [ctT_kid1]; exact ask_lt 8193 98)
theorem row_two (F : Nat → Sto) : rowH F 2 0 2 = jnS (F 0) (F 1) := by
  unfold rowH
  rw [if_neg (by decide)]
  unfold rowH
  rw [if_pos (by decide), if_pos (by decide)]
theorem wrd_97 (m : Nat) : wrdF (m + 1) (ltT 97) = some [⟨#[97]⟩] := by
  unfold wrdF
  rw [ltT_root, if_neg (by show ¬ (2 : Int) = 1; decide), if_pos (by rfl)]
  show rngS (some []) 97 1 = _
  decide
theorem wrd_98 (m : Nat) : wrdF (m + 1) (ltT 98) = some [⟨#[98]⟩] := by
  unfold wrdF
  rw [ltT_root, if_neg (by show ¬ (2 : Int) = 1; decide), if_pos (by rfl)]
  show rngS (some []) 98 1 = _
  decide
theorem wds_ct (g : Nat) : wdsF (ctT g) = some [⟨#[97, 98]⟩] := by
  unfold wdsF
  rw [siz_ct, if_pos (by decide), ask_ct, if_neg (by decide)]
  show wrdF (8194 + 1) (ctT g) = _
  unfold wrdF
  rw [ctT_root, if_neg (by show ¬ (4 : Int) = 1; decide), if_neg (by show ¬ (4 : Int) = 2; decide), if_neg (by show ¬ (4 : Int) = 3; decide), if_pos (by rfl)]
  have e : rowH (fun q => wrdF 8194 (kid (ctT g) q)) (ctN g).kn 0 (ctN g).kn = jnS (wrdF 8194 (kid (ctT g) 0)) (wrdF 8194 (kid (ctT g) 1)) := row_two _
  rw [e, ctT_kid0, ctT_kid1, show wrdF 8194 (ltT 97) = _ from wrd_97 8193, show wrdF 8194 (ltT 98) = _ from wrd_98 8193]
  decide
theorem lt_at (B : Nat) (W : World) (c : Int) : Tat B W (ltT c) :=
  topT_at ⟨by show 0 * 8 ≤ 140737488351232; decide, by show 0 * 8 ≤ 140737488351232; decide, by show (0 : Nat) ≤ 140737488351232; decide, by show 0 ≤ 0; decide⟩ (.inl rfl) (.inl rfl) (fun j hj => absurd hj (Nat.not_lt_zero _))
theorem ct_at {B g : Nat} {W : World} (hg : g < B) (h : Cs W g 0 (ltN 97)) (h' : Cs W g 9 (ltN 98)) : Tat B W (ctT g) :=
  topT_at ⟨by show 0 * 8 ≤ 140737488351232; decide, by show 2 * 8 ≤ 140737488351232; decide, by show (0 : Nat) ≤ 140737488351232; decide, by show 2 ≤ 2; decide⟩ (.inl rfl) (.inr ⟨g, 0, rfl, hg, fun j hj => by
    have h2 : j < 2 := hj
    by_cases e : j = 0
    · subst e; exact h
    · have : j = 1 := by omega
      subst this; exact h'⟩) (fun j hj => by
    have h2 : j < 2 := hj
    by_cases e : j = 0
    · subst e; exact lt_at B W 97
    · have : j = 1 := by omega
      subst this; exact lt_at B W 98)
/-- Two nodes side by side. -/
abbrev twX (a b : Int) : Obj := .cells #[.int .i64 2, .int .i32 a, .slice none 0 0, .int .i64 0, .int .i64 0, .bool false, .int .i64 0, .string ⟨#[]⟩, .slice none 0 0, .int .i64 2, .int .i32 b, .slice none 0 0, .int .i64 0, .int .i64 0, .bool false, .int .i64 0, .string ⟨#[]⟩, .slice none 0 0] 33
theorem twX_cells {w : World} (a b : Int) : Cs (w.alloc (twX a b)) w.heap.size 0 (ltN a) ∧ Cs (w.alloc (twX a b)) w.heap.size 9 (ltN b) := by
  have e : (w.alloc (twX a b)).heap[w.heap.size]? = some (twX a b) := heap_alloc_new w _
  constructor
  · constructor <;> (unfold World.cell?; rw [e]; rfl)
  · constructor <;> (unfold World.cell?; rw [e]; rfl)

set_option maxHeartbeats 1000000 in
set_option maxRecDepth 100000 in
theorem lit_any (c : Int) (w : World) : Calls Try.prog 11 #[.int .i32 c] w fun e w' => e = .returned (ndV (ltN c)) ∧ Below w.heap.size w w' := by
  go_enter Try.func11, Try.ntmps11
  go_wp2
  have hc := ndX_cells (w := w) (ltN c) (W := w.alloc (ndX (ltN c))) (Below.refl _ _)
  obtain ⟨q0, q1, q2, q3, q4, q5, q6, q7, q8⟩ := hc
  simp only [Nat.zero_add, ltN, ndX, rxX] at q0 q1 q2 q3 q4 q5 q6 q7 q8
  refine bodyPost_ret (v := ndV (ltN c)) (by simp [results, Try.results11, go_sem, q0, q1, q2, q3, q4, q5, q6, q7, q8, ltN]) rfl ⟨rfl, (Below.refl _ _).alloc (Nat.le_refl _) _⟩
end Go.Proofs.Ytbciclnffokjjaa
/- taken over the program of a tree. -/
namespace Go.Proofs.Ytbciclnffokjjaa
open Go.RowKit

/-- What taken says of a tree and a text. -/
def TkM (t : Tr) (s : ByteArray) (v : Int) : Prop := (v = 2 ∧ ¬ gdF s (s.size + 1) 0) ∨ (gdF s (s.size + 1) 0 ∧ ((v = 1 ∧ Mn s 8195 t 0 s.size) ∨ (v = 0 ∧ ¬ Mn s 8195 t 0 s.size)))
/-- A program of a tree, as Compile answers it. -/
theorem taken_tree {t : Tr} {B S : Nat} {W w : World} {iv nv : Value} {gr : Int} {m : Nat} {xs : List Value} (s : ByteArray) (ht : Tat B W t) (h0 : ¬ sizF t = 0) (h1 : sizF t ≤ 10000) (hi : Ow S w iv (prgC t)) (hn : w.ownsRow S 9 1 nv m xs) (hs : (s.size : Int) ≤ 4611686018427387904) :
    Calls Try.prog 12 #[.agg #[iv, .int .i64 0, .int .i64 gr, nv], .string s] w fun e w' => (∃ v, e = .returned (.int .i64 v) ∧ TkM t s v) ∧ Below w.heap.size w w' := by
  obtain ⟨hok, hlen, _⟩ := sizF_ok h0 h1
  have hwf := WF_ok hok
  obtain ⟨a, cc, rfl, hP⟩ := hi.pg
  obtain ⟨na, nc, rfl⟩ := Sp.form hn
  have hl := cod_len 8195 t 0 hwf (by omega)
  have hpl : (prgC t).length = (cod 8195 t 0).length + 1 := by unfold prgC; simp
  have hrs : ∀ i ∈ prgC t, i.rs.length ≤ 1152921504606846976 := fun i h => by
    unfold prgC at h
    rcases List.mem_append.1 h with h | h
    · have : i.rs.length * 8 ≤ 140737488351232 := cod_rs 8195 t 0 ht hwf i h
      omega
    · rcases List.mem_singleton.1 h with rfl
      exact Nat.zero_le _
  refine (taken_any a cc 0 gr na m nc (prgC t) s w hP (prgC_in hwf) (by omega) (by omega) hrs (wd_ok s) hs).mono ?_
  rintro e w' ⟨⟨v, rfl, h⟩, b⟩
  exact ⟨⟨v, rfl, taken_mn hwf h⟩, b⟩
end Go.Proofs.Ytbciclnffokjjaa
