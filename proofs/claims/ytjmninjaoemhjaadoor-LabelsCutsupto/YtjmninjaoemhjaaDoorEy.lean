/- Labels: Make of any pairs, over any contract of the sort. -/
import Derived.Test.YtjmninjaoemhjaaDoorEx
import Derived.Test.YtjmninjaoemhjaaDoorDe
namespace Go.Proofs.YtjmninjaoemhjaaDoor
open Go.RowKit Go.Lib

def lcL (ls : List Lb) : List Value := ls.flatMap l2
/-- The labels with a value. -/
def sel (f : Nat → Lb) : Nat → List Lb
  | 0 => []
  | n + 1 => sel f n ++ (if (f n).2.toList.isEmpty then [] else [f n])
theorem sel_len (f : Nat → Lb) : ∀ n, (sel f n).length ≤ n
  | 0 => Nat.le_refl _
  | n + 1 => by
    have := sel_len f n
    unfold sel
    rw [List.length_append]
    split
    · simp; omega
    · simp; omega
/-- The names told so far. -/
def esN (f : Nat → Lb) : Nat → Array MapEntry
  | 0 => #[]
  | n + 1 => (esN f n).push (mE (f n).1 n)
theorem same_str (a b : ByteArray) : Instr.sameNow .string (.string a) (.string b) = some (a == b) := rfl
theorem find_app (k : ByteArray) : ∀ (l : List MapEntry) (e : MapEntry) (i : Nat), Instr.findNow .string (.string k) l i = some none → Instr.sameNow .string (.string k) e.key = some false → Instr.findNow .string (.string k) (l ++ [e]) i = some none
  | [], e, i, _, h => by
    show (match Instr.sameNow .string (.string k) e.key with | some true => some (some (i, e.val)) | some false => Instr.findNow .string (.string k) [] (i + 1) | none => none) = _
    rw [h]
    rfl
  | x :: l, e, i, h0, h => by
    unfold Instr.findNow at h0
    show (match Instr.sameNow .string (.string k) x.key with | some true => some (some (i, x.val)) | some false => Instr.findNow .string (.string k) (l ++ [e]) (i + 1) | none => none) = _
    split at h0
    · cases h0
    · rename_i hx
      rw [hx]
      exact find_app k l e (i + 1) h0 h
    · cases h0
theorem find_hit (k : ByteArray) (P : MapEntry → Prop) (hP : ∀ e, P e → ∃ b, Instr.sameNow .string (.string k) e.key = some b ∧ e.val = .agg #[]) : ∀ (l : List MapEntry) (i : Nat), (∀ e ∈ l, P e) → Instr.findNow .string (.string k) l i = some none ∨ ∃ j, Instr.findNow .string (.string k) l i = some (some (j, .agg #[]))
  | [], _, _ => .inl rfl
  | x :: l, i, h => by
    obtain ⟨b, hb, hv⟩ := hP x (h x (by simp))
    unfold Instr.findNow
    rw [hb]
    cases b
    · exact find_hit k P hP l (i + 1) (fun e he => h e (by simp [he]))
    · exact .inr ⟨i, by rw [hv]⟩
theorem find_eq (k : ByteArray) : ∀ (l : List MapEntry) (i : Nat), Instr.findNow .string (.string k) l i = some none → ∀ e ∈ l, Instr.sameNow .string (.string k) e.key = some false
  | x :: l, i, h, e, he => by
    unfold Instr.findNow at h
    split at h
    · cases h
    · rename_i hx
      rcases List.mem_cons.1 he with rfl | he
      · exact hx
      · exact find_eq k l (i + 1) h e he
    · cases h
theorem esN_mem (f : Nat → Lb) : ∀ n e, e ∈ (esN f n).toList → ∃ j, j < n ∧ e = mE (f j).1 j
  | n + 1, e, h => by
    unfold esN at h
    rw [Array.toList_push] at h
    rcases List.mem_append.1 h with h | h
    · obtain ⟨j, hj, he⟩ := esN_mem f n e h
      exact ⟨j, by omega, he⟩
    · exact ⟨n, by omega, by simpa using h⟩
theorem esN_has (f : Nat → Lb) : ∀ n j, j < n → mE (f j).1 j ∈ (esN f n).toList
  | n + 1, j, h => by
    unfold esN
    rw [Array.toList_push]
    rcases Nat.lt_or_ge j n with h1 | h1
    · exact List.mem_append.2 (.inl (esN_has f n j h1))
    · obtain rfl : j = n := by omega
      simp
/-- A name is found just where it was told. -/
theorem seen (f : Nat → Lb) (n : Nat) (k : ByteArray) : (Instr.findNow .string (.string k) (esN f n).toList 0 = some none ∧ ∀ j, j < n → (k == (f j).1) = false) ∨ ∃ j, Instr.findNow .string (.string k) (esN f n).toList 0 = some (some (j, .agg #[])) := by
  rcases find_hit k (fun e => ∃ j, j < n ∧ e = mE (f j).1 j) (fun e he => by obtain ⟨j, _, rfl⟩ := he; exact ⟨_, same_str k (f j).1, rfl⟩) (esN f n).toList 0 (esN_mem f n) with h | h
  · refine .inl ⟨h, fun j hj => ?_⟩
    have := find_eq k _ 0 h _ (esN_has f n j hj)
    rw [same_str] at this
    exact Option.some.inj this
  · exact .inr h
theorem look_yes {w : World} {r clock j : Nat} {es : Array MapEntry} {k : ByteArray} (hb : w.heap[r]? = some (.map es clock)) (hf : Instr.findNow .string (.string k) es.toList 0 = some (some (j, .agg #[]))) :
    (Instr.lookup 61 (.map (some r)) (.string k) true).run Tryd.prog w = .ok (.tuple #[.agg #[], .bool true]) w := by
  have hc : ∀ b, (Instr.checkKey b 10000 9 (.string k)).run Tryd.prog w = .ok () w := fun b => MapKept.run_checkKey (k := .string k) Tryd.underlying9 (by simp [MapKept.IsKey]) b 9999
  simp [Instr.lookup, run_underlying Tryd.underlying61, MapKept.run_getObj_map hb, hc, MapKept.run_findKey Tryd.underlying9 hf, Result.andThen]
/-- What is known of the pairs ahead of a place. -/
def Gd (f : Nat → Lb) (n : Nat) : Prop := ∀ j, j < n → lbN (f j).1 = true ∧ vld (f j).2 (f j).2.size 0 = true ∧ ∀ k, k < j → ((f j).1 == (f k).1) = false
/-- What is wanted of the sort. -/
def SortC : Prop := ∀ (W : World) (S : Nat) (v : Value) (ks : List Lb), ks.length ≤ 1099511627776 → W.ownsRow S 26 2 v ks.length (lcL ks) → Calls Tryd.prog 30 #[v, .func (.func 31) #[] #[]] W fun e W' => e = .returned (.tuple #[]) ∧ ∃ ks' : List Lb, ks'.Perm ks ∧ ks'.Pairwise (fun x y => Op.bytesLess y.1.toList x.1.toList = false) ∧ W'.ownsRow S 26 2 v ks'.length (lcL ks') ∧ Kp (fun b => v.ownBlock = some b) W W'
/-- What Make answers. -/
def MkR (f : Nat → Lb) (n : Nat) (w : World) (e : Ending) (w' : World) : Prop := ∃ v E, e = .returned (.tuple #[v, .int .i64 E]) ∧ Below w.heap.size w w' ∧ ((E ≠ 0 ∧ v = .slice none 0 0) ∨ (E = 0 ∧ Gd f n ∧ ∃ ks : List Lb, ks.Perm (sel f n) ∧ ks.Pairwise (fun x y => Op.bytesLess y.1.toList x.1.toList = false) ∧ w'.ownsRow (w.heap.size + 1) 26 2 v ks.length (lcL ks)))
end Go.Proofs.YtjmninjaoemhjaaDoor
