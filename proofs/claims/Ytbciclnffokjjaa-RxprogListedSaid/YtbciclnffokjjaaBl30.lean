/- A bundle of texts. -/
import Derived.Test.YtbciclnffokjjaaBl28
import Derived.Test.YtbciclnffokjjaaBl21
/- taken over the program of a tree. -/
namespace Go.Proofs.Ytbciclnffokjjaa
open Go.RowKit

/-- What taken says of a tree and a text. -/
def TkM (t : Tr) (s : ByteArray) (v : Int) : Prop := (v = 2 ∧ ¬ gdF s (s.size + 1) 0) ∨ (gdF s (s.size + 1) 0 ∧ ((v = 1 ∧ Mn s 8195 t 0 s.size) ∨ (v = 0 ∧ ¬ Mn s 8195 t 0 s.size)))
/-- A program of a tree, as Compile answers it. -/
theorem taken_tree {t : Tr} {B S : Nat} {W w : World} {iv nv : Value} {gr : Int} {m : Nat} {xs : List Value} (s : ByteArray) (ht : Tat B W t) (h0 : ¬ sizF t = 0) (h1 : sizF t ≤ 10000) (hi : Ow S w iv (prgC t)) (hn : w.ownsRow S 9 1 nv m xs) (hs : (s.size : Int) ≤ 4611686018427387904) :
    Calls Try.prog 12 #[.agg #[iv, .int .i64 0, .int .i64 gr, nv], .string s] w fun e w' => (∃ v, e = .returned (.int .i64 v) ∧ TkM t s v) ∧ Below w.heap.size w w' := by
  obtain ⟨hok, hlen, _⟩ := sizF_ok h0 h1
  have hwf := WF_ok hok
  obtain ⟨a, cc, rfl, hP⟩ := hi.pg
  obtain ⟨na, nc, rfl⟩ := Sp.form hn
  have hl := cod_len 8195 t 0 hwf (by omega)
  have hpl : (prgC t).length = (cod 8195 t 0).length + 1 := by unfold prgC; simp
  have hrs : ∀ i ∈ prgC t, i.rs.length ≤ 1152921504606846976 := fun i h => by
    unfold prgC at h
    rcases List.mem_append.1 h with h | h
    · have : i.rs.length * 8 ≤ 140737488351232 := cod_rs 8195 t 0 ht hwf i h
      omega
    · rcases List.mem_singleton.1 h with rfl
      exact Nat.zero_le _
  refine (taken_any a cc 0 gr na m nc (prgC t) s w hP (prgC_in hwf) (by omega) (by omega) hrs (wd_ok s) hs).mono ?_
  rintro e w' ⟨⟨v, rfl, h⟩, b⟩
  exact ⟨⟨v, rfl, taken_mn hwf h⟩, b⟩
end Go.Proofs.Ytbciclnffokjjaa
