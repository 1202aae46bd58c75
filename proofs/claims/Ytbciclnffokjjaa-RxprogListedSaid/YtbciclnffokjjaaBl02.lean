/- A bundle of texts. -/
import Derived.WalkKit
import Derived.WideShapes
import Derived.Laws.IdiomCopy
import Derived.Laws.AppendOwn
import Derived.Below
import Derived.Shelf.Small.Utf8
import Derived.Shelf.Spec.SearchS
import Derived.Shelf.Spec.SlicesInsertGrow
import Derived.Test.YtbciclnffokjjaaProg
import Derived.Test.YtbciclnffokjjaaRows
import Derived.Laws.OwnMore
import Derived.Laws.MakeOwn
import Derived.Laws.StructEq
import Derived.Maps.AppendAt
import Derived.Deep.RegionLaw
import Derived.Deep.RegionHeld3
import Derived.BigRegion
import Derived.Lib.QuietBelow
import Derived.BigQuiet
import Derived.Deep.DeepFit
/- Words: texts in the order of their bytes. -/
namespace Go.Proofs.Ytbciclnffokjjaa
open Go.RowKit

/-- One text ahead of another. -/
def tl (x y : ByteArray) : Bool := Op.bytesLess x.toList y.toList
theorem bl_irr : ∀ l : List UInt8, Op.bytesLess l l = false
  | [] => rfl
  | a :: l => by
    have := bl_irr l
    simp [Op.bytesLess, this]
theorem bl_trans : ∀ a b c : List UInt8, Op.bytesLess a b = true → Op.bytesLess b c = true → Op.bytesLess a c = true
  | _, [], [], h, h' => by simp [Op.bytesLess] at h'
  | _, _ :: _, [], h, h' => by simp [Op.bytesLess] at h'
  | _, [], _ :: _, h, h' => by
    rename_i x _ _
    cases x <;> simp [Op.bytesLess] at h
  | [], _ :: _, _ :: _, h, h' => by simp [Op.bytesLess]
  | x :: a, y :: b, z :: c, h, h' => by
    simp only [Op.bytesLess, Bool.or_eq_true, decide_eq_true_iff, Bool.and_eq_true, beq_iff_eq] at h h' ⊢
    rcases h with h | ⟨rfl, h⟩
    · rcases h' with h' | ⟨rfl, h'⟩
      · exact .inl (UInt8.lt_trans h h')
      · exact .inl h
    · rcases h' with h' | ⟨rfl, h'⟩
      · exact .inl h'
      · exact .inr ⟨rfl, bl_trans a b c h h'⟩
theorem bl_tri : ∀ a b : List UInt8, Op.bytesLess a b = false → Op.bytesLess b a = false → a = b
  | [], [], _, _ => rfl
  | [], _ :: _, h, _ => by simp [Op.bytesLess] at h
  | _ :: _, [], _, h => by simp [Op.bytesLess] at h
  | x :: a, y :: b, h, h' => by
    simp only [Op.bytesLess, Bool.or_eq_false_iff, decide_eq_false_iff_not, Bool.and_eq_false_iff, beq_eq_false_iff_ne] at h h'
    have e : x = y := by
      have h1 := UInt8.not_lt.1 h.1
      have h2 := UInt8.not_lt.1 h'.1
      exact UInt8.le_antisymm h2 h1
    subst e
    have e1 : Op.bytesLess a b = false := by
      rcases h.2 with h | h
      · exact absurd rfl h
      · exact h
    have e2 : Op.bytesLess b a = false := by
      rcases h'.2 with h | h
      · exact absurd rfl h
      · exact h
    rw [bl_tri a b e1 e2]
theorem tl_irr (x : ByteArray) : tl x x = false := bl_irr _
theorem tl_trans {x y z : ByteArray} (h : tl x y = true) (h' : tl y z = true) : tl x z = true := bl_trans _ _ _ h h'
theorem tl_tri {x y : ByteArray} (h : tl x y = false) (h' : tl y x = false) : x = y :=
  Go.WideShapes.bytes_inj (by rw [← ByteArray.toList_eq, ← ByteArray.toList_eq]; exact bl_tri _ _ h h')
/-- Texts that rise strictly. -/
abbrev Srt (L : List ByteArray) : Prop := L.Pairwise fun x y => tl x y = true
/-- How many texts stand ahead of x. -/
def ahd (L : List ByteArray) (x : ByteArray) : Nat := (L.takeWhile fun y => tl y x).length
def insS (L : List ByteArray) (x : ByteArray) : List ByteArray := L.take (ahd L x) ++ x :: L.drop (ahd L x)
theorem ahd_le (L : List ByteArray) (x : ByteArray) : ahd L x ≤ L.length := (List.takeWhile_prefix _).length_le
theorem ahd_cons (y : ByteArray) (L : List ByteArray) (x : ByteArray) : ahd (y :: L) x = if tl y x = true then ahd L x + 1 else 0 := by
  unfold ahd
  rw [List.takeWhile_cons]
  split
  · rfl
  · rfl
theorem ahd_lt : ∀ {L : List ByteArray} {x : ByteArray} {j : Nat} {y : ByteArray}, j < ahd L x → L[j]? = some y → tl y x = true
  | [], _, _, _, h, _ => by simp [ahd] at h
  | z :: L, x, j, y, h, hy => by
    rw [ahd_cons] at h
    split at h
    · rename_i hz
      cases j with
      | zero => simp at hy; subst hy; exact hz
      | succ j => exact ahd_lt (L := L) (j := j) (by omega) (by simpa using hy)
    · omega
theorem ahd_ge : ∀ {L : List ByteArray} {x : ByteArray}, Srt L → ∀ {j : Nat} {y : ByteArray}, ahd L x ≤ j → L[j]? = some y → tl y x = false
  | [], _, _, _, _, _, hy => by simp at hy
  | z :: L, x, hs, j, y, h, hy => by
    rw [ahd_cons] at h
    obtain ⟨h1, h2⟩ := List.pairwise_cons.1 hs
    split at h
    · rename_i hz
      cases j with
      | zero => omega
      | succ j => exact ahd_ge h2 (j := j) (by omega) (by simpa using hy)
    · rename_i hz
      have hz' : tl z x = false := by simpa using hz
      cases j with
      | zero => simp at hy; subst hy; exact hz'
      | succ j =>
        have hm : y ∈ L := List.mem_of_getElem? (by simpa using hy : L[j]? = some y)
        cases hyx : tl y x with
        | false => rfl
        | true => rw [tl_trans (h1 y hm) hyx] at hz'; cases hz'
theorem ahd_mem {L : List ByteArray} {x : ByteArray} (hs : Srt L) : x ∈ L ↔ L[ahd L x]? = some x := by
  constructor
  · intro h
    obtain ⟨j, hj⟩ := List.mem_iff_getElem?.1 h
    have h1 : ¬ j < ahd L x := fun e => by
      have := ahd_lt e hj
      rw [tl_irr] at this
      cases this
    rcases Nat.lt_or_ge (ahd L x) j with e | e
    · have hjl := (List.getElem?_eq_some_iff.1 hj).1
      obtain ⟨y, hy⟩ : ∃ y, L[ahd L x]? = some y := ⟨_, List.getElem?_eq_getElem (by omega)⟩
      have h2 := ahd_ge hs (Nat.le_refl _) hy
      have h3 : tl y x = true := by
        have hp := List.pairwise_iff_getElem.1 hs (ahd L x) j (by omega) hjl e
        have e1 := (List.getElem?_eq_some_iff.1 hy).2
        have e2 := (List.getElem?_eq_some_iff.1 hj).2
        rw [e1, e2] at hp
        exact hp
      rw [h2] at h3
      cases h3
    · rwa [show ahd L x = j by omega]
  · intro h
    exact List.mem_of_getElem? h
theorem ins_mem {L : List ByteArray} {x y : ByteArray} : y ∈ insS L x ↔ y = x ∨ y ∈ L := by
  unfold insS
  rw [List.mem_append, List.mem_cons]
  constructor
  · rintro (h | rfl | h)
    · exact .inr (List.mem_of_mem_take h)
    · exact .inl rfl
    · exact .inr (List.mem_of_mem_drop h)
  · rintro (rfl | h)
    · exact .inr (.inl rfl)
    · rw [← List.take_append_drop (ahd L x) L, List.mem_append] at h
      rcases h with h | h
      · exact .inl h
      · exact .inr (.inr h)
theorem ins_len (L : List ByteArray) (x : ByteArray) : (insS L x).length = L.length + 1 := by
  have := ahd_le L x
  unfold insS
  rw [List.length_append, List.length_cons, List.length_take, List.length_drop]
  omega
theorem ins_srt {L : List ByteArray} {x : ByteArray} (hs : Srt L) (hx : x ∉ L) : Srt (insS L x) := by
  have hd := List.take_append_drop (ahd L x) L
  have hp : Srt (L.take (ahd L x) ++ L.drop (ahd L x)) := by rw [hd]; exact hs
  obtain ⟨p1, p2, p3⟩ := List.pairwise_append.1 hp
  have a1 : ∀ y ∈ L.take (ahd L x), tl y x = true := fun y hy => by
    obtain ⟨j, hj⟩ := List.mem_iff_getElem?.1 hy
    rw [List.getElem?_take] at hj
    split at hj
    · rename_i h
      exact ahd_lt h hj
    · cases hj
  have a2 : ∀ y ∈ L.drop (ahd L x), tl x y = true := fun y hy => by
    obtain ⟨j, hj⟩ := List.mem_iff_getElem?.1 hy
    rw [List.getElem?_drop] at hj
    have h1 := ahd_ge hs (x := x) (Nat.le_add_right _ _) hj
    cases h2 : tl x y with
    | true => rfl
    | false =>
      have := tl_tri h1 h2
      subst this
      exact absurd (List.mem_of_getElem? hj) hx
  unfold insS
  refine List.pairwise_append.2 ⟨p1, List.pairwise_cons.2 ⟨a2, p2⟩, ?_⟩
  intro y hy z hz
  rcases List.mem_cons.1 hz with rfl | hz
  · exact a1 y hy
  · exact p3 y hy z hz
/-- A stock: at most 64 texts, or more of them. -/
abbrev Sto := Option (List ByteArray)
def addS (r : Sto) (x : ByteArray) : Sto := r.bind fun L => if L[ahd L x]? = some x then some L else if L.length = 64 then none else some (insS L x)
/-- A stock that rises, of at most 64. -/
def Sto.ok (r : Sto) : Prop := ∀ L, r = some L → Srt L ∧ L.length ≤ 64
theorem addS_ok {r : Sto} (h : r.ok) (x : ByteArray) : (addS r x).ok := by
  intro L e
  cases r with
  | none => cases e
  | some K =>
    obtain ⟨h1, h2⟩ := h K rfl
    simp only [addS, Option.bind_some] at e
    split at e
    · cases e; exact ⟨h1, h2⟩
    · rename_i hx
      split at e
      · cases e
      · cases e
        exact ⟨ins_srt h1 (fun h => hx ((ahd_mem h1).1 h)), by rw [ins_len]; omega⟩
theorem addS_mem {r : Sto} {x : ByteArray} {L : List ByteArray} (hr : r.ok) (e : addS r x = some L) : ∃ K, r = some K ∧ ∀ y, y ∈ L ↔ y = x ∨ y ∈ K := by
  cases r with
  | none => cases e
  | some K =>
    refine ⟨K, rfl, fun y => ?_⟩
    simp only [addS, Option.bind_some] at e
    split at e
    · rename_i hx
      cases e
      constructor
      · exact .inr
      · rintro (rfl | h)
        · exact (ahd_mem (hr _ rfl).1).2 hx
        · exact h
    · split at e
      · cases e
      · cases e
        exact ins_mem
end Go.Proofs.Ytbciclnffokjjaa
/- Words: cells written in a row. -/
namespace Go.Proofs.Ytbciclnffokjjaa
open Go.RowKit

/-- Values written from a place on. -/
def wrA (cur : Array Value) : Nat → List Value → Array Value
  | _, [] => cur
  | o, v :: r => wrA (cur.setIfInBounds o v) (o + 1) r
theorem wrA_size : ∀ (vs : List Value) (cur : Array Value) (o : Nat), (wrA cur o vs).size = cur.size
  | [], _, _ => rfl
  | v :: r, cur, o => by
    unfold wrA
    rw [wrA_size r]
    simp
theorem wrA_get : ∀ (vs : List Value) (cur : Array Value) (o j : Nat), o + vs.length ≤ cur.size → (wrA cur o vs)[j]? = if o ≤ j ∧ j < o + vs.length then vs[j - o]? else cur[j]?
  | [], cur, o, j, _ => by
    rw [if_neg (by simp)]
    rfl
  | v :: r, cur, o, j, h => by
    rw [List.length_cons] at h
    unfold wrA
    rw [wrA_get r (cur.setIfInBounds o v) (o + 1) j (by simp; omega)]
    by_cases e : j = o
    · subst e
      rw [if_neg (by omega), if_pos (by rw [List.length_cons]; omega)]
      simp [show j < cur.size by omega]
    · by_cases h1 : o + 1 ≤ j ∧ j < o + 1 + r.length
      · rw [if_pos h1, if_pos (by rw [List.length_cons]; omega), show j - o = (j - (o + 1)) + 1 by omega]
        rfl
      · rw [if_neg h1, if_neg (by rw [List.length_cons]; omega)]
        simp [show ¬ o = j by omega]
theorem heap_setCells : ∀ (vs : List Value) (w : World) (b o : Nat) (cur : Array Value) (e : TypeId) (fz : Nat × Nat), w.heap[b]? = some (.cells cur e fz) → (w.setCells b o vs).heap[b]? = some (.cells (wrA cur o vs) e fz)
  | [], w, b, o, cur, e, fz, h => h
  | v :: r, w, b, o, cur, e, fz, h => by
    unfold World.setCells wrA
    refine heap_setCells r _ b (o + 1) _ e fz ?_
    simp [World.setCell, Array.getElem?_modify, h]
theorem heap_setCells_ne : ∀ (vs : List Value) (w : World) (b o k : Nat), k ≠ b → (w.setCells b o vs).heap[k]? = w.heap[k]?
  | [], _, _, _, _, _ => rfl
  | v :: r, w, b, o, k, h => by
    unfold World.setCells
    rw [heap_setCells_ne r _ b (o + 1) k h]
    exact Below.heap_setCell _ _ _ _ (fun e => h e)
theorem setCells_rest : ∀ (vs : List Value) (w : World) (b o : Nat), (w.setCells b o vs).heap.size = w.heap.size ∧ (w.setCells b o vs).os = w.os ∧ (w.setCells b o vs).tape = w.tape ∧ (w.setCells b o vs).output = w.output
  | [], _, _, _ => ⟨rfl, rfl, rfl, rfl⟩
  | v :: r, w, b, o => by
    unfold World.setCells
    obtain ⟨h1, h2, h3, h4⟩ := setCells_rest r (w.setCell ⟨b, o, none⟩ v) b (o + 1)
    refine ⟨h1.trans ?_, h2.trans rfl, h3.trans rfl, h4.trans rfl⟩
    simp [World.setCell]
/-- One text put in at a place. -/
theorem put_get {α : Type} (cs : List α) (x : α) (k j : Nat) (hk : k ≤ cs.length) : (cs.take k ++ x :: cs.drop k)[j]? = if j < k then cs[j]? else if j = k then some x else cs[j - 1]? := by
  by_cases h : j < k
  · rw [if_pos h, List.getElem?_append_left (by rw [List.length_take]; omega), List.getElem?_take, if_pos h]
  · rw [if_neg h, List.getElem?_append_right (by rw [List.length_take]; omega), List.length_take, show min k cs.length = k by omega]
    by_cases e : j = k
    · subst e
      rw [if_pos rfl, Nat.sub_self]
      rfl
    · rw [if_neg e, show j - k = (j - k - 1) + 1 by omega, List.getElem?_cons_succ, List.getElem?_drop, show k + (j - k - 1) = j - 1 by omega]
theorem take_ext {α : Type} {a : List α} {b : List α} {n : Nat} (hn : b.length = n) (hl : n ≤ a.length) (h : ∀ j, j < n → a[j]? = b[j]?) : a.take n = b := by
  apply List.ext_getElem?
  intro j
  by_cases hj : j < n
  · rw [List.getElem?_take, if_pos hj, h j hj]
  · rw [List.getElem?_eq_none (by rw [List.length_take]; omega), List.getElem?_eq_none (by omega)]
end Go.Proofs.Ytbciclnffokjjaa
/- Contracts of the library at this program. -/
namespace Go.Proofs
open Go.Shelf
def Try.lays119_ren : Go.Shelf.Ren := ⟨fun | 119 => 95 | n => n, fun | 21 => 21 | 4 => 4 | n => n, fun | n => n⟩
theorem Try.lays119 : Go.Proofs.Lays.n119 Try.prog Try.lays119_ren := {
  mixed := by kernel_rfl
  f119 := Try.func95.trans (congrArg some (by kernel_rfl))
  t4 := Try.underlying4
  a4 := Try.isAgg4
  z4 := Try.sizeOf4
  v4 := Try.zeroValue4
  t21 := Try.underlying21
  a21 := Try.isAgg21
  z21 := Try.sizeOf21
  v21 := Try.zeroValue21 }
theorem Try.utf8_ValidRune (r : Int) (w : World) :
    Calls Try.prog 95 #[.int .i32 r] w fun e w' => e = .returned (.bool (Lib.validRune r)) ∧ w' = w := Any.utf8_ValidRune Try.lays119 r w
def Try.lays26_ren : Go.Shelf.Ren := ⟨fun | 26 => 96 | 33 => 106 | 34 => 107 | 38 => 114 | n => n, fun | 24 => 23 | 9 => 9 | 3 => 3 | 4 => 4 | 40 => 134 | 0 => 0 | n => n, fun | n => n⟩
theorem Try.lays26 : Go.Proofs.Lays2.n26 Try.prog Try.lays26_ren := {
  mixed := by kernel_rfl
  f26 := Try.func96.trans (congrArg some (by kernel_rfl))
  f33 := Try.func106.trans (congrArg some (by kernel_rfl))
  f34 := Try.func107.trans (congrArg some (by kernel_rfl))
  f38 := Try.func114.trans (congrArg some (by kernel_rfl))
  t0 := Try.underlying0
  a0 := Try.isAgg0
  z0 := Try.sizeOf0
  v0 := Try.zeroValue0
  t3 := Try.underlying3
  a3 := Try.isAgg3
  z3 := Try.sizeOf3
  v3 := Try.zeroValue3
  t4 := Try.underlying4
  a4 := Try.isAgg4
  z4 := Try.sizeOf4
  v4 := Try.zeroValue4
  t9 := Try.underlying9
  a9 := Try.isAgg9
  z9 := Try.sizeOf9
  v9 := Try.zeroValue9
  t24 := Try.underlying23
  a24 := Try.isAgg23
  z24 := Try.sizeOf23
  v24 := Try.zeroValue23
  t40 := Try.underlying134
  a40 := Try.isAgg134
  z40 := Try.sizeOf134
  v40 := Try.zeroValue134 }
def Try.lays22_ren : Go.Shelf.Ren := ⟨fun | 22 => 97 | 29 => 108 | 30 => 109 | 36 => 115 | 17 => 119 | n => n, fun | 24 => 23 | 9 => 9 | 3 => 3 | 4 => 4 | 0 => 0 | n => n, fun | n => n⟩
theorem Try.lays22 : Go.Proofs.Lays2.n22 Try.prog Try.lays22_ren := {
  mixed := by kernel_rfl
  f17 := Try.func119.trans (congrArg some (by kernel_rfl))
  f22 := Try.func97.trans (congrArg some (by kernel_rfl))
  f29 := Try.func108.trans (congrArg some (by kernel_rfl))
  f30 := Try.func109.trans (congrArg some (by kernel_rfl))
  f36 := Try.func115.trans (congrArg some (by kernel_rfl))
  t0 := Try.underlying0
  a0 := Try.isAgg0
  z0 := Try.sizeOf0
  v0 := Try.zeroValue0
  t3 := Try.underlying3
  a3 := Try.isAgg3
  z3 := Try.sizeOf3
  v3 := Try.zeroValue3
  t4 := Try.underlying4
  a4 := Try.isAgg4
  z4 := Try.sizeOf4
  v4 := Try.zeroValue4
  t9 := Try.underlying9
  a9 := Try.isAgg9
  z9 := Try.sizeOf9
  v9 := Try.zeroValue9
  t24 := Try.underlying23
  a24 := Try.isAgg23
  z24 := Try.sizeOf23
  v24 := Try.zeroValue23
  i9 := by kernel_rfl }
end Go.Proofs
/- RxprogSounds: an instruction as data; where it is sound; rows of ranges and of instructions in memory. -/
namespace Go.Proofs.Ytbciclnffokjjaa
open Go.RowKit

abbrev Rg := Int × Int
structure In where
  op : Int
  out : Int
  alt : Int
  arg : Int
  ra : Option Addr
  rn : Nat
  rc : Nat
  rf : Nat → Rg
abbrev inV (op out alt arg : Int) (a : Option Addr) (n c : Nat) : Value := .agg #[.int .i64 op, .int .i64 out, .int .i64 alt, .int .i64 arg, .slice a n c]
abbrev inX (op out alt arg : Int) (a : Option Addr) (n c : Nat) : Obj := .cells #[.int .i64 op, .int .i64 out, .int .i64 alt, .int .i64 arg, .slice a n c] 29

theorem ret_bool {a b : Bool} (h : a = b) : Ending.returned (.bool a) = .returned (.bool b) := by rw [h]

/-- Is a place within? -/
def plB (i n : Int) : Bool := decide (0 ≤ i ∧ i < n)
def spB (op out alt n : Int) : Bool := if op = 1 ∨ op = 11 then decide (out = 0 ∧ alt = 0) else if op = 3 then plB out n && plB alt n else plB out n && decide (alt = 0)
def saB (op arg g : Int) : Bool := if op = 4 then decide (2 ≤ arg ∧ arg ≤ 2 * g + 1) else if op = 9 then decide (arg = 0 ∨ arg = 1) else decide (arg = 0)
/-- A range fits behind those ahead of it. -/
def okB (f : Nat → Rg) (i : Nat) : Bool := decide (0 ≤ (f i).1 ∧ (f i).1 ≤ (f i).2 ∧ (f i).2 ≤ 1114111 ∧ (0 < i → (f (i - 1)).2 < (f i).1))
def rgB (f : Nat → Rg) : Nat → Bool
  | 0 => true
  | n + 1 => rgB f n && okB f n
def srB (op : Int) (n : Nat) (f : Nat → Rg) : Bool := if op = 2 then rgB f n && decide (0 < n) else decide (n = 0)
def sdB (op out alt arg : Int) (n : Nat) (f : Nat → Rg) (m g : Int) : Bool := decide (1 ≤ op ∧ op ≤ 11) && spB op out alt m && saB op arg g && srB op n f
def leF (f : Nat → Rg) (i : Nat) : Int := if i = 0 then 0 else (f (i - 1)).2 + 1

theorem rgB_le {f : Nat → Rg} {m n : Nat} (h : m ≤ n) (hr : rgB f n = true) : rgB f m = true := by
  induction n with
  | zero => obtain rfl : m = 0 := by omega
            exact hr
  | succ n ih =>
    by_cases e : m = n + 1
    · rw [e]; exact hr
    · exact ih (by omega) (by unfold rgB at hr; simp at hr; exact hr.1)
theorem rgB_bad {f : Nat → Rg} {i n : Nat} (h : i < n) (hb : okB f i = false) : rgB f n = false := by
  cases hr : rgB f n with
  | false => rfl
  | true =>
    have := rgB_le (m := i + 1) h hr
    unfold rgB at this
    rw [hb] at this
    simp at this
theorem rgB_succ {f : Nat → Rg} {i : Nat} (h : rgB f i = true) (hb : okB f i = true) : rgB f (i + 1) = true := by
  unfold rgB
  rw [h, hb]
  rfl
theorem rgB_lo {f : Nat → Rg} {i : Nat} (h : rgB f i = true) (h0 : 0 < i) : 0 ≤ (f (i - 1)).2 ∧ (f (i - 1)).2 ≤ 1114111 := by
  obtain ⟨j, rfl⟩ : ∃ j, i = j + 1 := ⟨i - 1, by omega⟩
  unfold rgB okB at h
  simp at h
  simp
  omega
theorem okB_iff {f : Nat → Rg} {i : Nat} (h : rgB f i = true) : okB f i = true ↔ (leF f i ≤ (f i).1 ∧ (f i).1 ≤ (f i).2 ∧ (f i).2 ≤ 1114111) := by
  unfold okB leF
  by_cases h0 : i = 0
  · subst h0; simp
  · have := rgB_lo h (by omega)
    rw [if_neg h0, decide_eq_true_iff]
    omega
theorem leF_bd {f : Nat → Rg} {i : Nat} (h : rgB f i = true) : 0 ≤ leF f i ∧ leF f i ≤ 1114112 := by
  unfold leF
  by_cases h0 : i = 0
  · rw [if_pos h0]; omega
  · have := rgB_lo h (by omega)
    rw [if_neg h0]; omega
theorem leF_succ (f : Nat → Rg) (i : Nat) : leF f (i + 1) = (f i).2 + 1 := by
  unfold leF
  rw [if_neg (by omega)]
  rfl
theorem rgB_congr {f g : Nat → Rg} {n : Nat} (h : ∀ j, j < n → f j = g j) : rgB f n = rgB g n := by
  induction n with
  | zero => rfl
  | succ n ih =>
    unfold rgB
    rw [ih fun j hj => h j (by omega)]
    unfold okB
    rw [h n (by omega), h (n - 1) (by omega)]
theorem sdB_congr (op out alt arg : Int) (n : Nat) {f g : Nat → Rg} (m gr : Int) (h : ∀ j, j < n → f j = g j) : sdB op out alt arg n f m gr = sdB op out alt arg n g m gr := by
  unfold sdB srB
  rw [rgB_congr h]

/-- Ranges that a slice shows. -/
def Rml (w : World) (a : Option Addr) (f : Nat → Rg) (n : Nat) : Prop := n = 0 ∨ ∃ g o, a = some ⟨g, o, none⟩ ∧ g < w.heap.size ∧ ∀ j, j < n → w.cell? ⟨g, o + j * 2, none⟩ = some (.int .i32 (f j).1) ∧ w.cell? ⟨g, o + j * 2 + 1, none⟩ = some (.int .i32 (f j).2)
theorem Rml.below {w w' : World} {a : Option Addr} {f : Nat → Rg} {n : Nat} (h : Rml w a f n) (hb : Below w.heap.size w w') : Rml w' a f n := by
  rcases h with h | ⟨g, o, rfl, hg, hc⟩
  · exact .inl h
  · exact .inr ⟨g, o, rfl, Nat.lt_of_lt_of_le hg hb.size, fun j hj => ⟨(hb.cell (p := ⟨g, o + j * 2, none⟩) hg).trans (hc j hj).1, (hb.cell (p := ⟨g, o + j * 2 + 1, none⟩) hg).trans (hc j hj).2⟩⟩
theorem Rml.at {w : World} {a : Option Addr} {f : Nat → Rg} {n : Nat} (h : Rml w a f n) (j : Nat) (hj : j < n) : ∃ g o, a = some ⟨g, o, none⟩ ∧ g < w.heap.size ∧ w.cell? ⟨g, o + j * 2, none⟩ = some (.int .i32 (f j).1) ∧ w.cell? ⟨g, o + j * 2 + 1, none⟩ = some (.int .i32 (f j).2) := by
  rcases h with h | ⟨g, o, rfl, hg, hat⟩
  · omega
  · exact ⟨g, o, rfl, hg, (hat j hj).1, (hat j hj).2⟩
/-- Instructions that a slice shows, their ranges with them. -/
def Nml (w : World) (a : Option Addr) (x : Nat → In) (n : Nat) : Prop := n = 0 ∨ ∃ g o, a = some ⟨g, o, none⟩ ∧ g < w.heap.size ∧ ∀ j, j < n → w.cell? ⟨g, o + j * 5, none⟩ = some (.int .i64 (x j).op) ∧ w.cell? ⟨g, o + j * 5 + 1, none⟩ = some (.int .i64 (x j).out) ∧ w.cell? ⟨g, o + j * 5 + 2, none⟩ = some (.int .i64 (x j).alt) ∧ w.cell? ⟨g, o + j * 5 + 3, none⟩ = some (.int .i64 (x j).arg) ∧ w.cell? ⟨g, o + j * 5 + 4, none⟩ = some (.slice (x j).ra (x j).rn (x j).rc) ∧ Rml w (x j).ra (x j).rf (x j).rn ∧ (x j).rn * 8 ≤ 140737488351232
theorem Nml.below {w w' : World} {a : Option Addr} {x : Nat → In} {n : Nat} (h : Nml w a x n) (hb : Below w.heap.size w w') : Nml w' a x n := by
  rcases h with h | ⟨g, o, rfl, hg, hc⟩
  · exact .inl h
  · refine .inr ⟨g, o, rfl, Nat.lt_of_lt_of_le hg hb.size, fun j hj => ?_⟩
    obtain ⟨h0, h1, h2, h3, h4, h5, h6⟩ := hc j hj
    exact ⟨(hb.cell (p := ⟨g, o + j * 5, none⟩) hg).trans h0, (hb.cell (p := ⟨g, o + j * 5 + 1, none⟩) hg).trans h1, (hb.cell (p := ⟨g, o + j * 5 + 2, none⟩) hg).trans h2, (hb.cell (p := ⟨g, o + j * 5 + 3, none⟩) hg).trans h3, (hb.cell (p := ⟨g, o + j * 5 + 4, none⟩) hg).trans h4, h5.below hb, h6⟩
theorem Nml.at {w : World} {a : Option Addr} {x : Nat → In} {n : Nat} (h : Nml w a x n) (j : Nat) (hj : j < n) : ∃ g o, a = some ⟨g, o, none⟩ ∧ g < w.heap.size ∧ w.cell? ⟨g, o + j * 5, none⟩ = some (.int .i64 (x j).op) ∧ w.cell? ⟨g, o + j * 5 + 1, none⟩ = some (.int .i64 (x j).out) ∧ w.cell? ⟨g, o + j * 5 + 2, none⟩ = some (.int .i64 (x j).alt) ∧ w.cell? ⟨g, o + j * 5 + 3, none⟩ = some (.int .i64 (x j).arg) ∧ w.cell? ⟨g, o + j * 5 + 4, none⟩ = some (.slice (x j).ra (x j).rn (x j).rc) ∧ Rml w (x j).ra (x j).rf (x j).rn ∧ (x j).rn * 8 ≤ 140737488351232 := by
  rcases h with h | ⟨g, o, rfl, hg, hat⟩
  · omega
  · exact ⟨g, o, rfl, hg, hat j hj⟩
/-- Are all instructions sound? -/
def allB (x : Nat → In) (m g : Int) : Nat → Bool
  | 0 => true
  | n + 1 => allB x m g n && sdB (x n).op (x n).out (x n).alt (x n).arg (x n).rn (x n).rf m g
theorem allB_bad {x : Nat → In} {m g : Int} {i : Nat} : ∀ {n : Nat}, i < n → sdB (x i).op (x i).out (x i).alt (x i).arg (x i).rn (x i).rf m g = false → allB x m g n = false
  | 0, h, _ => by omega
  | n + 1, h, hb => by
    unfold allB
    by_cases e : i = n
    · subst e; rw [hb]; simp
    · rw [allB_bad (n := n) (by omega) hb]; rfl
theorem allB_succ {x : Nat → In} {m g : Int} {i : Nat} (h : allB x m g i = true) (hb : sdB (x i).op (x i).out (x i).alt (x i).arg (x i).rn (x i).rf m g = true) : allB x m g (i + 1) = true := by
  unfold allB
  rw [h, hb]
  rfl
/-- May a program be run? -/
def SdB (x : Nat → In) (n : Nat) (st gr : Int) (nn : Nat) : Bool := decide (n ≤ 10000) && plB st n && decide (gr ≤ 100) && decide ((nn : Int) = gr) && allB x n gr n

theorem bcell2 {w w' : World} {p : Addr} {v : Value} (hb : Below w.heap.size w w') (h : w.cell? p = some v) : w'.cell? p = some v := (hb.cell (World.block_lt_of_cell? w _ h)).trans h
end Go.Proofs.Ytbciclnffokjjaa
