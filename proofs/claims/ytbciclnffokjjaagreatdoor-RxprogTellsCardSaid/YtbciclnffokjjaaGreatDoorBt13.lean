/- A bundle of texts. -/
import Derived.WalkKit
import Derived.WideShapes
import Derived.Laws.IdiomCopy
import Derived.Laws.AppendOwn
import Derived.Below
import Derived.Shelf.Small.Utf8
import Derived.Shelf.Spec.SearchS
import Derived.Shelf.Spec.SlicesInsertGrow
import Derived.Test.YtbciclnffokjjaaGreatDoorProg
/- Words: texts in the order of their bytes. -/
namespace Go.Proofs.YtbciclnffokjjaaGreatDoor
open Go.RowKit

/-- One text ahead of another. -/
def tl (x y : ByteArray) : Bool := Op.bytesLess x.toList y.toList
theorem bl_irr : ∀ l : List UInt8, Op.bytesLess l l = false
  | [] => rfl
  | a :: l => by
    have := bl_irr l
    simp [Op.bytesLess, this]
theorem bl_trans : ∀ a b c : List UInt8, Op.bytesLess a b = true → Op.bytesLess b c = true → Op.bytesLess a c = true
  | _, [], [], h, h' => by simp [Op.bytesLess] at h'
  | _, _ :: _, [], h, h' => by simp [Op.bytesLess] at h'
  | _, [], _ :: _, h, h' => by
    rename_i x _ _
    cases x <;> simp [Op.bytesLess] at h
  | [], _ :: _, _ :: _, h, h' => by simp [Op.bytesLess]
  | x :: a, y :: b, z :: c, h, h' => by
    simp only [Op.bytesLess, Bool.or_eq_true, decide_eq_true_iff, Bool.and_eq_true, beq_iff_eq] at h h' ⊢
    rcases h with h | ⟨rfl, h⟩
    · rcases h' with h' | ⟨rfl, h'⟩
      · exact .inl (UInt8.lt_trans h h')
      · exact .inl h
    · rcases h' with h' | ⟨rfl, h'⟩
      · exact .inl h'
      · exact .inr ⟨rfl, bl_trans a b c h h'⟩
theorem bl_tri : ∀ a b : List UInt8, Op.bytesLess a b = false → Op.bytesLess b a = false → a = b
  | [], [], _, _ => rfl
  | [], _ :: _, h, _ => by simp [Op.bytesLess] at h
  | _ :: _, [], _, h => by simp [Op.bytesLess] at h
  | x :: a, y :: b, h, h' => by
    simp only [Op.bytesLess, Bool.or_eq_false_iff, decide_eq_false_iff_not, Bool.and_eq_false_iff, beq_eq_false_iff_ne] at h h'
    have e : x = y := by
      have h1 := UInt8.not_lt.1 h.1
      have h2 := UInt8.not_lt.1 h'.1
      exact UInt8.le_antisymm h2 h1
    subst e
    have e1 : Op.bytesLess a b = false := by
      rcases h.2 with h | h
      · exact absurd rfl h
      · exact h
    have e2 : Op.bytesLess b a = false := by
      rcases h'.2 with h | h
      · exact absurd rfl h
      · exact h
    rw [bl_tri a b e1 e2]
theorem tl_irr (x : ByteArray) : tl x x = false := bl_irr _
theorem tl_trans {x y z : ByteArray} (h : tl x y = true) (h' : tl y z = true) : tl x z = true := bl_trans _ _ _ h h'
theorem tl_tri {x y : ByteArray} (h : tl x y = false) (h' : tl y x = false) : x = y :=
  Go.WideShapes.bytes_inj (by rw [← ByteArray.toList_eq, ← ByteArray.toList_eq]; exact bl_tri _ _ h h')
/-- Texts that rise strictly. -/
abbrev Srt (L : List ByteArray) : Prop := L.Pairwise fun x y => tl x y = true
/-- How many texts stand ahead of x. -/
def ahd (L : List ByteArray) (x : ByteArray) : Nat := (L.takeWhile fun y => tl y x).length
def insS (L : List ByteArray) (x : ByteArray) : List ByteArray := L.take (ahd L x) ++ x :: L.drop (ahd L x)
theorem ahd_le (L : List ByteArray) (x : ByteArray) : ahd L x ≤ L.length := (List.takeWhile_prefix _).length_le
theorem ahd_cons (y : ByteArray) (L : List ByteArray) (x : ByteArray) : ahd (y :: L) x = if tl y x = true then ahd L x + 1 else 0 := by
  unfold ahd
  rw [List.takeWhile_cons]
  split
  · rfl
  · rfl
theorem ahd_lt : ∀ {L : List ByteArray} {x : ByteArray} {j : Nat} {y : ByteArray}, j < ahd L x → L[j]? = some y → tl y x = true
  | [], _, _, _, h, _ => by simp [ahd] at h
  | z :: L, x, j, y, h, hy => by
    rw [ahd_cons] at h
    split at h
    · rename_i hz
      cases j with
      | zero => simp at hy; subst hy; exact hz
      | succ j => exact ahd_lt (L := L) (j := j) (by omega) (by simpa using hy)
    · omega
theorem ahd_ge : ∀ {L : List ByteArray} {x : ByteArray}, Srt L → ∀ {j : Nat} {y : ByteArray}, ahd L x ≤ j → L[j]? = some y → tl y x = false
  | [], _, _, _, _, _, hy => by simp at hy
  | z :: L, x, hs, j, y, h, hy => by
    rw [ahd_cons] at h
    obtain ⟨h1, h2⟩ := List.pairwise_cons.1 hs
    split at h
    · rename_i hz
      cases j with
      | zero => omega
      | succ j => exact ahd_ge h2 (j := j) (by omega) (by simpa using hy)
    · rename_i hz
      have hz' : tl z x = false := by simpa using hz
      cases j with
      | zero => simp at hy; subst hy; exact hz'
      | succ j =>
        have hm : y ∈ L := List.mem_of_getElem? (by simpa using hy : L[j]? = some y)
        cases hyx : tl y x with
        | false => rfl
        | true => rw [tl_trans (h1 y hm) hyx] at hz'; cases hz'
theorem ahd_mem {L : List ByteArray} {x : ByteArray} (hs : Srt L) : x ∈ L ↔ L[ahd L x]? = some x := by
  constructor
  · intro h
    obtain ⟨j, hj⟩ := List.mem_iff_getElem?.1 h
    have h1 : ¬ j < ahd L x := fun e => by
      have := ahd_lt e hj
      rw [tl_irr] at this
      cases this
    rcases Nat.lt_or_ge (ahd L x) j with e | e
    · have hjl := (List.getElem?_eq_some_iff.1 hj).1
      obtain ⟨y, hy⟩ : ∃ y, L[ahd L x]? = some y := ⟨_, List.getElem?_eq_getElem (by omega)⟩
      have h2 := ahd_ge hs (Nat.le_refl _) hy
      have h3 : tl y x = true := by
        have hp := List.pairwise_iff_getElem.1 hs (ahd L x) j (by omega) hjl e
        have e1 := (List.getElem?_eq_some_iff.1 hy).2
        have e2 := (List.getElem?_eq_some_iff.1 hj).2
        rw [e1, e2] at hp
        exact hp
      rw [h2] at h3
      cases h3
    · rwa [show ahd L x = j by omega]
  · intro h
    exact List.mem_of_getElem? h
theorem ins_mem {L : List ByteArray} {x y : ByteArray} : y ∈ insS L x ↔ y = x ∨ y ∈ L := by
  unfold insS
  rw [List.mem_append, List.mem_cons]
  constructor
  · rintro (h | rfl | h)
    · exact .inr (List.mem_of_mem_take h)
    · exact .inl rfl
    · exact .inr (List.mem_of_mem_drop h)
  · rintro (rfl | h)
    · exact .inr (.inl rfl)
    · rw [← List.take_append_drop (ahd L x) L, List.mem_append] at h
      rcases h with h | h
      · exact .inl h
      · exact .inr (.inr h)
theorem ins_len (L : List ByteArray) (x : ByteArray) : (insS L x).length = L.length + 1 := by
  have := ahd_le L x
  unfold insS
  rw [List.length_append, List.length_cons, List.length_take, List.length_drop]
  omega
theorem ins_srt {L : List ByteArray} {x : ByteArray} (hs : Srt L) (hx : x ∉ L) : Srt (insS L x) := by
  have hd := List.take_append_drop (ahd L x) L
  have hp : Srt (L.take (ahd L x) ++ L.drop (ahd L x)) := by rw [hd]; exact hs
  obtain ⟨p1, p2, p3⟩ := List.pairwise_append.1 hp
  have a1 : ∀ y ∈ L.take (ahd L x), tl y x = true := fun y hy => by
    obtain ⟨j, hj⟩ := List.mem_iff_getElem?.1 hy
    rw [List.getElem?_take] at hj
    split at hj
    · rename_i h
      exact ahd_lt h hj
    · cases hj
  have a2 : ∀ y ∈ L.drop (ahd L x), tl x y = true := fun y hy => by
    obtain ⟨j, hj⟩ := List.mem_iff_getElem?.1 hy
    rw [List.getElem?_drop] at hj
    have h1 := ahd_ge hs (x := x) (Nat.le_add_right _ _) hj
    cases h2 : tl x y with
    | true => rfl
    | false =>
      have := tl_tri h1 h2
      subst this
      exact absurd (List.mem_of_getElem? hj) hx
  unfold insS
  refine List.pairwise_append.2 ⟨p1, List.pairwise_cons.2 ⟨a2, p2⟩, ?_⟩
  intro y hy z hz
  rcases List.mem_cons.1 hz with rfl | hz
  · exact a1 y hy
  · exact p3 y hy z hz
/-- A stock: at most 64 texts, or more of them. -/
abbrev Sto := Option (List ByteArray)
def addS (r : Sto) (x : ByteArray) : Sto := r.bind fun L => if L[ahd L x]? = some x then some L else if L.length = 64 then none else some (insS L x)
/-- A stock that rises, of at most 64. -/
def Sto.ok (r : Sto) : Prop := ∀ L, r = some L → Srt L ∧ L.length ≤ 64
theorem addS_ok {r : Sto} (h : r.ok) (x : ByteArray) : (addS r x).ok := by
  intro L e
  cases r with
  | none => cases e
  | some K =>
    obtain ⟨h1, h2⟩ := h K rfl
    simp only [addS, Option.bind_some] at e
    split at e
    · cases e; exact ⟨h1, h2⟩
    · rename_i hx
      split at e
      · cases e
      · cases e
        exact ⟨ins_srt h1 (fun h => hx ((ahd_mem h1).1 h)), by rw [ins_len]; omega⟩
theorem addS_mem {r : Sto} {x : ByteArray} {L : List ByteArray} (hr : r.ok) (e : addS r x = some L) : ∃ K, r = some K ∧ ∀ y, y ∈ L ↔ y = x ∨ y ∈ K := by
  cases r with
  | none => cases e
  | some K =>
    refine ⟨K, rfl, fun y => ?_⟩
    simp only [addS, Option.bind_some] at e
    split at e
    · rename_i hx
      cases e
      constructor
      · exact .inr
      · rintro (rfl | h)
        · exact (ahd_mem (hr _ rfl).1).2 hx
        · exact h
    · split at e
      · cases e
      · cases e
        exact ins_mem
end Go.Proofs.YtbciclnffokjjaaGreatDoor
/- Words: cells written in a row. -/
namespace Go.Proofs.YtbciclnffokjjaaGreatDoor
open Go.RowKit

/-- Values written from a place on. -/
def wrA (cur : Array Value) : Nat → List Value → Array Value
  | _, [] => cur
  | o, v :: r => wrA (cur.setIfInBounds o v) (o + 1) r
theorem wrA_size : ∀ (vs : List Value) (cur : Array Value) (o : Nat), (wrA cur o vs).size = cur.size
  | [], _, _ => rfl
  | v :: r, cur, o => by
    unfold wrA
    rw [wrA_size r]
    simp
theorem wrA_get : ∀ (vs : List Value) (cur : Array Value) (o j : Nat), o + vs.length ≤ cur.size → (wrA cur o vs)[j]? = if o ≤ j ∧ j < o + vs.length then vs[j - o]? else cur[j]?
  | [], cur, o, j, _ => by
    rw [if_neg (by simp)]
    rfl
  | v :: r, cur, o, j, h => by
    rw [List.length_cons] at h
    unfold wrA
    rw [wrA_get r (cur.setIfInBounds o v) (o + 1) j (by simp; omega)]
    by_cases e : j = o
    · subst e
      rw [if_neg (by omega), if_pos (by rw [List.length_cons]; omega)]
      simp [show j < cur.size by omega]
    · by_cases h1 : o + 1 ≤ j ∧ j < o + 1 + r.length
      · rw [if_pos h1, if_pos (by rw [List.length_cons]; omega), show j - o = (j - (o + 1)) + 1 by omega]
        rfl
      · rw [if_neg h1, if_neg (by rw [List.length_cons]; omega)]
        simp [show ¬ o = j by omega]
theorem heap_setCells : ∀ (vs : List Value) (w : World) (b o : Nat) (cur : Array Value) (e : TypeId) (fz : Nat × Nat), w.heap[b]? = some (.cells cur e fz) → (w.setCells b o vs).heap[b]? = some (.cells (wrA cur o vs) e fz)
  | [], w, b, o, cur, e, fz, h => h
  | v :: r, w, b, o, cur, e, fz, h => by
    unfold World.setCells wrA
    refine heap_setCells r _ b (o + 1) _ e fz ?_
    simp [World.setCell, Array.getElem?_modify, h]
theorem heap_setCells_ne : ∀ (vs : List Value) (w : World) (b o k : Nat), k ≠ b → (w.setCells b o vs).heap[k]? = w.heap[k]?
  | [], _, _, _, _, _ => rfl
  | v :: r, w, b, o, k, h => by
    unfold World.setCells
    rw [heap_setCells_ne r _ b (o + 1) k h]
    exact Below.heap_setCell _ _ _ _ (fun e => h e)
theorem setCells_rest : ∀ (vs : List Value) (w : World) (b o : Nat), (w.setCells b o vs).heap.size = w.heap.size ∧ (w.setCells b o vs).os = w.os ∧ (w.setCells b o vs).tape = w.tape ∧ (w.setCells b o vs).output = w.output
  | [], _, _, _ => ⟨rfl, rfl, rfl, rfl⟩
  | v :: r, w, b, o => by
    unfold World.setCells
    obtain ⟨h1, h2, h3, h4⟩ := setCells_rest r (w.setCell ⟨b, o, none⟩ v) b (o + 1)
    refine ⟨h1.trans ?_, h2.trans rfl, h3.trans rfl, h4.trans rfl⟩
    simp [World.setCell]
/-- One text put in at a place. -/
theorem put_get {α : Type} (cs : List α) (x : α) (k j : Nat) (hk : k ≤ cs.length) : (cs.take k ++ x :: cs.drop k)[j]? = if j < k then cs[j]? else if j = k then some x else cs[j - 1]? := by
  by_cases h : j < k
  · rw [if_pos h, List.getElem?_append_left (by rw [List.length_take]; omega), List.getElem?_take, if_pos h]
  · rw [if_neg h, List.getElem?_append_right (by rw [List.length_take]; omega), List.length_take, show min k cs.length = k by omega]
    by_cases e : j = k
    · subst e
      rw [if_pos rfl, Nat.sub_self]
      rfl
    · rw [if_neg e, show j - k = (j - k - 1) + 1 by omega, List.getElem?_cons_succ, List.getElem?_drop, show k + (j - k - 1) = j - 1 by omega]
theorem take_ext {α : Type} {a : List α} {b : List α} {n : Nat} (hn : b.length = n) (hl : n ≤ a.length) (h : ∀ j, j < n → a[j]? = b[j]?) : a.take n = b := by
  apply List.ext_getElem?
  intro j
  by_cases hj : j < n
  · rw [List.getElem?_take, if_pos hj, h j hj]
  · rw [List.getElem?_eq_none (by rw [List.length_take]; omega), List.getElem?_eq_none (by omega)]
end Go.Proofs.YtbciclnffokjjaaGreatDoor
/- Contracts of the library at this program. -/
namespace Go.Proofs
open Go.Shelf
def Tryz.lays119_ren : Go.Shelf.Ren := ⟨fun | 119 => 54 | n => n, fun | 21 => 21 | 4 => 4 | n => n, fun | n => n⟩
theorem Tryz.lays119 : Go.Proofs.Lays.n119 Tryz.prog Tryz.lays119_ren := {
  mixed := by kernel_rfl
  f119 := Tryz.func54.trans (congrArg some (by kernel_rfl))
  t4 := Tryz.underlying4
  a4 := Tryz.isAgg4
  z4 := Tryz.sizeOf4
  v4 := Tryz.zeroValue4
  t21 := Tryz.underlying21
  a21 := Tryz.isAgg21
  z21 := Tryz.sizeOf21
  v21 := Tryz.zeroValue21 }
theorem Tryz.utf8_ValidRune (r : Int) (w : World) :
    Calls Tryz.prog 54 #[.int .i32 r] w fun e w' => e = .returned (.bool (Lib.validRune r)) ∧ w' = w := Any.utf8_ValidRune Tryz.lays119 r w
def Tryz.lays26_ren : Go.Shelf.Ren := ⟨fun | 26 => 68 | 33 => 83 | 34 => 84 | 38 => 101 | n => n, fun | 24 => 26 | 9 => 9 | 3 => 3 | 4 => 4 | 40 => 102 | 0 => 0 | n => n, fun | n => n⟩
theorem Tryz.lays26 : Go.Proofs.Lays2.n26 Tryz.prog Tryz.lays26_ren := {
  mixed := by kernel_rfl
  f26 := Tryz.func68.trans (congrArg some (by kernel_rfl))
  f33 := Tryz.func83.trans (congrArg some (by kernel_rfl))
  f34 := Tryz.func84.trans (congrArg some (by kernel_rfl))
  f38 := Tryz.func101.trans (congrArg some (by kernel_rfl))
  t0 := Tryz.underlying0
  a0 := Tryz.isAgg0
  z0 := Tryz.sizeOf0
  v0 := Tryz.zeroValue0
  t3 := Tryz.underlying3
  a3 := Tryz.isAgg3
  z3 := Tryz.sizeOf3
  v3 := Tryz.zeroValue3
  t4 := Tryz.underlying4
  a4 := Tryz.isAgg4
  z4 := Tryz.sizeOf4
  v4 := Tryz.zeroValue4
  t9 := Tryz.underlying9
  a9 := Tryz.isAgg9
  z9 := Tryz.sizeOf9
  v9 := Tryz.zeroValue9
  t24 := Tryz.underlying26
  a24 := Tryz.isAgg26
  z24 := Tryz.sizeOf26
  v24 := Tryz.zeroValue26
  t40 := Tryz.underlying102
  a40 := Tryz.isAgg102
  z40 := Tryz.sizeOf102
  v40 := Tryz.zeroValue102 }
def Tryz.lays22_ren : Go.Shelf.Ren := ⟨fun | 22 => 69 | 29 => 85 | 30 => 86 | 36 => 102 | 17 => 109 | n => n, fun | 24 => 26 | 9 => 9 | 3 => 3 | 4 => 4 | 0 => 0 | n => n, fun | n => n⟩
theorem Tryz.lays22 : Go.Proofs.Lays2.n22 Tryz.prog Tryz.lays22_ren := {
  mixed := by kernel_rfl
  f17 := Tryz.func109.trans (congrArg some (by kernel_rfl))
  f22 := Tryz.func69.trans (congrArg some (by kernel_rfl))
  f29 := Tryz.func85.trans (congrArg some (by kernel_rfl))
  f30 := Tryz.func86.trans (congrArg some (by kernel_rfl))
  f36 := Tryz.func102.trans (congrArg some (by kernel_rfl))
  t0 := Tryz.underlying0
  a0 := Tryz.isAgg0
  z0 := Tryz.sizeOf0
  v0 := Tryz.zeroValue0
  t3 := Tryz.underlying3
  a3 := Tryz.isAgg3
  z3 := Tryz.sizeOf3
  v3 := Tryz.zeroValue3
  t4 := Tryz.underlying4
  a4 := Tryz.isAgg4
  z4 := Tryz.sizeOf4
  v4 := Tryz.zeroValue4
  t9 := Tryz.underlying9
  a9 := Tryz.isAgg9
  z9 := Tryz.sizeOf9
  v9 := Tryz.zeroValue9
  t24 := Tryz.underlying26
  a24 := Tryz.isAgg26
  z24 := Tryz.sizeOf26
  v24 := Tryz.zeroValue26
  i9 := by kernel_rfl }
end Go.Proofs
