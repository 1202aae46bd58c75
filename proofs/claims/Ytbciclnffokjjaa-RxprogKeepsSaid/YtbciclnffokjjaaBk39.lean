/- A bundle of texts. -/
import Derived.Shelf.Small.Utf8
import Derived.Shelf.Spec.SearchS
import Derived.Shelf.Spec.SlicesInsertGrow
import Derived.Test.YtbciclnffokjjaaProg
import Derived.Test.YtbciclnffokjjaaBk38
import Derived.Test.YtbciclnffokjjaaBk11
/- Contracts of the library at this program. -/
namespace Go.Proofs
open Go.Shelf
def Try.lays119_ren : Go.Shelf.Ren := ⟨fun | 119 => 95 | n => n, fun | 21 => 21 | 4 => 4 | n => n, fun | n => n⟩
theorem Try.lays119 : Go.Proofs.Lays.n119 Try.prog Try.lays119_ren := {
  mixed := by kernel_rfl
  f119 := Try.func95.trans (congrArg some (by kernel_rfl))
  t4 := Try.underlying4
  a4 := Try.isAgg4
  z4 := Try.sizeOf4
  v4 := Try.zeroValue4
  t21 := Try.underlying21
  a21 := Try.isAgg21
  z21 := Try.sizeOf21
  v21 := Try.zeroValue21 }
theorem Try.utf8_ValidRune (r : Int) (w : World) :
    Calls Try.prog 95 #[.int .i32 r] w fun e w' => e = .returned (.bool (Lib.validRune r)) ∧ w' = w := Any.utf8_ValidRune Try.lays119 r w
def Try.lays26_ren : Go.Shelf.Ren := ⟨fun | 26 => 96 | 33 => 106 | 34 => 107 | 38 => 114 | n => n, fun | 24 => 23 | 9 => 9 | 3 => 3 | 4 => 4 | 40 => 134 | 0 => 0 | n => n, fun | n => n⟩
theorem Try.lays26 : Go.Proofs.Lays2.n26 Try.prog Try.lays26_ren := {
  mixed := by kernel_rfl
  f26 := Try.func96.trans (congrArg some (by kernel_rfl))
  f33 := Try.func106.trans (congrArg some (by kernel_rfl))
  f34 := Try.func107.trans (congrArg some (by kernel_rfl))
  f38 := Try.func114.trans (congrArg some (by kernel_rfl))
  t0 := Try.underlying0
  a0 := Try.isAgg0
  z0 := Try.sizeOf0
  v0 := Try.zeroValue0
  t3 := Try.underlying3
  a3 := Try.isAgg3
  z3 := Try.sizeOf3
  v3 := Try.zeroValue3
  t4 := Try.underlying4
  a4 := Try.isAgg4
  z4 := Try.sizeOf4
  v4 := Try.zeroValue4
  t9 := Try.underlying9
  a9 := Try.isAgg9
  z9 := Try.sizeOf9
  v9 := Try.zeroValue9
  t24 := Try.underlying23
  a24 := Try.isAgg23
  z24 := Try.sizeOf23
  v24 := Try.zeroValue23
  t40 := Try.underlying134
  a40 := Try.isAgg134
  z40 := Try.sizeOf134
  v40 := Try.zeroValue134 }
def Try.lays22_ren : Go.Shelf.Ren := ⟨fun | 22 => 97 | 29 => 108 | 30 => 109 | 36 => 115 | 17 => 119 | n => n, fun | 24 => 23 | 9 => 9 | 3 => 3 | 4 => 4 | 0 => 0 | n => n, fun | n => n⟩
theorem Try.lays22 : Go.Proofs.Lays2.n22 Try.prog Try.lays22_ren := {
  mixed := by kernel_rfl
  f17 := Try.func119.trans (congrArg some (by kernel_rfl))
  f22 := Try.func97.trans (congrArg some (by kernel_rfl))
  f29 := Try.func108.trans (congrArg some (by kernel_rfl))
  f30 := Try.func109.trans (congrArg some (by kernel_rfl))
  f36 := Try.func115.trans (congrArg some (by kernel_rfl))
  t0 := Try.underlying0
  a0 := Try.isAgg0
  z0 := Try.sizeOf0
  v0 := Try.zeroValue0
  t3 := Try.underlying3
  a3 := Try.isAgg3
  z3 := Try.sizeOf3
  v3 := Try.zeroValue3
  t4 := Try.underlying4
  a4 := Try.isAgg4
  z4 := Try.sizeOf4
  v4 := Try.zeroValue4
  t9 := Try.underlying9
  a9 := Try.isAgg9
  z9 := Try.sizeOf9
  v9 := Try.zeroValue9
  t24 := Try.underlying23
  a24 := Try.isAgg23
  z24 := Try.sizeOf23
  v24 := Try.zeroValue23
  i9 := by kernel_rfl }
end Go.Proofs
/- Words: slices.Insert and slices.BinarySearch over a row of one's own. -/
namespace Go.Proofs.Ytbciclnffokjjaa
open Go.RowKit

abbrev sv (L : List ByteArray) : List Value := L.map Value.string
abbrev tX1 (x : ByteArray) : Obj := .cells #[.string x] 9
theorem sv_get (L : List ByteArray) (j : Nat) : (sv L)[j]? = (L[j]?).map Value.string := by simp [sv]
theorem sv_one (L : List ByteArray) : ∀ v ∈ sv L, v.oneCell' = true := by
  intro v hv
  obtain ⟨x, _, rfl⟩ := List.mem_map.1 hv
  rfl
theorem tX1_cell (w : World) (x : ByteArray) : (w.alloc (tX1 x)).cell? ⟨w.heap.size, 0, none⟩ = some (.string x) := by
  have := heap_alloc_new w (tX1 x)
  unfold World.cell?
  rw [this]
  rfl
/-- A row of texts after an insertion. -/
def InsP (S : Nat) (w : World) (v : Value) (L : List ByteArray) (x : ByteArray) (k : Nat) (e : Ending) (w' : World) : Prop :=
  ∃ g c, e = .returned (.slice (some ⟨g, 0, none⟩) (L.length + 1) c) ∧ w'.ownsRow S 9 1 (.slice (some ⟨g, 0, none⟩) (L.length + 1) c) (L.length + 1) (sv (L.take k ++ x :: L.drop k)) ∧ Kp (fun i => v.ownBlock = some i) w w' ∧ (v.ownBlock = some g ∨ w.heap.size ≤ g)
theorem sv_put (L : List ByteArray) (x : ByteArray) (k : Nat) : sv (L.take k ++ x :: L.drop k) = (sv L).take k ++ .string x :: (sv L).drop k := by simp [sv, List.map_take, List.map_drop]
theorem kp_of {w w' : World} {M : Nat → Prop} (h1 : w'.os = w.os) (h2 : w'.tape = w.tape) (h3 : w'.output = w.output) (h4 : w.heap.size ≤ w'.heap.size) (h5 : ∀ k, k < w.heap.size → ¬ M k → w'.heap[k]? = w.heap[k]?) : Kp M w w' := ⟨h1, h2, h3, h4, h5⟩
theorem own_at {w' : World} {S g n cap : Nat} {A : Array Value} {xs : List Value} (hg : w'.heap[g]? = some (.cells A 9 (0, 0))) (hS : S ≤ g) (hn : n ≤ cap) (hc : cap ≤ maxLen) (ha : A.size = cap) (hl : xs.length = n) (hx : ∀ j, j < n → A[j]? = xs[j]?) : w'.ownsRow S 9 1 (.slice (some ⟨g, 0, none⟩) n cap) n xs :=
  ⟨by omega, .inr ⟨g, cap, A, rfl, hS, hg, hn, hc, by omega, by rw [Nat.mul_one]; exact take_ext hl (by simp; omega) (fun j hj => by rw [← hx j hj]; simp)⟩⟩
theorem put_len (L : List ByteArray) (x : ByteArray) (k : Nat) (hk : k ≤ L.length) : (sv (L.take k ++ x :: L.drop k)).length = L.length + 1 := by simp; omega
theorem insert_row (w : World) (S : Nat) (v : Value) (L : List ByteArray) (x : ByteArray) (k : Nat) (hk : k ≤ L.length) (hS : S ≤ w.heap.size) (hn : L.length ≤ 64) (o : w.ownsRow S 9 1 v L.length (sv L)) :
    Calls Try.prog 97 #[v, .int .i64 k, .slice (some ⟨w.heap.size, 0, none⟩) 1 1] (w.alloc (tX1 x)) (InsP S w v L x k) := by
  have hcl : (sv L).length = L.length := by simp
  have hvs : ∀ j u, [Value.string x][j]? = some u → (w.alloc (tX1 x)).cell? ⟨w.heap.size, 0 + j, none⟩ = some u := fun j u hj => by
    match j, hj with
    | 0, hj => cases hj; exact tX1_cell w x
  have h1v : ∀ u ∈ [Value.string x], u.oneCell' = true := by
    intro u hu
    rcases List.mem_singleton.1 hu with rfl
    rfl
  have hz : (w.alloc (tX1 x)).heap.size = w.heap.size + 1 := by simp
  have hml : (65 : Nat) ≤ maxLen := by unfold maxLen; omega
  rcases o.2 with ⟨rfl, h0⟩ | ⟨g, cap, cur, rfl, hSg, hg, hnc, hcm, hcs, hct⟩
  · have hL : L = [] := List.eq_nil_of_length_eq_zero h0
    subst hL
    obtain rfl : k = 0 := by simpa using hk
    refine (Any2.slices_Insert_string_end_grow Try.lays22 none 0 0 w.heap.size 0 1 1 [] [.string x] (w.alloc (tX1 x)) (by omega) (by omega) (by omega) (by decide) rfl rfl (fun _ => rfl) (fun a h => by cases h) hvs h1v).mono ?_
    rintro e w' ⟨he, hw⟩
    rw [hz] at he
    obtain ⟨C, hC⟩ : ∃ C, C = grownCap (w.alloc (tX1 x)) (0 + 1) 0 (Try.lays22_ren.t 9) := ⟨_, rfl⟩
    have hgc : 0 + 1 ≤ C := by rw [hC]; exact grownCap_ge _ _ _ _
    have hgm : C ≤ maxLen := by rw [hC]; exact grownCap_le_maxLen _ _ _ _ (by omega)
    rw [← hC] at he hw
    refine ⟨w.heap.size + 1, C, he, own_at (A := ([] ++ [Value.string x]).toArray ++ Builtin.zeroCells (Value.string ⟨#[]⟩).cells (C - (0 + 1))) ?_ (by omega) (by simpa using hgc) hgm ?_ (put_len [] x 0 hk) ?_, ?_, .inr (by omega)⟩
    · rw [hw]
      have := heap_alloc_new (w.alloc (tX1 x)).drew (.cells (([] ++ [Value.string x]).toArray ++ Builtin.zeroCells (Value.string ⟨#[]⟩).cells (C - (0 + 1))) (Try.lays22_ren.t 9))
      rw [show (w.alloc (tX1 x)).drew.heap.size = w.heap.size + 1 from hz] at this
      exact this
    · rw [Array.size_append, size_zeroCells]
      show 1 + (C - (0 + 1)) * 1 = C
      omega
    · intro j hj
      obtain rfl : j = 0 := by simpa using hj
      rw [Array.getElem?_append_left (by simp)]
      rfl
    · rw [hw]
      exact ((Kp.refl _ w).alloc _).drew.alloc _
  · have hgl : g < w.heap.size := (Array.getElem?_eq_some_iff.1 hg).1
    rw [Nat.mul_one] at hcs hct
    have hg1 : (w.alloc (tX1 x)).heap[g]? = some (.cells cur 9 (0, 0)) := (Below.heap_alloc _ _ _ hgl).trans hg
    have hcell : ∀ j, (w.alloc (tX1 x)).cell? ⟨g, 0 + j, none⟩ = cur[j]? := fun j => by
      unfold World.cell?
      rw [Nat.zero_add]
      dsimp only
      rw [hg1]
      rfl
    have hfz : ∀ b j, b = g → (w.alloc (tX1 x)).frozen? ⟨b, j, none⟩ = false := fun b j e => by
      subst e
      unfold World.frozen?
      dsimp only
      rw [hg1]
      simp
    have hcv : ∀ j, j < L.length → cur[j]? = (sv L)[j]? := fun j hj => by
      rw [← hct, List.getElem?_take, if_pos hj]
      simp
    have hcsv : ∀ j u, (sv L)[j]? = some u → (w.alloc (tX1 x)).cell? ⟨g, 0 + j, none⟩ = some u := fun j u hj => by
      have : j < L.length := by have := (List.getElem?_eq_some_iff.1 hj).1; simpa using this
      rw [hcell, hcv j this, hj]
    have hvl : ∀ k j : Nat, j < L.length + 1 → k ≤ L.length → (sv (L.take k ++ x :: L.drop k))[j]? = if j < k then (sv L)[j]? else if j = k then some (.string x) else (sv L)[j - 1]? := fun k j _ hk => by
      rw [sv_put]
      exact put_get (sv L) _ k j (by rw [hcl]; exact hk)
    by_cases hroom : L.length + 1 ≤ cap
    · have hsp : ∀ j, j < L.length + 1 → ((w.alloc (tX1 x)).cell? ⟨g, 0 + j, none⟩).isSome = true := fun j hj => by
        rw [hcell, Array.getElem?_eq_getElem (by omega)]
        rfl
      by_cases he : k = L.length
      · subst he
        refine (Any2.slices_Insert_string_end_room Try.lays22 g 0 L.length cap w.heap.size 0 1 1 [.string x] (w.alloc (tX1 x)) (by omega) hroom (by unfold maxLen at hcm; exact hcm) rfl (fun j hj => ?_) (fun j hj => hfz _ _ rfl) hvs h1v).mono ?_
        · rw [Nat.add_assoc]
          exact hsp _ (by omega)
        · rintro e w' ⟨he, hw⟩
          rw [Nat.zero_add] at hw
          obtain ⟨r1, r2, r3, r4⟩ := setCells_rest [.string x] (w.alloc (tX1 x)) g L.length
          refine ⟨g, cap, he, own_at (A := wrA cur L.length [.string x]) (by rw [hw]; exact heap_setCells _ _ _ _ _ _ _ hg1) hSg hroom hcm (by rw [wrA_size]; exact hcs) (put_len L x _ hk) ?_, kp_of (by rw [hw, r2]; rfl) (by rw [hw, r3]; rfl) (by rw [hw, r4]; rfl) (by rw [hw, r1, hz]; omega) ?_, .inl rfl⟩
          · intro j hj
            rw [wrA_get _ _ _ _ (by simp; omega), hvl _ j hj hk]
            by_cases h1 : j < L.length
            · rw [if_neg (by omega), if_pos h1, hcv j h1]
            · obtain rfl : j = L.length := by omega
              rw [if_pos (by simp), if_neg (by omega), if_pos rfl, Nat.sub_self]
              rfl
          · intro i hi hm
            rw [hw, heap_setCells_ne _ _ _ _ _ (fun e => hm (by rw [e]; rfl))]
            exact Below.heap_alloc _ _ _ hi
      · have hkl : k < L.length := by omega
        refine (Any2.slices_Insert_string_shift Try.lays22 g 0 L.length cap k w.heap.size 0 1 1 (sv L) [.string x] (w.alloc (tX1 x)) hkl (by omega) hroom (by unfold maxLen at hcm; exact hcm) (by omega) hcl rfl hcsv hsp (fun j hj => hfz _ _ rfl) hvs (sv_one L) h1v 9 9 1 cap ?_ ?_ (by omega) ?_ ?_).mono ?_
        · unfold World.shape?
          rw [heap_alloc_new]
          rfl
        · unfold World.shape?
          rw [hg1]
          simp [hcs]
        · unfold World.frozen?
          dsimp only
          rw [heap_alloc_new]
          rfl
        · unfold World.frozen?
          dsimp only
          rw [heap_alloc_new]
          rfl
        · rintro e w' ⟨he, hw⟩
          rw [Nat.zero_add, Nat.zero_add] at hw
          obtain ⟨r1, r2, r3, r4⟩ := setCells_rest ((sv L).drop k) (w.alloc (tX1 x)).drew g (k + 1)
          obtain ⟨u1, u2, u3, u4⟩ := setCells_rest [.string x] ((w.alloc (tX1 x)).drew.setCells g (k + 1) ((sv L).drop k)) g k
          refine ⟨g, cap, he, own_at (A := wrA (wrA cur (k + 1) ((sv L).drop k)) k [.string x]) (by rw [hw]; exact heap_setCells _ _ _ _ _ _ _ (heap_setCells _ _ _ _ _ _ _ hg1)) hSg hroom hcm (by rw [wrA_size, wrA_size]; exact hcs) (put_len L x _ hk) ?_, kp_of (by rw [hw, u2, r2]; rfl) (by rw [hw, u3, r3]; rfl) (by rw [hw, u4, r4]; rfl) (by rw [hw, u1, r1]; show _ ≤ (w.alloc (tX1 x)).heap.size; omega) ?_, .inl rfl⟩
          · intro j hj
            rw [wrA_get _ _ _ _ (by rw [wrA_size]; simp; omega), wrA_get _ _ _ _ (by simp; omega), hvl _ j hj hk]
            by_cases h1 : j < k
            · rw [if_neg (by omega), if_neg (by omega), if_pos h1, hcv j (by omega)]
            · by_cases h2 : j = k
              · subst h2
                rw [if_pos (by simp), if_neg (by omega), if_pos rfl, Nat.sub_self]
                rfl
              · rw [if_neg (by simp; omega), if_pos (by simp; omega), if_neg h1, if_neg h2, List.getElem?_drop, show k + (j - (k + 1)) = j - 1 by omega]
          · intro i hi hm
            have hne : i ≠ g := fun e => hm (by rw [e]; rfl)
            rw [hw, heap_setCells_ne _ _ _ _ _ hne, heap_setCells_ne _ _ _ _ _ hne]
            exact Below.heap_alloc _ _ _ hi
    · obtain rfl : cap = L.length := by omega
      by_cases he : k = L.length
      · subst he
        refine (Any2.slices_Insert_string_end_grow Try.lays22 (some ⟨g, 0, none⟩) L.length L.length w.heap.size 0 1 1 (sv L) [.string x] (w.alloc (tX1 x)) (by omega) (by omega) (by omega) (by omega) hcl rfl (fun h => by cases h) (fun a h => by cases h; intro j u hj; rw [Go.WideShapes.add_plain]; exact hcsv j u hj) hvs h1v).mono ?_
        rintro e w' ⟨he, hw⟩
        rw [hz] at he
        obtain ⟨C, hC⟩ : ∃ C, C = grownCap (w.alloc (tX1 x)) (L.length + 1) L.length (Try.lays22_ren.t 9) := ⟨_, rfl⟩
        have hgc : L.length + 1 ≤ C := by rw [hC]; exact grownCap_ge _ _ _ _
        have hgm : C ≤ maxLen := by rw [hC]; exact grownCap_le_maxLen _ _ _ _ (by omega)
        rw [← hC] at he hw
        refine ⟨w.heap.size + 1, C, he, own_at (A := (sv L ++ [Value.string x]).toArray ++ Builtin.zeroCells (Value.string ⟨#[]⟩).cells (C - (L.length + 1))) ?_ (by omega) hgc hgm ?_ (put_len L x _ hk) ?_, ?_, .inr (by omega)⟩
        · rw [hw]
          have := heap_alloc_new (w.alloc (tX1 x)).drew (.cells ((sv L ++ [Value.string x]).toArray ++ Builtin.zeroCells (Value.string ⟨#[]⟩).cells (C - (L.length + 1))) (Try.lays22_ren.t 9))
          rw [show (w.alloc (tX1 x)).drew.heap.size = w.heap.size + 1 from hz] at this
          exact this
        · rw [Array.size_append, size_zeroCells]
          show (sv L ++ [Value.string x]).toArray.size + (C - (L.length + 1)) * 1 = C
          simp
          omega
        · intro j hj
          rw [Array.getElem?_append_left (by simp; omega), hvl _ j hj hk]
          by_cases h1 : j < L.length
          · rw [if_pos h1, List.getElem?_toArray, List.getElem?_append_left (by simpa using h1)]
          · obtain rfl : j = L.length := by omega
            rw [if_neg (by omega), if_pos rfl, List.getElem?_toArray, List.getElem?_append_right (by simp)]
            simp
        · rw [hw]
          exact ((Kp.refl _ w).alloc _).drew.alloc _
      · have hkl : k < L.length := by omega
        refine (Any2.slices_Insert_string_grow Try.lays22 g 0 L.length L.length k w.heap.size 0 1 1 (sv L) [.string x] (w.alloc (tX1 x)) hkl (by omega) (by omega) (by omega) (by omega) hcl rfl hcsv hvs (sv_one L) h1v).mono ?_
        rintro e w' ⟨he, hw⟩
        rw [hz] at he hw
        obtain ⟨C, hC⟩ : ∃ C, C = grownCap (w.alloc (tX1 x)) (L.length + 1) L.length (Try.lays22_ren.t 9) := ⟨_, rfl⟩
        have hgc : L.length + 1 ≤ C := by rw [hC]; exact grownCap_ge _ _ _ _
        have hgm : C ≤ maxLen := by rw [hC]; exact grownCap_le_maxLen _ _ _ _ (by omega)
        rw [← hC] at he hw
        obtain ⟨A, hA⟩ : ∃ A, A = ((sv L).take k).toArray ++ Builtin.zeroCells (Value.string ⟨#[]⟩).cells (L.length + 1 - k) ++ Builtin.zeroCells (Value.string ⟨#[]⟩).cells (C - (L.length + 1)) := ⟨_, rfl⟩
        have hAs : A.size = C := by
          rw [hA, Array.size_append, Array.size_append, size_zeroCells, size_zeroCells]
          show ((sv L).take k).toArray.size + (L.length + 1 - k) * 1 + (C - (L.length + 1)) * 1 = C
          simp
          omega
        rw [← hA] at hw
        have hgN : ((w.alloc (tX1 x)).alloc (.cells A (Try.lays22_ren.t 9))).heap[w.heap.size + 1]? = some (.cells A 9 (0, 0)) := by
          have := heap_alloc_new (w.alloc (tX1 x)) (.cells A (Try.lays22_ren.t 9))
          rw [hz] at this
          exact this
        obtain ⟨r1, r2, r3, r4⟩ := setCells_rest [.string x] ((w.alloc (tX1 x)).alloc (.cells A (Try.lays22_ren.t 9))).drew (w.heap.size + 1) k
        obtain ⟨u1, u2, u3, u4⟩ := setCells_rest ((sv L).drop k) (((w.alloc (tX1 x)).alloc (.cells A (Try.lays22_ren.t 9))).drew.setCells (w.heap.size + 1) k [.string x]).drew (w.heap.size + 1) (k + 1)
        refine ⟨w.heap.size + 1, C, he, own_at (A := wrA (wrA A k [.string x]) (k + 1) ((sv L).drop k)) (by rw [hw]; exact heap_setCells _ _ _ _ _ _ _ (heap_setCells _ _ _ _ _ _ _ hgN)) (by omega) hgc hgm (by rw [wrA_size, wrA_size]; exact hAs) (put_len L x _ hk) ?_, kp_of (by rw [hw, u2]; exact r2) (by rw [hw, u3]; exact r3) (by rw [hw, u4]; exact r4) (by rw [hw, u1]; show _ ≤ (World.setCells _ _ _ _).heap.size; rw [r1]; show _ ≤ ((w.alloc (tX1 x)).alloc _).heap.size; simp; omega) ?_, .inr (by omega)⟩
        · intro j hj
          rw [wrA_get _ _ _ _ (by rw [wrA_size]; simp; omega), wrA_get _ _ _ _ (by simp; omega), hvl _ j hj hk]
          by_cases h1 : j < k
          · rw [if_neg (by omega), if_neg (by omega), if_pos h1, hA, Array.getElem?_append_left (by simp; omega), Array.getElem?_append_left (by simp; omega), List.getElem?_toArray, List.getElem?_take, if_pos h1]
          · by_cases h2 : j = k
            · subst h2
              rw [if_neg (by omega), if_pos (by simp), if_neg (by omega), if_pos rfl, Nat.sub_self]
              rfl
            · rw [if_pos (by simp; omega), if_neg h1, if_neg h2, List.getElem?_drop, show k + (j - (k + 1)) = j - 1 by omega]
        · intro i hi hm
          have hne : i ≠ w.heap.size + 1 := by omega
          rw [hw, heap_setCells_ne _ _ _ _ _ hne]
          show (World.setCells _ _ _ _).heap[i]? = _
          rw [heap_setCells_ne _ _ _ _ _ hne]
          show ((w.alloc (tX1 x)).alloc _).heap[i]? = _
          rw [Below.heap_alloc _ _ _ (by omega)]
          exact Below.heap_alloc _ _ _ hi
end Go.Proofs.Ytbciclnffokjjaa
