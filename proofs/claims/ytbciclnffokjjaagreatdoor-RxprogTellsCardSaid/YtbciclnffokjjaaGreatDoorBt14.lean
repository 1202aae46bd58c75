/- A bundle of texts. -/
import Derived.Test.YtbciclnffokjjaaGreatDoorBt13
import Derived.Test.YtbciclnffokjjaaGreatDoorBt06
import Derived.WalkKit
import Derived.Deep.DeepFit
/- Words: slices.Insert and slices.BinarySearch over a row of one's own. -/
namespace Go.Proofs.YtbciclnffokjjaaGreatDoor
open Go.RowKit

abbrev sv (L : List ByteArray) : List Value := L.map Value.string
abbrev tX1 (x : ByteArray) : Obj := .cells #[.string x] 9
theorem sv_get (L : List ByteArray) (j : Nat) : (sv L)[j]? = (L[j]?).map Value.string := by simp [sv]
theorem sv_one (L : List ByteArray) : ∀ v ∈ sv L, v.oneCell' = true := by
  intro v hv
  obtain ⟨x, _, rfl⟩ := List.mem_map.1 hv
  rfl
theorem tX1_cell (w : World) (x : ByteArray) : (w.alloc (tX1 x)).cell? ⟨w.heap.size, 0, none⟩ = some (.string x) := by
  have := heap_alloc_new w (tX1 x)
  unfold World.cell?
  rw [this]
  rfl
/-- A row of texts after an insertion. -/
def InsP (S : Nat) (w : World) (v : Value) (L : List ByteArray) (x : ByteArray) (k : Nat) (e : Ending) (w' : World) : Prop :=
  ∃ g c, e = .returned (.slice (some ⟨g, 0, none⟩) (L.length + 1) c) ∧ w'.ownsRow S 9 1 (.slice (some ⟨g, 0, none⟩) (L.length + 1) c) (L.length + 1) (sv (L.take k ++ x :: L.drop k)) ∧ Kp (fun i => v.ownBlock = some i) w w' ∧ (v.ownBlock = some g ∨ w.heap.size ≤ g)
theorem sv_put (L : List ByteArray) (x : ByteArray) (k : Nat) : sv (L.take k ++ x :: L.drop k) = (sv L).take k ++ .string x :: (sv L).drop k := by simp [sv, List.map_take, List.map_drop]
theorem kp_of {w w' : World} {M : Nat → Prop} (h1 : w'.os = w.os) (h2 : w'.tape = w.tape) (h3 : w'.output = w.output) (h4 : w.heap.size ≤ w'.heap.size) (h5 : ∀ k, k < w.heap.size → ¬ M k → w'.heap[k]? = w.heap[k]?) : Kp M w w' := ⟨h1, h2, h3, h4, h5⟩
theorem own_at {w' : World} {S g n cap : Nat} {A : Array Value} {xs : List Value} (hg : w'.heap[g]? = some (.cells A 9 (0, 0))) (hS : S ≤ g) (hn : n ≤ cap) (hc : cap ≤ maxLen) (ha : A.size = cap) (hl : xs.length = n) (hx : ∀ j, j < n → A[j]? = xs[j]?) : w'.ownsRow S 9 1 (.slice (some ⟨g, 0, none⟩) n cap) n xs :=
  ⟨by omega, .inr ⟨g, cap, A, rfl, hS, hg, hn, hc, by omega, by rw [Nat.mul_one]; exact take_ext hl (by simp; omega) (fun j hj => by rw [← hx j hj]; simp)⟩⟩
theorem put_len (L : List ByteArray) (x : ByteArray) (k : Nat) (hk : k ≤ L.length) : (sv (L.take k ++ x :: L.drop k)).length = L.length + 1 := by simp; omega
theorem insert_row (w : World) (S : Nat) (v : Value) (L : List ByteArray) (x : ByteArray) (k : Nat) (hk : k ≤ L.length) (hS : S ≤ w.heap.size) (hn : L.length ≤ 64) (o : w.ownsRow S 9 1 v L.length (sv L)) :
    Calls Tryz.prog 69 #[v, .int .i64 k, .slice (some ⟨w.heap.size, 0, none⟩) 1 1] (w.alloc (tX1 x)) (InsP S w v L x k) := by
  have hcl : (sv L).length = L.length := by simp
  have hvs : ∀ j u, [Value.string x][j]? = some u → (w.alloc (tX1 x)).cell? ⟨w.heap.size, 0 + j, none⟩ = some u := fun j u hj => by
    match j, hj with
    | 0, hj => cases hj; exact tX1_cell w x
  have h1v : ∀ u ∈ [Value.string x], u.oneCell' = true := by
    intro u hu
    rcases List.mem_singleton.1 hu with rfl
    rfl
  have hz : (w.alloc (tX1 x)).heap.size = w.heap.size + 1 := by simp
  have hml : (65 : Nat) ≤ maxLen := by unfold maxLen; omega
  rcases o.2 with ⟨rfl, h0⟩ | ⟨g, cap, cur, rfl, hSg, hg, hnc, hcm, hcs, hct⟩
  · have hL : L = [] := List.eq_nil_of_length_eq_zero h0
    subst hL
    obtain rfl : k = 0 := by simpa using hk
    refine (Any2.slices_Insert_string_end_grow Tryz.lays22 none 0 0 w.heap.size 0 1 1 [] [.string x] (w.alloc (tX1 x)) (by omega) (by omega) (by omega) (by decide) rfl rfl (fun _ => rfl) (fun a h => by cases h) hvs h1v).mono ?_
    rintro e w' ⟨he, hw⟩
    rw [hz] at he
    obtain ⟨C, hC⟩ : ∃ C, C = grownCap (w.alloc (tX1 x)) (0 + 1) 0 (Tryz.lays22_ren.t 9) := ⟨_, rfl⟩
    have hgc : 0 + 1 ≤ C := by rw [hC]; exact grownCap_ge _ _ _ _
    have hgm : C ≤ maxLen := by rw [hC]; exact grownCap_le_maxLen _ _ _ _ (by omega)
    rw [← hC] at he hw
    refine ⟨w.heap.size + 1, C, he, own_at (A := ([] ++ [Value.string x]).toArray ++ Builtin.zeroCells (Value.string ⟨#[]⟩).cells (C - (0 + 1))) ?_ (by omega) (by simpa using hgc) hgm ?_ (put_len [] x 0 hk) ?_, ?_, .inr (by omega)⟩
    · rw [hw]
      have := heap_alloc_new (w.alloc (tX1 x)).drew (.cells (([] ++ [Value.string x]).toArray ++ Builtin.zeroCells (Value.string ⟨#[]⟩).cells (C - (0 + 1))) (Tryz.lays22_ren.t 9))
      rw [show (w.alloc (tX1 x)).drew.heap.size = w.heap.size + 1 from hz] at this
      exact this
    · rw [Array.size_append, size_zeroCells]
      show 1 + (C - (0 + 1)) * 1 = C
      omega
    · intro j hj
      obtain rfl : j = 0 := by simpa using hj
      rw [Array.getElem?_append_left (by simp)]
      rfl
    · rw [hw]
      exact ((Kp.refl _ w).alloc _).drew.alloc _
  · have hgl : g < w.heap.size := (Array.getElem?_eq_some_iff.1 hg).1
    rw [Nat.mul_one] at hcs hct
    have hg1 : (w.alloc (tX1 x)).heap[g]? = some (.cells cur 9 (0, 0)) := (Below.heap_alloc _ _ _ hgl).trans hg
    have hcell : ∀ j, (w.alloc (tX1 x)).cell? ⟨g, 0 + j, none⟩ = cur[j]? := fun j => by
      unfold World.cell?
      rw [Nat.zero_add]
      dsimp only
      rw [hg1]
      rfl
    have hfz : ∀ b j, b = g → (w.alloc (tX1 x)).frozen? ⟨b, j, none⟩ = false := fun b j e => by
      subst e
      unfold World.frozen?
      dsimp only
      rw [hg1]
      simp
    have hcv : ∀ j, j < L.length → cur[j]? = (sv L)[j]? := fun j hj => by
      rw [← hct, List.getElem?_take, if_pos hj]
      simp
    have hcsv : ∀ j u, (sv L)[j]? = some u → (w.alloc (tX1 x)).cell? ⟨g, 0 + j, none⟩ = some u := fun j u hj => by
      have : j < L.length := by have := (List.getElem?_eq_some_iff.1 hj).1; simpa using this
      rw [hcell, hcv j this, hj]
    have hvl : ∀ k j : Nat, j < L.length + 1 → k ≤ L.length → (sv (L.take k ++ x :: L.drop k))[j]? = if j < k then (sv L)[j]? else if j = k then some (.string x) else (sv L)[j - 1]? := fun k j _ hk => by
      rw [sv_put]
      exact put_get (sv L) _ k j (by rw [hcl]; exact hk)
    by_cases hroom : L.length + 1 ≤ cap
    · have hsp : ∀ j, j < L.length + 1 → ((w.alloc (tX1 x)).cell? ⟨g, 0 + j, none⟩).isSome = true := fun j hj => by
        rw [hcell, Array.getElem?_eq_getElem (by omega)]
        rfl
      by_cases he : k = L.length
      · subst he
        refine (Any2.slices_Insert_string_end_room Tryz.lays22 g 0 L.length cap w.heap.size 0 1 1 [.string x] (w.alloc (tX1 x)) (by omega) hroom (by unfold maxLen at hcm; exact hcm) rfl (fun j hj => ?_) (fun j hj => hfz _ _ rfl) hvs h1v).mono ?_
        · rw [Nat.add_assoc]
          exact hsp _ (by omega)
        · rintro e w' ⟨he, hw⟩
          rw [Nat.zero_add] at hw
          obtain ⟨r1, r2, r3, r4⟩ := setCells_rest [.string x] (w.alloc (tX1 x)) g L.length
          refine ⟨g, cap, he, own_at (A := wrA cur L.length [.string x]) (by rw [hw]; exact heap_setCells _ _ _ _ _ _ _ hg1) hSg hroom hcm (by rw [wrA_size]; exact hcs) (put_len L x _ hk) ?_, kp_of (by rw [hw, r2]; rfl) (by rw [hw, r3]; rfl) (by rw [hw, r4]; rfl) (by rw [hw, r1, hz]; omega) ?_, .inl rfl⟩
          · intro j hj
            rw [wrA_get _ _ _ _ (by simp; omega), hvl _ j hj hk]
            by_cases h1 : j < L.length
            · rw [if_neg (by omega), if_pos h1, hcv j h1]
            · obtain rfl : j = L.length := by omega
              rw [if_pos (by simp), if_neg (by omega), if_pos rfl, Nat.sub_self]
              rfl
          · intro i hi hm
            rw [hw, heap_setCells_ne _ _ _ _ _ (fun e => hm (by rw [e]; rfl))]
            exact Below.heap_alloc _ _ _ hi
      · have hkl : k < L.length := by omega
        refine (Any2.slices_Insert_string_shift Tryz.lays22 g 0 L.length cap k w.heap.size 0 1 1 (sv L) [.string x] (w.alloc (tX1 x)) hkl (by omega) hroom (by unfold maxLen at hcm; exact hcm) (by omega) hcl rfl hcsv hsp (fun j hj => hfz _ _ rfl) hvs (sv_one L) h1v 9 9 1 cap ?_ ?_ (by omega) ?_ ?_).mono ?_
        · unfold World.shape?
          rw [heap_alloc_new]
          rfl
        · unfold World.shape?
          rw [hg1]
          simp [hcs]
        · unfold World.frozen?
          dsimp only
          rw [heap_alloc_new]
          rfl
        · unfold World.frozen?
          dsimp only
          rw [heap_alloc_new]
          rfl
        · rintro e w' ⟨he, hw⟩
          rw [Nat.zero_add, Nat.zero_add] at hw
          obtain ⟨r1, r2, r3, r4⟩ := setCells_rest ((sv L).drop k) (w.alloc (tX1 x)).drew g (k + 1)
          obtain ⟨u1, u2, u3, u4⟩ := setCells_rest [.string x] ((w.alloc (tX1 x)).drew.setCells g (k + 1) ((sv L).drop k)) g k
          refine ⟨g, cap, he, own_at (A := wrA (wrA cur (k + 1) ((sv L).drop k)) k [.string x]) (by rw [hw]; exact heap_setCells _ _ _ _ _ _ _ (heap_setCells _ _ _ _ _ _ _ hg1)) hSg hroom hcm (by rw [wrA_size, wrA_size]; exact hcs) (put_len L x _ hk) ?_, kp_of (by rw [hw, u2, r2]; rfl) (by rw [hw, u3, r3]; rfl) (by rw [hw, u4, r4]; rfl) (by rw [hw, u1, r1]; show _ ≤ (w.alloc (tX1 x)).heap.size; omega) ?_, .inl rfl⟩
          · intro j hj
            rw [wrA_get _ _ _ _ (by rw [wrA_size]; simp; omega), wrA_get _ _ _ _ (by simp; omega), hvl _ j hj hk]
            by_cases h1 : j < k
            · rw [if_neg (by omega), if_neg (by omega), if_pos h1, hcv j (by omega)]
            · by_cases h2 : j = k
              · subst h2
                rw [if_pos (by simp), if_neg (by omega), if_pos rfl, Nat.sub_self]
                rfl
              · rw [if_neg (by simp; omega), if_pos (by simp; omega), if_neg h1, if_neg h2, List.getElem?_drop, show k + (j - (k + 1)) = j - 1 by omega]
          · intro i hi hm
            have hne : i ≠ g := fun e => hm (by rw [e]; rfl)
            rw [hw, heap_setCells_ne _ _ _ _ _ hne, heap_setCells_ne _ _ _ _ _ hne]
            exact Below.heap_alloc _ _ _ hi
    · obtain rfl : cap = L.length := by omega
      by_cases he : k = L.length
      · subst he
        refine (Any2.slices_Insert_string_end_grow Tryz.lays22 (some ⟨g, 0, none⟩) L.length L.length w.heap.size 0 1 1 (sv L) [.string x] (w.alloc (tX1 x)) (by omega) (by omega) (by omega) (by omega) hcl rfl (fun h => by cases h) (fun a h => by cases h; intro j u hj; rw [Go.WideShapes.add_plain]; exact hcsv j u hj) hvs h1v).mono ?_
        rintro e w' ⟨he, hw⟩
        rw [hz] at he
        obtain ⟨C, hC⟩ : ∃ C, C = grownCap (w.alloc (tX1 x)) (L.length + 1) L.length (Tryz.lays22_ren.t 9) := ⟨_, rfl⟩
        have hgc : L.length + 1 ≤ C := by rw [hC]; exact grownCap_ge _ _ _ _
        have hgm : C ≤ maxLen := by rw [hC]; exact grownCap_le_maxLen _ _ _ _ (by omega)
        rw [← hC] at he hw
        refine ⟨w.heap.size + 1, C, he, own_at (A := (sv L ++ [Value.string x]).toArray ++ Builtin.zeroCells (Value.string ⟨#[]⟩).cells (C - (L.length + 1))) ?_ (by omega) hgc hgm ?_ (put_len L x _ hk) ?_, ?_, .inr (by omega)⟩
        · rw [hw]
          have := heap_alloc_new (w.alloc (tX1 x)).drew (.cells ((sv L ++ [Value.string x]).toArray ++ Builtin.zeroCells (Value.string ⟨#[]⟩).cells (C - (L.length + 1))) (Tryz.lays22_ren.t 9))
          rw [show (w.alloc (tX1 x)).drew.heap.size = w.heap.size + 1 from hz] at this
          exact this
        · rw [Array.size_append, size_zeroCells]
          show (sv L ++ [Value.string x]).toArray.size + (C - (L.length + 1)) * 1 = C
          simp
          omega
        · intro j hj
          rw [Array.getElem?_append_left (by simp; omega), hvl _ j hj hk]
          by_cases h1 : j < L.length
          · rw [if_pos h1, List.getElem?_toArray, List.getElem?_append_left (by simpa using h1)]
          · obtain rfl : j = L.length := by omega
            rw [if_neg (by omega), if_pos rfl, List.getElem?_toArray, List.getElem?_append_right (by simp)]
            simp
        · rw [hw]
          exact ((Kp.refl _ w).alloc _).drew.alloc _
      · have hkl : k < L.length := by omega
        refine (Any2.slices_Insert_string_grow Tryz.lays22 g 0 L.length L.length k w.heap.size 0 1 1 (sv L) [.string x] (w.alloc (tX1 x)) hkl (by omega) (by omega) (by omega) (by omega) hcl rfl hcsv hvs (sv_one L) h1v).mono ?_
        rintro e w' ⟨he, hw⟩
        rw [hz] at he hw
        obtain ⟨C, hC⟩ : ∃ C, C = grownCap (w.alloc (tX1 x)) (L.length + 1) L.length (Tryz.lays22_ren.t 9) := ⟨_, rfl⟩
        have hgc : L.length + 1 ≤ C := by rw [hC]; exact grownCap_ge _ _ _ _
        have hgm : C ≤ maxLen := by rw [hC]; exact grownCap_le_maxLen _ _ _ _ (by omega)
        rw [← hC] at he hw
        obtain ⟨A, hA⟩ : ∃ A, A = ((sv L).take k).toArray ++ Builtin.zeroCells (Value.string ⟨#[]⟩).cells (L.length + 1 - k) ++ Builtin.zeroCells (Value.string ⟨#[]⟩).cells (C - (L.length + 1)) := ⟨_, rfl⟩
        have hAs : A.size = C := by
          rw [hA, Array.size_append, Array.size_append, size_zeroCells, size_zeroCells]
          show ((sv L).take k).toArray.size + (L.length + 1 - k) * 1 + (C - (L.length + 1)) * 1 = C
          simp
          omega
        rw [← hA] at hw
        have hgN : ((w.alloc (tX1 x)).alloc (.cells A (Tryz.lays22_ren.t 9))).heap[w.heap.size + 1]? = some (.cells A 9 (0, 0)) := by
          have := heap_alloc_new (w.alloc (tX1 x)) (.cells A (Tryz.lays22_ren.t 9))
          rw [hz] at this
          exact this
        obtain ⟨r1, r2, r3, r4⟩ := setCells_rest [.string x] ((w.alloc (tX1 x)).alloc (.cells A (Tryz.lays22_ren.t 9))).drew (w.heap.size + 1) k
        obtain ⟨u1, u2, u3, u4⟩ := setCells_rest ((sv L).drop k) (((w.alloc (tX1 x)).alloc (.cells A (Tryz.lays22_ren.t 9))).drew.setCells (w.heap.size + 1) k [.string x]).drew (w.heap.size + 1) (k + 1)
        refine ⟨w.heap.size + 1, C, he, own_at (A := wrA (wrA A k [.string x]) (k + 1) ((sv L).drop k)) (by rw [hw]; exact heap_setCells _ _ _ _ _ _ _ (heap_setCells _ _ _ _ _ _ _ hgN)) (by omega) hgc hgm (by rw [wrA_size, wrA_size]; exact hAs) (put_len L x _ hk) ?_, kp_of (by rw [hw, u2]; exact r2) (by rw [hw, u3]; exact r3) (by rw [hw, u4]; exact r4) (by rw [hw, u1]; show _ ≤ (World.setCells _ _ _ _).heap.size; rw [r1]; show _ ≤ ((w.alloc (tX1 x)).alloc _).heap.size; simp; omega) ?_, .inr (by omega)⟩
        · intro j hj
          rw [wrA_get _ _ _ _ (by rw [wrA_size]; simp; omega), wrA_get _ _ _ _ (by simp; omega), hvl _ j hj hk]
          by_cases h1 : j < k
          · rw [if_neg (by omega), if_neg (by omega), if_pos h1, hA, Array.getElem?_append_left (by simp; omega), Array.getElem?_append_left (by simp; omega), List.getElem?_toArray, List.getElem?_take, if_pos h1]
          · by_cases h2 : j = k
            · subst h2
              rw [if_neg (by omega), if_pos (by simp), if_neg (by omega), if_pos rfl, Nat.sub_self]
              rfl
            · rw [if_pos (by simp; omega), if_neg h1, if_neg h2, List.getElem?_drop, show k + (j - (k + 1)) = j - 1 by omega]
        · intro i hi hm
          have hne : i ≠ w.heap.size + 1 := by omega
          rw [hw, heap_setCells_ne _ _ _ _ _ hne]
          show (World.setCells _ _ _ _).heap[i]? = _
          rw [heap_setCells_ne _ _ _ _ _ hne]
          show ((w.alloc (tX1 x)).alloc _).heap[i]? = _
          rw [Below.heap_alloc _ _ _ (by omega)]
          exact Below.heap_alloc _ _ _ hi
end Go.Proofs.YtbciclnffokjjaaGreatDoor
/- Words: a stock and one text more. -/
namespace Go.Proofs.YtbciclnffokjjaaGreatDoor
open Go.RowKit

theorem kp_drewN (M : Nat → Prop) (w : World) : ∀ q, Kp M w (w.drewN q)
  | 0 => Kp.refl M w
  | q + 1 => (kp_drewN M w q).drew
theorem search_row (w : World) (S : Nat) (v : Value) (L : List ByteArray) (x : ByteArray) (hs : Srt L) (hn : L.length ≤ 64) (o : w.ownsRow S 9 1 v L.length (sv L)) :
    Calls Tryz.prog 68 #[v, .string x] w fun e w' => e = .returned (.tuple #[.int .i64 (ahd L x : Nat), .bool (decide (L[ahd L x]? = some x))]) ∧ Kp (fun _ => False) w w' := by
  rcases o.2 with ⟨rfl, h0⟩ | ⟨g, cap, cur, rfl, hSg, hg, hnc, hcm, hcs, hct⟩
  · have hL : L = [] := List.eq_nil_of_length_eq_zero h0
    subst hL
    exact (Any2.slices_BinarySearch_string_empty Tryz.lays26 none 0 x w).mono fun e w' ⟨h1, h2⟩ => ⟨h1, by rw [h2]; exact Kp.refl _ _⟩
  · rw [Nat.mul_one] at hcs hct
    have key : Lib.bsGo (fun t => Op.bytesLess (L.getD t x).toList x.toList) L.length 0 L.length = ahd L x := by
      refine Lib.bsGo_spec _ (ahd L x) (fun t ht => ?_) (fun t ht => ?_) _ _ _ (by omega) (Nat.zero_le _) (ahd_le L x)
      · have hl := ahd_le L x
        obtain ⟨y, hy⟩ : ∃ y, L[t]? = some y := ⟨_, List.getElem?_eq_getElem (by omega)⟩
        have := ahd_lt ht hy
        rw [List.getD_eq_getElem?_getD, hy]
        exact this
      · by_cases hl : t < L.length
        · obtain ⟨y, hy⟩ : ∃ y, L[t]? = some y := ⟨_, List.getElem?_eq_getElem hl⟩
          have := ahd_ge hs ht hy
          rw [List.getD_eq_getElem?_getD, hy]
          exact this
        · rw [List.getD_eq_getElem?_getD, List.getElem?_eq_none (by omega)]
          exact tl_irr x
    refine (Any2.slices_BinarySearch_string Tryz.lays26 g 0 L.length cap (fun t => L.getD t x) x w (by omega) (fun j hj => ?_)).mono ?_
    · have hc : w.cell? ⟨g, 0 + j, none⟩ = cur[j]? := by
        unfold World.cell?
        rw [Nat.zero_add]
        dsimp only
        rw [hg]
        rfl
      have h1 : cur[j]? = (sv L)[j]? := by
        rw [← hct, List.getElem?_take, if_pos hj]
        simp
      rw [hc, h1, sv_get, List.getElem?_eq_getElem hj, List.getD_eq_getElem?_getD, List.getElem?_eq_getElem hj]
      rfl
    · rintro e w' ⟨he, q, hw⟩
      rw [key] at he
      refine ⟨?_, by rw [hw]; exact kp_drewN _ _ _⟩
      rw [he]
      have : decide (ahd L x < L.length ∧ L.getD (ahd L x) x = x) = decide (L[ahd L x]? = some x) := by
        apply decide_eq_decide.2
        constructor
        · rintro ⟨h1, h2⟩
          rw [List.getD_eq_getElem?_getD, List.getElem?_eq_getElem h1] at h2
          rw [List.getElem?_eq_getElem h1]
          exact congrArg some h2
        · intro h
          obtain ⟨h1, h2⟩ := List.getElem?_eq_some_iff.1 h
          exact ⟨h1, by rw [List.getD_eq_getElem?_getD, h]; rfl⟩
      rw [this]
/-- A stock in memory. -/
abbrev kX (v : Value) (m : Bool) : Obj := .cells #[v, .bool m] 34
def SkV (S : Nat) (w : World) (B : Nat) (v : Value) (r : Sto) : Prop :=
  (r = none ∧ v = .slice none 0 0 ∧ w.heap[B]? = some (kX v true)) ∨ ∃ L, r = some L ∧ w.heap[B]? = some (kX v false) ∧ w.ownsRow S 9 1 v L.length (sv L)
theorem SkV.lt {S : Nat} {w : World} {B : Nat} {v : Value} {r : Sto} (h : SkV S w B v r) : B < w.heap.size := by
  rcases h with ⟨_, _, h⟩ | ⟨_, _, h, _⟩
  · exact (Array.getElem?_eq_some_iff.1 h).1
  · exact (Array.getElem?_eq_some_iff.1 h).1
theorem SkV.apart {S : Nat} {w : World} {B : Nat} {v : Value} {r : Sto} (h : SkV S w B v r) : v.ownBlock ≠ some B := by
  rcases h with ⟨_, rfl, _⟩ | ⟨L, _, hb, ho⟩
  · simp [Value.ownBlock]
  · rcases ho.2 with ⟨rfl, _⟩ | ⟨g, cap, cur, rfl, _, hg, _⟩
    · simp [Value.ownBlock]
    · intro e
      have : g = B := by simpa [Value.ownBlock] using e
      subst this
      rw [hg] at hb
      cases hb
theorem SkV.kp {S : Nat} {w w' : World} {B : Nat} {v : Value} {r : Sto} {M : Nat → Prop} (h : SkV S w B v r) (k : Kp M w w') (hB : ¬ M B) (hv : ∀ i, v.ownBlock = some i → ¬ M i) : SkV S w' B v r := by
  have hl := h.lt
  rcases h with ⟨h1, h2, h3⟩ | ⟨L, h1, h2, h3⟩
  · exact .inl ⟨h1, h2, (k.block B hl hB).trans h3⟩
  · exact .inr ⟨L, h1, (k.block B hl hB).trans h2, k.row h3 hv⟩
theorem kx_cells {w : World} {B : Nat} {v : Value} {m : Bool} (h : w.heap[B]? = some (kX v m)) : w.cell? ⟨B, 0, none⟩ = some v ∧ w.cell? ⟨B, 1, none⟩ = some (.bool m) ∧ w.frozen? ⟨B, 0, none⟩ = false ∧ w.frozen? ⟨B, 1, none⟩ = false := by
  refine ⟨?_, ?_, ?_, ?_⟩
  · unfold World.cell?; rw [h]; rfl
  · unfold World.cell?; rw [h]; rfl
  · unfold World.frozen?; rw [h]; rfl
  · unfold World.frozen?; rw [h]; rfl
/-- What a call that adds to a stock leaves. -/
def AddP (S B : Nat) (v : Value) (r' : Sto) (w : World) (e : Ending) (w' : World) : Prop := e = .returned (.tuple #[]) ∧ (∃ v', SkV S w' B v' r' ∧ Sub w v v') ∧ Kp (Mv B v) w w'

set_option maxHeartbeats 2000000 in
set_option maxRecDepth 100000 in
theorem add_any (S B : Nat) (v : Value) (r : Sto) (x : ByteArray) (w : World) (h : SkV S w B v r) (hr : r.ok) (hS : S ≤ w.heap.size) :
    Calls Tryz.prog 51 #[.pointer (some ⟨B, 0, none⟩), .string x] w (AddP S B v (addS r x) w) := by
  rcases h with ⟨rfl, rfl, hb⟩ | ⟨L, rfl, hb, ho⟩
  · have kS := search_row w 0 (.slice none 0 0) [] x List.Pairwise.nil (by decide) ⟨rfl, .inl ⟨rfl, rfl⟩⟩
    obtain ⟨c0, c1, z0, z1⟩ := kx_cells hb
    have HB : Hid (w.heap[B]? = some (kX (.slice none 0 0) true)) := hb
    have hBl := (Array.getElem?_eq_some_iff.1 hb).1
    have HF : Hid (∀ w1, Kp (fun _ => False) w w1 → w1.heap[B]? = some (kX (.slice none 0 0) true)) := fun w1 k => (k.block B hBl id).trans hb
    clear hb hr
    go_enter Tryz.func51, Tryz.ntmps51
    go_wp2_with fail
    go_fit kS
    rintro e w1 ⟨rfl, k1⟩
    have hb1 := HF.out w1 k1
    obtain ⟨d0, d1, _, _⟩ := kx_cells hb1
    have HP : Hid (AddP S B (.slice none 0 0) (addS none x) w (.returned (.tuple #[])) w1) := ⟨rfl, ⟨_, .inl ⟨rfl, rfl, hb1⟩, fun i e _ => e⟩, k1.mono (fun i _ e => e.elim)⟩
    clear k1 hb1 HF kS
    go_wp2
    go_end0
    exact HP.out
  · obtain ⟨hs, hn⟩ := hr L rfl
    have hap : v.ownBlock ≠ some B := SkV.apart (S := S) (.inr ⟨L, rfl, hb, ho⟩ : SkV S w B v (some L))
    have kS := search_row w S v L x hs hn ho
    have hBl := (Array.getElem?_eq_some_iff.1 hb).1
    have HF : Hid (∀ w1, Kp (fun _ => False) w w1 → w1.heap[B]? = some (kX v false) ∧ w1.ownsRow S 9 1 v L.length (sv L)) := fun w1 k => ⟨(k.block B hBl id).trans hb, k.row ho (fun _ _ => id)⟩
    obtain ⟨a, c, hv⟩ : ∃ a c, v = .slice a L.length c := by
      rcases ho.2 with ⟨h1, h2⟩ | ⟨g, cap, cur, h1, _⟩
      · exact ⟨none, 0, by rw [h1, h2]⟩
      · exact ⟨_, cap, h1⟩
    obtain ⟨c0, c1, z0, z1⟩ := kx_cells hb
    have hkl := ahd_le L x
    by_cases hx : L[ahd L x]? = some x
    · have he : addS (some L) x = some L := by unfold addS; simp [hx]
      rw [he]
      rw [decide_eq_true hx] at kS
      have HAP : Hid (∀ w1, Kp (fun _ => False) w w1 → AddP S B v (some L) w (.returned (.tuple #[])) w1) := fun w1 k => ⟨rfl, ⟨v, .inr ⟨L, rfl, HF.out w1 k⟩, fun _ h _ => h⟩, k.mono (fun _ _ e => e.elim)⟩
      rw [hv] at kS HF HAP c0 ⊢
      clear hx he hb ho hs hap hv
      generalize ahd L x = K at *
      go_enter Tryz.func51, Tryz.ntmps51
      go_wp2_with fail
      go_fit kS
      rintro e w1 ⟨rfl, k1⟩
      have HP : Hid (AddP S B (.slice a L.length c) (some L) w (.returned (.tuple #[])) w1) := HAP.out w1 k1
      obtain ⟨d0, d1, _, _⟩ := kx_cells (HF.out w1 k1).1
      clear k1 HF kS HAP
      go_wp2
      go_end0
      exact HP.out
    · rw [decide_eq_false hx] at kS
      by_cases h64 : L.length = 64
      · have he : addS (some L) x = none := by unfold addS; simp [hx, h64]
        rw [he]
        have HAP : Hid (∀ w1, Kp (fun _ => False) w w1 → AddP S B v none w (.returned (.tuple #[])) ((w1.setCell ⟨B, 0, none⟩ (.slice none 0 0)).setCell ⟨B, 1, none⟩ (.bool true))) := fun w1 k => ⟨rfl, ⟨.slice none 0 0, .inl ⟨rfl, rfl, by
          have := (HF.out w1 k).1
          simp [World.setCell, Array.getElem?_modify, this]⟩, fun i e _ => by cases e⟩, ((k.mono (fun _ _ e => e.elim)).setCell (p := ⟨B, 0, none⟩) (.inl rfl) _).setCell (p := ⟨B, 1, none⟩) (.inl rfl) _⟩
        have h64' : ((L.length : Int) == 64) = true := by rw [h64]; rfl
        rw [hv] at kS HF HAP c0 ⊢
        clear hx he hb ho hs hap hv h64
        generalize ahd L x = K at *
        generalize L.length = N at *
        go_enter Tryz.func51, Tryz.ntmps51
        go_wp2_with fail
        go_fit kS
        rintro e w1 ⟨rfl, k1⟩
        have HP : Hid (AddP S B (.slice a N c) none w (.returned (.tuple #[])) ((w1.setCell ⟨B, 0, none⟩ (.slice none 0 0)).setCell ⟨B, 1, none⟩ (.bool true))) := HAP.out w1 k1
        obtain ⟨d0, d1, y0, y1⟩ := kx_cells (HF.out w1 k1).1
        clear k1 HF kS HAP
        go_wp2
        go_end0
        exact HP.out
      · have he : addS (some L) x = some (insS L x) := by unfold addS; simp [hx, h64]
        rw [he]
        have HI : Hid (∀ w1, Kp (fun _ => False) w w1 → Calls Tryz.prog 69 #[v, .int .i64 (ahd L x : Nat), .slice (some ⟨w1.heap.size, 0, none⟩) 1 1] (w1.alloc (tX1 x)) fun e w2 => ∃ g c, e = .returned (.slice (some ⟨g, 0, none⟩) (L.length + 1) c) ∧ (w2.cell? ⟨B, 0, none⟩ = some v ∧ w2.frozen? ⟨B, 0, none⟩ = false) ∧ Hid (AddP S B v (some (insS L x)) w (.returned (.tuple #[])) (w2.setCell ⟨B, 0, none⟩ (.slice (some ⟨g, 0, none⟩) (L.length + 1) c)))) := fun w1 k => by
          have hk := HF.out w1 k
          refine (insert_row w1 S v L x (ahd L x) hkl (Nat.le_trans hS k.size) hn hk.2).mono ?_
          rintro e w2 ⟨g, c, he, hrow, hkp, hg⟩
          have hB2 : w2.heap[B]? = some (kX v false) := (hkp.block B (Nat.lt_of_lt_of_le hBl k.size) hap).trans hk.1
          obtain ⟨e0, _, e1, _⟩ := kx_cells hB2
          have hgB : g ≠ B := fun e => by
            rcases hg with hg | hg
            · exact hap (by rw [hg, e])
            · have := k.size; omega
          have kset : Kp (fun i => i = B) w2 (w2.setCell ⟨B, 0, none⟩ (.slice (some ⟨g, 0, none⟩) (L.length + 1) c)) := (Kp.refl (fun i => i = B) w2).setCell (p := ⟨B, 0, none⟩) (show B = B from rfl) _
          refine ⟨g, c, he, ⟨e0, e1⟩, rfl, ⟨.slice (some ⟨g, 0, none⟩) (L.length + 1) c, .inr ⟨insS L x, rfl, by simp [World.setCell, Array.getElem?_modify, hB2], ?_⟩, ?_⟩, ?_⟩
          · rw [ins_len]
            exact kset.row hrow (fun i e => by simpa [Value.ownBlock] using fun h => hgB (by simpa [Value.ownBlock, h] using e))
          · intro i e hi
            have hgi : g = i := by simpa [Value.ownBlock] using e
            rcases hg with hg | hg
            · rw [← hgi]; exact hg
            · have := k.size; omega
          · exact (((k.mono (fun _ _ e => e.elim)).trans (hkp.mono (fun _ _ e => .inr e)))).trans (kset.mono (fun _ _ e => .inl e))
        have h64' : ((L.length : Int) == 64) = false := by
          rw [beq_eq_false_iff_ne]
          omega
        have hnI : (L.length : Int) ≤ 64 := by omega
        rw [hv] at kS HF HI c0 ⊢
        clear hx he hb ho hs hap hv h64
        generalize ahd L x = K at *
        generalize insS L x = IL at *
        generalize L.length = N at *
        go_enter Tryz.func51, Tryz.ntmps51
        go_wp2_with fail
        go_fit kS
        rintro e w1 ⟨rfl, k1⟩
        have kI := HI.out w1 k1
        obtain ⟨d0, d1, y0, y1⟩ := kx_cells (HF.out w1 k1).1
        clear k1 HF kS HI
        go_wp2_with fail
        go_fit kI
        rintro e w2 ⟨g, cc, rfl, ⟨e0, e1⟩, HP⟩
        clear kI
        go_wp2
        go_end0
        exact HP.out
end Go.Proofs.YtbciclnffokjjaaGreatDoor
