/- A bundle of texts. -/
import Derived.Test.YtbciclnffokjjaaBk39
import Derived.WalkKit
import Derived.Deep.DeepFit
import Derived.Deep.Cut
/- Words: a stock and one text more. -/
namespace Go.Proofs.Ytbciclnffokjjaa
open Go.RowKit

theorem kp_drewN (M : Nat → Prop) (w : World) : ∀ q, Kp M w (w.drewN q)
  | 0 => Kp.refl M w
  | q + 1 => (kp_drewN M w q).drew
theorem search_row (w : World) (S : Nat) (v : Value) (L : List ByteArray) (x : ByteArray) (hs : Srt L) (hn : L.length ≤ 64) (o : w.ownsRow S 9 1 v L.length (sv L)) :
    Calls Try.prog 96 #[v, .string x] w fun e w' => e = .returned (.tuple #[.int .i64 (ahd L x : Nat), .bool (decide (L[ahd L x]? = some x))]) ∧ Kp (fun _ => False) w w' := by
  rcases o.2 with ⟨rfl, h0⟩ | ⟨g, cap, cur, rfl, hSg, hg, hnc, hcm, hcs, hct⟩
  · have hL : L = [] := List.eq_nil_of_length_eq_zero h0
    subst hL
    exact (Any2.slices_BinarySearch_string_empty Try.lays26 none 0 x w).mono fun e w' ⟨h1, h2⟩ => ⟨h1, by rw [h2]; exact Kp.refl _ _⟩
  · rw [Nat.mul_one] at hcs hct
    have key : Lib.bsGo (fun t => Op.bytesLess (L.getD t x).toList x.toList) L.length 0 L.length = ahd L x := by
      refine Lib.bsGo_spec _ (ahd L x) (fun t ht => ?_) (fun t ht => ?_) _ _ _ (by omega) (Nat.zero_le _) (ahd_le L x)
      · have hl := ahd_le L x
        obtain ⟨y, hy⟩ : ∃ y, L[t]? = some y := ⟨_, List.getElem?_eq_getElem (by omega)⟩
        have := ahd_lt ht hy
        rw [List.getD_eq_getElem?_getD, hy]
        exact this
      · by_cases hl : t < L.length
        · obtain ⟨y, hy⟩ : ∃ y, L[t]? = some y := ⟨_, List.getElem?_eq_getElem hl⟩
          have := ahd_ge hs ht hy
          rw [List.getD_eq_getElem?_getD, hy]
          exact this
        · rw [List.getD_eq_getElem?_getD, List.getElem?_eq_none (by omega)]
          exact tl_irr x
    refine (Any2.slices_BinarySearch_string Try.lays26 g 0 L.length cap (fun t => L.getD t x) x w (by omega) (fun j hj => ?_)).mono ?_
    · have hc : w.cell? ⟨g, 0 + j, none⟩ = cur[j]? := by
        unfold World.cell?
        rw [Nat.zero_add]
        dsimp only
        rw [hg]
        rfl
      have h1 : cur[j]? = (sv L)[j]? := by
        rw [← hct, List.getElem?_take, if_pos hj]
        simp
      rw [hc, h1, sv_get, List.getElem?_eq_getElem hj, List.getD_eq_getElem?_getD, List.getElem?_eq_getElem hj]
      rfl
    · rintro e w' ⟨he, q, hw⟩
      rw [key] at he
      refine ⟨?_, by rw [hw]; exact kp_drewN _ _ _⟩
      rw [he]
      have : decide (ahd L x < L.length ∧ L.getD (ahd L x) x = x) = decide (L[ahd L x]? = some x) := by
        apply decide_eq_decide.2
        constructor
        · rintro ⟨h1, h2⟩
          rw [List.getD_eq_getElem?_getD, List.getElem?_eq_getElem h1] at h2
          rw [List.getElem?_eq_getElem h1]
          exact congrArg some h2
        · intro h
          obtain ⟨h1, h2⟩ := List.getElem?_eq_some_iff.1 h
          exact ⟨h1, by rw [List.getD_eq_getElem?_getD, h]; rfl⟩
      rw [this]
/-- A stock in memory. -/
abbrev kX (v : Value) (m : Bool) : Obj := .cells #[v, .bool m] 75
def SkV (S : Nat) (w : World) (B : Nat) (v : Value) (r : Sto) : Prop :=
  (r = none ∧ v = .slice none 0 0 ∧ w.heap[B]? = some (kX v true)) ∨ ∃ L, r = some L ∧ w.heap[B]? = some (kX v false) ∧ w.ownsRow S 9 1 v L.length (sv L)
theorem SkV.lt {S : Nat} {w : World} {B : Nat} {v : Value} {r : Sto} (h : SkV S w B v r) : B < w.heap.size := by
  rcases h with ⟨_, _, h⟩ | ⟨_, _, h, _⟩
  · exact (Array.getElem?_eq_some_iff.1 h).1
  · exact (Array.getElem?_eq_some_iff.1 h).1
theorem SkV.apart {S : Nat} {w : World} {B : Nat} {v : Value} {r : Sto} (h : SkV S w B v r) : v.ownBlock ≠ some B := by
  rcases h with ⟨_, rfl, _⟩ | ⟨L, _, hb, ho⟩
  · simp [Value.ownBlock]
  · rcases ho.2 with ⟨rfl, _⟩ | ⟨g, cap, cur, rfl, _, hg, _⟩
    · simp [Value.ownBlock]
    · intro e
      have : g = B := by simpa [Value.ownBlock] using e
      subst this
      rw [hg] at hb
      cases hb
theorem SkV.kp {S : Nat} {w w' : World} {B : Nat} {v : Value} {r : Sto} {M : Nat → Prop} (h : SkV S w B v r) (k : Kp M w w') (hB : ¬ M B) (hv : ∀ i, v.ownBlock = some i → ¬ M i) : SkV S w' B v r := by
  have hl := h.lt
  rcases h with ⟨h1, h2, h3⟩ | ⟨L, h1, h2, h3⟩
  · exact .inl ⟨h1, h2, (k.block B hl hB).trans h3⟩
  · exact .inr ⟨L, h1, (k.block B hl hB).trans h2, k.row h3 hv⟩
theorem kx_cells {w : World} {B : Nat} {v : Value} {m : Bool} (h : w.heap[B]? = some (kX v m)) : w.cell? ⟨B, 0, none⟩ = some v ∧ w.cell? ⟨B, 1, none⟩ = some (.bool m) ∧ w.frozen? ⟨B, 0, none⟩ = false ∧ w.frozen? ⟨B, 1, none⟩ = false := by
  refine ⟨?_, ?_, ?_, ?_⟩
  · unfold World.cell?; rw [h]; rfl
  · unfold World.cell?; rw [h]; rfl
  · unfold World.frozen?; rw [h]; rfl
  · unfold World.frozen?; rw [h]; rfl
/-- What a call that adds to a stock leaves. -/
def AddP (S B : Nat) (v : Value) (r' : Sto) (w : World) (e : Ending) (w' : World) : Prop := e = .returned (.tuple #[]) ∧ (∃ v', SkV S w' B v' r' ∧ Sub w v v') ∧ Kp (Mv B v) w w'

set_option maxHeartbeats 2000000 in
set_option maxRecDepth 100000 in
theorem add_any (S B : Nat) (v : Value) (r : Sto) (x : ByteArray) (w : World) (h : SkV S w B v r) (hr : r.ok) (hS : S ≤ w.heap.size) :
    Calls Try.prog 82 #[.pointer (some ⟨B, 0, none⟩), .string x] w (AddP S B v (addS r x) w) := by
  rcases h with ⟨rfl, rfl, hb⟩ | ⟨L, rfl, hb, ho⟩
  · have kS := search_row w 0 (.slice none 0 0) [] x List.Pairwise.nil (by decide) ⟨rfl, .inl ⟨rfl, rfl⟩⟩
    obtain ⟨c0, c1, z0, z1⟩ := kx_cells hb
    have HB : Hid (w.heap[B]? = some (kX (.slice none 0 0) true)) := hb
    have hBl := (Array.getElem?_eq_some_iff.1 hb).1
    have HF : Hid (∀ w1, Kp (fun _ => False) w w1 → w1.heap[B]? = some (kX (.slice none 0 0) true)) := fun w1 k => (k.block B hBl id).trans hb
    clear hb hr
    go_enter Try.func82, Try.ntmps82
    go_wp2_with fail
    go_fit kS
    rintro e w1 ⟨rfl, k1⟩
    have hb1 := HF.out w1 k1
    obtain ⟨d0, d1, _, _⟩ := kx_cells hb1
    have HP : Hid (AddP S B (.slice none 0 0) (addS none x) w (.returned (.tuple #[])) w1) := ⟨rfl, ⟨_, .inl ⟨rfl, rfl, hb1⟩, fun i e _ => e⟩, k1.mono (fun i _ e => e.elim)⟩
    clear k1 hb1 HF kS
    go_wp2
    go_end0
    exact HP.out
  · obtain ⟨hs, hn⟩ := hr L rfl
    have hap : v.ownBlock ≠ some B := SkV.apart (S := S) (.inr ⟨L, rfl, hb, ho⟩ : SkV S w B v (some L))
    have kS := search_row w S v L x hs hn ho
    have hBl := (Array.getElem?_eq_some_iff.1 hb).1
    have HF : Hid (∀ w1, Kp (fun _ => False) w w1 → w1.heap[B]? = some (kX v false) ∧ w1.ownsRow S 9 1 v L.length (sv L)) := fun w1 k => ⟨(k.block B hBl id).trans hb, k.row ho (fun _ _ => id)⟩
    obtain ⟨a, c, hv⟩ : ∃ a c, v = .slice a L.length c := by
      rcases ho.2 with ⟨h1, h2⟩ | ⟨g, cap, cur, h1, _⟩
      · exact ⟨none, 0, by rw [h1, h2]⟩
      · exact ⟨_, cap, h1⟩
    obtain ⟨c0, c1, z0, z1⟩ := kx_cells hb
    have hkl := ahd_le L x
    by_cases hx : L[ahd L x]? = some x
    · have he : addS (some L) x = some L := by unfold addS; simp [hx]
      rw [he]
      rw [decide_eq_true hx] at kS
      have HAP : Hid (∀ w1, Kp (fun _ => False) w w1 → AddP S B v (some L) w (.returned (.tuple #[])) w1) := fun w1 k => ⟨rfl, ⟨v, .inr ⟨L, rfl, HF.out w1 k⟩, fun _ h _ => h⟩, k.mono (fun _ _ e => e.elim)⟩
      rw [hv] at kS HF HAP c0 ⊢
      clear hx he hb ho hs hap hv
      generalize ahd L x = K at *
      go_enter Try.func82, Try.ntmps82
      go_wp2_with fail
      go_fit kS
      rintro e w1 ⟨rfl, k1⟩
      have HP : Hid (AddP S B (.slice a L.length c) (some L) w (.returned (.tuple #[])) w1) := HAP.out w1 k1
      obtain ⟨d0, d1, _, _⟩ := kx_cells (HF.out w1 k1).1
      clear k1 HF kS HAP
      go_wp2
      go_end0
      exact HP.out
    · rw [decide_eq_false hx] at kS
      by_cases h64 : L.length = 64
      · have he : addS (some L) x = none := by unfold addS; simp [hx, h64]
        rw [he]
        have HAP : Hid (∀ w1, Kp (fun _ => False) w w1 → AddP S B v none w (.returned (.tuple #[])) ((w1.setCell ⟨B, 0, none⟩ (.slice none 0 0)).setCell ⟨B, 1, none⟩ (.bool true))) := fun w1 k => ⟨rfl, ⟨.slice none 0 0, .inl ⟨rfl, rfl, by
          have := (HF.out w1 k).1
          simp [World.setCell, Array.getElem?_modify, this]⟩, fun i e _ => by cases e⟩, ((k.mono (fun _ _ e => e.elim)).setCell (p := ⟨B, 0, none⟩) (.inl rfl) _).setCell (p := ⟨B, 1, none⟩) (.inl rfl) _⟩
        have h64' : ((L.length : Int) == 64) = true := by rw [h64]; rfl
        rw [hv] at kS HF HAP c0 ⊢
        clear hx he hb ho hs hap hv h64
        generalize ahd L x = K at *
        generalize L.length = N at *
        go_enter Try.func82, Try.ntmps82
        go_wp2_with fail
        go_fit kS
        rintro e w1 ⟨rfl, k1⟩
        have HP : Hid (AddP S B (.slice a N c) none w (.returned (.tuple #[])) ((w1.setCell ⟨B, 0, none⟩ (.slice none 0 0)).setCell ⟨B, 1, none⟩ (.bool true))) := HAP.out w1 k1
        obtain ⟨d0, d1, y0, y1⟩ := kx_cells (HF.out w1 k1).1
        clear k1 HF kS HAP
        go_wp2
        go_end0
        exact HP.out
      · have he : addS (some L) x = some (insS L x) := by unfold addS; simp [hx, h64]
        rw [he]
        have HI : Hid (∀ w1, Kp (fun _ => False) w w1 → Calls Try.prog 97 #[v, .int .i64 (ahd L x : Nat), .slice (some ⟨w1.heap.size, 0, none⟩) 1 1] (w1.alloc (tX1 x)) fun e w2 => ∃ g c, e = .returned (.slice (some ⟨g, 0, none⟩) (L.length + 1) c) ∧ (w2.cell? ⟨B, 0, none⟩ = some v ∧ w2.frozen? ⟨B, 0, none⟩ = false) ∧ Hid (AddP S B v (some (insS L x)) w (.returned (.tuple #[])) (w2.setCell ⟨B, 0, none⟩ (.slice (some ⟨g, 0, none⟩) (L.length + 1) c)))) := fun w1 k => by
          have hk := HF.out w1 k
          refine (insert_row w1 S v L x (ahd L x) hkl (Nat.le_trans hS k.size) hn hk.2).mono ?_
          rintro e w2 ⟨g, c, he, hrow, hkp, hg⟩
          have hB2 : w2.heap[B]? = some (kX v false) := (hkp.block B (Nat.lt_of_lt_of_le hBl k.size) hap).trans hk.1
          obtain ⟨e0, _, e1, _⟩ := kx_cells hB2
          have hgB : g ≠ B := fun e => by
            rcases hg with hg | hg
            · exact hap (by rw [hg, e])
            · have := k.size; omega
          have kset : Kp (fun i => i = B) w2 (w2.setCell ⟨B, 0, none⟩ (.slice (some ⟨g, 0, none⟩) (L.length + 1) c)) := (Kp.refl (fun i => i = B) w2).setCell (p := ⟨B, 0, none⟩) (show B = B from rfl) _
          refine ⟨g, c, he, ⟨e0, e1⟩, rfl, ⟨.slice (some ⟨g, 0, none⟩) (L.length + 1) c, .inr ⟨insS L x, rfl, by simp [World.setCell, Array.getElem?_modify, hB2], ?_⟩, ?_⟩, ?_⟩
          · rw [ins_len]
            exact kset.row hrow (fun i e => by simpa [Value.ownBlock] using fun h => hgB (by simpa [Value.ownBlock, h] using e))
          · intro i e hi
            have hgi : g = i := by simpa [Value.ownBlock] using e
            rcases hg with hg | hg
            · rw [← hgi]; exact hg
            · have := k.size; omega
          · exact (((k.mono (fun _ _ e => e.elim)).trans (hkp.mono (fun _ _ e => .inr e)))).trans (kset.mono (fun _ _ e => .inl e))
        have h64' : ((L.length : Int) == 64) = false := by
          rw [beq_eq_false_iff_ne]
          omega
        have hnI : (L.length : Int) ≤ 64 := by omega
        rw [hv] at kS HF HI c0 ⊢
        clear hx he hb ho hs hap hv h64
        generalize ahd L x = K at *
        generalize insS L x = IL at *
        generalize L.length = N at *
        go_enter Try.func82, Try.ntmps82
        go_wp2_with fail
        go_fit kS
        rintro e w1 ⟨rfl, k1⟩
        have kI := HI.out w1 k1
        obtain ⟨d0, d1, y0, y1⟩ := kx_cells (HF.out w1 k1).1
        clear k1 HF kS HI
        go_wp2_with fail
        go_fit kI
        rintro e w2 ⟨g, cc, rfl, ⟨e0, e1⟩, HP⟩
        clear kI
        go_wp2
        go_end0
        exact HP.out
end Go.Proofs.Ytbciclnffokjjaa
/- Words: the empty text; isNone, grows; a stock added to a stock. -/
namespace Go.Proofs.Ytbciclnffokjjaa
open Go.RowKit

/-- A stock as a value. -/
def StV (S : Nat) (w : World) (v : Value) (m : Bool) (r : Sto) : Prop := (r = none ∧ v = .slice none 0 0 ∧ m = true) ∨ ∃ L, r = some L ∧ m = false ∧ w.ownsRow S 9 1 v L.length (sv L)
abbrev kV (v : Value) (m : Bool) : Value := .agg #[v, .bool m]
theorem StV.of {S : Nat} {w : World} {B : Nat} {v : Value} {r : Sto} (h : SkV S w B v r) : ∃ m, w.heap[B]? = some (kX v m) ∧ StV S w v m r := by
  rcases h with ⟨h1, h2, h3⟩ | ⟨L, h1, h2, h3⟩
  · exact ⟨true, h3, .inl ⟨h1, h2, rfl⟩⟩
  · exact ⟨false, h2, .inr ⟨L, h1, rfl, h3⟩⟩
theorem StV.sk {S : Nat} {w : World} {B : Nat} {v : Value} {m : Bool} {r : Sto} (h : StV S w v m r) (hb : w.heap[B]? = some (kX v m)) : SkV S w B v r := by
  rcases h with ⟨h1, h2, rfl⟩ | ⟨L, h1, rfl, h3⟩
  · exact .inl ⟨h1, h2, hb⟩
  · exact .inr ⟨L, h1, hb, h3⟩
theorem StV.kp {S : Nat} {w w' : World} {v : Value} {m : Bool} {r : Sto} {M : Nat → Prop} (h : StV S w v m r) (k : Kp M w w') (hv : ∀ i, v.ownBlock = some i → ¬ M i) : StV S w' v m r := by
  rcases h with h | ⟨L, h1, h2, h3⟩
  · exact .inl h
  · exact .inr ⟨L, h1, h2, k.row h3 hv⟩
theorem StV.form {S : Nat} {w : World} {v : Value} {m : Bool} {r : Sto} (h : StV S w v m r) : ∃ a n c, v = .slice a n c ∧ (∀ L, r = some L → n = L.length) ∧ (r = none → n = 0) := by
  rcases h with ⟨h1, h2, _⟩ | ⟨L, h1, _, h3⟩
  · refine ⟨none, 0, 0, h2, ?_, fun _ => rfl⟩
    intro L e
    rw [h1] at e
    cases e
  · rcases h3.2 with ⟨h4, h5⟩ | ⟨g, cap, cur, h4, _⟩
    · exact ⟨none, L.length, 0, by rw [h4, h5], fun K e => by rw [h1] at e; cases e; rfl, fun e => by rw [h1] at e; cases e⟩
    · exact ⟨_, L.length, cap, h4, fun K e => by rw [h1] at e; cases e; rfl, fun e => by rw [h1] at e; cases e⟩
theorem row_cell {S : Nat} {w : World} {v : Value} {L : List ByteArray} (h : w.ownsRow S 9 1 v L.length (sv L)) {j : Nat} {x : ByteArray} (hj : L[j]? = some x) : ∃ g c, v = .slice (some ⟨g, 0, none⟩) L.length c ∧ w.cell? ⟨g, j, none⟩ = some (.string x) := by
  have hl := (List.getElem?_eq_some_iff.1 hj).1
  rcases h.2 with ⟨_, h0⟩ | ⟨g, cap, cur, rfl, _, hg, _, _, _, hct⟩
  · omega
  · refine ⟨g, cap, rfl, ?_⟩
    have hc : w.cell? ⟨g, j, none⟩ = cur[j]? := by
      unfold World.cell?
      dsimp only
      rw [hg]
      rfl
    rw [Nat.mul_one] at hct
    have h1 : cur[j]? = (sv L)[j]? := by
      rw [← hct, List.getElem?_take, if_pos hl]
      simp
    rw [hc, h1, sv_get, hj]
    rfl
/-- A fresh stock: what was there stays. -/
def NewP (w : World) (r : Sto) (e : Ending) (w' : World) : Prop := (∃ v m, e = .returned (kV v m) ∧ StV w.heap.size w' v m r) ∧ Below w.heap.size w w'
set_option maxHeartbeats 1000000 in
set_option maxRecDepth 100000 in
theorem emptyText_any (w : World) : Calls Try.prog 59 #[] w (NewP w (some [⟨#[]⟩])) := by
  have hW : Below w.heap.size w ((w.alloc (kX (.slice none 0 0) false)).alloc (tX1 ⟨#[]⟩)) := ((Below.refl _ w).alloc (Nat.le_refl _) _).alloc (by simp) _
  go_enter Try.func59, Try.ntmps59
  go_wp2
  have hb : ((w.alloc (kX (.slice (some ⟨w.heap.size + 1, 0, none⟩) 1 1) false)).alloc (tX1 ⟨#[]⟩)).heap[w.heap.size]? = some (kX (.slice (some ⟨w.heap.size + 1, 0, none⟩) 1 1) false) := (Below.heap_alloc _ _ _ (by simp)).trans (heap_alloc_new w _)
  obtain ⟨c0, c1, _, _⟩ := kx_cells hb
  refine bodyPost_ret (v := kV (.slice (some ⟨w.heap.size + 1, 0, none⟩) 1 1) false) (by simp [results, Try.results59, go_sem, c0, c1]) rfl ⟨⟨_, _, rfl, .inr ⟨_, rfl, rfl, own_at (A := #[.string ⟨#[]⟩]) (cap := 1) ?_ (by omega) (by simp) (by unfold maxLen; omega) rfl rfl ?_⟩⟩, ((Below.refl _ w).alloc (Nat.le_refl _) _).alloc (by simp) _⟩
  · have := heap_alloc_new (w.alloc (kX (.slice (some ⟨w.heap.size + 1, 0, none⟩) 1 1) false)) (tX1 ⟨#[]⟩)
    rw [World.size_alloc] at this
    exact this
  · intro j hj
    obtain rfl : j = 0 := by simpa using hj
    rfl
/-- Is a stock empty? -/
def nonS : Sto → Bool
  | some [] => true
  | _ => false
def grwS : Sto → Bool
  | none => true
  | some [] => false
  | some [x] => !x.toList.isEmpty
  | some (_ :: _ :: _) => true
set_option maxHeartbeats 1000000 in
set_option maxRecDepth 100000 in
theorem isNone_any (S B : Nat) (v : Value) (m : Bool) (r : Sto) (w : World) (hb : w.heap[B]? = some (kX v m)) (hs : StV S w v m r) (hr : r.ok) :
    Calls Try.prog 98 #[.pointer (some ⟨B, 0, none⟩)] w fun e w' => e = .returned (.bool (nonS r)) ∧ Below w.heap.size w w' := by
  obtain ⟨c0, c1, _, _⟩ := kx_cells hb
  rcases hs with ⟨rfl, rfl, rfl⟩ | ⟨L, rfl, rfl, ho⟩
  · go_enter Try.func98, Try.ntmps98
    go_wp2
    go_ret
    exact ⟨rfl, Below.refl _ _⟩
  · obtain ⟨a, n, c, rfl, hn, _⟩ := StV.form (.inr ⟨L, rfl, rfl, ho⟩ : StV S w v false (some L))
    have hn := hn L rfl
    subst hn
    have hl := (hr L rfl).2
    cases L with
    | nil =>
      simp only [List.length_nil] at c0
      clear ho hb
      go_enter Try.func98, Try.ntmps98
      go_wp2
      go_ret
      exact ⟨rfl, Below.refl _ _⟩
    | cons x L =>
      have hne : (((x :: L).length : Int) == 0) = false := by rw [beq_eq_false_iff_ne]; simp; omega
      have HE : Hid (nonS (some (x :: L)) = false) := rfl
      clear ho hb
      generalize (x :: L).length = N at *
      go_enter Try.func98, Try.ntmps98
      go_wp2
      go_ret
      exact ⟨by rw [HE.out]; rfl, Below.refl _ _⟩
theorem len_ne (N k : Nat) (h : N ≠ k) : ((N : Int) == (k : Int)) = false := by rw [beq_eq_false_iff_ne]; omega
set_option maxHeartbeats 1000000 in
set_option maxRecDepth 100000 in
theorem grows_any (S B : Nat) (v : Value) (m : Bool) (r : Sto) (w : World) (hb : w.heap[B]? = some (kX v m)) (hs : StV S w v m r) (hr : r.ok) :
    Calls Try.prog 84 #[.pointer (some ⟨B, 0, none⟩)] w fun e w' => e = .returned (.bool (grwS r)) ∧ Below w.heap.size w w' := by
  obtain ⟨c0, c1, _, _⟩ := kx_cells hb
  rcases hs with ⟨rfl, rfl, rfl⟩ | ⟨L, rfl, rfl, ho⟩
  · clear hb
    go_enter Try.func84, Try.ntmps84
    go_wp2
    go_ret
    exact ⟨rfl, Below.refl _ _⟩
  · obtain ⟨a, n, c, rfl, hn, _⟩ := StV.form (.inr ⟨L, rfl, rfl, ho⟩ : StV S w v false (some L))
    have hn := hn L rfl
    subst hn
    have hl := (hr L rfl).2
    cases L with
    | nil =>
      simp only [List.length_nil] at c0
      clear ho hb
      go_enter Try.func84, Try.ntmps84
      go_wp2
      go_ret
      exact ⟨rfl, Below.refl _ _⟩
    | cons x L =>
      cases L with
      | nil =>
        obtain ⟨g, cc, hv, hc⟩ := row_cell ho (j := 0) (x := x) rfl
        cases hv
        simp only [List.length_cons, List.length_nil, Nat.zero_add] at c0
        have HE : Hid (grwS (some [x]) = !x.toList.isEmpty) := rfl
        clear ho hb
        go_enter Try.func84, Try.ntmps84
        go_wp2
        go_ret
        exact ⟨by rw [HE.out]; rfl, Below.refl _ _⟩
      | cons y L =>
        have hne : 1 < ((x :: y :: L).length : Int) := by simp; omega
        have HE : Hid (grwS (some (x :: y :: L)) = true) := rfl
        clear ho hb
        generalize (x :: y :: L).length = N at *
        go_enter Try.func84, Try.ntmps84
        go_wp2
        go_ret
        exact ⟨by rw [HE.out]; rfl, Below.refl _ _⟩
end Go.Proofs.Ytbciclnffokjjaa
/- Words: a stock added to a stock. -/
namespace Go.Proofs.Ytbciclnffokjjaa
open Go.RowKit

def addsS (r : Sto) (L : List ByteArray) : Sto := L.foldl addS r
def allS (r : Sto) : Sto → Sto
  | none => none
  | some L => addsS r L
theorem addsS_ok {r : Sto} (h : r.ok) : ∀ L, (addsS r L).ok := by
  intro L
  induction L generalizing r with
  | nil => exact h
  | cons x L ih => exact ih (addS_ok h x)
theorem addsS_take (r : Sto) (L : List ByteArray) (i : Nat) (x : ByteArray) (h : L[i]? = some x) : addsS r (L.take (i + 1)) = addS (addsS r (L.take i)) x := by
  have : L.take (i + 1) = L.take i ++ [x] := by rw [List.take_add_one, h]; rfl
  unfold addsS
  rw [this, List.foldl_append]
  rfl
theorem none_ok : Sto.ok none := fun L e => by cases e
theorem allS_ok {r rr : Sto} (h : r.ok) : (allS r rr).ok := by
  cases rr with
  | none => exact none_ok
  | some L => exact addsS_ok h L

set_option maxHeartbeats 2000000 in
set_option maxRecDepth 100000 in
theorem addAll_any (S B : Nat) (v : Value) (r : Sto) (S' : Nat) (mv : Value) (mm : Bool) (rr : Sto) (w : World) (h : SkV S w B v r) (hr : r.ok) (hrr : rr.ok) (hS : S ≤ w.heap.size) (hm : StV S' w mv mm rr) (hap : ∀ i, mv.ownBlock = some i → ¬ Mv B v i) :
    Calls Try.prog 62 #[.pointer (some ⟨B, 0, none⟩), kV mv mm] w (AddP S B v (allS r rr) w) := by
  have hBl := h.lt
  obtain ⟨W, hW⟩ : ∃ W, W = w.alloc (kX mv mm) := ⟨_, rfl⟩
  have HW : Hid (W = w.alloc (kX mv mm)) := hW
  have kW : ∀ M, Kp M w W := fun M => by rw [hW]; exact (Kp.refl M w).alloc _
  have hWz : w.heap.size < W.heap.size := by rw [hW]; simp
  have hbox : W.heap[w.heap.size]? = some (kX mv mm) := by rw [hW]; exact heap_alloc_new w _
  have hW1 : SkV S W B v r := h.kp (kW (fun _ => False)) id (fun _ _ => id)
  have hm1 : StV S' W mv mm rr := hm.kp (kW (fun _ => False)) (fun _ _ => id)
  obtain ⟨b0, b1, _, _⟩ := kx_cells hbox
  rcases hm1 with ⟨rfl, rfl, rfl⟩ | ⟨L, rfl, rfl, ho⟩
  · obtain ⟨m0, hb0, hst⟩ := StV.of hW1
    obtain ⟨c0, c1, z0, z1⟩ := kx_cells hb0
    obtain ⟨a, n, c, hv, _, _⟩ := hst.form
    have HP : Hid (AddP S B v (allS r none) w (.returned (.tuple #[])) ((W.setCell ⟨B, 0, none⟩ (.slice none 0 0)).setCell ⟨B, 1, none⟩ (.bool true))) := ⟨rfl, ⟨.slice none 0 0, .inl ⟨rfl, rfl, by simp [World.setCell, Array.getElem?_modify, hb0]⟩, fun i e _ => by cases e⟩, ((kW _).setCell (p := ⟨B, 0, none⟩) (.inl rfl) _).setCell (p := ⟨B, 1, none⟩) (.inl rfl) _⟩
    have hne : ¬ w.heap.size = B := by omega
    rw [hv] at c0
    clear hm hap h hW hbox hW1 hb0 hst kW
    go_enter Try.func62, Try.ntmps62
    go_upto_region 1 with fail
    rw [← HW.out]
    go_wp2_with fail
    go_loopw [14] (fun ivv w' => ivv = .int .i64 0 ∧ w' = (W.setCell ⟨B, 0, none⟩ (.slice none 0 0)).setCell ⟨B, 1, none⟩ (.bool true)) (fun _ _ => 0)
    case atStart => exact ⟨rfl, rfl⟩
    case round =>
      obtain ⟨rfl, rfl⟩ := hrel
      go_wp2
      go_end0
      exact HP.out
  · obtain ⟨a, n, c, rfl, hn, _⟩ := StV.form (.inr ⟨L, rfl, rfl, ho⟩ : StV S' W mv false (some L))
    have hn := hn L rfl
    subst hn
    have hl := (hrr L rfl).2
    have hlI : (L.length : Int) ≤ 64 := by omega
    have HO : Hid (W.ownsRow S' 9 1 (.slice a L.length c) L.length (sv L)) := ho
    have HAP : Hid (∀ i, (Value.slice a L.length c).ownBlock = some i → ¬ Mv B v i) := hap
    have HS : Hid (S ≤ w.heap.size ∧ SkV S W B v r ∧ r.ok) := ⟨hS, hW1, hr⟩
    have HKW : Hid (∀ M, Kp M w W) := kW
    have HE : Hid (allS r (some L) = addsS r (L.take L.length)) := by unfold Hid; rw [List.take_length]; rfl
    clear hm hap h hW hbox hW1 ho kW hr hrr
    go_enter Try.func62, Try.ntmps62
    go_upto_region 1 with fail
    rw [← HW.out]
    go_wp2_with fail
    go_loopw [14] (fun ivv w' => ∃ i : Nat, ivv = .int .i64 (i : Int) ∧ i ≤ L.length ∧ Hid (∃ v', SkV S w' B v' (addsS r (L.take i)) ∧ Sub W v v' ∧ Kp (Mv B v) W w')) (fun ivv _ => L.length - (RowKit.intOf ivv).toNat)
    case atStart => exact ⟨0, rfl, by omega, v, HS.out.2.1, Sub.refl _ _, Kp.refl _ _⟩
    case round =>
      obtain ⟨i, rfl, hi, hinv⟩ := hrel
      by_cases hlt : i < L.length
      · have hii : (i : Int) < L.length := by omega
        obtain ⟨v', hsk, hsub, hkp⟩ := hinv.out
        obtain ⟨x, hx⟩ : ∃ x, L[i]? = some x := ⟨_, List.getElem?_eq_getElem hlt⟩
        obtain ⟨g, cc, hv, hcell⟩ := row_cell (hkp.row HO.out HAP.out) hx
        cases hv
        have kA := add_any S B v' (addsS r (L.take i)) x wr hsk (addsS_ok HS.out.2.2 _) (Nat.le_trans (Nat.le_trans HS.out.1 (Nat.le_of_lt hWz)) hkp.size)
        have HN : Hid (∀ w2, AddP S B v' (addS (addsS r (L.take i)) x) wr (.returned (.tuple #[])) w2 → ∃ v', SkV S w2 B v' (addsS r (L.take (i + 1))) ∧ Sub W v v' ∧ Kp (Mv B v) W w2) := fun w2 ⟨_, ⟨v2, h1, h2⟩, h3⟩ => ⟨v2, by rw [addsS_take r L i x hx]; exact h1, hsub.trans h2 hkp.size, hkp.next hsub h3⟩
        clear hsk hsub hkp hinv hx
        generalize addS (addsS r (L.take i)) x = RR at *
        go_wp2_with fail
        go_fit kA
        rintro e w2 hp
        have he := hp.1
        subst he
        have HQ : Hid _ := HN.out w2 hp
        clear hp kA HN
        go_wp2
        exact ⟨⟨i + 1, by go_num, by omega, HQ⟩, by simp [RowKit.intOf]; omega⟩
      · obtain rfl : i = L.length := by omega
        have hii : ¬ (L.length : Int) < L.length := by omega
        have HP : Hid (AddP S B v (allS r (some L)) w (.returned (.tuple #[])) wr) := by
          obtain ⟨v', h1, h2, h3⟩ := hinv.out
          exact ⟨rfl, ⟨v', by rw [HE.out]; exact h1, fun j e hj => h2 j e (by omega)⟩, (HKW.out _).trans h3⟩
        clear hinv
        go_wp2
        go_end0
        exact HP.out
end Go.Proofs.Ytbciclnffokjjaa
