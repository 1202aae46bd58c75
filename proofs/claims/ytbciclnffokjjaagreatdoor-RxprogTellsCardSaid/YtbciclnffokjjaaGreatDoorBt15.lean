/- A bundle of texts. -/
import Derived.Test.YtbciclnffokjjaaGreatDoorBt14
import Derived.Deep.Cut
import Derived.Test.YtbciclnffokjjaaGreatDoorBt12
/- Words: the empty text; isNone, grows; a stock added to a stock. -/
namespace Go.Proofs.YtbciclnffokjjaaGreatDoor
open Go.RowKit

/-- A stock as a value. -/
def StV (S : Nat) (w : World) (v : Value) (m : Bool) (r : Sto) : Prop := (r = none ∧ v = .slice none 0 0 ∧ m = true) ∨ ∃ L, r = some L ∧ m = false ∧ w.ownsRow S 9 1 v L.length (sv L)
abbrev kV (v : Value) (m : Bool) : Value := .agg #[v, .bool m]
theorem StV.of {S : Nat} {w : World} {B : Nat} {v : Value} {r : Sto} (h : SkV S w B v r) : ∃ m, w.heap[B]? = some (kX v m) ∧ StV S w v m r := by
  rcases h with ⟨h1, h2, h3⟩ | ⟨L, h1, h2, h3⟩
  · exact ⟨true, h3, .inl ⟨h1, h2, rfl⟩⟩
  · exact ⟨false, h2, .inr ⟨L, h1, rfl, h3⟩⟩
theorem StV.sk {S : Nat} {w : World} {B : Nat} {v : Value} {m : Bool} {r : Sto} (h : StV S w v m r) (hb : w.heap[B]? = some (kX v m)) : SkV S w B v r := by
  rcases h with ⟨h1, h2, rfl⟩ | ⟨L, h1, rfl, h3⟩
  · exact .inl ⟨h1, h2, hb⟩
  · exact .inr ⟨L, h1, hb, h3⟩
theorem StV.kp {S : Nat} {w w' : World} {v : Value} {m : Bool} {r : Sto} {M : Nat → Prop} (h : StV S w v m r) (k : Kp M w w') (hv : ∀ i, v.ownBlock = some i → ¬ M i) : StV S w' v m r := by
  rcases h with h | ⟨L, h1, h2, h3⟩
  · exact .inl h
  · exact .inr ⟨L, h1, h2, k.row h3 hv⟩
theorem StV.form {S : Nat} {w : World} {v : Value} {m : Bool} {r : Sto} (h : StV S w v m r) : ∃ a n c, v = .slice a n c ∧ (∀ L, r = some L → n = L.length) ∧ (r = none → n = 0) := by
  rcases h with ⟨h1, h2, _⟩ | ⟨L, h1, _, h3⟩
  · refine ⟨none, 0, 0, h2, ?_, fun _ => rfl⟩
    intro L e
    rw [h1] at e
    cases e
  · rcases h3.2 with ⟨h4, h5⟩ | ⟨g, cap, cur, h4, _⟩
    · exact ⟨none, L.length, 0, by rw [h4, h5], fun K e => by rw [h1] at e; cases e; rfl, fun e => by rw [h1] at e; cases e⟩
    · exact ⟨_, L.length, cap, h4, fun K e => by rw [h1] at e; cases e; rfl, fun e => by rw [h1] at e; cases e⟩
theorem row_cell {S : Nat} {w : World} {v : Value} {L : List ByteArray} (h : w.ownsRow S 9 1 v L.length (sv L)) {j : Nat} {x : ByteArray} (hj : L[j]? = some x) : ∃ g c, v = .slice (some ⟨g, 0, none⟩) L.length c ∧ w.cell? ⟨g, j, none⟩ = some (.string x) := by
  have hl := (List.getElem?_eq_some_iff.1 hj).1
  rcases h.2 with ⟨_, h0⟩ | ⟨g, cap, cur, rfl, _, hg, _, _, _, hct⟩
  · omega
  · refine ⟨g, cap, rfl, ?_⟩
    have hc : w.cell? ⟨g, j, none⟩ = cur[j]? := by
      unfold World.cell?
      dsimp only
      rw [hg]
      rfl
    rw [Nat.mul_one] at hct
    have h1 : cur[j]? = (sv L)[j]? := by
      rw [← hct, List.getElem?_take, if_pos hl]
      simp
    rw [hc, h1, sv_get, hj]
    rfl
/-- A fresh stock: what was there stays. -/
def NewP (w : World) (r : Sto) (e : Ending) (w' : World) : Prop := (∃ v m, e = .returned (kV v m) ∧ StV w.heap.size w' v m r) ∧ Below w.heap.size w w'
set_option maxHeartbeats 1000000 in
set_option maxRecDepth 100000 in
theorem emptyText_any (w : World) : Calls Tryz.prog 26 #[] w (NewP w (some [⟨#[]⟩])) := by
  have hW : Below w.heap.size w ((w.alloc (kX (.slice none 0 0) false)).alloc (tX1 ⟨#[]⟩)) := ((Below.refl _ w).alloc (Nat.le_refl _) _).alloc (by simp) _
  go_enter Tryz.func26, Tryz.ntmps26
  go_wp2
  have hb : ((w.alloc (kX (.slice (some ⟨w.heap.size + 1, 0, none⟩) 1 1) false)).alloc (tX1 ⟨#[]⟩)).heap[w.heap.size]? = some (kX (.slice (some ⟨w.heap.size + 1, 0, none⟩) 1 1) false) := (Below.heap_alloc _ _ _ (by simp)).trans (heap_alloc_new w _)
  obtain ⟨c0, c1, _, _⟩ := kx_cells hb
  refine bodyPost_ret (v := kV (.slice (some ⟨w.heap.size + 1, 0, none⟩) 1 1) false) (by simp [results, Tryz.results26, go_sem, c0, c1]) rfl ⟨⟨_, _, rfl, .inr ⟨_, rfl, rfl, own_at (A := #[.string ⟨#[]⟩]) (cap := 1) ?_ (by omega) (by simp) (by unfold maxLen; omega) rfl rfl ?_⟩⟩, ((Below.refl _ w).alloc (Nat.le_refl _) _).alloc (by simp) _⟩
  · have := heap_alloc_new (w.alloc (kX (.slice (some ⟨w.heap.size + 1, 0, none⟩) 1 1) false)) (tX1 ⟨#[]⟩)
    rw [World.size_alloc] at this
    exact this
  · intro j hj
    obtain rfl : j = 0 := by simpa using hj
    rfl
/-- Is a stock empty? -/
def nonS : Sto → Bool
  | some [] => true
  | _ => false
def grwS : Sto → Bool
  | none => true
  | some [] => false
  | some [x] => !x.toList.isEmpty
  | some (_ :: _ :: _) => true
set_option maxHeartbeats 1000000 in
set_option maxRecDepth 100000 in
theorem isNone_any (S B : Nat) (v : Value) (m : Bool) (r : Sto) (w : World) (hb : w.heap[B]? = some (kX v m)) (hs : StV S w v m r) (hr : r.ok) :
    Calls Tryz.prog 70 #[.pointer (some ⟨B, 0, none⟩)] w fun e w' => e = .returned (.bool (nonS r)) ∧ Below w.heap.size w w' := by
  obtain ⟨c0, c1, _, _⟩ := kx_cells hb
  rcases hs with ⟨rfl, rfl, rfl⟩ | ⟨L, rfl, rfl, ho⟩
  · go_enter Tryz.func70, Tryz.ntmps70
    go_wp2
    go_ret
    exact ⟨rfl, Below.refl _ _⟩
  · obtain ⟨a, n, c, rfl, hn, _⟩ := StV.form (.inr ⟨L, rfl, rfl, ho⟩ : StV S w v false (some L))
    have hn := hn L rfl
    subst hn
    have hl := (hr L rfl).2
    cases L with
    | nil =>
      simp only [List.length_nil] at c0
      clear ho hb
      go_enter Tryz.func70, Tryz.ntmps70
      go_wp2
      go_ret
      exact ⟨rfl, Below.refl _ _⟩
    | cons x L =>
      have hne : (((x :: L).length : Int) == 0) = false := by rw [beq_eq_false_iff_ne]; simp; omega
      have HE : Hid (nonS (some (x :: L)) = false) := rfl
      clear ho hb
      generalize (x :: L).length = N at *
      go_enter Tryz.func70, Tryz.ntmps70
      go_wp2
      go_ret
      exact ⟨by rw [HE.out]; rfl, Below.refl _ _⟩
theorem len_ne (N k : Nat) (h : N ≠ k) : ((N : Int) == (k : Int)) = false := by rw [beq_eq_false_iff_ne]; omega
set_option maxHeartbeats 1000000 in
set_option maxRecDepth 100000 in
theorem grows_any (S B : Nat) (v : Value) (m : Bool) (r : Sto) (w : World) (hb : w.heap[B]? = some (kX v m)) (hs : StV S w v m r) (hr : r.ok) :
    Calls Tryz.prog 53 #[.pointer (some ⟨B, 0, none⟩)] w fun e w' => e = .returned (.bool (grwS r)) ∧ Below w.heap.size w w' := by
  obtain ⟨c0, c1, _, _⟩ := kx_cells hb
  rcases hs with ⟨rfl, rfl, rfl⟩ | ⟨L, rfl, rfl, ho⟩
  · clear hb
    go_enter Tryz.func53, Tryz.ntmps53
    go_wp2
    go_ret
    exact ⟨rfl, Below.refl _ _⟩
  · obtain ⟨a, n, c, rfl, hn, _⟩ := StV.form (.inr ⟨L, rfl, rfl, ho⟩ : StV S w v false (some L))
    have hn := hn L rfl
    subst hn
    have hl := (hr L rfl).2
    cases L with
    | nil =>
      simp only [List.length_nil] at c0
      clear ho hb
      go_enter Tryz.func53, Tryz.ntmps53
      go_wp2
      go_ret
      exact ⟨rfl, Below.refl _ _⟩
    | cons x L =>
      cases L with
      | nil =>
        obtain ⟨g, cc, hv, hc⟩ := row_cell ho (j := 0) (x := x) rfl
        cases hv
        simp only [List.length_cons, List.length_nil, Nat.zero_add] at c0
        have HE : Hid (grwS (some [x]) = !x.toList.isEmpty) := rfl
        clear ho hb
        go_enter Tryz.func53, Tryz.ntmps53
        go_wp2
        go_ret
        exact ⟨by rw [HE.out]; rfl, Below.refl _ _⟩
      | cons y L =>
        have hne : 1 < ((x :: y :: L).length : Int) := by simp; omega
        have HE : Hid (grwS (some (x :: y :: L)) = true) := rfl
        clear ho hb
        generalize (x :: y :: L).length = N at *
        go_enter Tryz.func53, Tryz.ntmps53
        go_wp2
        go_ret
        exact ⟨by rw [HE.out]; rfl, Below.refl _ _⟩
end Go.Proofs.YtbciclnffokjjaaGreatDoor
/- Words: a stock added to a stock. -/
namespace Go.Proofs.YtbciclnffokjjaaGreatDoor
open Go.RowKit

def addsS (r : Sto) (L : List ByteArray) : Sto := L.foldl addS r
def allS (r : Sto) : Sto → Sto
  | none => none
  | some L => addsS r L
theorem addsS_ok {r : Sto} (h : r.ok) : ∀ L, (addsS r L).ok := by
  intro L
  induction L generalizing r with
  | nil => exact h
  | cons x L ih => exact ih (addS_ok h x)
theorem addsS_take (r : Sto) (L : List ByteArray) (i : Nat) (x : ByteArray) (h : L[i]? = some x) : addsS r (L.take (i + 1)) = addS (addsS r (L.take i)) x := by
  have : L.take (i + 1) = L.take i ++ [x] := by rw [List.take_add_one, h]; rfl
  unfold addsS
  rw [this, List.foldl_append]
  rfl
theorem none_ok : Sto.ok none := fun L e => by cases e
theorem allS_ok {r rr : Sto} (h : r.ok) : (allS r rr).ok := by
  cases rr with
  | none => exact none_ok
  | some L => exact addsS_ok h L

set_option maxHeartbeats 2000000 in
set_option maxRecDepth 100000 in
theorem addAll_any (S B : Nat) (v : Value) (r : Sto) (S' : Nat) (mv : Value) (mm : Bool) (rr : Sto) (w : World) (h : SkV S w B v r) (hr : r.ok) (hrr : rr.ok) (hS : S ≤ w.heap.size) (hm : StV S' w mv mm rr) (hap : ∀ i, mv.ownBlock = some i → ¬ Mv B v i) :
    Calls Tryz.prog 29 #[.pointer (some ⟨B, 0, none⟩), kV mv mm] w (AddP S B v (allS r rr) w) := by
  have hBl := h.lt
  obtain ⟨W, hW⟩ : ∃ W, W = w.alloc (kX mv mm) := ⟨_, rfl⟩
  have HW : Hid (W = w.alloc (kX mv mm)) := hW
  have kW : ∀ M, Kp M w W := fun M => by rw [hW]; exact (Kp.refl M w).alloc _
  have hWz : w.heap.size < W.heap.size := by rw [hW]; simp
  have hbox : W.heap[w.heap.size]? = some (kX mv mm) := by rw [hW]; exact heap_alloc_new w _
  have hW1 : SkV S W B v r := h.kp (kW (fun _ => False)) id (fun _ _ => id)
  have hm1 : StV S' W mv mm rr := hm.kp (kW (fun _ => False)) (fun _ _ => id)
  obtain ⟨b0, b1, _, _⟩ := kx_cells hbox
  rcases hm1 with ⟨rfl, rfl, rfl⟩ | ⟨L, rfl, rfl, ho⟩
  · obtain ⟨m0, hb0, hst⟩ := StV.of hW1
    obtain ⟨c0, c1, z0, z1⟩ := kx_cells hb0
    obtain ⟨a, n, c, hv, _, _⟩ := hst.form
    have HP : Hid (AddP S B v (allS r none) w (.returned (.tuple #[])) ((W.setCell ⟨B, 0, none⟩ (.slice none 0 0)).setCell ⟨B, 1, none⟩ (.bool true))) := ⟨rfl, ⟨.slice none 0 0, .inl ⟨rfl, rfl, by simp [World.setCell, Array.getElem?_modify, hb0]⟩, fun i e _ => by cases e⟩, ((kW _).setCell (p := ⟨B, 0, none⟩) (.inl rfl) _).setCell (p := ⟨B, 1, none⟩) (.inl rfl) _⟩
    have hne : ¬ w.heap.size = B := by omega
    rw [hv] at c0
    clear hm hap h hW hbox hW1 hb0 hst kW
    go_enter Tryz.func29, Tryz.ntmps29
    go_upto_region 1 with fail
    rw [← HW.out]
    go_wp2_with fail
    go_loopw [14] (fun ivv w' => ivv = .int .i64 0 ∧ w' = (W.setCell ⟨B, 0, none⟩ (.slice none 0 0)).setCell ⟨B, 1, none⟩ (.bool true)) (fun _ _ => 0)
    case atStart => exact ⟨rfl, rfl⟩
    case round =>
      obtain ⟨rfl, rfl⟩ := hrel
      go_wp2
      go_end0
      exact HP.out
  · obtain ⟨a, n, c, rfl, hn, _⟩ := StV.form (.inr ⟨L, rfl, rfl, ho⟩ : StV S' W mv false (some L))
    have hn := hn L rfl
    subst hn
    have hl := (hrr L rfl).2
    have hlI : (L.length : Int) ≤ 64 := by omega
    have HO : Hid (W.ownsRow S' 9 1 (.slice a L.length c) L.length (sv L)) := ho
    have HAP : Hid (∀ i, (Value.slice a L.length c).ownBlock = some i → ¬ Mv B v i) := hap
    have HS : Hid (S ≤ w.heap.size ∧ SkV S W B v r ∧ r.ok) := ⟨hS, hW1, hr⟩
    have HKW : Hid (∀ M, Kp M w W) := kW
    have HE : Hid (allS r (some L) = addsS r (L.take L.length)) := by unfold Hid; rw [List.take_length]; rfl
    clear hm hap h hW hbox hW1 ho kW hr hrr
    go_enter Tryz.func29, Tryz.ntmps29
    go_upto_region 1 with fail
    rw [← HW.out]
    go_wp2_with fail
    go_loopw [14] (fun ivv w' => ∃ i : Nat, ivv = .int .i64 (i : Int) ∧ i ≤ L.length ∧ Hid (∃ v', SkV S w' B v' (addsS r (L.take i)) ∧ Sub W v v' ∧ Kp (Mv B v) W w')) (fun ivv _ => L.length - (RowKit.intOf ivv).toNat)
    case atStart => exact ⟨0, rfl, by omega, v, HS.out.2.1, Sub.refl _ _, Kp.refl _ _⟩
    case round =>
      obtain ⟨i, rfl, hi, hinv⟩ := hrel
      by_cases hlt : i < L.length
      · have hii : (i : Int) < L.length := by omega
        obtain ⟨v', hsk, hsub, hkp⟩ := hinv.out
        obtain ⟨x, hx⟩ : ∃ x, L[i]? = some x := ⟨_, List.getElem?_eq_getElem hlt⟩
        obtain ⟨g, cc, hv, hcell⟩ := row_cell (hkp.row HO.out HAP.out) hx
        cases hv
        have kA := add_any S B v' (addsS r (L.take i)) x wr hsk (addsS_ok HS.out.2.2 _) (Nat.le_trans (Nat.le_trans HS.out.1 (Nat.le_of_lt hWz)) hkp.size)
        have HN : Hid (∀ w2, AddP S B v' (addS (addsS r (L.take i)) x) wr (.returned (.tuple #[])) w2 → ∃ v', SkV S w2 B v' (addsS r (L.take (i + 1))) ∧ Sub W v v' ∧ Kp (Mv B v) W w2) := fun w2 ⟨_, ⟨v2, h1, h2⟩, h3⟩ => ⟨v2, by rw [addsS_take r L i x hx]; exact h1, hsub.trans h2 hkp.size, hkp.next hsub h3⟩
        clear hsk hsub hkp hinv hx
        generalize addS (addsS r (L.take i)) x = RR at *
        go_wp2_with fail
        go_fit kA
        rintro e w2 hp
        have he := hp.1
        subst he
        have HQ : Hid _ := HN.out w2 hp
        clear hp kA HN
        go_wp2
        exact ⟨⟨i + 1, by go_num, by omega, HQ⟩, by simp [RowKit.intOf]; omega⟩
      · obtain rfl : i = L.length := by omega
        have hii : ¬ (L.length : Int) < L.length := by omega
        have HP : Hid (AddP S B v (allS r (some L)) w (.returned (.tuple #[])) wr) := by
          obtain ⟨v', h1, h2, h3⟩ := hinv.out
          exact ⟨rfl, ⟨v', by rw [HE.out]; exact h1, fun j e hj => h2 j e (by omega)⟩, (HKW.out _).trans h3⟩
        clear hinv
        go_wp2
        go_end0
        exact HP.out
end Go.Proofs.YtbciclnffokjjaaGreatDoor
/- utf.Text of one rune. -/
namespace Go.Proofs.YtbciclnffokjjaaGreatDoor
open Go.RowKit Go.Lib

theorem validRune_eq (x : Int) : Lib.validRune x = Utf8.valid x := by
  unfold Lib.validRune Utf8.valid
  rw [Bool.eq_iff_iff]
  simp
  omega
theorem conv_rune (w : World) (g c : Nat) (x : Int) (h : w.cell? ⟨g, 0, none⟩ = some (.int .i32 x)) :
    (convert 55 9 (.slice (some ⟨g, 0, none⟩) 1 c)).run Tryz.prog w = .ok (.string (Utf8.encode x)) w := by
  have := run_convert_runes (P := Tryz.prog) w 55 9 21 ⟨g, 0, none⟩ 1 c [x] (Nat.le_refl _) Tryz.underlying55 Tryz.underlying21 Tryz.underlying9 (fun j hj => by
    have : j = 0 := by simpa using hj
    subst this
    rw [Go.WideShapes.add_plain]
    exact h)
  rw [show ([x].take 1) = [x] from rfl] at this
  rw [this]
  have e : runesBytes [x] = Utf8.encode x := by
    rw [rb_cons, rb_nil]
    simp
  rw [e]
set_option maxHeartbeats 1000000 in
theorem text_one (g : Nat) (x : Int) (w : World) (h : w.cell? ⟨g, 0, none⟩ = some (.int .i32 x)) :
    Calls Tryz.prog 31 #[.slice (some ⟨g, 0, none⟩) 1 1] w fun e w' => e = .returned (.tuple #[.string (if Utf8.valid x = true then Utf8.encode x else ⟨#[]⟩), .int .i64 (if Utf8.valid x = true then 0 else 12)]) ∧ w' = w := by
  have hcv := conv_rune w g 1 x h
  have k1 := Tryz.utf8_ValidRune x w
  rw [validRune_eq] at k1
  generalize Utf8.encode x = S at *
  cases hv : Utf8.valid x
  · rw [hv] at k1
    simp only [Bool.false_eq_true, if_false]
    clear hv hcv
    go_enter Tryz.func31, Tryz.ntmps31
    go_wp2
    go_loop [8] (fun t => t = .int .i64 0) (fun t => 0)
    case atStart => exact rfl
    case round =>
      subst hrel
      have d0 : w.cell? ⟨g, 0, none⟩ = some (.int .i32 x) := h
      go_wp2_with (go_at_call 54; go_fit k1; rintro e w' ⟨rfl, rfl⟩)
      go_ret2
      exact ⟨rfl, rfl⟩
  · rw [hv] at k1
    simp only [if_true]
    clear hv
    go_enter Tryz.func31, Tryz.ntmps31
    go_wp2
    go_loop [8] (fun t => ∃ j : Nat, t = .int .i64 j ∧ j ≤ 1) (fun t => 1 - (RowKit.intOf t).toNat)
    case atStart => exact ⟨0, rfl, by omega⟩
    case round =>
      obtain ⟨j, rfl, hj⟩ := hrel
      by_cases hlt : j < 1
      · obtain rfl : j = 0 := by omega
        have d0 : w.cell? ⟨g, 0, none⟩ = some (.int .i32 x) := h
        go_wp2_with (go_at_call 54; go_fit k1; rintro e w' ⟨rfl, rfl⟩)
        go_round
        case rel => exact ⟨1, by go_num, by omega⟩
        case measure => simp [RowKit.intOf]
      · obtain rfl : j = 1 := by omega
        go_wp2
        go_ret2
        exact ⟨rfl, rfl⟩
/-- The texts of so many runes from one on, put to a stock. -/
def rngS (r : Sto) (lo : Int) : Nat → Sto
  | 0 => r
  | k + 1 => if Utf8.valid (lo + k) = true then addS (rngS r lo k) (Utf8.encode (lo + k)) else rngS r lo k
theorem rngS_ok {r : Sto} (h : r.ok) (lo : Int) : ∀ k, (rngS r lo k).ok
  | 0 => h
  | k + 1 => by
    unfold rngS
    split
    · exact addS_ok (rngS_ok h lo k) _
    · exact rngS_ok h lo k
theorem rngS_none {r : Sto} {lo : Int} {k : Nat} (h : rngS r lo k = none) : ∀ d, rngS r lo (k + d) = none
  | 0 => h
  | d + 1 => by
    have ih := rngS_none h d
    show rngS r lo (k + d + 1) = none
    unfold rngS
    rw [ih]
    split <;> rfl
set_option maxHeartbeats 2000000 in
set_option maxRecDepth 100000 in
theorem addRunes_any (S B : Nat) (v : Value) (r : Sto) (lo hi : Int) (w : World) (h : SkV S w B v r) (hr : r.ok) (hS : S ≤ w.heap.size) (h0 : 0 ≤ lo) (h1 : lo ≤ hi) (h2 : hi ≤ 1114111) :
    Calls Tryz.prog 27 #[.pointer (some ⟨B, 0, none⟩), .agg #[.int .i32 lo, .int .i32 hi]] w (AddP S B v (rngS r lo (hi - lo + 1).toNat) w) := by
  have hBl := h.lt
  obtain ⟨W, hW⟩ : ∃ W, W = w.alloc (.cells #[.int .i32 lo, .int .i32 hi] 49) := ⟨_, rfl⟩
  have HW : Hid (W = w.alloc (.cells #[.int .i32 lo, .int .i32 hi] 49)) := hW
  have kW : ∀ M, Kp M w W := fun M => by rw [hW]; exact (Kp.refl M w).alloc _
  have hWz : w.heap.size < W.heap.size := by rw [hW]; simp
  have hbox : W.heap[w.heap.size]? = some (.cells #[.int .i32 lo, .int .i32 hi] 49) := by rw [hW]; exact heap_alloc_new w _
  have hW1 : SkV S W B v r := h.kp (kW (fun _ => False)) id (fun _ _ => id)
  have hvl : ∀ i, v.ownBlock = some i → i < w.heap.size := fun i e => by
    rcases h with ⟨_, rfl, _⟩ | ⟨L, _, _, ho⟩
    · cases e
    · exact (ho.lt i e).2
  have HBX : Hid (∀ w2, Kp (Mv B v) W w2 → w2.cell? ⟨w.heap.size, 0, none⟩ = some (.int .i32 lo) ∧ w2.cell? ⟨w.heap.size, 1, none⟩ = some (.int .i32 hi)) := fun w2 k => by
    have hb := (k.block w.heap.size hWz (fun e => by
      rcases e with e | e
      · omega
      · have := hvl _ e; omega)).trans hbox
    constructor
    · unfold World.cell?; rw [hb]; rfl
    · unfold World.cell?; rw [hb]; rfl
  obtain ⟨b0, b1⟩ := HBX.out W (Kp.refl _ _)
  have HS : Hid (S ≤ w.heap.size ∧ SkV S W B v r ∧ r.ok) := ⟨hS, hW1, hr⟩
  have HKW : Hid (∀ M, Kp M w W) := kW
  obtain ⟨n, hn⟩ : ∃ n : Nat, (n : Int) = hi - lo := ⟨(hi - lo).toNat, by omega⟩
  have HN : Hid ((hi - lo + 1).toNat = n + 1) := by unfold Hid; omega
  have hhi : hi = lo + n := by omega
  subst hhi
  clear h hW hbox hW1 kW hr hvl hn
  go_enter Tryz.func27, Tryz.ntmps27
  go_upto_region 1 with fail
  rw [← HW.out]
  go_wp2_with fail
  go_loopw [4] (fun ivv w' => ∃ k : Nat, ivv = .int .i32 (lo + k) ∧ k ≤ n + 1 ∧ Hid (∃ v', SkV S w' B v' (rngS r lo k) ∧ Sub W v v' ∧ Kp (Mv B v) W w')) (fun ivv _ => (lo + n + 1 - RowKit.intOf ivv).toNat)
  case atStart => exact ⟨0, by simp, by omega, v, HS.out.2.1, Sub.refl _ _, Kp.refl _ _⟩
  case round =>
    obtain ⟨k, rfl, hk, hinv⟩ := hrel
    obtain ⟨v', hsk, hsub, hkp⟩ := hinv.out
    obtain ⟨b0, b1⟩ := HBX.out wr hkp
    by_cases hlt : k < n + 1
    · have hle : lo + (k : Int) ≤ lo + n := by omega
      obtain ⟨m, hbm, hst⟩ := StV.of hsk
      obtain ⟨c0, c1, _, _⟩ := kx_cells hbm
      cases m with
      | true =>
        have HP : Hid (AddP S B v (rngS r lo (lo + n - lo + 1).toNat) w (.returned (.tuple #[])) wr) := by
          have hnone : rngS r lo k = none := by
            rcases hst with ⟨h, _, _⟩ | ⟨_, _, h, _⟩
            · exact h
            · cases h
          have := rngS_none hnone (n + 1 - k)
          rw [show k + (n + 1 - k) = n + 1 by omega] at this
          rw [hnone] at hsk
          exact ⟨rfl, ⟨v', by rw [HN.out, this]; exact hsk, fun j e hj => hsub j e (by omega)⟩, (HKW.out _).trans hkp⟩
        clear hinv hsk hsub hkp hbm hst
        go_wp2
        go_end0
        exact HP.out
      | false =>
        have kT := text_one wr.heap.size (lo + k) (wr.alloc (.cells #[.int .i32 (lo + k)] 21)) (by have := heap_alloc_new wr (.cells #[.int .i32 (lo + k)] 21); unfold World.cell?; rw [this]; rfl)
        have kal : Kp (fun _ => False) wr (wr.alloc (.cells #[.int .i32 (lo + k)] 21)) := (Kp.refl _ wr).alloc _
        have HK1 : Hid (Kp (Mv B v) W (wr.alloc (.cells #[.int .i32 (lo + k)] 21))) := hkp.trans (kal.mono (fun _ _ e => e.elim))
        cases hv : Utf8.valid (lo + k)
        · rw [hv] at kT
          simp only [Bool.false_eq_true, if_false] at kT
          have HQ : Hid (∃ v', SkV S (wr.alloc (.cells #[.int .i32 (lo + k)] 21)) B v' (rngS r lo (k + 1)) ∧ Sub W v v' ∧ Kp (Mv B v) W (wr.alloc (.cells #[.int .i32 (lo + k)] 21))) := ⟨v', by
            unfold rngS
            rw [hv, if_neg (by decide)]
            exact hsk.kp kal id (fun _ _ => id), hsub, HK1.out⟩
          clear hinv hsk hsub hkp hbm hst kal hv HK1
          go_wp2_with fail
          go_fit kT
          rintro e w2 ⟨rfl, hw2⟩
          rw [← hw2] at HQ
          clear hw2 kT
          go_wp2
          exact ⟨⟨k + 1, by congr 1; omega, by omega, HQ⟩, by simp [RowKit.intOf]; omega⟩
        · rw [hv] at kT
          simp only [if_true] at kT
          have kA := add_any S B v' (rngS r lo k) (Utf8.encode (lo + k)) (wr.alloc (.cells #[.int .i32 (lo + k)] 21)) (hsk.kp kal id (fun _ _ => id)) (rngS_ok HS.out.2.2 lo k) (Nat.le_trans (Nat.le_trans HS.out.1 (Nat.le_of_lt hWz)) HK1.out.size)
          have HNX : Hid (∀ w2, AddP S B v' (addS (rngS r lo k) (Utf8.encode (lo + k))) (wr.alloc (.cells #[.int .i32 (lo + k)] 21)) (.returned (.tuple #[])) w2 → ∃ v', SkV S w2 B v' (rngS r lo (k + 1)) ∧ Sub W v v' ∧ Kp (Mv B v) W w2) := fun w2 ⟨_, ⟨v2, h1, h2⟩, h3⟩ => ⟨v2, by
            unfold rngS
            rw [hv, if_pos rfl]
            exact h1, hsub.trans h2 HK1.out.size, HK1.out.next hsub h3⟩
          clear hinv hsk hsub hkp hbm hst kal hv HK1
          generalize addS (rngS r lo k) (Utf8.encode (lo + k)) = RR at *
          generalize Utf8.encode (lo + k) = TX at *
          go_wp2_with fail
          go_fit kT
          rintro e w2 ⟨rfl, hw2⟩
          rw [← hw2] at kA HNX
          clear hw2 kT
          go_wp2_with fail
          go_fit kA
          rintro e w3 hp
          have he := hp.1
          subst he
          have HQ : Hid _ := HNX.out w3 hp
          clear hp kA HNX
          go_wp2
          exact ⟨⟨k + 1, by congr 1; omega, by omega, HQ⟩, by simp [RowKit.intOf]; omega⟩
    · obtain rfl : k = n + 1 := by omega
      have hle : ¬ lo + ((n + 1 : Nat) : Int) ≤ lo + n := by omega
      have HP : Hid (AddP S B v (rngS r lo (lo + n - lo + 1).toNat) w (.returned (.tuple #[])) wr) := ⟨rfl, ⟨v', by rw [HN.out]; exact hsk, fun j e hj => hsub j e (by omega)⟩, (HKW.out _).trans hkp⟩
      clear hinv hsk hsub hkp
      go_wp2
      go_end0
      exact HP.out
end Go.Proofs.YtbciclnffokjjaaGreatDoor
