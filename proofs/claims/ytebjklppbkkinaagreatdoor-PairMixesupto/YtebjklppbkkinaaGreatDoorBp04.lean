/- A bundle of texts. -/
import Derived.Test.YtebjklppbkkinaaGreatDoorBp03
import Derived.Test.YtebjklppbkkinaaGreatDoorBp02
import Derived.Lib.SliceRun
import Derived.RangeFuncNested
import Derived.RangeFuncBound
import Derived.RangeFuncCalls
import Derived.RangeFuncLeaves
import Derived.RangeFuncBox
import Derived.RangeFuncFrom
import Derived.Shelf.Abstract
import Derived.Shelf.RegionOpen
import Derived.WalkKit
import Derived.OwnWalkIn
import Derived.TacticsInMore
import Derived.LoopNIn
import Derived.LoopIn
import Derived.Deep.AppendSrc
import Derived.Lib.OthersKept
import Derived.WalkSmall
import Derived.LoopTactic
import Derived.Test.YtebjklppbkkinaaGreatDoorBp01
import Derived.Maps.AppendAt
import Derived.Shelf.Sort.Plain
import Derived.Shelf.Slices.In.SortNone
import Derived.Test.YtebjklppbkkinaaGreatDoorProg
import Derived.Sort.OwnSorted
import Derived.Shelf.Spec.SearchS
import Derived.Deep.Onto
import Derived.Carry
import Derived.WideMake
import Derived.Laws.CopyOwn
import Derived.Shelf.Spec.SlicesInsert
import Derived.Lib.Overlaps
/- Vectors: the elements, their order, the sort. -/
namespace Go.Proofs.YtebjklppbkkinaaGreatDoor
open Go.RowKit Go.Lib Go.Shelf Go.Sort

/-- An element. -/
structure El where
  a : Option Addr
  n : Nat
  c : Nat
  f : Nat → Lb
  x : Nat
def e2 (e : El) : List Value := [.slice e.a e.n e.c, .float .f64 e.x]
def elV (e : El) : Value := .agg #[.slice e.a e.n e.c, .float .f64 e.x]
abbrev elX (e : El) : Obj := .cells #[.slice e.a e.n e.c, .float .f64 e.x] 31
def cfE (x y : El) : Int := cm x.f x.n y.f y.n
theorem swoE {α : Type} (h : α → El) : SWO (ltOf fun x y => cfE (h x) (h y)) where
  irrefl x := by
    have := (cm_zero (h x).f (h x).f (h x).n (h x).n).2 ⟨rfl, fun _ _ => rfl⟩
    simp [ltOf, cfE, this]
  trans x y z h1 h2 := by
    have h1 : cm (h x).f (h x).n (h y).f (h y).n < 0 := of_decide_eq_true h1
    have h2 : cm (h y).f (h y).n (h z).f (h z).n < 0 := of_decide_eq_true h2
    have h3 := cm_trans (h x).f (h y).f (h z).f (h x).n (h y).n (h z).n (by omega) (by omega)
    refine decide_eq_true (show cm (h x).f (h x).n (h z).f (h z).n < 0 from ?_)
    by_cases e : cm (h x).f (h x).n (h z).f (h z).n = 0
    · have := h3.2 e
      omega
    · omega
  ntrans x y z h1 h2 := by
    have h1 : ¬ cm (h x).f (h x).n (h y).f (h y).n < 0 := of_decide_eq_false h1
    have h2 : ¬ cm (h y).f (h y).n (h z).f (h z).n < 0 := of_decide_eq_false h2
    have a1 := cm_anti (h x).f (h y).f (h x).n (h y).n
    have a2 := cm_anti (h y).f (h z).f (h y).n (h z).n
    have a3 := cm_anti (h x).f (h z).f (h x).n (h z).n
    have h3 := cm_trans (h z).f (h y).f (h x).f (h z).n (h y).n (h x).n (by omega) (by omega)
    exact decide_eq_false (show ¬ cm (h x).f (h x).n (h z).f (h z).n < 0 by omega)
set_option maxHeartbeats 1000000 in
/-- compareElems. -/
theorem elems_gr (x y : El) (W : World) (hx : Lm W x.a x.f x.n) (hy : Lm W y.a y.f y.n) (hn : x.n ≤ 1152921504606846976) (hm : y.n ≤ 1152921504606846976) : Calls Tryz.prog 44 #[elV x, elV y] W fun e w' => e = .returned (.int .i64 (cfE x y)) ∧ Gr W w' := by
  obtain ⟨xa, xn, xc, xf, xx⟩ := x
  obtain ⟨ya, yn, yc, yf, yx⟩ := y
  have g0 : Gr W ((W.alloc (.cells #[.slice xa xn xc, .float .f64 xx] 31)).alloc (.cells #[.slice ya yn yc, .float .f64 yx] 31)) := ((Gr.refl W).alloc _).alloc _
  have k := compareList_gr xa ya xn yn xc yc xf yf _ (hx.below g0.below) (hy.below g0.below) hn hm
  have HG : Hid (∀ w', Gr ((W.alloc (.cells #[.slice xa xn xc, .float .f64 xx] 31)).alloc (.cells #[.slice ya yn yc, .float .f64 yx] 31)) w' → Gr W w') := (show ∀ w', _ → _ from fun w' g => g0.trans g)
  show Calls Tryz.prog 44 #[.agg #[.slice xa xn xc, .float .f64 xx], .agg #[.slice ya yn yc, .float .f64 yx]] W fun e w' => e = .returned (.int .i64 (cm xf xn yf yn)) ∧ _
  generalize cm xf xn yf yn = C at *
  clear hx hy g0
  go_enter Tryz.func44, Tryz.ntmps44
  go_wp2_with fail
  go_fit k
  rintro e w1 ⟨rfl, g1⟩
  have G1 : Hid (Gr W w1) := HG.out w1 g1
  clear k g1 HG
  go_wp2
  go_ret
  exact ⟨rfl, G1.out⟩

/-- Rows of two cells each. -/
def fl {α : Type} (enc : α → List Value) (l : List α) : List Value := l.flatMap enc
theorem fl_len {α : Type} {enc : α → List Value} (h2 : ∀ x, (enc x).length = 2) : ∀ l : List α, (fl enc l).length = l.length * 2
  | [] => rfl
  | x :: l => by
    show (enc x ++ fl enc l).length = _
    rw [List.length_append, fl_len h2 l, h2, List.length_cons]
    omega
theorem fl_get {α : Type} {enc : α → List Value} (h2 : ∀ x, (enc x).length = 2) : ∀ (l : List α) (j k : Nat), k < 2 → (fl enc l)[j * 2 + k]? = (l[j]?).bind fun x => (enc x)[k]?
  | [], _, _, _ => by simp [fl]
  | x :: l, 0, k, h => by
    show (enc x ++ fl enc l)[0 * 2 + k]? = _
    rw [List.getElem?_append_left (by rw [h2]; omega)]
    simp
  | x :: l, j + 1, k, h => by
    show (enc x ++ fl enc l)[(j + 1) * 2 + k]? = _
    rw [List.getElem?_append_right (by rw [h2]; omega), show (j + 1) * 2 + k - (enc x).length = j * 2 + k by rw [h2]; omega, fl_get h2 l j k h]
    simp
theorem flat_fl {α : Type} [Inhabited α] {enc : α → List Value} (h2 : ∀ x, (enc x).length = 2) (d : Array α) : (flatK enc 2 d).toList = fl enc d.toList := by
  apply List.ext_getElem?
  intro t
  by_cases h : t < d.size * 2
  · have e : (flatK enc 2 d)[t]? = some (flatK enc 2 d)[t]! := by
      rw [getElem!_pos _ _ (by simpa using h)]
      exact Array.getElem?_eq_getElem (by simpa using h)
    have hj : t / 2 < d.size := by omega
    have ht : t = t / 2 * 2 + t % 2 := by omega
    have hm : t % 2 < 2 := by omega
    rw [Array.getElem?_toList, e, get_flatK _ _ _ _ h]
    conv => rhs; rw [ht, fl_get h2 _ _ _ hm]
    rw [Array.getElem?_toList, Array.getElem?_eq_getElem hj, getElem!_pos d _ hj]
    show _ = (enc d[t / 2])[t % 2]?
    rw [List.getElem?_eq_getElem (by rw [h2]; exact hm), getElem!_pos _ _ (by rw [h2]; exact hm)]
  · rw [List.getElem?_eq_none (by simp; omega), List.getElem?_eq_none (by rw [fl_len h2]; simp; omega)]
theorem holds_fl {α : Type} [Inhabited α] {enc : α → List Value} (h2 : ∀ x, (enc x).length = 2) {w : World} {g : Nat} {cur : Array Value} {e : TypeId} {d : Array α} (hb : w.heap[g]? = some (.cells cur e (0, 0))) (ht : cur.toList.take (d.size * 2) = fl enc d.toList) : HoldsK enc 2 w g 0 d := by
  intro j hj
  have hj' : j < d.size * 2 := by simpa using hj
  refine ⟨?_, by simp [World.frozen?, hb]⟩
  have hf : (flatK enc 2 d)[j]? = (fl enc d.toList)[j]? := by
    rw [← Array.getElem?_toList, flat_fl h2]
  rw [← ht, List.getElem?_take_of_lt hj', Array.getElem?_toList] at hf
  simp only [World.cell?, hb, Nat.zero_add]
  simp only [Option.isSome_none, Bool.false_eq_true, if_false]
  rw [← hf]
  show _ = some (flatK enc 2 d)[j]!
  rw [getElem!_pos (flatK enc 2 d) j hj]
  exact Array.getElem?_eq_getElem hj
theorem lm_kp {M : Nat → Prop} {w w' : World} {a : Option Addr} {f : Nat → Lb} {n : Nat} (h : Lm w a f n) (k : Kp M w w') (hM : ∀ g o, a = some ⟨g, o, none⟩ → ¬ M g) : Lm w' a f n := by
  rcases h with h | ⟨g, o, rfl, hg, hc⟩
  · exact .inl h
  · have hb := k.block g hg (hM g o rfl)
    exact .inr ⟨g, o, rfl, Nat.lt_of_lt_of_le hg k.size, fun j hj => ⟨(World.cell?_of_block (a := ⟨g, o + j * 2, none⟩) hb).trans (hc j hj).1, (World.cell?_of_block (a := ⟨g, o + j * 2 + 1, none⟩) hb).trans (hc j hj).2⟩⟩
set_option maxHeartbeats 1000000 in
/-- The sort of elements that lie in a block of its own, their labels elsewhere. -/
theorem sort_els (F : FuncId) (eg : ∀ args w, (callFunc F args).run Tryz.prog w = .ok (.enter F args) w) (hcf : ∀ (x y : El) (W : World), Lm W x.a x.f x.n → Lm W y.a y.f y.n → x.n ≤ 1152921504606846976 → y.n ≤ 1152921504606846976 → Calls Tryz.prog F #[elV x, elV y] W fun e w' => e = .returned (.int .i64 (cfE x y)) ∧ Gr W w') (W : World) (S g cap : Nat) (cur : Array Value) (ks : List El) (hn : ks.length ≤ 1099511627776) (hS : S ≤ g) (hg : W.heap[g]? = some (.cells cur 31 (0, 0))) (h1 : ks.length ≤ cap) (h2 : cap ≤ maxLen) (h3 : cur.size = cap * 2) (h4 : cur.toList.take (ks.length * 2) = fl e2 ks)
    (hL : ∀ e ∈ ks, Lm W e.a e.f e.n ∧ e.n ≤ 1152921504606846976 ∧ ∀ b o, e.a = some ⟨b, o, none⟩ → b ≠ g) :
    Calls Tryz.prog 43 #[.slice (some ⟨g, 0, none⟩) ks.length cap, .func (.func F) #[] #[]] W fun e W' => e = .returned (.tuple #[]) ∧ ∃ ks' : List El, ks'.Perm ks ∧ ks'.Pairwise (fun x y => ¬ cfE y x < 0) ∧ W'.ownsRow S 31 2 (.slice (some ⟨g, 0, none⟩) ks.length cap) ks'.length (fl e2 ks') ∧ Kp (fun b => some g = some b) W W' := by
  have hgs : g < W.heap.size := (Array.getElem?_eq_some_iff.1 hg).1
  let A : Type := { e : El // Lm W e.a e.f e.n ∧ e.n ≤ 1152921504606846976 ∧ ∀ b o, e.a = some ⟨b, o, none⟩ → b ≠ g }
  have hI : Inhabited A := ⟨⟨⟨none, 0, 0, fun _ => (⟨#[]⟩, ⟨#[]⟩), 0⟩, .inl rfl, Nat.zero_le _, fun _ _ h => by cases h⟩⟩
  obtain ⟨d, hd⟩ : ∃ d : List A, d.map (·.1) = ks := ⟨ks.pmap (fun e h => ⟨e, h⟩) hL, by rw [List.map_pmap]; simp⟩
  have hds : d.length = ks.length := by rw [← hd, List.length_map]
  have hlen : ∀ x : A, (e2 x.1).length = 2 := fun _ => rfl
  have hfl : ∀ l : List A, fl (fun x : A => e2 x.1) l = fl e2 (l.map (·.1)) := fun l => by unfold fl; rw [List.flatMap_map]
  have hcmp : CmpLays Tryz.prog F #[] (fun x : A => e2 x.1) 2 (fun x y : A => cfE x.1 y.1) g 0 d.toArray.size W := fun m os dk hs x y => by
    have kk : Kp (fun b => some g = some b) W (sortWorldK (fun x : A => e2 x.1) 2 W g 0 m dk os) := kp_put _
    exact hcf x.1 y.1 _ (lm_kp x.2.1 kk (fun b o e h => x.2.2.2 b o e (Option.some.inj h).symm)) (lm_kp y.2.1 kk (fun b o e h => y.2.2.2 b o e (Option.some.inj h).symm)) x.2.2.1 y.2.2.1
  have h := AnyQ.slices_SortFunc Tryz.sortEl 2 Tryz.isAgg31 Tryz.sizeOf31 (fun x : A => e2 x.1) hlen (fun x v hv => by simp [e2] at hv; rcases hv with rfl | rfl <;> rfl) (fun x y : A => cfE x.1 y.1) (swoE fun x : A => x.1) F #[] g 0 cap d.toArray W eg hcmp (holds_fl hlen hg (by rw [List.size_toArray, hds, h4, hfl, hd])) hgs (by simp; omega)
  rw [List.size_toArray, hds] at h
  change Calls Tryz.prog 43 _ _ _ at h
  refine h.mono ?_
  rintro e w' ⟨rfl, d', m, os, ⟨p1, _, p3⟩, hs, rfl⟩
  have hz : d'.size = ks.length := by rw [p1]; simp [hds]
  refine ⟨rfl, d'.toList.map (·.1), ?_, ?_, ⟨by rw [fl_len (fun _ => rfl)], .inr ⟨g, cap, putCells id 0 (flatK (fun x : A => e2 x.1) 2 d') cur, by simp [hz], hS, heap_put _ hg, by simpa [hz] using h1, h2, by simp [putCells, h3], ?_⟩⟩, kp_put _⟩
  · have e1 : d'.extract 0 ks.length = d' := by rw [← hz]; simp
    have e3 : d.toArray.extract 0 ks.length = d.toArray := by rw [← hds]; simp
    rw [e1, e3] at p3
    rw [← hd]
    exact (show d'.toList.Perm d from by simpa using p3).map _
  · rw [List.pairwise_map, List.pairwise_iff_getElem]
    intro i j hi hj hij
    have hi' : i < d'.size := by simpa using hi
    have hj' : j < d'.size := by simpa using hj
    have := hs i j (Nat.zero_le _) hij (by simpa [hz] using hj')
    rw [getElem!_pos d' j hj', getElem!_pos d' i hi'] at this
    have h9 := of_decide_eq_false this
    simpa using h9
  · have e : (d'.toList.map (·.1)).length * 2 = (flatK (fun x : A => e2 x.1) 2 d').size := by simp
    rw [e, take_put cur _ (by simp; omega), flat_fl hlen, hfl]
end Go.Proofs.YtebjklppbkkinaaGreatDoor
/- Vectors: elements that a slice shows; Clone. -/
namespace Go.Proofs.YtebjklppbkkinaaGreatDoor
open Go.RowKit Go.Lib Go.Shelf Go.Sort

/-- Elements that a slice shows. -/
def Em (w : World) (a : Option Addr) (q : Nat → El) (n : Nat) : Prop := n = 0 ∨ ∃ g o, a = some ⟨g, o, none⟩ ∧ g < w.heap.size ∧ ∀ j, j < n → w.cell? ⟨g, o + j * 2, none⟩ = some (.slice (q j).a (q j).n (q j).c) ∧ w.cell? ⟨g, o + j * 2 + 1, none⟩ = some (.float .f64 (q j).x)
theorem Em.below {w w' : World} {a : Option Addr} {q : Nat → El} {n : Nat} (h : Em w a q n) (hb : Below w.heap.size w w') : Em w' a q n := by
  rcases h with h | ⟨g, o, rfl, hg, hc⟩
  · exact .inl h
  · exact .inr ⟨g, o, rfl, Nat.lt_of_lt_of_le hg hb.size, fun j hj => ⟨(hb.cell (p := ⟨g, o + j * 2, none⟩) hg).trans (hc j hj).1, (hb.cell (p := ⟨g, o + j * 2 + 1, none⟩) hg).trans (hc j hj).2⟩⟩
theorem Em.at {w : World} {a : Option Addr} {q : Nat → El} {n : Nat} (h : Em w a q n) (j : Nat) (hj : j < n) : ∃ g o, a = some ⟨g, o, none⟩ ∧ g < w.heap.size ∧ w.cell? ⟨g, o + j * 2, none⟩ = some (.slice (q j).a (q j).n (q j).c) ∧ w.cell? ⟨g, o + j * 2 + 1, none⟩ = some (.float .f64 (q j).x) := by
  rcases h with h | ⟨g, o, rfl, hg, hat⟩
  · omega
  · exact ⟨g, o, rfl, hg, hat j hj⟩
def elL (q : Nat → El) (n : Nat) : List El := (List.range n).map q
theorem elL_len (q : Nat → El) (n : Nat) : (elL q n).length = n := by simp [elL]
theorem elL_get (q : Nat → El) (n j : Nat) (h : j < n) : (elL q n)[j]? = some (q j) := by simp [elL, h]
theorem e2_len (x : El) : (e2 x).length = 2 := rfl
theorem Em.cells {w : World} {p : Addr} {q : Nat → El} {n : Nat} (h : Em w (some p) q n) : ∀ j u, (fl e2 (elL q n))[j]? = some u → w.cell? (p.add j) = some u := by
  intro j u hj
  have hjl : j < n * 2 := by
    have := (List.getElem?_eq_some_iff.1 hj).1
    rw [fl_len e2_len, elL_len] at this
    exact this
  rcases h with h | ⟨g, o, e, _, hc⟩
  · omega
  · cases e
    have hj2 : j / 2 * 2 + j % 2 = j := by omega
    rw [← hj2, fl_get e2_len (elL q n) (j / 2) (j % 2) (by omega), elL_get q n (j / 2) (by omega)] at hj
    obtain ⟨c0, c1⟩ := hc (j / 2) (by omega)
    rw [Go.WideShapes.add_plain]
    rcases Nat.mod_two_eq_zero_or_one j with h0 | h0
    · rw [h0] at hj
      simp [e2] at hj
      rw [show o + j = o + j / 2 * 2 by omega, c0, hj]
    · rw [h0] at hj
      simp [e2] at hj
      rw [show o + j = o + j / 2 * 2 + 1 by omega, c1, hj]
theorem fl_cell1 : ∀ (l : List El) (u : Value), u ∈ fl e2 l → u.oneCell' = true := by
  intro l u hu
  unfold fl at hu
  rw [List.mem_flatMap] at hu
  obtain ⟨x, _, hu⟩ := hu
  simp [e2] at hu
  rcases hu with rfl | rfl <;> rfl
theorem infE : (Tryz.prog.info? 31).map (fun i => (i.zero, i.size, i.bytes)) = some (some (.agg #[.slice none 0 0, .float .f64 0]), 2, 32) := by kernel_rfl
theorem copy_el (w : World) (p : Addr) (n c : Nat) (q : Nat → El) (h : Em w (some p) q n) (hn : n * 32 ≤ 140737488355328) :
    ∃ v' w', (Builtin.append_ #[22, 22] 22 #[.slice (some ⟨w.heap.size, 0, none⟩) 0 0, .slice (some p) n c]).run Tryz.prog (w.alloc (.cells #[] 31)) = .ok v' w' ∧ w'.ownsRow w.heap.size 31 2 v' n (fl e2 (elL q n)) ∧ Below w.heap.size w w' := by
  obtain ⟨i0, hi, hz0, hz1, hz2⟩ := info_parts infE
  have o0 : (w.alloc (.cells #[] 31)).ownsRow w.heap.size 31 2 (.slice (some ⟨w.heap.size, 0, none⟩) 0 0) 0 [] := ⟨rfl, .inr ⟨w.heap.size, 0, #[], rfl, Nat.le_refl _, heap_alloc_new w _, Nat.le_refl _, Nat.zero_le _, rfl, rfl⟩⟩
  have hb : Below w.heap.size w (w.alloc (.cells #[] 31)) := (Below.refl _ w).alloc (Nat.le_refl _) _
  obtain ⟨v', w', r, o', gr, _⟩ := run_append_own (P := Tryz.prog) (w.alloc (.cells #[] 31)) w.heap.size 22 22 31 i0 _ 2 32 Tryz.underlying22 hi hz0 hz1 hz2 rfl (by decide) _ 0 [] o0 p n c (fl e2 (elL q n)) (by rw [fl_len e2_len, elL_len])
    (fun j u hj => (h.below hb).cells j u hj) (fl_cell1 _) (by unfold maxLen; omega) (by omega) (by simp)
  refine ⟨v', w', r, ?_, hb.grown gr (by simp) (fun k hk => by simp [Value.ownBlock] at hk; omega)⟩
  simpa using o'
set_option maxHeartbeats 1000000 in
set_option maxRecDepth 100000 in
/-- slices.Clone of elements. -/
theorem clone_el (a : Option Addr) (n c : Nat) (q : Nat → El) (w : World) (h : Em w a q n) (hz : a = none → n = 0) (hn : n * 32 ≤ 140737488355328) :
    Calls Tryz.prog 42 #[.slice a n c] w fun e w' => ∃ v, e = .returned v ∧ w'.ownsRow w.heap.size 31 2 v n (fl e2 (elL q n)) ∧ Below w.heap.size w w' := by
  have q40 : ∀ (w : World) (a : Option Addr) (n c n' c' : Nat), (binOp .eql 22 (.slice a n c) (.slice none n' c')).run Tryz.prog w = .ok (.bool a.isNone) w := fun w a n c n' c' => Lib.run_eql_slice_nil w _ _ a n c n' c' Tryz.underlying22
  cases a with
  | none =>
    obtain rfl := hz rfl
    clear h
    go_enter Tryz.func42, Tryz.ntmps42
    go_wp2
    go_ret
    exact ⟨_, rfl, World.ownsRow_nil _ _ _ _, Below.refl _ _⟩
  | some p =>
    obtain ⟨v', w1, r1, o1, b1⟩ := copy_el w p n c q h hn
    have O1 : Hid (w1.ownsRow w.heap.size 31 2 v' n (fl e2 (elL q n))) := o1
    have B1 : Hid (Below w.heap.size w w1) := b1
    clear h o1 b1 hz
    go_enter Tryz.func42, Tryz.ntmps42
    go_wp2_with (at_builtin; refine wpList_append_run rfl _ _ 22 22 rfl _ _ rfl rfl r1 ?_)
    go_wp2
    go_ret
    exact ⟨_, rfl, O1.out, B1.out⟩
end Go.Proofs.YtebjklppbkkinaaGreatDoor
/- slices.Values and slices.Collect over texts. -/
namespace Go.Proofs.YtebjklppbkkinaaGreatDoor.K
open Go.RowKit Go.Lib Go.Shelf

attribute [local go_sem] Oper.semAt_some

/-- Texts that a slice shows, in a block below n₀. -/
def Smb (n₀ : Nat) (w : World) (a : Option Addr) (f : Nat → ByteArray) (n : Nat) : Prop := n = 0 ∨ ∃ g o, a = some ⟨g, o, none⟩ ∧ g < n₀ ∧ ∀ j, j < n → w.cell? ⟨g, o + j, none⟩ = some (.string (f j))
theorem Smb.below {n₀ : Nat} {w w' : World} {a : Option Addr} {f : Nat → ByteArray} {n : Nat} (h : Smb n₀ w a f n) (hb : Below n₀ w w') : Smb n₀ w' a f n := by
  rcases h with h | ⟨g, o, e, hg, hc⟩
  · exact .inl h
  · exact .inr ⟨g, o, e, hg, fun j hj => (hb.cell (p := ⟨g, o + j, none⟩) hg).trans (hc j hj)⟩
theorem Smb.at {n₀ : Nat} {w : World} {a : Option Addr} {f : Nat → ByteArray} {n : Nat} (h : Smb n₀ w a f n) (j : Nat) (hj : j < n) : ∃ g o, a = some ⟨g, o, none⟩ ∧ g < n₀ ∧ w.cell? ⟨g, o + j, none⟩ = some (.string (f j)) := by
  rcases h with h | ⟨g, o, e, hg, hat⟩
  · omega
  · exact ⟨g, o, e, hg, hat j hj⟩
end Go.Proofs.YtebjklppbkkinaaGreatDoor.K
/- slices.Collect of slices.Values over texts. -/
namespace Go.Proofs.YtebjklppbkkinaaGreatDoor.K
open Go.RowKit Go.Lib Go.Shelf

attribute [local go_sem] Oper.semAt_some

theorem info_parts {P : Program} {e : TypeId} {z : Value} {size bytes : Nat} (h : (P.info? e).map (fun i => (i.zero, i.size, i.bytes)) = some (some z, size, bytes)) : ∃ i, P.info? e = some i ∧ i.zero = some z ∧ i.size = size ∧ i.bytes = bytes := by
  cases hi : P.info? e with
  | none => rw [hi] at h; cases h
  | some i =>
    rw [hi] at h
    simp at h
    exact ⟨i, rfl, h.1, h.2.1, h.2.2⟩
end Go.Proofs.YtebjklppbkkinaaGreatDoor.K
/- slices.Sorted of slices.Values, and slices.BinarySearch over texts. -/
namespace Go.Proofs
open Go.Shelf
end Go.Proofs
namespace Go.Proofs.YtebjklppbkkinaaGreatDoor.K
open Go.RowKit Go.Lib Go.Shelf Go.Sort

attribute [local go_sem] Oper.semAt_some

/-- Texts as lists of bytes, in order. -/
def sl (xs : List ByteArray) : List (List UInt8) := xs.map fun x => x.data.toList
def srt (xs : List ByteArray) : List (List UInt8) := (sl xs).mergeSort fun x y => decide (x ≤ y)
end Go.Proofs.YtebjklppbkkinaaGreatDoor.K
/- same; keys told apart. -/
namespace Go.Proofs.YtebjklppbkkinaaGreatDoor.K
open Go.RowKit Go.Lib Go.Shelf Go.Sort

attribute [local go_sem] Oper.semAt_some

theorem Lm.congr {w : World} {a : Option Addr} {f g : Nat → Lb} {n : Nat} (h : Lm w a g n) (e : ∀ j, j < n → f j = g j) : Lm w a f n := by
  rcases h with h | ⟨G, o, e1, hg, hc⟩
  · exact .inl h
  · exact .inr ⟨G, o, e1, hg, fun j hj => by rw [e j hj]; exact hc j hj⟩

/-- The first labels as a list. -/
def ll (f : Nat → Lb) (n : Nat) : List Lb := (List.range n).map f
theorem ll_succ (f : Nat → Lb) (n : Nat) : ll f (n + 1) = ll f n ++ [f n] := by unfold ll; rw [List.range_succ, List.map_append]; rfl
theorem ll_len (f : Nat → Lb) (n : Nat) : (ll f n).length = n := by simp [ll]
/-- keeper's answer, as it lies below m. -/
def Kpr (m : Nat) (W : World) (Bs Bw : Nat) (xs : List ByteArray) (wo : Bool) : Prop :=
  Bs < m ∧ Bw < m ∧ ∃ v n0, W.cell? ⟨Bs, 0, none⟩ = some v ∧ W.cell? ⟨Bw, 0, none⟩ = some (.bool wo) ∧ W.ownsRow n0 9 1 v xs.length ((srt xs).map encStr) ∧ ∀ k, v.ownBlock = some k → k < m
theorem row_below {m n0 N : Nat} {e : TypeId} {W W' : World} {v : Value} {ys : List Value} (h : W.ownsRow n0 e 1 v N ys) (hv : ∀ k, v.ownBlock = some k → k < m) (hb : Below m W W') : W'.ownsRow n0 e 1 v N ys := by
  refine ⟨h.1, ?_⟩
  rcases h.2 with h0 | ⟨g, cap, cur, rfl, h1, h2, h3⟩
  · exact .inl h0
  · exact .inr ⟨g, cap, cur, rfl, h1, (hb.block g (hv g rfl)).trans h2, h3⟩
theorem Kpr.below {m : Nat} {W W' : World} {Bs Bw : Nat} {xs : List ByteArray} {wo : Bool} (h : Kpr m W Bs Bw xs wo) (hb : Below m W W') : Kpr m W' Bs Bw xs wo := by
  obtain ⟨h1, h2, v, n0, h3, h4, h5, h6⟩ := h
  exact ⟨h1, h2, v, n0, (hb.cell (p := ⟨Bs, 0, none⟩) h1).trans h3, (hb.cell (p := ⟨Bw, 0, none⟩) h2).trans h4, row_below h5 h6 hb, h6⟩
end Go.Proofs.YtebjklppbkkinaaGreatDoor.K
/- The reference's Keep. -/
namespace Go.Proofs.YtebjklppbkkinaaGreatDoor.K
open Go.RowKit Go.Lib

attribute [local go_sem] Oper.semAt_some

theorem infL : (Tryz.prog.info? 61).map (fun i => (i.zero, i.size, i.bytes)) = some (some (.agg #[.string ⟨#[]⟩, .string ⟨#[]⟩]), 2, 32) := by kernel_rfl
theorem own_bd {S e s n : Nat} {w : World} {v : Value} {xs : List Value} (h : w.ownsRow S e s v n xs) : ∀ G, v.ownBlock = some G → S ≤ G ∧ G < w.heap.size := by
  intro G hG
  rcases h.2 with ⟨rfl, _⟩ | ⟨g, cap, cur, rfl, hg, hh, _⟩
  · cases hG
  · have : g = G := Option.some.inj hG
    subst this
    exact ⟨hg, (Array.getElem?_eq_some_iff.1 hh).1⟩
/-- An append whose run is known. -/
theorem wpList_append_run {P : Program} {ops : Array Oper} {rest : List Oper} {o : Oper} {a : Act} {w w' : World} {v' : Value} {Q : Exit → Act → World → Prop} (hw : Region.wanted o (yielded ops a.tmps) = true) (s x : Operand) (t tx : TypeId)
    (ho : o.op = .call { callee := .builtin .append, args := #[s, x], argTypes := #[t, tx] }) (vs vx : Value) (hs : a.eval s = vs) (hx : a.eval x = vx)
    (hr : (Builtin.append_ #[t, tx] o.type #[vs, vx]).run P w = .ok v' w') (h : wpList P ops Q rest (a.put o.dst v') w') : wpList P ops Q (o :: rest) a w := by
  unfold wpList
  rw [if_pos hw]
  left
  unfold Oper.wp execOp
  simp only [ho, resolve, invoke, builtin, Sem.run_bind, Sem.run_pure, Result.andThen_ok, List.map_toArray, List.map_cons, List.map_nil, hs, hx, hr]
  exact h
/-- One label behind a row of one's own. -/
theorem ap_lb (w : World) (S : Nat) (v : Value) (n : Nat) (xs : List Value) (x : Lb) (hS : S ≤ w.heap.size) (hn : (n + 1) * 32 ≤ 140737488355328) (o : w.ownsRow S 61 2 v n xs) :
    ∃ g c w', (Builtin.append_ #[29, 29] 29 #[v, .slice (some ⟨w.heap.size, 0, none⟩) 1 1]).run Tryz.prog (w.alloc (lbX x)) = .ok (.slice (some ⟨g, 0, none⟩) (n + 1) c) w' ∧ w'.ownsRow S 61 2 (.slice (some ⟨g, 0, none⟩) (n + 1) c) (n + 1) (xs ++ l2 x) ∧ Kp (fun k => v.ownBlock = some k) w w' := by
  obtain ⟨i0, hi, hz0, hz1, hz2⟩ := info_parts infL
  have o0 := World.ownsRow.alloc o (lbX x)
  have e : (w.alloc (lbX x)).heap[w.heap.size]? = some (lbX x) := heap_alloc_new w _
  obtain ⟨v', w', r, o', g, _, _⟩ := run_append_own_at (P := Tryz.prog) (w.alloc (lbX x)) S 29 29 61 i0 _ 2 32 Tryz.underlying29 hi hz0 hz1 hz2 rfl (by decide) _ n xs o0 ⟨w.heap.size, 0, none⟩ 1 1 (l2 x) (by rfl)
    (fun j u hj => by
      rw [Go.WideShapes.add_plain, Nat.zero_add]
      unfold World.cell?
      rw [e]
      simpa [l2] using hj) (by intro u hu; simp [l2] at hu; rcases hu with rfl | rfl <;> rfl) (by unfold maxLen; omega) hn (by simp; omega)
  rcases o'.2 with ⟨_, h0⟩ | ⟨G, C, cur, rfl, _⟩
  · omega
  · exact ⟨G, C, w', r, o', ((Kp.refl _ w).trans (Kp.of ((Below.refl _ w).alloc (Nat.le_refl _) _))).grown g (fun k hk _ => hk)⟩

def gL (ls : List Lb) : Nat → Lb := fun j => ls.getD j (⟨#[]⟩, ⟨#[]⟩)
theorem ll_gL (ls : List Lb) : ll (gL ls) ls.length = ls := by
  apply List.ext_getElem (by simp [ll])
  intro i h1 h2
  simp [ll, gL, List.getD, List.getElem?_eq_getElem h2]
theorem lc_ll (f : Nat → Lb) (n : Nat) : lc f n = lcL (ll f n) := by unfold lc lcL ll; rw [List.flatMap_map]
theorem lcL_lc (ls : List Lb) : lcL ls = lc (gL ls) ls.length := by rw [lc_ll, ll_gL]
end Go.Proofs.YtebjklppbkkinaaGreatDoor.K
/- lent, whole. -/
namespace Go.Proofs.YtebjklppbkkinaaGreatDoor.K
open Go.RowKit Go.Lib

attribute [local go_sem] Oper.semAt_some

def up {α : Type} (f : Nat → α) (j : Nat) (u : α) : Nat → α := fun i => if i = j then u else f i
theorem lc_congr (f g : Nat → Lb) (n : Nat) (h : ∀ j, j < n → f j = g j) : lc f n = lc g n := by
  induction n with
  | zero => rfl
  | succ n ih => rw [lc_succ, lc_succ, ih fun j hj => h j (by omega), h n (by omega)]
/-- A row of things of one's own. -/
def Ir (w : World) (S : Nat) (v : Value) (n : Nat) (f : Nat → Lb) : Prop := w.ownsRow S 61 2 v n (lc f n)
theorem Ir.below {w w' : World} {S n : Nat} {v : Value} {f : Nat → Lb} (h : Ir w S v n f) (hb : Below w.heap.size w w') : Ir w' S v n f := (Kp.of (M := fun _ => False) hb).row h (fun _ _ => id)
theorem Ir.congr {w : World} {S n : Nat} {v : Value} {f g : Nat → Lb} (h : Ir w S v n f) (e : ∀ j, j < n → f j = g j) : Ir w S v n g := by
  unfold Ir
  rw [← lc_congr f g n e]
  exact h
theorem Ir.iml {w : World} {S n : Nat} {v : Value} {f : Nat → Lb} (h : Ir w S v n f) : ∃ a c, v = .slice a n c ∧ Lm w a f n ∧ n ≤ c := by
  have hc := fun g => h.cells (g := g)
  rcases h.2 with ⟨rfl, h0⟩ | ⟨g, c, cur, rfl, _, hg, hnc, _⟩
  · subst h0
    exact ⟨none, 0, rfl, .inl rfl, Nat.le_refl _⟩
  · refine ⟨_, c, rfl, .inr ⟨g, 0, rfl, (Array.getElem?_eq_some_iff.1 hg).1, fun j hj => ?_⟩, hnc⟩
    have h1 := hc g rfl (j * 2 + 0) _ (by rw [lc_get f n j 0 hj (by omega)]; rfl)
    have h2 := hc g rfl (j * 2 + 1) _ (by rw [lc_get f n j 1 hj (by omega)]; rfl)
    rw [Go.WideShapes.add_plain] at h1 h2
    exact ⟨h1, by rw [Nat.add_assoc]; exact h2⟩
theorem lc_set (f : Nat → Lb) (j : Nat) (u : Lb) : ∀ n, j < n → ((lc f n).set (j * 2) (.string u.1)).set (j * 2 + 1) (.string u.2) = lc (up f j u) n
  | 0, h => by omega
  | n + 1, h => by
    rw [lc_succ, lc_succ]
    by_cases hj : j < n
    · rw [List.set_append_left _ _ (by rw [lc_len]; omega), List.set_append_left _ _ (by rw [List.length_set, lc_len]; omega), lc_set f j u n hj]
      congr 1
      congr 1
      exact (if_neg (by omega)).symm
    · obtain rfl : j = n := by omega
      rw [List.set_append_right _ _ (by rw [lc_len]; omega), List.set_append_right _ _ (by rw [lc_len]; omega), lc_len, Nat.sub_self, show j * 2 + 1 - j * 2 = 1 by omega]
      congr 1
      · exact lc_congr _ _ _ fun i hi => (if_neg (by omega)).symm
      · have : up f j u j = u := if_pos rfl
        rw [this]
        rfl
theorem Ir.set {w : World} {S g c n : Nat} {f : Nat → Lb} (h : Ir w S (.slice (some ⟨g, 0, none⟩) n c) n f) (j : Nat) (hj : j < n) (u : Lb) : Ir ((w.setCell ⟨g, j * 2, none⟩ (.string u.1)).setCell ⟨g, j * 2 + 1, none⟩ (.string u.2)) S (.slice (some ⟨g, 0, none⟩) n c) n (up f j u) := by
  unfold Ir
  rw [← lc_set f j u n hj]
  exact (World.ownsRow.stored (World.ownsRow.stored h (j * 2) (.string u.1)).1 (j * 2 + 1) (.string u.2)).1
theorem Ir.cells {w : World} {S g c n : Nat} {f : Nat → Lb} (h : Ir w S (.slice (some ⟨g, 0, none⟩) n c) n f) (j : Nat) (hj : j < n) : w.cell? ⟨g, j * 2, none⟩ = some (.string (f j).1) ∧ w.cell? ⟨g, j * 2 + 1, none⟩ = some (.string (f j).2) ∧ w.frozen? ⟨g, j * 2, none⟩ = false ∧ w.frozen? ⟨g, j * 2 + 1, none⟩ = false := by
  obtain ⟨a, c', e, im, _⟩ := h.iml
  cases e
  rcases im with h0 | ⟨g', o', e, _, hat⟩
  · omega
  · cases e
    have := hat j hj
    rw [Nat.zero_add] at this
    exact ⟨this.1, this.2, World.ownsRow.frozenAt h _, World.ownsRow.frozenAt h _⟩
end Go.Proofs.YtebjklppbkkinaaGreatDoor.K
/- The reference's With. -/
namespace Go.Proofs.YtebjklppbkkinaaGreatDoor.K
open Go.RowKit Go.Lib

attribute [local go_sem] Oper.semAt_some

def gtB (x y : ByteArray) : Bool := !(Op.bytesLess x.toList y.toList || x.toList == y.toList)
/-- With, under way: the labels, and whether the new one is put. -/
def rwS (nm vl : ByteArray) (s : List Lb × Bool) (l : Lb) : List Lb × Bool :=
  if (l.1.toList == nm.toList) then s else if (!s.2 && gtB l.1 nm) then (s.1 ++ [(nm, vl)] ++ [l], true) else (s.1 ++ [l], s.2)
def rwF (f : Nat → Lb) (nm vl : ByteArray) : Nat → List Lb × Bool
  | 0 => ([], vl.toList.isEmpty)
  | i + 1 => rwS nm vl (rwF f nm vl i) (f i)
def rwL (f : Nat → Lb) (nm vl : ByteArray) (n : Nat) : List Lb := if (rwF f nm vl n).2 then (rwF f nm vl n).1 else (rwF f nm vl n).1 ++ [(nm, vl)]
theorem rwF_le (f : Nat → Lb) (nm vl : ByteArray) : ∀ i, (rwF f nm vl i).1.length ≤ i + (if (rwF f nm vl i).2 then 1 else 0)
  | 0 => by simp [rwF]
  | i + 1 => by
    have ih := rwF_le f nm vl i
    show (rwS nm vl (rwF f nm vl i) (f i)).1.length ≤ i + 1 + (if (rwS nm vl (rwF f nm vl i) (f i)).2 then 1 else 0)
    unfold rwS
    split
    · omega
    · split
      · rename_i h
        simp at h
        rw [h.1] at ih
        simp at ih ⊢
        omega
      · simp
        omega
end Go.Proofs.YtebjklppbkkinaaGreatDoor.K
/- With. -/
namespace Go.Proofs.YtebjklppbkkinaaGreatDoor.K
open Go.RowKit Go.Lib

attribute [local go_sem] Oper.semAt_some

theorem make_w (w : World) (S k : Nat) (hS : S ≤ w.heap.size) (hk : k * 32 ≤ 281474976710656) : ∃ w', (Instr.makeSlice 29 (.int .i64 0) (.int .i64 (k : Int))).run Tryz.prog w = .ok (.slice (some ⟨w.heap.size, 0, none⟩) 0 k) w' ∧ w'.ownsRow S 61 2 (.slice (some ⟨w.heap.size, 0, none⟩) 0 k) 0 (lcL []) ∧ Below w.heap.size w w' := by
  obtain ⟨i0, hi, hz0, hz1, hz2⟩ := info_parts infL
  obtain ⟨w1, r, o, g⟩ := run_make_own (P := Tryz.prog) w S 29 61 i0 _ 2 Tryz.underlying29 hi hz0 hz1 .i64 .i64 k (by rw [hz2]; omega) (by unfold maxLen; omega) hS
  exact ⟨w1, r, o, (Below.refl _ w).grown g (Nat.le_refl _) (fun k hk => by cases hk)⟩
theorem row_lm {W : World} {S c : Nat} {a : Option Addr} {ks : List Lb} (h : W.ownsRow S 61 2 (.slice a ks.length c) ks.length (lcL ks)) : Lm W a (gL ks) ks.length := by
  rw [lcL_lc] at h
  exact Lm.of_row h
end Go.Proofs.YtebjklppbkkinaaGreatDoor.K
