/- A bundle of texts. -/
import Derived.Test.YtjmninjaoemhjaaDoorBv06
import Derived.Test.YtjmninjaoemhjaaDoorBv05
import Derived.Test.YtjmninjaoemhjaaDoorBv04
import Derived.Test.YtjmninjaoemhjaaDoorBv03
import Derived.Lib.SliceRun
import Derived.RangeFuncNested
import Derived.RangeFuncBound
import Derived.RangeFuncCalls
import Derived.RangeFuncLeaves
import Derived.RangeFuncBox
import Derived.RangeFuncFrom
import Derived.Shelf.Abstract
import Derived.Shelf.RegionOpen
import Derived.WalkKit
import Derived.OwnWalkIn
import Derived.TacticsInMore
import Derived.LoopNIn
import Derived.LoopIn
import Derived.Deep.AppendSrc
import Derived.Lib.OthersKept
import Derived.WalkSmall
import Derived.LoopTactic
import Derived.Test.YtjmninjaoemhjaaDoorBv01
import Derived.Maps.AppendAt
/- Vectors: the elements, their order, the sort. -/
namespace Go.Proofs.YtjmninjaoemhjaaDoor
open Go.RowKit Go.Lib Go.Shelf Go.Sort

/-- An element. -/
structure El where
  a : Option Addr
  n : Nat
  c : Nat
  f : Nat → Lb
  x : Nat
def e2 (e : El) : List Value := [.slice e.a e.n e.c, .float .f64 e.x]
def elV (e : El) : Value := .agg #[.slice e.a e.n e.c, .float .f64 e.x]
abbrev elX (e : El) : Obj := .cells #[.slice e.a e.n e.c, .float .f64 e.x] 45
def cfE (x y : El) : Int := cm x.f x.n y.f y.n
theorem swoE {α : Type} (h : α → El) : SWO (ltOf fun x y => cfE (h x) (h y)) where
  irrefl x := by
    have := (cm_zero (h x).f (h x).f (h x).n (h x).n).2 ⟨rfl, fun _ _ => rfl⟩
    simp [ltOf, cfE, this]
  trans x y z h1 h2 := by
    have h1 : cm (h x).f (h x).n (h y).f (h y).n < 0 := of_decide_eq_true h1
    have h2 : cm (h y).f (h y).n (h z).f (h z).n < 0 := of_decide_eq_true h2
    have h3 := cm_trans (h x).f (h y).f (h z).f (h x).n (h y).n (h z).n (by omega) (by omega)
    refine decide_eq_true (show cm (h x).f (h x).n (h z).f (h z).n < 0 from ?_)
    by_cases e : cm (h x).f (h x).n (h z).f (h z).n = 0
    · have := h3.2 e
      omega
    · omega
  ntrans x y z h1 h2 := by
    have h1 : ¬ cm (h x).f (h x).n (h y).f (h y).n < 0 := of_decide_eq_false h1
    have h2 : ¬ cm (h y).f (h y).n (h z).f (h z).n < 0 := of_decide_eq_false h2
    have a1 := cm_anti (h x).f (h y).f (h x).n (h y).n
    have a2 := cm_anti (h y).f (h z).f (h y).n (h z).n
    have a3 := cm_anti (h x).f (h z).f (h x).n (h z).n
    have h3 := cm_trans (h z).f (h y).f (h x).f (h z).n (h y).n (h x).n (by omega) (by omega)
    exact decide_eq_false (show ¬ cm (h x).f (h x).n (h z).f (h z).n < 0 by omega)
set_option maxHeartbeats 1000000 in
/-- compareElems. -/
theorem elems_gr (x y : El) (W : World) (hx : Lm W x.a x.f x.n) (hy : Lm W y.a y.f y.n) (hn : x.n ≤ 1152921504606846976) (hm : y.n ≤ 1152921504606846976) : Calls Tryd.prog 42 #[elV x, elV y] W fun e w' => e = .returned (.int .i64 (cfE x y)) ∧ Gr W w' := by
  obtain ⟨xa, xn, xc, xf, xx⟩ := x
  obtain ⟨ya, yn, yc, yf, yx⟩ := y
  have g0 : Gr W ((W.alloc (.cells #[.slice xa xn xc, .float .f64 xx] 45)).alloc (.cells #[.slice ya yn yc, .float .f64 yx] 45)) := ((Gr.refl W).alloc _).alloc _
  have k := compareList_gr xa ya xn yn xc yc xf yf _ (hx.below g0.below) (hy.below g0.below) hn hm
  have HG : Hid (∀ w', Gr ((W.alloc (.cells #[.slice xa xn xc, .float .f64 xx] 45)).alloc (.cells #[.slice ya yn yc, .float .f64 yx] 45)) w' → Gr W w') := (show ∀ w', _ → _ from fun w' g => g0.trans g)
  show Calls Tryd.prog 42 #[.agg #[.slice xa xn xc, .float .f64 xx], .agg #[.slice ya yn yc, .float .f64 yx]] W fun e w' => e = .returned (.int .i64 (cm xf xn yf yn)) ∧ _
  generalize cm xf xn yf yn = C at *
  clear hx hy g0
  go_enter Tryd.func42, Tryd.ntmps42
  go_wp2_with fail
  go_fit k
  rintro e w1 ⟨rfl, g1⟩
  have G1 : Hid (Gr W w1) := HG.out w1 g1
  clear k g1 HG
  go_wp2
  go_ret
  exact ⟨rfl, G1.out⟩

/-- Rows of two cells each. -/
def fl {α : Type} (enc : α → List Value) (l : List α) : List Value := l.flatMap enc
theorem fl_len {α : Type} {enc : α → List Value} (h2 : ∀ x, (enc x).length = 2) : ∀ l : List α, (fl enc l).length = l.length * 2
  | [] => rfl
  | x :: l => by
    show (enc x ++ fl enc l).length = _
    rw [List.length_append, fl_len h2 l, h2, List.length_cons]
    omega
theorem fl_get {α : Type} {enc : α → List Value} (h2 : ∀ x, (enc x).length = 2) : ∀ (l : List α) (j k : Nat), k < 2 → (fl enc l)[j * 2 + k]? = (l[j]?).bind fun x => (enc x)[k]?
  | [], _, _, _ => by simp [fl]
  | x :: l, 0, k, h => by
    show (enc x ++ fl enc l)[0 * 2 + k]? = _
    rw [List.getElem?_append_left (by rw [h2]; omega)]
    simp
  | x :: l, j + 1, k, h => by
    show (enc x ++ fl enc l)[(j + 1) * 2 + k]? = _
    rw [List.getElem?_append_right (by rw [h2]; omega), show (j + 1) * 2 + k - (enc x).length = j * 2 + k by rw [h2]; omega, fl_get h2 l j k h]
    simp
theorem flat_fl {α : Type} [Inhabited α] {enc : α → List Value} (h2 : ∀ x, (enc x).length = 2) (d : Array α) : (flatK enc 2 d).toList = fl enc d.toList := by
  apply List.ext_getElem?
  intro t
  by_cases h : t < d.size * 2
  · have e : (flatK enc 2 d)[t]? = some (flatK enc 2 d)[t]! := by
      rw [getElem!_pos _ _ (by simpa using h)]
      exact Array.getElem?_eq_getElem (by simpa using h)
    have hj : t / 2 < d.size := by omega
    have ht : t = t / 2 * 2 + t % 2 := by omega
    have hm : t % 2 < 2 := by omega
    rw [Array.getElem?_toList, e, get_flatK _ _ _ _ h]
    conv => rhs; rw [ht, fl_get h2 _ _ _ hm]
    rw [Array.getElem?_toList, Array.getElem?_eq_getElem hj, getElem!_pos d _ hj]
    show _ = (enc d[t / 2])[t % 2]?
    rw [List.getElem?_eq_getElem (by rw [h2]; exact hm), getElem!_pos _ _ (by rw [h2]; exact hm)]
  · rw [List.getElem?_eq_none (by simp; omega), List.getElem?_eq_none (by rw [fl_len h2]; simp; omega)]
theorem holds_fl {α : Type} [Inhabited α] {enc : α → List Value} (h2 : ∀ x, (enc x).length = 2) {w : World} {g : Nat} {cur : Array Value} {e : TypeId} {d : Array α} (hb : w.heap[g]? = some (.cells cur e (0, 0))) (ht : cur.toList.take (d.size * 2) = fl enc d.toList) : HoldsK enc 2 w g 0 d := by
  intro j hj
  have hj' : j < d.size * 2 := by simpa using hj
  refine ⟨?_, by simp [World.frozen?, hb]⟩
  have hf : (flatK enc 2 d)[j]? = (fl enc d.toList)[j]? := by
    rw [← Array.getElem?_toList, flat_fl h2]
  rw [← ht, List.getElem?_take_of_lt hj', Array.getElem?_toList] at hf
  simp only [World.cell?, hb, Nat.zero_add]
  simp only [Option.isSome_none, Bool.false_eq_true, if_false]
  rw [← hf]
  show _ = some (flatK enc 2 d)[j]!
  rw [getElem!_pos (flatK enc 2 d) j hj]
  exact Array.getElem?_eq_getElem hj
theorem lm_kp {M : Nat → Prop} {w w' : World} {a : Option Addr} {f : Nat → Lb} {n : Nat} (h : Lm w a f n) (k : Kp M w w') (hM : ∀ g o, a = some ⟨g, o, none⟩ → ¬ M g) : Lm w' a f n := by
  rcases h with h | ⟨g, o, rfl, hg, hc⟩
  · exact .inl h
  · have hb := k.block g hg (hM g o rfl)
    exact .inr ⟨g, o, rfl, Nat.lt_of_lt_of_le hg k.size, fun j hj => ⟨(World.cell?_of_block (a := ⟨g, o + j * 2, none⟩) hb).trans (hc j hj).1, (World.cell?_of_block (a := ⟨g, o + j * 2 + 1, none⟩) hb).trans (hc j hj).2⟩⟩
set_option maxHeartbeats 1000000 in
/-- The sort of elements that lie in a block of its own, their labels elsewhere. -/
theorem sort_els (W : World) (S g cap : Nat) (cur : Array Value) (ks : List El) (hn : ks.length ≤ 1099511627776) (hS : S ≤ g) (hg : W.heap[g]? = some (.cells cur 45 (0, 0))) (h1 : ks.length ≤ cap) (h2 : cap ≤ maxLen) (h3 : cur.size = cap * 2) (h4 : cur.toList.take (ks.length * 2) = fl e2 ks)
    (hL : ∀ e ∈ ks, Lm W e.a e.f e.n ∧ e.n ≤ 1152921504606846976 ∧ ∀ b o, e.a = some ⟨b, o, none⟩ → b ≠ g) :
    Calls Tryd.prog 41 #[.slice (some ⟨g, 0, none⟩) ks.length cap, .func (.func 42) #[] #[]] W fun e W' => e = .returned (.tuple #[]) ∧ ∃ ks' : List El, ks'.Perm ks ∧ ks'.Pairwise (fun x y => ¬ cfE y x < 0) ∧ W'.ownsRow S 45 2 (.slice (some ⟨g, 0, none⟩) ks.length cap) ks'.length (fl e2 ks') ∧ Kp (fun b => some g = some b) W W' := by
  have hgs : g < W.heap.size := (Array.getElem?_eq_some_iff.1 hg).1
  have eg : ∀ args w, (callFunc 42 args).run Tryd.prog w = .ok (.enter 42 args) w := enters_of Tryd.func42 (by kernel_rfl) rfl
  let A : Type := { e : El // Lm W e.a e.f e.n ∧ e.n ≤ 1152921504606846976 ∧ ∀ b o, e.a = some ⟨b, o, none⟩ → b ≠ g }
  have hI : Inhabited A := ⟨⟨⟨none, 0, 0, fun _ => (⟨#[]⟩, ⟨#[]⟩), 0⟩, .inl rfl, Nat.zero_le _, fun _ _ h => by cases h⟩⟩
  obtain ⟨d, hd⟩ : ∃ d : List A, d.map (·.1) = ks := ⟨ks.pmap (fun e h => ⟨e, h⟩) hL, by rw [List.map_pmap]; simp⟩
  have hds : d.length = ks.length := by rw [← hd, List.length_map]
  have hlen : ∀ x : A, (e2 x.1).length = 2 := fun _ => rfl
  have hfl : ∀ l : List A, fl (fun x : A => e2 x.1) l = fl e2 (l.map (·.1)) := fun l => by unfold fl; rw [List.flatMap_map]
  have hcmp : CmpLays Tryd.prog 42 #[] (fun x : A => e2 x.1) 2 (fun x y : A => cfE x.1 y.1) g 0 d.toArray.size W := fun m os dk hs x y => by
    have kk : Kp (fun b => some g = some b) W (sortWorldK (fun x : A => e2 x.1) 2 W g 0 m dk os) := kp_put _
    exact elems_gr x.1 y.1 _ (lm_kp x.2.1 kk (fun b o e h => x.2.2.2 b o e (Option.some.inj h).symm)) (lm_kp y.2.1 kk (fun b o e h => y.2.2.2 b o e (Option.some.inj h).symm)) x.2.2.1 y.2.2.1
  have h := AnyQ.slices_SortFunc Tryd.sortEl 2 Tryd.isAgg45 Tryd.sizeOf45 (fun x : A => e2 x.1) hlen (fun x v hv => by simp [e2] at hv; rcases hv with rfl | rfl <;> rfl) (fun x y : A => cfE x.1 y.1) (swoE fun x : A => x.1) 42 #[] g 0 cap d.toArray W eg hcmp (holds_fl hlen hg (by rw [List.size_toArray, hds, h4, hfl, hd])) hgs (by simp; omega)
  rw [List.size_toArray, hds] at h
  change Calls Tryd.prog 41 _ _ _ at h
  refine h.mono ?_
  rintro e w' ⟨rfl, d', m, os, ⟨p1, _, p3⟩, hs, rfl⟩
  have hz : d'.size = ks.length := by rw [p1]; simp [hds]
  refine ⟨rfl, d'.toList.map (·.1), ?_, ?_, ⟨by rw [fl_len (fun _ => rfl)], .inr ⟨g, cap, putCells id 0 (flatK (fun x : A => e2 x.1) 2 d') cur, by simp [hz], hS, heap_put _ hg, by simpa [hz] using h1, h2, by simp [putCells, h3], ?_⟩⟩, kp_put _⟩
  · have e1 : d'.extract 0 ks.length = d' := by rw [← hz]; simp
    have e3 : d.toArray.extract 0 ks.length = d.toArray := by rw [← hds]; simp
    rw [e1, e3] at p3
    rw [← hd]
    exact (show d'.toList.Perm d from by simpa using p3).map _
  · rw [List.pairwise_map, List.pairwise_iff_getElem]
    intro i j hi hj hij
    have hi' : i < d'.size := by simpa using hi
    have hj' : j < d'.size := by simpa using hj
    have := hs i j (Nat.zero_le _) hij (by simpa [hz] using hj')
    rw [getElem!_pos d' j hj', getElem!_pos d' i hi'] at this
    have h9 := of_decide_eq_false this
    simpa using h9
  · have e : (d'.toList.map (·.1)).length * 2 = (flatK (fun x : A => e2 x.1) 2 d').size := by simp
    rw [e, take_put cur _ (by simp; omega), flat_fl hlen, hfl]
end Go.Proofs.YtjmninjaoemhjaaDoor
/- Vectors: elements that a slice shows; Clone. -/
namespace Go.Proofs.YtjmninjaoemhjaaDoor
open Go.RowKit Go.Lib Go.Shelf Go.Sort

/-- Elements that a slice shows. -/
def Em (w : World) (a : Option Addr) (q : Nat → El) (n : Nat) : Prop := n = 0 ∨ ∃ g o, a = some ⟨g, o, none⟩ ∧ g < w.heap.size ∧ ∀ j, j < n → w.cell? ⟨g, o + j * 2, none⟩ = some (.slice (q j).a (q j).n (q j).c) ∧ w.cell? ⟨g, o + j * 2 + 1, none⟩ = some (.float .f64 (q j).x)
theorem Em.below {w w' : World} {a : Option Addr} {q : Nat → El} {n : Nat} (h : Em w a q n) (hb : Below w.heap.size w w') : Em w' a q n := by
  rcases h with h | ⟨g, o, rfl, hg, hc⟩
  · exact .inl h
  · exact .inr ⟨g, o, rfl, Nat.lt_of_lt_of_le hg hb.size, fun j hj => ⟨(hb.cell (p := ⟨g, o + j * 2, none⟩) hg).trans (hc j hj).1, (hb.cell (p := ⟨g, o + j * 2 + 1, none⟩) hg).trans (hc j hj).2⟩⟩
theorem Em.at {w : World} {a : Option Addr} {q : Nat → El} {n : Nat} (h : Em w a q n) (j : Nat) (hj : j < n) : ∃ g o, a = some ⟨g, o, none⟩ ∧ g < w.heap.size ∧ w.cell? ⟨g, o + j * 2, none⟩ = some (.slice (q j).a (q j).n (q j).c) ∧ w.cell? ⟨g, o + j * 2 + 1, none⟩ = some (.float .f64 (q j).x) := by
  rcases h with h | ⟨g, o, rfl, hg, hat⟩
  · omega
  · exact ⟨g, o, rfl, hg, hat j hj⟩
def elL (q : Nat → El) (n : Nat) : List El := (List.range n).map q
theorem elL_len (q : Nat → El) (n : Nat) : (elL q n).length = n := by simp [elL]
theorem elL_get (q : Nat → El) (n j : Nat) (h : j < n) : (elL q n)[j]? = some (q j) := by simp [elL, h]
theorem e2_len (x : El) : (e2 x).length = 2 := rfl
theorem Em.cells {w : World} {p : Addr} {q : Nat → El} {n : Nat} (h : Em w (some p) q n) : ∀ j u, (fl e2 (elL q n))[j]? = some u → w.cell? (p.add j) = some u := by
  intro j u hj
  have hjl : j < n * 2 := by
    have := (List.getElem?_eq_some_iff.1 hj).1
    rw [fl_len e2_len, elL_len] at this
    exact this
  rcases h with h | ⟨g, o, e, _, hc⟩
  · omega
  · cases e
    have hj2 : j / 2 * 2 + j % 2 = j := by omega
    rw [← hj2, fl_get e2_len (elL q n) (j / 2) (j % 2) (by omega), elL_get q n (j / 2) (by omega)] at hj
    obtain ⟨c0, c1⟩ := hc (j / 2) (by omega)
    rw [Go.WideShapes.add_plain]
    rcases Nat.mod_two_eq_zero_or_one j with h0 | h0
    · rw [h0] at hj
      simp [e2] at hj
      rw [show o + j = o + j / 2 * 2 by omega, c0, hj]
    · rw [h0] at hj
      simp [e2] at hj
      rw [show o + j = o + j / 2 * 2 + 1 by omega, c1, hj]
theorem fl_cell1 : ∀ (l : List El) (u : Value), u ∈ fl e2 l → u.oneCell' = true := by
  intro l u hu
  unfold fl at hu
  rw [List.mem_flatMap] at hu
  obtain ⟨x, _, hu⟩ := hu
  simp [e2] at hu
  rcases hu with rfl | rfl <;> rfl
theorem infE : (Tryd.prog.info? 45).map (fun i => (i.zero, i.size, i.bytes)) = some (some (.agg #[.slice none 0 0, .float .f64 0]), 2, 32) := by kernel_rfl
theorem copy_el (w : World) (p : Addr) (n c : Nat) (q : Nat → El) (h : Em w (some p) q n) (hn : n * 32 ≤ 140737488355328) :
    ∃ v' w', (Builtin.append_ #[40, 40] 40 #[.slice (some ⟨w.heap.size, 0, none⟩) 0 0, .slice (some p) n c]).run Tryd.prog (w.alloc (.cells #[] 45)) = .ok v' w' ∧ w'.ownsRow w.heap.size 45 2 v' n (fl e2 (elL q n)) ∧ Below w.heap.size w w' := by
  obtain ⟨i0, hi, hz0, hz1, hz2⟩ := info_parts infE
  have o0 : (w.alloc (.cells #[] 45)).ownsRow w.heap.size 45 2 (.slice (some ⟨w.heap.size, 0, none⟩) 0 0) 0 [] := ⟨rfl, .inr ⟨w.heap.size, 0, #[], rfl, Nat.le_refl _, heap_alloc_new w _, Nat.le_refl _, Nat.zero_le _, rfl, rfl⟩⟩
  have hb : Below w.heap.size w (w.alloc (.cells #[] 45)) := (Below.refl _ w).alloc (Nat.le_refl _) _
  obtain ⟨v', w', r, o', gr, _⟩ := run_append_own (P := Tryd.prog) (w.alloc (.cells #[] 45)) w.heap.size 40 40 45 i0 _ 2 32 Tryd.underlying40 hi hz0 hz1 hz2 rfl (by decide) _ 0 [] o0 p n c (fl e2 (elL q n)) (by rw [fl_len e2_len, elL_len])
    (fun j u hj => (h.below hb).cells j u hj) (fl_cell1 _) (by unfold maxLen; omega) (by omega) (by simp)
  refine ⟨v', w', r, ?_, hb.grown gr (by simp) (fun k hk => by simp [Value.ownBlock] at hk; omega)⟩
  simpa using o'
set_option maxHeartbeats 1000000 in
set_option maxRecDepth 100000 in
/-- slices.Clone of elements. -/
theorem clone_el (a : Option Addr) (n c : Nat) (q : Nat → El) (w : World) (h : Em w a q n) (hz : a = none → n = 0) (hn : n * 32 ≤ 140737488355328) :
    Calls Tryd.prog 40 #[.slice a n c] w fun e w' => ∃ v, e = .returned v ∧ w'.ownsRow w.heap.size 45 2 v n (fl e2 (elL q n)) ∧ Below w.heap.size w w' := by
  have q40 : ∀ (w : World) (a : Option Addr) (n c n' c' : Nat), (binOp .eql 40 (.slice a n c) (.slice none n' c')).run Tryd.prog w = .ok (.bool a.isNone) w := fun w a n c n' c' => Lib.run_eql_slice_nil w _ _ a n c n' c' Tryd.underlying40
  cases a with
  | none =>
    obtain rfl := hz rfl
    clear h
    go_enter Tryd.func40, Tryd.ntmps40
    go_wp2
    go_ret
    exact ⟨_, rfl, World.ownsRow_nil _ _ _ _, Below.refl _ _⟩
  | some p =>
    obtain ⟨v', w1, r1, o1, b1⟩ := copy_el w p n c q h hn
    have O1 : Hid (w1.ownsRow w.heap.size 45 2 v' n (fl e2 (elL q n))) := o1
    have B1 : Hid (Below w.heap.size w w1) := b1
    clear h o1 b1 hz
    go_enter Tryd.func40, Tryd.ntmps40
    go_wp2_with (at_builtin; refine wpList_append_run rfl _ _ 40 40 rfl _ _ rfl rfl r1 ?_)
    go_wp2
    go_ret
    exact ⟨_, rfl, O1.out, B1.out⟩
end Go.Proofs.YtjmninjaoemhjaaDoor
/- slices.Values and slices.Collect over texts. -/
namespace Go.Proofs.YtjmninjaoemhjaaDoor.K
open Go.RowKit Go.Lib Go.Shelf

attribute [local go_sem] Oper.semAt_some

/-- Texts that a slice shows, in a block below n₀. -/
def Smb (n₀ : Nat) (w : World) (a : Option Addr) (f : Nat → ByteArray) (n : Nat) : Prop := n = 0 ∨ ∃ g o, a = some ⟨g, o, none⟩ ∧ g < n₀ ∧ ∀ j, j < n → w.cell? ⟨g, o + j, none⟩ = some (.string (f j))
theorem Smb.below {n₀ : Nat} {w w' : World} {a : Option Addr} {f : Nat → ByteArray} {n : Nat} (h : Smb n₀ w a f n) (hb : Below n₀ w w') : Smb n₀ w' a f n := by
  rcases h with h | ⟨g, o, e, hg, hc⟩
  · exact .inl h
  · exact .inr ⟨g, o, e, hg, fun j hj => (hb.cell (p := ⟨g, o + j, none⟩) hg).trans (hc j hj)⟩
theorem Smb.at {n₀ : Nat} {w : World} {a : Option Addr} {f : Nat → ByteArray} {n : Nat} (h : Smb n₀ w a f n) (j : Nat) (hj : j < n) : ∃ g o, a = some ⟨g, o, none⟩ ∧ g < n₀ ∧ w.cell? ⟨g, o + j, none⟩ = some (.string (f j)) := by
  rcases h with h | ⟨g, o, e, hg, hat⟩
  · omega
  · exact ⟨g, o, e, hg, hat j hj⟩
/-- What a round keeps. -/
def AK (n₀ : Nat) (W W' : World) : Prop := Below n₀ W W' ∧ KeepsWalks W W'
theorem AK_t {n₀ : Nat} {A B C : World} (h : AK n₀ A B) (k : AK n₀ B C) : AK n₀ A C := ⟨h.1.trans k.1, h.2.trans k.2⟩
theorem AK_b {n₀ : Nat} {w : World} (hn : n₀ ≤ w.heap.size) (W : World) (l : Nat) (o o' : Obj) (hl : w.heap.size ≤ l) (h : W.heap[l]? = some o) (h1 : o.isCells = false) (h2 : o.isWalk = false) : AK n₀ W (W.putObj l o') :=
  ⟨belowK_b hn W l o o' hl h h1 h2, KeepsWalks.putObj _ h h2⟩
abbrev encS (x : ByteArray) : Array Value := #[.string x]
def lf (f : Nat → ByteArray) (i : Nat) : List ByteArray := (List.range i).map f
theorem lf_succ (f : Nat → ByteArray) (i : Nat) : lf f (i + 1) = lf f i ++ [f i] := by unfold lf; rw [List.range_succ, List.map_append]; rfl
theorem lf_len (f : Nat → ByteArray) (i : Nat) : (lf f i).length = i := by simp [lf]

set_option maxRecDepth 100000 in
set_option maxHeartbeats 4000000 in
theorem vals1 (n : Nat) (hn : 1 ≤ n) (l Bs n₀ : Nat) (a : Option Addr) (f : Nat → ByteArray) (N c : Nat) (hN : N ≤ 140737488351232) (J Jx : List ByteArray → World → Prop) (W : World)
    (hY : ∀ pre x W1, J pre W1 → pre.length < N → YieldAt Fence.wide (n - 1) Tryd.prog l (encS x) W1 fun e W' => (e = .returned (.bool true) ∧ J (pre ++ [x]) W' ∧ AK n₀ W1 W') ∨ (e = .returned (.bool false) ∧ Jx (pre ++ [x]) W'))
    (hBs : W.cell? ⟨Bs, 0, none⟩ = some (.slice a N c)) (hR : Smb n₀ W a f N) (h0 : J [] W) :
    CallsIn Fence.wide n Tryd.prog 87 #[.func (.yield l) #[] #[], .pointer (some ⟨Bs, 0, none⟩)] W fun e W' => (∃ v, e = .returned v) ∧ ((∃ xs, xs = lf f N ∧ J xs W') ∨ (∃ pre, pre <+: lf f N ∧ Jx pre W')) := by
  refine callsIn_of_wp Tryd.func87 rfl trivial ?_ rfl
  simp only [Tryd.ntmps87, List.size_toArray, List.length_cons, List.length_nil, Nat.reduceAdd, Nat.reduceSub, Array.replicate_succ, Array.replicate_zero, List.push_toArray, List.append_toArray, List.nil_append, List.cons_append]
  gi_wp2
  gi_loopw [7] (fun ivv w' => ∃ i : Nat, ivv = .int .i64 (i : Int) ∧ i ≤ N ∧ Below n₀ W w' ∧ J (lf f i) w') (fun ivv _ => N - (RowKit.intOf ivv).toNat)
  case atStart => exact ⟨0, rfl, by omega, Below.refl _ _, h0⟩
  case round =>
    obtain ⟨i, rfl, hi, hbw, hj⟩ := hrel
    by_cases hlt : i < N
    · have hii : (i : Int) < (N : Int) := by omega
      obtain ⟨g, o, rfl, hg, hlo⟩ := (hR.below hbw).at i hlt
      have HYY : Hid (YieldAt Fence.wide (n - 1) Tryd.prog l (encS (f i)) wr fun e W' => (e = .returned (.bool true) ∧ J (lf f i ++ [f i]) W' ∧ AK n₀ wr W') ∨ (e = .returned (.bool false) ∧ Jx (lf f i ++ [f i]) W')) := hY (lf f i) (f i) _ hj (by rw [lf_len]; exact hlt)
      have HB1 : Hid (Below n₀ W wr) := hbw
      have HS : Hid (lf f (i + 1) = lf f i ++ [f i]) := lf_succ f i
      have HP : Hid (lf f i ++ [f i] <+: lf f N) := by
        unfold Hid
        rw [← lf_succ]
        unfold lf
        refine ⟨(List.range' (i + 1) (N - (i + 1))).map f, ?_⟩
        rw [← List.map_append, List.range_eq_range', List.range_eq_range']
        congr 1
        have := List.range'_append (s := 0) (m := i + 1) (n := N - (i + 1)) (step := 1)
        simp only [Nat.one_mul, Nat.zero_add] at this
        rw [this]
        congr 1
        omega
      clear hY hj
      obtain ⟨x, hx⟩ : ∃ x, f i = x := ⟨_, rfl⟩
      rw [hx] at hlo HYY HS HP
      clear hx
      obtain ⟨fn, tmps, assign, body, hy, hR'⟩ := HYY.out
      gi_wp2
      refine hR'.mono ?_
      rintro e W3 (⟨rfl, hJ3, hk3⟩ | ⟨rfl, hJx3⟩)
      · have HB3 : Hid (Below n₀ W W3) := HB1.out.trans hk3.1
        have HJ3 : Hid (J (lf f (i + 1)) W3) := by unfold Hid; rw [HS.out]; exact hJ3
        gi_wp2
        go_roundw
        case rel => exact ⟨i + 1, by go_num, by omega, HB3.out, HJ3.out⟩
        case measure => simp [RowKit.intOf]; omega
      · gi_wp2
        refine bodyPost_ret (results_none rfl _ _ _) rfl ?_
        exact ⟨⟨_, rfl⟩, .inr ⟨_, HP.out, hJx3⟩⟩
    · have hii : ¬ (i : Int) < (N : Int) := by omega
      have hin : i = N := by omega
      subst hin
      gi_wp2
      go_end0
      exact ⟨⟨_, rfl⟩, .inl hj⟩
set_option maxHeartbeats 1000000 in
/-- Values(names): the slice is boxed; the function value captures the box. -/
theorem values_any (a : Option Addr) (N c : Nat) (w : World) :
    Calls Tryd.prog 62 #[.slice a N c] w fun e w' => e = .returned (.func (.func 87) #[] #[.pointer (some ⟨w.heap.size, 0, none⟩)]) ∧ w' = w.alloc (.cells #[.slice a N c] 29) := by
  go_enter Tryd.func62, Tryd.ntmps62
  go_wp2
  go_ret
  exact ⟨rfl, rfl⟩
theorem vals_stops (n : Nat) (hn : 1 ≤ n) (Bs n₀ : Nat) (a : Option Addr) (f : Nat → ByteArray) (N c : Nat) (hN : N ≤ 140737488351232) (w : World) (hBs : w.cell? ⟨Bs, 0, none⟩ = some (.slice a N c)) (hBn : Bs < n₀) (hR : Smb n₀ w a f N) (hnw : n₀ ≤ w.heap.size) :
    SeqStopsK Fence.wide n Tryd.prog 87 #[.pointer (some ⟨Bs, 0, none⟩)] encS (AK n₀) (fun xs => xs = lf f N) (fun pre => pre <+: lf f N) N w := fun l J Jx W hW hJ _ hY h0 => by
  refine (vals1 n hn l Bs n₀ a f N c hN J Jx W ?_ ((hW.cell (p := ⟨Bs, 0, none⟩) (Nat.lt_of_lt_of_le hBn hnw)).trans hBs) (hR.below (hW.mono hnw)) h0).mono ?_
  · intro pre x W1 hj hl
    exact hY pre x W1 hj hl
  · rintro e W' ⟨hv, ⟨xs, h1, h2⟩ | ⟨pre, h0, h2⟩⟩
    · exact ⟨hv, .inl ⟨xs, h1, h2⟩⟩
    · exact ⟨hv, .inr ⟨pre, h0, h2⟩⟩
end Go.Proofs.YtjmninjaoemhjaaDoor.K
/- slices.Collect of slices.Values over texts. -/
namespace Go.Proofs.YtjmninjaoemhjaaDoor.K
open Go.RowKit Go.Lib Go.Shelf

attribute [local go_sem] Oper.semAt_some

theorem info_parts {P : Program} {e : TypeId} {z : Value} {size bytes : Nat} (h : (P.info? e).map (fun i => (i.zero, i.size, i.bytes)) = some (some z, size, bytes)) : ∃ i, P.info? e = some i ∧ i.zero = some z ∧ i.size = size ∧ i.bytes = bytes := by
  cases hi : P.info? e with
  | none => rw [hi] at h; cases h
  | some i =>
    rw [hi] at h
    simp at h
    exact ⟨i, rfl, h.1, h.2.1, h.2.2⟩
theorem info9 : (Tryd.prog.info? 9).map (fun i => (i.zero, i.size, i.bytes)) = some (some (.string ⟨#[]⟩), 1, 16) := by kernel_rfl
def ss (xs : List ByteArray) : List Value := xs.map Value.string
theorem ss_app (xs : List ByteArray) (x : ByteArray) : ss (xs ++ [x]) = ss xs ++ [.string x] := by simp [ss]
theorem cell_str_new (w : World) (x : ByteArray) : ∀ j u, ([.string x] : List Value)[j]? = some u → (w.alloc (.cells #[.string x] 9)).cell? ((⟨w.heap.size, 0, none⟩ : Addr).add j) = some u := by
  intro j u hj
  have e : (w.alloc (.cells #[.string x] 9)).heap[w.heap.size]? = some (.cells #[.string x] 9) := heap_alloc_new w _
  rw [Go.WideShapes.add_plain, Nat.zero_add]
  unfold World.cell?
  rw [e]
  simpa using hj
set_option maxRecDepth 100000 in
set_option maxHeartbeats 4000000 in
theorem appendSeq_in (n : Nat) (hn : 3 ≤ n) (Bs : Nat) (a : Option Addr) (f : Nat → ByteArray) (N c : Nat) (hN : N ≤ 8796093022208) (w : World) (hBs : w.cell? ⟨Bs, 0, none⟩ = some (.slice a N c)) (hBn : Bs < w.heap.size) (hR : Smb w.heap.size w a f N) :
    CallsIn Fence.wide n Tryd.prog 108 #[.slice none 0 0, .func (.func 87) #[] #[.pointer (some ⟨Bs, 0, none⟩)]] w fun e W' => ∃ v, e = .returned v ∧ W'.ownsRow w.heap.size 9 1 v N (ss (lf f N)) ∧ Below w.heap.size w W' := by
  have h1 : 1 ≤ n := by omega
  obtain ⟨i0, hi, hz0, hz1, hz2⟩ := info_parts info9
  refine callsIn_of_wp_marks Tryd.func108 rfl trivial ?_ rfl
  simp only [Tryd.ntmps108, List.size_toArray, List.length_cons, List.length_nil, Nat.reduceAdd, Nat.reduceSub, Array.replicate_succ, Array.replicate_zero, List.push_toArray, List.append_toArray, List.nil_append, List.cons_append]
  gi_wp2
  have bO := Boxed.new w 29 (.slice none 0 0)
  have hB0 : Below w.heap.size w (w.alloc (.cells #[.slice none 0 0] 29)) := (Below.refl _ w).alloc (Nat.le_refl _) _
  refine wpIn_rangeFunc_ownH rfl h1 (gf := 87) (lb := #[.pointer (some ⟨Bs, 0, none⟩)]) rfl trivial (enters_of Tryd.func87 (by kernel_rfl) rfl)
    (vals_stops (n - 1) (by omega) Bs w.heap.size a f N c (by omega) _ ((hB0.cell (p := ⟨Bs, 0, none⟩) hBn).trans hBs) hBn (hR.below hB0) (by simp)) AK_t (AK_b (by simp)) (Below.refl _ _) (fun _ => rfl)
    (fun pre W => (∃ v, Boxed W w.heap.size 29 v ∧ W.ownsRow w.heap.size 9 1 v pre.length (ss pre) ∧ True) ∧ Below w.heap.size w W)
    (fun _ _ _ => False)
    (OwnFrom.and (Own.from (holdsRow_own w.heap.size w.heap.size 29 9 1 (fun pre => pre.length) (fun pre => ss pre) (fun _ _ => True)) _) (ownFrom_below (Nat.le_refl _) (by simp)))
    (fun _ _ _ _ _ hs _ _ => hs)
    ⟨⟨_, bO, World.ownsRow_nil _ _ _ _, trivial⟩, hB0⟩
    (fun x a' _ => a' = { tmps := #[.slice none 0 0, .func (.func 87) #[] #[.pointer (some ⟨Bs, 0, none⟩)], .pointer (some ⟨w.heap.size, 0, none⟩), undef, .slice none 0 0, .string x, .func (.func 87) #[] #[.pointer (some ⟨Bs, 0, none⟩)], .string x, undef, undef, undef, undef, undef], defers := [] })
    (fun x a' _ W W' row hs hg hr => hs)
    ?assign ?body ?done ?stop
  case assign =>
    rintro l pre x W K ⟨⟨v, hv, hrow, -⟩, hB⟩ hK
    have hK' := hK { tmps := #[.slice none 0 0, .func (.func 87) #[] #[.pointer (some ⟨Bs, 0, none⟩)], .pointer (some ⟨w.heap.size, 0, none⟩), undef, .slice none 0 0, .string x, .func (.func 87) #[] #[.pointer (some ⟨Bs, 0, none⟩)], .string x, undef, undef, undef, undef, undef], defers := [] } W ((KeepsOthers.refl W).from _) ⟨Below.refl _ W, KeepsWalks.refl W⟩ ⟨⟨v, hv, hrow, trivial⟩, hB⟩ rfl
    clear hK hv hrow hB
    gi_wp2
    exact hK'
  case body =>
    rintro l pre x a' W hl hlr ⟨⟨v, hv, hrow, -⟩, hB⟩ rfl hlt
    have hc := hv.cell
    clear hlr
    gi_wp2_with (gi_at_builtin; refine wpListIn_append_own _ rfl _ _ 29 rfl w.heap.size 9 i0 (.string ⟨#[]⟩) 1 16 Tryd.underlying29 hi hz0 hz1 hz2 rfl (by decide) _ _ _ rfl (hrow.alloc _) ⟨W.heap.size, 0, none⟩ 1 1 [.string x] rfl rfl (cell_str_new _ x) (by simp [Value.oneCell']) (by have : maxLen = 9223372036854775807 := rfl; omega) (by omega) (by have := hB.size; simp; omega) ?_; intro v' w1 hown' hgrow _; obtain ⟨g', cap', rfl⟩ := ownsRow_succ hown'; obtain ⟨hv1, hv2, hr2, hk2, hb2⟩ := hv.appended (by decide) hrow hB.size (Nat.le_refl _) hown' hgrow; have hc1 := hv1.cell; have hf1 := hv1.frozen)
    exact ⟨hk2.from _, ⟨hb2, hk2.walks⟩, ⟨_, hv2, by rw [ss_app]; simpa using hr2, trivial⟩, hB.trans hb2⟩
  case done =>
    rintro D ys W hD rfl ⟨⟨v, hv, hrow, -⟩, hB⟩ hK
    have hc := hv.cell
    gi_wp2
    refine ⟨by simp, .inl ⟨_, _, rfl, run_takeDeferred hK, ?_⟩⟩
    refine ⟨_, results_tmp rfl _ _ _, v, rfl, ?_, hB.trans (belowK_b (w := w) (Nat.le_refl _) W D _ _ (by simp at hD; omega) hK rfl rfl)⟩
    have := ownsRow_putObj hrow (Obj.deferred none) hK rfl
    rw [lf_len] at this
    exact this
  case stop =>
    rintro D c pre W _ _ h _
    exact h.elim
set_option maxRecDepth 100000 in
theorem collect_any (Bs : Nat) (a : Option Addr) (f : Nat → ByteArray) (N c : Nat) (hN : N ≤ 8796093022208) (w : World) (hBs : w.cell? ⟨Bs, 0, none⟩ = some (.slice a N c)) (hBn : Bs < w.heap.size) (hR : Smb w.heap.size w a f N) :
    Calls Tryd.prog 85 #[.func (.func 87) #[] #[.pointer (some ⟨Bs, 0, none⟩)]] w fun e W' => ∃ v, e = .returned v ∧ W'.ownsRow w.heap.size 9 1 v N (ss (lf f N)) ∧ Below w.heap.size w W' := by
  have k := callsIn_wide.1 (appendSeq_in 3 (by omega) Bs a f N c hN w hBs hBn hR)
  clear hBs hR
  go_enter Tryd.func85, Tryd.ntmps85
  go_wp2_with fail
  go_fit k
  rintro e w2 ⟨v, rfl, h2⟩
  go_wp2
  go_ret
  exact ⟨v, rfl, h2⟩
end Go.Proofs.YtjmninjaoemhjaaDoor.K
