/- A bundle of texts. -/
import Derived.Test.YtebjklppbkkinaaGreatDoorBp10
import Derived.Test.YtebjklppbkkinaaGreatDoorBp26
import Derived.Lib.SliceRun
/- Pair: vectors as what they say (from the labels' seat). -/
namespace Go.Proofs.YtebjklppbkkinaaGreatDoor
open Go.RowKit Go.Lib Go.Shelf Go.Sort

theorem tempty (a : ByteArray) : a.toList.isEmpty = true ↔ a = ⟨#[]⟩ := by
  rw [List.isEmpty_iff, Lib.toList_data]
  constructor
  · intro h
    rw [ByteArray.ext_iff]
    exact Array.toList_inj.1 h
  · rintro rfl
    rfl
theorem K.row_sl {w : World} {S e s n : Nat} {v : Value} {xs : List Value} (o : w.ownsRow S e s v n xs) : ∃ a c, v = .slice a n c ∧ n ≤ c := by
  rcases o.2 with ⟨e, e2⟩ | ⟨g, c, cur, e, _, hg, hn, _⟩
  · exact ⟨none, 0, by rw [e, e2], by omega⟩
  · exact ⟨_, c, e, hn⟩

abbrev nmB : ByteArray := ⟨#[95, 95, 110, 97, 109, 101, 95, 95]⟩
theorem gL_at (ks : List Lb) (j : Nat) (h : j < ks.length) : K.gL ks j = ks[j] := by
  unfold K.gL
  simp [h]
theorem gL_mem (ks : List Lb) (j : Nat) (h : j < ks.length) : K.gL ks j ∈ ks := by
  rw [gL_at ks j h]
  exact List.getElem_mem h
theorem va_all (f : Nat → Lb) : ∀ k i, (∀ j, i ≤ j → j < i + k → okL f j = true) → vaF f k i = true
  | 0, _, _ => rfl
  | k + 1, i, h => by
    unfold vaF
    rw [h i (by omega) (by omega), va_all f k (i + 1) (fun j h1 h2 => h j (by omega) (by omega))]
    rfl
theorem Ls.valid {ks : List Lb} (h : Ls ks) : vaF (K.gL ks) ks.length 0 = true := by
  refine va_all _ _ _ fun j _ hj => ?_
  have hj : j < ks.length := by omega
  have hx := h.1 _ (gL_mem ks j hj)
  have h2 : (K.gL ks j).2.toList.isEmpty = false := by
    rw [← Bool.not_eq_true, tempty]
    exact hx.2.1
  unfold okL
  rw [hx.1, h2, hx.2.2]
  by_cases h0 : j = 0
  · simp [h0]
  · have := (List.pairwise_iff_getElem.1 h.2) (j - 1) j (by omega) hj (by omega)
    rw [gL_at ks j hj, gL_at ks (j - 1) (by omega), this]
    simp
abbrev Co := Nat × List Lb × Nat
def cfC (x y : Co) : Int := cm (K.gL x.2.1) x.1 (K.gL y.2.1) y.1
def okC (x : Co) : Bool := vaF (K.gL x.2.1) x.1 0
theorem cmF_cong {f f' g g' : Nat → Lb} {n m : Nat} (hf : ∀ j, j < n → f j = f' j) (hg : ∀ j, j < m → g j = g' j) : ∀ k i, i + k = n → cmF f g m k i = cmF f' g' m k i
  | 0, i, _ => rfl
  | k + 1, i, h => by
    unfold cmF
    by_cases hi : i < m
    · rw [if_pos hi, if_pos hi, hf i (by omega), hg i hi, cmF_cong hf hg k (i + 1) (by omega)]
    · rw [if_neg hi, if_neg hi]
theorem gL_ll (f : Nat → Lb) (n j : Nat) (h : j < n) : K.gL (K.ll f n) j = f j := by simp [K.gL, K.ll, h]
theorem cfE_core (x y : El) : cfE x y = cfC (core x) (core y) :=
  cmF_cong (fun j hj => (gL_ll x.f x.n j hj).symm) (fun j hj => (gL_ll y.f y.n j hj).symm) x.n 0 (by omega)
theorem vaF_cong {f f' : Nat → Lb} {n : Nat} (hf : ∀ j, j < n → f j = f' j) : ∀ k i, i + k = n → vaF f k i = vaF f' k i
  | 0, _, _ => rfl
  | k + 1, i, h => by
    unfold vaF okL
    rw [hf i (by omega), hf (i - 1) (by omega), vaF_cong hf k (i + 1) (by omega)]
theorem okE_core (x : El) : okE x = okC (core x) := vaF_cong (fun j hj => (gL_ll x.f x.n j hj).symm) x.n 0 (by omega)
theorem cfC_anti (x y : Co) : cfC y x = - cfC x y := cm_anti _ _ _ _
/-- What Vector says of elements that say cs. -/
def CV (cs : List Co) (E : Int) (ks : List Co) : Prop :=
  (E = 5 ∧ ks = [] ∧ ¬ ((∀ c ∈ cs, okC c = true) ∧ cs.Pairwise (fun x y => cfC x y ≠ 0))) ∨
  (E = 0 ∧ (∀ c ∈ cs, okC c = true) ∧ ks.Perm cs ∧ ks.Pairwise (fun x y => cfC x y < 0))
theorem sorted_uniq {α : Type} {r : α → α → Prop} (asy : ∀ x y, r x y → r y x → False) : ∀ {l l' : List α}, l.Perm l' → l.Pairwise r → l'.Pairwise r → l = l'
  | [], l', hp, _, _ => (List.Perm.nil_eq hp)
  | x :: l, l', hp, h1, h2 => by
    cases l' with
    | nil => exact absurd hp.length_eq (by simp)
    | cons y m =>
      rw [List.pairwise_cons] at h1 h2
      have hx : x ∈ y :: m := hp.subset (by simp)
      have hy : y ∈ x :: l := hp.symm.subset (by simp)
      rw [List.mem_cons] at hx hy
      have e : x = y := by
        rcases hx with e | hx
        · exact e
        · rcases hy with e | hy
          · exact e.symm
          · exact (asy x y (h1.1 y hy) (h2.1 x hx)).elim
      subst e
      rw [sorted_uniq asy (List.Perm.cons_inv hp) h1.2 h2.2]
theorem CV.ne {cs ks : List Co} (hp : ks.Perm cs) (h : ks.Pairwise (fun x y => cfC x y < 0)) : cs.Pairwise (fun x y => cfC x y ≠ 0) :=
  (hp.pairwise_iff (fun {x y} h => by have := cfC_anti x y; omega)).1 (h.imp fun {x y} h => by omega)
theorem CV.uniq {cs ks ks' : List Co} {E E' : Int} (h : CV cs E ks) (h' : CV cs E' ks') : E = E' ∧ ks = ks' := by
  rcases h with ⟨e, k, n⟩ | ⟨e, o, p, s⟩
  · rcases h' with ⟨e', k', _⟩ | ⟨_, o', p', s'⟩
    · exact ⟨e.trans e'.symm, k.trans k'.symm⟩
    · exact (n ⟨o', CV.ne p' s'⟩).elim
  · rcases h' with ⟨_, _, n'⟩ | ⟨e', o', p', s'⟩
    · exact (n' ⟨o, CV.ne p s⟩).elim
    · exact ⟨e.trans e'.symm, sorted_uniq (fun x y h1 h2 => by have := cfC_anti x y; omega) (p.trans p'.symm) s s'⟩
theorem CV.len {cs ks : List Co} {E : Int} (h : CV cs E ks) : ks.length ≤ cs.length := by
  rcases h with ⟨_, k, _⟩ | ⟨_, _, p, _⟩
  · rw [k]; exact Nat.zero_le _
  · rw [p.length_eq]; exact Nat.le_refl _
theorem ne_core {l : List El} : (l.map core).Pairwise (fun x y => cfC x y ≠ 0) ↔ l.Pairwise (fun x y => cfE x y ≠ 0) := by
  rw [List.pairwise_map]
  exact ⟨fun h => h.imp fun {x y} h => by rw [cfE_core]; exact h, fun h => h.imp fun {x y} h => by rw [← cfE_core]; exact h⟩
theorem lt_core {l : List El} (h : l.Pairwise (fun x y => cfE x y < 0)) : (l.map core).Pairwise (fun x y => cfC x y < 0) := by
  rw [List.pairwise_map]
  exact h.imp fun {x y} h => by rw [← cfE_core]; exact h
theorem mem_elL {q : Nat → El} {n : Nat} {x : El} : x ∈ elL q n ↔ ∃ j, j < n ∧ q j = x := by simp [elL]
theorem bad_core {q : Nat → El} {n : Nat} (h : (∃ j, j < n ∧ okE (q j) = false) ∨ ¬ (elL q n).Pairwise (fun x y => cfE x y ≠ 0)) : ¬ ((∀ c ∈ (elL q n).map core, okC c = true) ∧ ((elL q n).map core).Pairwise (fun x y => cfC x y ≠ 0)) := by
  rintro ⟨h1, h2⟩
  rcases h with ⟨j, hj, h⟩ | h
  · have := h1 (core (q j)) (List.mem_map.2 ⟨q j, mem_elL.2 ⟨j, hj, rfl⟩, rfl⟩)
    rw [← okE_core, h] at this
    cases this
  · exact h (ne_core.1 h2)
theorem ok_core {q : Nat → El} {n : Nat} (h : ∀ j, j < n → okE (q j) = true) : ∀ c ∈ (elL q n).map core, okC c = true := by
  intro c hc
  obtain ⟨x, hx, rfl⟩ := List.mem_map.1 hc
  obtain ⟨j, hj, rfl⟩ := mem_elL.1 hx
  rw [← okE_core]
  exact h j hj
theorem VR.cv {q : Nat → El} {n : Nat} {w w' : World} {e : Ending} (h : VR q n w e w') : ∃ v E N r, e = .returned (.tuple #[v, .int .i64 E]) ∧ Below w.heap.size w w' ∧ Vo w.heap.size w' v N r ∧ CV ((elL q n).map core) E ((elL r N).map core) := by
  obtain ⟨v, E, he, b, ⟨e5, hv, hb⟩ | ⟨e0, ho, ks, r, hp, hs, hV, hc⟩⟩ := h
  · refine ⟨v, E, 0, q, he, b, ?_, .inl ⟨e5, rfl, bad_core hb⟩⟩
    subst hv
    exact ⟨World.ownsRow_nil _ _ _ _, fun j hj => absurd hj (by omega), fun j k h1 h2 => absurd h2 (by omega)⟩
  · exact ⟨v, E, n, r, he, b, hV, .inr ⟨e0, ok_core ho, by rw [hc]; exact hp.map core, by rw [hc]; exact lt_core hs⟩⟩
theorem RVR.cv {q : Nat → El} {n : Nat} {w w' : World} {e : Ending} (h : RVR q n w e w') : ∃ v E ks, e = .returned (.tuple #[v, .int .i64 E]) ∧ Below w.heap.size w w' ∧ w'.ownsRow w.heap.size 31 2 v ks.length (fl e2 ks) ∧ (∀ x ∈ ks, ∃ j, j < n ∧ q j = x) ∧ CV ((elL q n).map core) E (ks.map core) := by
  obtain ⟨v, E, he, b, ⟨e5, hv, hb⟩ | ⟨e0, ho, ks, hp, hs, hr⟩⟩ := h
  · refine ⟨v, E, [], he, b, ?_, fun x hx => absurd hx (by simp), .inl ⟨e5, rfl, bad_core hb⟩⟩
    subst hv
    exact World.ownsRow_nil _ _ _ _
  · exact ⟨v, E, ks, he, b, hr, fun x hx => mem_elL.1 (hp.subset hx), .inr ⟨e0, ok_core ho, hp.map core, lt_core hs⟩⟩
theorem Vo.kp {M : Nat → Prop} {S n : Nat} {w w' : World} {v : Value} {q : Nat → El} (h : Vo S w v n q) (k : Kp M w w') (hv : ∀ b, v.ownBlock = some b → ¬ M b) (hq : ∀ j, j < n → ∀ b, (Value.slice (q j).a (q j).n (q j).c).ownBlock = some b → ¬ M b) : Vo S w' v n q :=
  ⟨k.row h.1 hv, fun j hj => ⟨own_kp k (h.2.1 j hj).1 (hq j hj), (h.2.1 j hj).2⟩, h.2.2⟩
theorem Vo.below {S n : Nat} {w w' : World} {v : Value} {q : Nat → El} (h : Vo S w v n q) (b : Below w.heap.size w w') : Vo S w' v n q := h.kp (M := fun _ => False) (Kp.of b) (fun _ _ h => h) (fun _ _ _ _ h => h)
theorem Ap.symm {x y : El} (h : Ap x y) : Ap y x := fun b h1 h2 => h b h2 h1
theorem Vo.ap {S n : Nat} {w : World} {v : Value} {q : Nat → El} (h : Vo S w v n q) (j k : Nat) (hj : j < n) (hk : k < n) (hne : j ≠ k) : Ap (q j) (q k) := by
  rcases Nat.lt_or_gt_of_ne hne with e | e
  · exact h.2.2 j k e hk
  · exact (h.2.2 k j e hj).symm
theorem up_at (q : Nat → El) (i : Nat) (e : El) : up q i e i = e := if_pos rfl
theorem up_ne (q : Nat → El) (i : Nat) (e : El) (j : Nat) (h : j ≠ i) : up q i e j = q j := if_neg h
theorem fl_put (q : Nat → El) (i k : Nat) (u : Value) (e : El) (hk : k < 2) (hu : (e2 e)[k]? = some u) (hr : ∀ k', k' < 2 → k' ≠ k → (e2 e)[k']? = (e2 (q i))[k']?) : ∀ n, i < n → (fl e2 (elL q n)).set (i * 2 + k) u = fl e2 (elL (up q i e) n) := by
  intro n hi
  apply List.ext_getElem?
  intro t
  have hl : (fl e2 (elL q n)).length = n * 2 := by rw [fl_len e2_len, elL_len]
  have hl2 : (fl e2 (elL (up q i e) n)).length = n * 2 := by rw [fl_len e2_len, elL_len]
  by_cases ht : t < n * 2
  · have et : t = t / 2 * 2 + t % 2 := by omega
    have hm : t % 2 < 2 := by omega
    have hj : t / 2 < n := by omega
    conv => rhs; rw [et, fl_get e2_len _ _ _ hm, elL_get _ _ _ hj]
    rw [List.getElem?_set]
    by_cases h1 : i * 2 + k = t
    · have h2 : t / 2 = i := by omega
      have h3 : t % 2 = k := by omega
      rw [if_pos h1, if_pos (by omega), h2, h3, up_at]
      exact hu.symm
    · rw [if_neg h1]
      conv => lhs; rw [et, fl_get e2_len _ _ _ hm, elL_get _ _ _ hj]
      by_cases h2 : t / 2 = i
      · rw [h2, up_at]
        exact (hr (t % 2) hm (by omega)).symm
      · rw [up_ne _ _ _ _ h2]
  · rw [List.getElem?_eq_none (by rw [List.length_set]; omega), List.getElem?_eq_none (by omega)]
theorem fl_same {q r : Nat → El} {n : Nat} (h : ∀ j, j < n → e2 (q j) = e2 (r j)) : fl e2 (elL q n) = fl e2 (elL r n) := by
  apply List.ext_getElem?
  intro t
  by_cases ht : t < n * 2
  · have et : t = t / 2 * 2 + t % 2 := by omega
    rw [et, fl_get e2_len _ _ _ (by omega), fl_get e2_len _ _ _ (by omega), elL_get _ _ _ (by omega), elL_get _ _ _ (by omega)]
    simp only [Option.bind_some]
    rw [h (t / 2) (by omega)]
  · rw [List.getElem?_eq_none (by rw [fl_len e2_len, elL_len]; omega), List.getElem?_eq_none (by rw [fl_len e2_len, elL_len]; omega)]
theorem ow_ir {w : World} {S : Nat} {e : El} : Ow w S e ↔ K.Ir w S (.slice e.a e.n e.c) e.n e.f := by
  unfold Ow K.Ir
  rw [K.lcL_lc, ll_len, K.lc_congr (K.gL (K.ll e.f e.n)) e.f e.n fun j hj => gL_ll _ _ _ hj]
theorem core_eq {x y : El} (h : core x = core y) : x.n = y.n ∧ (∀ j, j < x.n → x.f j = y.f j) ∧ x.x = y.x := by
  obtain ⟨h1, h2, h3⟩ : x.n = y.n ∧ K.ll x.f x.n = K.ll y.f y.n ∧ x.x = y.x := by simpa [core] using h
  refine ⟨h1, fun j hj => ?_, h3⟩
  rw [← gL_ll x.f x.n j hj, h2, gL_ll y.f y.n j (by omega)]
/-- A vector that is read. -/
structure RW (W : World) (v : Value) (n : Nat) (q : Nat → El) : Prop where
  sl : ∃ a c, v = .slice a n c ∧ Em W a q n
  lm : ∀ j, j < n → Lm W (q j).a (q j).f (q j).n ∧ (q j).n ≤ 4294967296
theorem RW.below {W W' : World} {v : Value} {n : Nat} {q : Nat → El} (h : RW W v n q) (b : Below W.heap.size W W') : RW W' v n q := by
  obtain ⟨a, c, e, hm⟩ := h.sl
  exact ⟨⟨a, c, e, hm.below b⟩, fun j hj => ⟨(h.lm j hj).1.below b, (h.lm j hj).2⟩⟩
theorem Vo.rw {S n : Nat} {W : World} {v : Value} {q : Nat → El} (h : Vo S W v n q) (hs : ∀ j, j < n → (q j).n ≤ 4294967296) : RW W v n q := by
  obtain ⟨a, c, rfl, _⟩ := K.row_sl h.1
  exact ⟨⟨a, c, rfl, elM_row h.1⟩, fun j hj => ⟨lm_own (h.2.1 j hj).1, hs j hj⟩⟩
theorem cores_eq {q r : Nat → El} {n m : Nat} (h : (elL q n).map core = (elL r m).map core) : n = m ∧ ∀ j, j < n → core (q j) = core (r j) := by
  have hn : n = m := by
    have := congrArg List.length h
    simpa [elL] using this
  subst hn
  refine ⟨rfl, fun j hj => ?_⟩
  have := congrArg (fun l => l[j]?) h
  simpa [elL, hj] using this
theorem eq_cores {q r : Nat → El} {n : Nat} (h : ∀ j, j < n → core (q j) = core (r j)) : (elL q n).map core = (elL r n).map core := by
  simp only [elL, List.map_map]
  exact List.map_congr_left fun j hj => h j (List.mem_range.1 hj)
/-- What the reference's Vector answers. -/
def WA (n : Nat) (q : Nat → El) (w : World) (e : Ending) (w' : World) : Prop := ∃ E N a c qw, e = .returned (.tuple #[.slice a N c, .int .i64 E]) ∧ Below w.heap.size w w' ∧ w'.ownsRow w.heap.size 31 2 (.slice a N c) N (fl e2 (elL qw N)) ∧ N ≤ n ∧ (∀ j, j < N → ∃ k, k < n ∧ q k = qw j) ∧ CV ((elL q n).map core) E ((elL qw N).map core)
theorem RVR.wa {q : Nat → El} {n : Nat} {w w' : World} {e : Ending} (h : RVR q n w e w') : WA n q w e w' := by
  obtain ⟨v, E, ks, rfl, b, o, hm, hC⟩ := h.cv
  obtain ⟨a, c, rfl, _⟩ := K.row_sl o
  have hg := elL_gE ks
  have hl := hC.len
  rw [List.length_map, List.length_map, elL_len] at hl
  refine ⟨E, ks.length, a, c, gE ks, rfl, b, by rw [hg]; exact o, hl, fun j hj => hm _ ?_, by rw [hg]; exact hC⟩
  have : (elL (gE ks) ks.length)[j]? = some (gE ks j) := elL_get _ _ _ hj
  rw [hg] at this
  exact List.mem_of_getElem? this
end Go.Proofs.YtebjklppbkkinaaGreatDoor
/- Pair: nameless: labels without the name, in place. -/
namespace Go.Proofs.YtebjklppbkkinaaGreatDoor
open Go.RowKit Go.Lib Go.Shelf Go.Sort

attribute [local go_sem] Oper.semAt_some

def isN (x : Lb) : Bool := x.1.toList == nmB.toList
set_option maxRecDepth 100000 in
theorem nameless1_any (x : Lb) (w : World) : Calls Tryz.prog 56 #[lbV x] w fun e w' => e = .returned (.bool (isN x)) ∧ Below w.heap.size w w' := by
  have HB : Hid (∀ o, Below w.heap.size w (w.alloc o)) := fun o => (Below.refl _ w).alloc (Nat.le_refl _) o
  obtain ⟨b, hb⟩ : ∃ b, (x.1.toList == [95, 95, 110, 97, 109, 101, 95, 95]) = b := ⟨_, rfl⟩
  have HX : Hid (isN x = b) := (show isN x = b by
    rw [← hb]
    unfold isN
    congr 1
    all_goals (rw [Lib.toList_data]))
  go_enter Tryz.func56, Tryz.ntmps56
  go_wp2
  go_ret
  exact ⟨by rw [HX.out]; rfl, HB.out _⟩
set_option maxHeartbeats 4000000 in
set_option maxRecDepth 100000 in
theorem indexN_any (a : Option Addr) (f : Nat → Lb) (n c : Nat) (w : World) (hL : Lm w a f n) (hn : n ≤ 1152921504606846976) :
    Calls Tryz.prog 47 #[.slice a n c, .func (.func 56) #[] #[]] w fun e w' => ∃ k : Int, e = .returned (.int .i64 k) ∧ Below w.heap.size w w' ∧ ((k = -1 ∧ ∀ j, j < n → isN (f j) = false) ∨ ∃ i : Nat, k = i ∧ i < n ∧ isN (f i) = true ∧ ∀ j, j < i → isN (f j) = false) := by
  have HL : Hid (Lm w a f n) := hL
  have hni : (n : Int) ≤ 1152921504606846976 := by omega
  have e56 : ∀ args w, (callFunc 56 args).run Tryz.prog w = .ok (.enter 56 args) w := enters_of Tryz.func56 (by kernel_rfl) rfl
  clear hL
  go_enter Tryz.func47, Tryz.ntmps47
  go_wp2
  go_loopw [8] (fun t W => ∃ i : Nat, t = .int .i64 (i : Int) ∧ i ≤ n ∧ Hid ((∀ j, j < i → isN (f j) = false) ∧ Below w.heap.size w W)) (fun t _ => n - (RowKit.intOf t).toNat)
  case atStart => exact ⟨0, rfl, by omega, fun j hj => absurd hj (by omega), Below.refl _ _⟩
  case round =>
    obtain ⟨i, rfl, hi, HI⟩ := hrel
    by_cases hlt : i < n
    · have hii : (i : Int) < n := by omega
      have i0 : (0 : Int) ≤ (i : Int) := by omega
      obtain ⟨g, o, rfl, _, x0, x1⟩ := (HL.out.below HI.out.2).at i hlt
      have HIL : Hid (i < n) := hlt
      have k := nameless1_any (f i) wr
      obtain ⟨b, hb⟩ : ∃ b, isN (f i) = b := ⟨_, rfl⟩
      have HBb : Hid (isN (f i) = b) := hb
      rw [hb] at k
      obtain ⟨⟨y0, y1⟩, hy⟩ : ∃ y, f i = y := ⟨_, rfl⟩
      rw [hy] at k x0 x1
      unfold lbV at k
      dsimp only at k x0 x1
      clear hb hy
      cases b
      · go_wp2_with fail
        go_fit k
        rintro e w2 ⟨rfl, b2⟩
        have HN : Hid ((∀ j, j < i + 1 → isN (f j) = false) ∧ Below w.heap.size w w2) := (show _ ∧ _ from ⟨fun j hj => by
          by_cases e : j = i
          · rw [e]; exact HBb.out
          · exact HI.out.1 j (by omega), HI.out.2.trans (b2.mono HI.out.2.size)⟩)
        clear k b2
        go_wp2
        exact ⟨⟨i + 1, by go_num, by have := HIL.out; omega, HN⟩, by simp [RowKit.intOf]; have := HIL.out; omega⟩
      · go_wp2_with fail
        go_fit k
        rintro e w2 ⟨rfl, b2⟩
        have HB2 : Hid (Below w.heap.size w w2) := HI.out.2.trans (b2.mono HI.out.2.size)
        clear k b2
        go_wp2
        go_ret
        exact ⟨_, rfl, HB2.out, .inr ⟨i, rfl, HIL.out, HBb.out, HI.out.1⟩⟩
    · obtain rfl : n = i := by omega
      have hii : ¬ (n : Int) < n := by omega
      go_wp2
      go_ret
      exact ⟨_, rfl, HI.out.2, .inl ⟨rfl, HI.out.1⟩⟩
end Go.Proofs.YtebjklppbkkinaaGreatDoor
/- Pair: DeleteFunc over labels; nameless. -/
namespace Go.Proofs.YtebjklppbkkinaaGreatDoor
open Go.RowKit Go.Lib Go.Shelf Go.Sort

attribute [local go_sem] Oper.semAt_some

theorem zero_lb (m : Nat) : (Builtin.zeroCells (Value.agg #[.string ⟨#[]⟩, .string ⟨#[]⟩]).cells m).toList = List.replicate (m * 2) (.string ⟨#[]⟩) := by
  have hz : (Value.agg #[.string ⟨#[]⟩, .string ⟨#[]⟩]).cells = #[.string ⟨#[]⟩, .string ⟨#[]⟩] := by rfl
  rw [hz]
  apply List.ext_getElem
  · simp [Builtin.zeroCells]
  · intro i h1 h2
    simp only [Builtin.zeroCells]
    rcases Nat.mod_two_eq_zero_or_one i with e | e <;> simp [e]
theorem run_clear_lb (w : World) (ty : TypeId) (g o m c : Nat) (hm : 0 < m) (hc : ∀ j, j < m * 2 → (w.cell? ⟨g, o + j, none⟩).isSome = true) (hf : ∀ j, j < m * 2 → w.frozen? ⟨g, o + j, none⟩ = false) :
    (Builtin.clear_ #[29] ty #[.slice (some ⟨g, o, none⟩) m c]).run Tryz.prog w = .ok (.tuple #[]) (w.setCells g o (List.replicate (m * 2) (.string ⟨#[]⟩))) := by
  have hst := run_storeCells_cells (P := Tryz.prog) g o (List.replicate (m * 2) (.string ⟨#[]⟩)) 0 w (by simpa using hc) (by simpa using hf) (by intro v hv'; rw [List.eq_of_mem_replicate hv']; rfl)
  simp only [Nat.add_zero] at hst
  obtain ⟨k, rfl⟩ : ∃ k, m = k + 1 := ⟨m - 1, by omega⟩
  have hz := zero_lb (k + 1)
  simp [Builtin.clear_, run_underlying Tryz.underlying29, Tryz.zeroValue61, hz, hst]
theorem row_trunc {W : World} {S e s n k g c : Nat} {xs : List Value} (h : W.ownsRow S e s (.slice (some ⟨g, 0, none⟩) n c) n xs) (hk : k ≤ n) : W.ownsRow S e s (.slice (some ⟨g, 0, none⟩) k c) k (xs.take (k * s)) := by
  have hks : k * s ≤ n * s := Nat.mul_le_mul_right _ hk
  refine ⟨by rw [List.length_take, h.1]; omega, ?_⟩
  rcases h.2 with ⟨e1, _⟩ | ⟨g', cap, cur, e1, h1, h2, h3, h4, h5, h6⟩
  · cases e1
  · cases e1
    refine .inr ⟨g, c, cur, rfl, h1, h2, by omega, h4, h5, ?_⟩
    rw [← h6, List.take_take, Nat.min_eq_left hks]
theorem row_far {S e s k g c : Nat} {xs : List Value} : ∀ (vs : List Value) (o : Nat) (W : World), W.ownsRow S e s (.slice (some ⟨g, 0, none⟩) k c) k xs → xs.length ≤ o → (W.setCells g o vs).ownsRow S e s (.slice (some ⟨g, 0, none⟩) k c) k xs ∧ Kp (fun b => b = g) W (W.setCells g o vs)
  | [], _, W, h, _ => ⟨h, Kp.refl _ _⟩
  | v :: r, o, W, h, ho => by
    have h1 := (World.ownsRow.stored h o v).1
    rw [List.set_eq_of_length_le ho] at h1
    obtain ⟨h2, k2⟩ := row_far r (o + 1) _ h1 (by omega)
    exact ⟨h2, (Kp.setCell (M := fun b => b = g) (p := ⟨g, o, none⟩) (Kp.refl _ _) rfl v).trans k2⟩
/-- The labels without the name. -/
def dN (f : Nat → Lb) (n : Nat) : List Lb := (K.ll f n).filter fun u => !isN u
theorem dN_succ (f : Nat → Lb) (n : Nat) : dN f (n + 1) = dN f n ++ if isN (f n) = true then [] else [f n] := by
  unfold dN
  rw [K.ll_succ, List.filter_append]
  congr 1
  cases h : isN (f n) <;> simp [h]
theorem dN_le (f : Nat → Lb) : ∀ n, (dN f n).length ≤ n
  | 0 => by simp [dN, K.ll]
  | n + 1 => by
    rw [dN_succ, List.length_append]
    have := dN_le f n
    split
    · simp; omega
    · simp; omega
theorem dN_none (f : Nat → Lb) : ∀ n, (∀ j, j < n → isN (f j) = false) → dN f n = K.ll f n
  | 0, _ => rfl
  | n + 1, h => by
    rw [dN_succ, dN_none f n fun j hj => h j (by omega), h n (by omega), K.ll_succ]
    rfl
theorem upK_same {α : Type} (f : Nat → α) (j : Nat) (u : α) : K.up f j u j = u := if_pos rfl
theorem upK_other {α : Type} (f : Nat → α) (j : Nat) (u : α) (i : Nat) (h : i ≠ j) : K.up f j u i = f i := if_neg h
/-- Under way: i kept of the first j. -/
structure Dl (S g c n : Nat) (f : Nat → Lb) (w0 : World) (i j : Nat) (h : Nat → Lb) (W : World) : Prop where
  row : K.Ir W S (.slice (some ⟨g, 0, none⟩) n c) n h
  low : ∀ m, m < i → h m = K.gL (dN f j) m
  len : i = (dN f j).length
  up : ∀ m, j ≤ m → h m = f m
  kp : Kp (fun b => b = g) w0 W
theorem Dl.skip {S g c n i j : Nat} {f h : Nat → Lb} {w0 W W' : World} (d : Dl S g c n f w0 i j h W) (hN : isN (f j) = true) (b : Below W.heap.size W W') : Dl S g c n f w0 i (j + 1) h W' := by
  have e : dN f (j + 1) = dN f j := by rw [dN_succ, if_pos hN, List.append_nil]
  exact ⟨d.row.below b, fun m hm => by rw [e]; exact d.low m hm, by rw [e]; exact d.len, fun m hm => d.up m (by omega), d.kp.trans (Kp.of b)⟩
theorem Dl.keep {S g c n i j : Nat} {f h : Nat → Lb} {w0 W W' : World} (d : Dl S g c n f w0 i j h W) (hN : isN (f j) = false) (hi : i < n) (b : Below W.heap.size W W') : Dl S g c n f w0 (i + 1) (j + 1) (K.up h i (f j)) ((W'.setCell ⟨g, i * 2, none⟩ (.string (f j).1)).setCell ⟨g, i * 2 + 1, none⟩ (.string (f j).2)) := by
  have e : dN f (j + 1) = dN f j ++ [f j] := by rw [dN_succ, hN]; rfl
  have hij : i ≤ j := by rw [d.len]; exact dN_le f j
  refine ⟨K.Ir.set (d.row.below b) i hi (f j), fun m hm => ?_, by rw [e, List.length_append, ← d.len]; rfl, fun m hm => ?_, ((d.kp.trans (Kp.of b)).setCell (p := ⟨g, i * 2, none⟩) rfl _).setCell (p := ⟨g, i * 2 + 1, none⟩) rfl _⟩
  · by_cases em : m = i
    · rw [em, upK_same, e]
      have hl := d.len
      simp [K.gL, hl]
    · rw [upK_other _ _ _ _ em, d.low m (by omega), e]
      have hl := d.len
      unfold K.gL
      rw [List.getD_eq_getElem?_getD, List.getD_eq_getElem?_getD, List.getElem?_append_left (by omega)]
  · rw [upK_other _ _ _ _ (by omega)]
    exact d.up m (by omega)
theorem Dl.fin {S g c n i : Nat} {f h : Nat → Lb} {w0 W : World} (d : Dl S g c n f w0 i n h W) (hi : i ≤ n) : K.Ir W S (.slice (some ⟨g, 0, none⟩) i c) (dN f n).length (K.gL (dN f n)) := by
  have r := row_trunc d.row hi
  have hl := d.len
  have e : (lc h n).take (i * 2) = lc (K.gL (dN f n)) i := by
    apply List.ext_getElem?
    intro t
    by_cases ht : t < i * 2
    · have et : t = t / 2 * 2 + t % 2 := by omega
      rw [List.getElem?_take_of_lt ht, et, lc_get h n _ _ (by omega) (by omega), lc_get (K.gL (dN f n)) i _ _ (by omega) (by omega), d.low _ (by omega)]
    · rw [List.getElem?_eq_none (by rw [List.length_take, lc_len]; omega), List.getElem?_eq_none (by rw [lc_len]; omega)]
  unfold K.Ir
  rw [e] at r
  rw [← hl]
  exact r
end Go.Proofs.YtebjklppbkkinaaGreatDoor
