/- A bundle of texts. -/
import Derived.Test.YtjmninjaoemhjaaDoorBv20
import Derived.Test.YtjmninjaoemhjaaDoorBv15
/- LabelsVectors: rows of elements written over. -/
namespace Go.Proofs.YtjmninjaoemhjaaDoor
open Go.RowKit Go.Lib Go.Shelf Go.Sort

theorem Vo.kp {M : Nat → Prop} {S n : Nat} {w w' : World} {v : Value} {q : Nat → El} (h : Vo S w v n q) (k : Kp M w w') (hv : ∀ b, v.ownBlock = some b → ¬ M b) (hq : ∀ j, j < n → ∀ b, (Value.slice (q j).a (q j).n (q j).c).ownBlock = some b → ¬ M b) : Vo S w' v n q :=
  ⟨k.row h.1 hv, fun j hj => ⟨own_kp k (h.2.1 j hj).1 (hq j hj), (h.2.1 j hj).2⟩, h.2.2⟩
theorem Vo.below {S n : Nat} {w w' : World} {v : Value} {q : Nat → El} (h : Vo S w v n q) (b : Below w.heap.size w w') : Vo S w' v n q := h.kp (M := fun _ => False) (Kp.of b) (fun _ _ h => h) (fun _ _ _ _ h => h)
theorem Ap.symm {x y : El} (h : Ap x y) : Ap y x := fun b h1 h2 => h b h2 h1
theorem Vo.ap {S n : Nat} {w : World} {v : Value} {q : Nat → El} (h : Vo S w v n q) (j k : Nat) (hj : j < n) (hk : k < n) (hne : j ≠ k) : Ap (q j) (q k) := by
  rcases Nat.lt_or_gt_of_ne hne with e | e
  · exact h.2.2 j k e hk
  · exact (h.2.2 k j e hj).symm
theorem up_at (q : Nat → El) (i : Nat) (e : El) : up q i e i = e := if_pos rfl
theorem up_ne (q : Nat → El) (i : Nat) (e : El) (j : Nat) (h : j ≠ i) : up q i e j = q j := if_neg h
theorem fl_put (q : Nat → El) (i k : Nat) (u : Value) (e : El) (hk : k < 2) (hu : (e2 e)[k]? = some u) (hr : ∀ k', k' < 2 → k' ≠ k → (e2 e)[k']? = (e2 (q i))[k']?) : ∀ n, i < n → (fl e2 (elL q n)).set (i * 2 + k) u = fl e2 (elL (up q i e) n) := by
  intro n hi
  apply List.ext_getElem?
  intro t
  have hl : (fl e2 (elL q n)).length = n * 2 := by rw [fl_len e2_len, elL_len]
  have hl2 : (fl e2 (elL (up q i e) n)).length = n * 2 := by rw [fl_len e2_len, elL_len]
  by_cases ht : t < n * 2
  · have et : t = t / 2 * 2 + t % 2 := by omega
    have hm : t % 2 < 2 := by omega
    have hj : t / 2 < n := by omega
    conv => rhs; rw [et, fl_get e2_len _ _ _ hm, elL_get _ _ _ hj]
    rw [List.getElem?_set]
    by_cases h1 : i * 2 + k = t
    · have h2 : t / 2 = i := by omega
      have h3 : t % 2 = k := by omega
      rw [if_pos h1, if_pos (by omega), h2, h3, up_at]
      exact hu.symm
    · rw [if_neg h1]
      conv => lhs; rw [et, fl_get e2_len _ _ _ hm, elL_get _ _ _ hj]
      by_cases h2 : t / 2 = i
      · rw [h2, up_at]
        exact (hr (t % 2) hm (by omega)).symm
      · rw [up_ne _ _ _ _ h2]
  · rw [List.getElem?_eq_none (by rw [List.length_set]; omega), List.getElem?_eq_none (by omega)]
theorem fl_same {q r : Nat → El} {n : Nat} (h : ∀ j, j < n → e2 (q j) = e2 (r j)) : fl e2 (elL q n) = fl e2 (elL r n) := by
  apply List.ext_getElem?
  intro t
  by_cases ht : t < n * 2
  · have et : t = t / 2 * 2 + t % 2 := by omega
    rw [et, fl_get e2_len _ _ _ (by omega), fl_get e2_len _ _ _ (by omega), elL_get _ _ _ (by omega), elL_get _ _ _ (by omega)]
    simp only [Option.bind_some]
    rw [h (t / 2) (by omega)]
  · rw [List.getElem?_eq_none (by rw [fl_len e2_len, elL_len]; omega), List.getElem?_eq_none (by rw [fl_len e2_len, elL_len]; omega)]
theorem ow_ir {w : World} {S : Nat} {e : El} : Ow w S e ↔ K.Ir w S (.slice e.a e.n e.c) e.n e.f := by
  unfold Ow K.Ir
  rw [K.lcL_lc, ll_len, K.lc_congr (K.gL (K.ll e.f e.n)) e.f e.n fun j hj => gL_ll _ _ _ hj]
/-- A value of element i's labels written over. -/
theorem Vo.value {S n g : Nat} {w : World} {v : Value} {r : Nat → El} (h : Vo S w v n r) (i : Nat) (hi : i < n) (hg : (r i).a = some ⟨g, 0, none⟩) (j : Nat) (hj : j < (r i).n) (u : ByteArray) :
    Vo S (w.setCell ⟨g, j * 2 + 1, none⟩ (.string u)) v n (up r i ⟨(r i).a, (r i).n, (r i).c, K.up (r i).f j (((r i).f j).1, u), (r i).x⟩) := by
  have hb : (Value.slice (r i).a (r i).n (r i).c).ownBlock = some g := by rw [hg]; rfl
  have k : Kp (fun b => b = g) w (w.setCell ⟨g, j * 2 + 1, none⟩ (.string u)) := Kp.setCell (M := fun b => b = g) (p := ⟨g, j * 2 + 1, none⟩) (Kp.refl _ _) rfl _
  refine ⟨?_, fun m hm => ?_, fun m m' h1 h2 => ?_⟩
  · rw [fl_same (r := r) fun m _ => by
      by_cases e : m = i
      · rw [e, up_at]; rfl
      · rw [up_ne _ _ _ _ e]]
    exact k.row h.1 fun b hb1 hb2 => (h.2.1 i hi).2 b hb1 (by rw [hb2]; exact hb)
  · by_cases e : m = i
    · rw [e, up_at]
      refine ⟨ow_ir.2 ?_, (h.2.1 i hi).2⟩
      have o := ow_ir.1 (h.2.1 i hi).1
      rw [hg] at o
      show K.Ir _ S (.slice (r i).a (r i).n (r i).c) (r i).n _
      rw [hg]
      exact K.Ir.value o j hj u
    · rw [up_ne _ _ _ _ e]
      exact ⟨own_kp k (h.2.1 m hm).1 fun b hb1 hb2 => h.ap m i hm hi e b hb1 (by rw [hb2]; exact hb), (h.2.1 m hm).2⟩
  · have ha := h.2.2 m m' h1 h2
    by_cases e : m = i
    · by_cases e' : m' = i
      · omega
      · rw [e, up_at, up_ne _ _ _ _ e']
        rw [e] at ha
        exact ha
    · rw [up_ne _ _ _ _ e]
      by_cases e' : m' = i
      · rw [e', up_at]
        rw [e'] at ha
        exact ha
      · rw [up_ne _ _ _ _ e']
        exact ha
/-- An element's number written over. -/
theorem Vo.put {S n g c : Nat} {w : World} {r : Nat → El} (h : Vo S w (.slice (some ⟨g, 0, none⟩) n c) n r) (i : Nat) (hi : i < n) (x : Nat) :
    Vo S (w.setCell ⟨g, i * 2 + 1, none⟩ (.float .f64 x)) (.slice (some ⟨g, 0, none⟩) n c) n (up r i ⟨(r i).a, (r i).n, (r i).c, (r i).f, x⟩) := by
  have k : Kp (fun b => b = g) w (w.setCell ⟨g, i * 2 + 1, none⟩ (.float .f64 x)) := Kp.setCell (M := fun b => b = g) (p := ⟨g, i * 2 + 1, none⟩) (Kp.refl _ _) rfl _
  have ev : (Value.slice (some ⟨g, 0, none⟩) n c).ownBlock = some g := rfl
  have hnb : ∀ m, m < n → ∀ b, (Value.slice (r m).a (r m).n (r m).c).ownBlock = some b → ¬ b = g := fun m hm b h1 h2 => (h.2.1 m hm).2 g ev (by rw [← h2]; exact h1)
  have es : ∀ m, (up r i ⟨(r i).a, (r i).n, (r i).c, (r i).f, x⟩ m).a = (r m).a ∧ (up r i ⟨(r i).a, (r i).n, (r i).c, (r i).f, x⟩ m).n = (r m).n ∧ (up r i ⟨(r i).a, (r i).n, (r i).c, (r i).f, x⟩ m).c = (r m).c ∧ (up r i ⟨(r i).a, (r i).n, (r i).c, (r i).f, x⟩ m).f = (r m).f := fun m => by
    by_cases e : m = i
    · rw [e, up_at]; exact ⟨rfl, rfl, rfl, rfl⟩
    · rw [up_ne _ _ _ _ e]; exact ⟨rfl, rfl, rfl, rfl⟩
  refine ⟨?_, fun m hm => ?_, fun m m' h1 h2 => ?_⟩
  · rw [← fl_put r i 1 (.float .f64 x) _ (by omega) rfl (fun k' h1 h2 => by
      obtain rfl : k' = 0 := by omega
      rfl) n hi]
    exact (World.ownsRow.stored h.1 (i * 2 + 1) _).1
  · obtain ⟨e1, e2, e3, e4⟩ := es m
    unfold Ow
    rw [e1, e2, e3, e4]
    exact ⟨own_kp k (h.2.1 m hm).1 (hnb m hm), (h.2.1 m hm).2⟩
  · obtain ⟨e1, e2, e3, _⟩ := es m
    obtain ⟨f1, f2, f3, _⟩ := es m'
    unfold Ap
    rw [e1, e2, e3, f1, f2, f3]
    exact h.2.2 m m' h1 h2
/-- Elements copied up to a place. -/
structure Cv (S : Nat) (w3 : World) (v : Value) (n : Nat) (q r : Nat → El) (i : Nat) (W : World) : Prop where
  row : W.ownsRow S 45 2 v n (fl e2 (elL r n))
  core : ∀ j, j < i → core (r j) = core (q j)
  own : ∀ j, j < i → Ow W S (r j) ∧ ∀ b, v.ownBlock = some b → (Value.slice (r j).a (r j).n (r j).c).ownBlock ≠ some b
  apart : ∀ j k, j < k → k < i → Ap (r j) (r k)
  kp : Kp (fun b => v.ownBlock = some b) w3 W
theorem Cv.step {S g n c : Nat} {w3 W W4 : World} {q r : Nat → El} {i S' : Nat} {a' : Option Addr} {c' : Nat} (h : Cv S w3 (.slice (some ⟨g, 0, none⟩) n c) n q r i W) (hi : i < n) (hS : S ≤ W.heap.size) (hb : Below W.heap.size W W4)
    (o : W4.ownsRow S' 26 2 (.slice a' (q i).n c') (q i).n (lcL (K.ll (q i).f (q i).n))) (hS' : W.heap.size ≤ S') :
    Cv S w3 (.slice (some ⟨g, 0, none⟩) n c) n q (up r i ⟨a', (q i).n, c', (q i).f, (q i).x⟩) (i + 1) ((W4.setCell ⟨g, i * 2, none⟩ (.slice a' (q i).n c')).setCell ⟨g, i * 2 + 1, none⟩ (.float .f64 (q i).x)) := by
  have hg : g < W.heap.size := (own_bd h.row g rfl).2
  have k1 : Kp (fun b => (Value.slice (some ⟨g, 0, none⟩) n c).ownBlock = some b) W W4 := Kp.of hb
  have k3 : Kp (fun b => (Value.slice (some ⟨g, 0, none⟩) n c).ownBlock = some b) W4 ((W4.setCell ⟨g, i * 2, none⟩ (.slice a' (q i).n c')).setCell ⟨g, i * 2 + 1, none⟩ (.float .f64 (q i).x)) := Kp.setCell (M := fun b => (Value.slice (some ⟨g, 0, none⟩) n c).ownBlock = some b) (p := ⟨g, i * 2 + 1, none⟩) (Kp.setCell (M := fun b => (Value.slice (some ⟨g, 0, none⟩) n c).ownBlock = some b) (p := ⟨g, i * 2, none⟩) (Kp.refl _ _) rfl _) rfl _
  have k2 := k1.trans k3
  have hnew : ∀ b, (Value.slice a' (q i).n c').ownBlock = some b → W.heap.size ≤ b := fun b e => by have := (own_bd o b e).1; omega
  refine ⟨?_, fun j hj => ?_, fun j hj => ?_, fun j k hjk hk => ?_, h.kp.trans k2⟩
  · have s1 := (World.ownsRow.stored (kept_row h.row hb) (i * 2) (.slice a' (q i).n c')).1
    have f1 := fl_put r i 0 (.slice a' (q i).n c') ⟨a', (q i).n, c', (q i).f, (r i).x⟩ (by omega) rfl (fun k' h1 h2 => by
      obtain rfl : k' = 1 := by omega
      rfl) n hi
    rw [Nat.add_zero] at f1
    rw [f1] at s1
    have s2 := (World.ownsRow.stored s1 (i * 2 + 1) (.float .f64 (q i).x)).1
    have f2 := fl_put (up r i ⟨a', (q i).n, c', (q i).f, (r i).x⟩) i 1 (.float .f64 (q i).x) ⟨a', (q i).n, c', (q i).f, (q i).x⟩ (by omega) rfl (fun k' h1 h2 => by
      obtain rfl : k' = 0 := by omega
      rw [up_at]
      rfl) n hi
    rw [f2] at s2
    rw [fl_same (r := up (up r i ⟨a', (q i).n, c', (q i).f, (r i).x⟩) i ⟨a', (q i).n, c', (q i).f, (q i).x⟩) fun m _ => by
      by_cases e : m = i
      · rw [e, up_at, up_at]
      · rw [up_ne _ _ _ _ e, up_ne _ _ _ _ e, up_ne _ _ _ _ e]]
    exact s2
  · by_cases e : j = i
    · rw [e, up_at]
      rfl
    · rw [up_ne _ _ _ _ e]
      exact h.core j (by omega)
  · by_cases e : j = i
    · rw [e, up_at]
      refine ⟨?_, fun b hb1 hb2 => ?_⟩
      · exact k3.row (World.ownsRow.mono o (by omega)) fun b e1 e2 => by
          have := hnew b e1
          obtain rfl : g = b := Option.some.inj e2
          omega
      · have := hnew b hb2
        obtain rfl : g = b := Option.some.inj hb1
        omega
    · rw [up_ne _ _ _ _ e]
      obtain ⟨h1, h2⟩ := h.own j (by omega)
      exact ⟨own_kp k2 h1 fun b e1 e2 => h2 b e2 e1, h2⟩
  · rw [up_ne _ _ _ _ (by omega)]
    by_cases e : k = i
    · rw [e, up_at]
      intro b h1 h2
      have := hnew b h2
      have := (own_bd (h.own j (by omega)).1 b h1).2
      omega
    · rw [up_ne _ _ _ _ e]
      exact h.apart j k hjk (by omega)
theorem Cv.vo {S n : Nat} {w3 W : World} {v : Value} {q r : Nat → El} (h : Cv S w3 v n q r n W) : Vo S W v n r := ⟨h.row, h.own, h.apart⟩
end Go.Proofs.YtjmninjaoemhjaaDoor
/- Labels: Make's answer is a label set; Get and Valid over a row. -/
namespace Go.Proofs.YtjmninjaoemhjaaDoor
open Go.RowKit Go.Lib

theorem sel_mem (f : Nat → Lb) : ∀ n x, x ∈ sel f n → ∃ j, j < n ∧ x = f j ∧ x.2 ≠ ⟨#[]⟩
  | n + 1, x, h => by
    unfold sel at h
    rcases List.mem_append.1 h with h | h
    · obtain ⟨j, hj, e⟩ := sel_mem f n x h
      exact ⟨j, by omega, e⟩
    · split at h
      · simp at h
      · rename_i hne
        have e : x = f n := by simpa using h
        refine ⟨n, by omega, e, fun h0 => hne ?_⟩
        rw [← e]
        exact (tempty _).2 h0
theorem sel_ne (f : Nat → Lb) : ∀ n, Gd f n → (sel f n).Pairwise fun x y => x.1 ≠ y.1
  | 0, _ => .nil
  | n + 1, hG => by
    have ih := sel_ne f n (fun j hj => hG j (by omega))
    unfold sel
    rw [List.pairwise_append]
    refine ⟨ih, ?_, fun x hx y hy => ?_⟩
    · split
      · exact .nil
      · simp
    · split at hy
      · simp at hy
      · have e : y = f n := by simpa using hy
        obtain ⟨j, hj, ex, _⟩ := sel_mem f n x hx
        have := (hG n (by omega)).2.2 j hj
        rw [e, ex]
        intro h
        rw [h] at this
        have e2 : ((f n).1 == (f n).1) = true := by
          obtain ⟨d⟩ := (f n).1
          first
          | exact beq_self_eq_true _
          | exact (show (d == d) = true from beq_self_eq_true _)
          | (unfold BEq.beq; exact (show (d == d) = true from beq_self_eq_true _))
          | decide
        rw [this] at e2
        cases e2
/-- What Make answers is a label set. -/
theorem ls_make {f : Nat → Lb} {n : Nat} {ks : List Lb} (hG : Gd f n) (hp : ks.Perm (sel f n)) (hs : ks.Pairwise fun x y => Op.bytesLess y.1.toList x.1.toList = false) : Ls ks := by
  refine ⟨fun x hx => ?_, ?_⟩
  · obtain ⟨j, hj, e, hne⟩ := sel_mem f n x (hp.mem_iff.1 hx)
    have := hG j hj
    rw [← e] at this
    exact ⟨this.1, hne, this.2.1⟩
  · have hd : ks.Pairwise fun x y => x.1 ≠ y.1 := (hp.pairwise_iff (fun h => fun e => h e.symm)).2 (sel_ne f n hG)
    refine (hs.and hd).imp ?_
    rintro x y ⟨h1, h2⟩
    have a := od_od.anti x.1 y.1
    rcases od_cases x.1 y.1 with ⟨_, h, _⟩ | ⟨_, _, h⟩ | ⟨h, _, _⟩
    · exact h
    · exact absurd ((teq _ _).1 h) h2
    · rcases od_cases y.1 x.1 with ⟨_, g, _⟩ | ⟨g, _, _⟩ | ⟨g, _, _⟩
      · rw [g] at h1; cases h1
      · omega
      · omega
theorem ls_mem {f : Nat → Lb} {n : Nat} {ks : List Lb} (hp : ks.Perm (sel f n)) {x : Lb} (hx : x ∈ ks) : ∃ j, j < n ∧ x = f j := by
  obtain ⟨j, hj, e, _⟩ := sel_mem f n x (hp.mem_iff.1 hx)
  exact ⟨j, hj, e⟩
theorem ls_len {f : Nat → Lb} {n : Nat} {ks : List Lb} (hp : ks.Perm (sel f n)) : ks.length ≤ n := by
  rw [hp.length_eq]
  exact sel_len f n
theorem gL_at (ks : List Lb) (j : Nat) (h : j < ks.length) : K.gL ks j = ks[j] := by
  unfold K.gL
  simp [h]
theorem gL_mem (ks : List Lb) (j : Nat) (h : j < ks.length) : K.gL ks j ∈ ks := by
  rw [gL_at ks j h]
  exact List.getElem_mem h
theorem va_all (f : Nat → Lb) : ∀ k i, (∀ j, i ≤ j → j < i + k → okL f j = true) → vaF f k i = true
  | 0, _, _ => rfl
  | k + 1, i, h => by
    unfold vaF
    rw [h i (by omega) (by omega), va_all f k (i + 1) (fun j h1 h2 => h j (by omega) (by omega))]
    rfl
theorem Ls.valid {ks : List Lb} (h : Ls ks) : vaF (K.gL ks) ks.length 0 = true := by
  refine va_all _ _ _ fun j _ hj => ?_
  have hj : j < ks.length := by omega
  have hx := h.1 _ (gL_mem ks j hj)
  have h2 : (K.gL ks j).2.toList.isEmpty = false := by
    rw [← Bool.not_eq_true, tempty]
    exact hx.2.1
  unfold okL
  rw [hx.1, h2, hx.2.2]
  by_cases h0 : j = 0
  · simp [h0]
  · have := (List.pairwise_iff_getElem.1 h.2) (j - 1) j (by omega) hj (by omega)
    rw [gL_at ks j hj, gL_at ks (j - 1) (by omega), this]
    simp
/-- Get over a row of one's own. -/
theorem get_row (W : World) (S c : Nat) (a : Option Addr) (ks : List Lb) (k : ByteArray) (o : W.ownsRow S 26 2 (.slice a ks.length c) ks.length (lcL ks)) (hn : ks.length ≤ 140737488355328) (hs : ∀ x ∈ ks, x.2.size ≤ 140737488355328) :
    Calls Tryd.prog 12 #[.slice a ks.length c, .string k] W fun e w' => e = .returned (.string (gvL k ks)) ∧ Below W.heap.size W w' := by
  have h := get_any a (K.gL ks) ks.length c k W (K.row_lm o) hn (fun j hj => hs _ (gL_mem ks j hj))
  rw [gvF_gL] at h
  exact h
theorem valid_row (W : World) (S c : Nat) (a : Option Addr) (ks : List Lb) (o : W.ownsRow S 26 2 (.slice a ks.length c) ks.length (lcL ks)) (hn : ks.length ≤ 140737488355328) (hs : ∀ x ∈ ks, x.1.size ≤ 140737488355328 ∧ x.2.size ≤ 140737488355328) (h : Ls ks) (hT : Lib.Utf8Tabs 1 2 W) :
    Calls Tryd.prog 14 #[.slice a ks.length c] W fun e w' => e = .returned (.bool true) ∧ Below W.heap.size W w' := by
  have k := validL_any a (K.gL ks) ks.length c W (K.row_lm o) hn (fun j hj => hs _ (gL_mem ks j hj)) hT
  rw [h.valid] at k
  exact k
end Go.Proofs.YtjmninjaoemhjaaDoor
