/- Labels: what is so of a label set, as mathematics. -/
import Derived.Test.YtjmninjaoemhjaaDoorFb
import Derived.Test.YtjmninjaoemhjaaDoorKv
namespace Go.Proofs.YtjmninjaoemhjaaDoor
open Go.RowKit Go.Lib

theorem teq (a b : ByteArray) : (a.toList == b.toList) = true ↔ a = b := by
  rw [beq_iff_eq, Lib.toList_data, Lib.toList_data]
  constructor
  · intro h
    rw [ByteArray.ext_iff]
    exact Array.toList_inj.1 h
  · rintro rfl
    rfl
theorem tne (a b : ByteArray) : (a.toList == b.toList) = false ↔ a ≠ b := by
  rw [← Bool.not_eq_true, Ne, teq]
theorem tempty (a : ByteArray) : a.toList.isEmpty = true ↔ a = ⟨#[]⟩ := by
  rw [List.isEmpty_iff, Lib.toList_data]
  constructor
  · intro h
    rw [ByteArray.ext_iff]
    exact Array.toList_inj.1 h
  · rintro rfl
    rfl
def gvL (nm : ByteArray) : List Lb → ByteArray
  | [] => ⟨#[]⟩
  | x :: l => if x.1.toList == nm.toList then x.2 else gvL nm l
theorem gvF_range (f : Nat → Lb) (nm : ByteArray) : ∀ k i, gvF f nm k i = gvL nm ((List.range' i k).map f)
  | 0, _ => rfl
  | k + 1, i => by
    unfold gvF
    rw [List.range'_succ, List.map_cons]
    unfold gvL
    rw [gvF_range f nm k (i + 1)]
theorem gvF_gL (ks : List Lb) (nm : ByteArray) : gvF (K.gL ks) nm ks.length 0 = gvL nm ks := by
  rw [gvF_range, ← List.range_eq_range']
  exact congrArg (gvL nm) (K.ll_gL ks)
/-- A label set. -/
def Ls (ks : List Lb) : Prop := (∀ x ∈ ks, lbN x.1 = true ∧ x.2 ≠ ⟨#[]⟩ ∧ vld x.2 x.2.size 0 = true) ∧ ks.Pairwise fun x y => Op.bytesLess x.1.toList y.1.toList = true
theorem bl_ne {a b : ByteArray} (h : Op.bytesLess a.toList b.toList = true) : a ≠ b := by
  rintro rfl
  rcases od_cases a a with ⟨_, _, h3⟩ | ⟨_, h2, _⟩ | ⟨_, h2, _⟩
  · simp at h3
  · rw [h2] at h; cases h
  · rw [h2] at h; cases h
theorem Ls.filter {ks : List Lb} (h : Ls ks) (p : Lb → Bool) : Ls (ks.filter p) := ⟨fun x hx => h.1 x (List.mem_filter.1 hx).1, h.2.filter p⟩
theorem Ls.tail {x : Lb} {ks : List Lb} (h : Ls (x :: ks)) : Ls ks := ⟨fun y hy => h.1 y (List.mem_cons_of_mem _ hy), (List.pairwise_cons.1 h.2).2⟩
theorem gv_none {nm : ByteArray} : ∀ {ks : List Lb}, (∀ x ∈ ks, x.1 ≠ nm) → gvL nm ks = ⟨#[]⟩
  | [], _ => rfl
  | x :: ks, h => by
    unfold gvL
    rw [if_neg (by rw [teq]; exact h x (by simp))]
    exact gv_none fun y hy => h y (List.mem_cons_of_mem _ hy)
theorem Ls.inj {ks : List Lb} (h : Ls ks) {x y : Lb} (hx : x ∈ ks) (hy : y ∈ ks) (e : x.1 = y.1) : x = y := by
  induction ks with
  | nil => simp at hx
  | cons z ks ih =>
    have hp := List.pairwise_cons.1 h.2
    rcases List.mem_cons.1 hx with rfl | hx1
    · rcases List.mem_cons.1 hy with rfl | hy1
      · rfl
      · exact absurd e (bl_ne (hp.1 y hy1))
    · rcases List.mem_cons.1 hy with rfl | hy1
      · exact absurd e.symm (bl_ne (hp.1 x hx1))
      · exact ih h.tail hx1 hy1
theorem Ls.get {ks : List Lb} (h : Ls ks) {x : Lb} (hx : x ∈ ks) : gvL x.1 ks = x.2 := by
  induction ks with
  | nil => simp at hx
  | cons z ks ih =>
    unfold gvL
    by_cases e : z.1 = x.1
    · rw [if_pos ((teq _ _).2 e), h.inj (List.mem_cons_self ..) hx e]
    · rw [if_neg (by rw [teq]; exact e)]
      rcases List.mem_cons.1 hx with rfl | hx1
      · exact absurd rfl e
      · exact ih h.tail hx1
theorem Ls.out {ks : List Lb} (h : Ls ks) {p : Lb → Bool} {x : Lb} (hx : x ∈ ks) (hp : p x = false) : gvL x.1 (ks.filter p) = ⟨#[]⟩ :=
  gv_none fun y hy e => by
    have hy := List.mem_filter.1 hy
    rw [h.inj hy.1 hx e, hp] at hy
    exact absurd hy.2 (by simp)
theorem gv_mid {k nm v : ByteArray} (h : nm ≠ k) : ∀ (a b : List Lb), gvL k (a ++ (nm, v) :: b) = gvL k (a ++ b)
  | [], b => by
    show (if nm.toList == k.toList then v else gvL k b) = gvL k b
    rw [if_neg (by rw [teq]; exact h)]
  | x :: a, b => by
    show (if x.1.toList == k.toList then x.2 else gvL k (a ++ (nm, v) :: b)) = if x.1.toList == k.toList then x.2 else gvL k (a ++ b)
    rw [gv_mid h a b]
theorem gv_hit {nm v : ByteArray} : ∀ (a b : List Lb), (∀ x ∈ a, x.1 ≠ nm) → gvL nm (a ++ (nm, v) :: b) = v
  | [], b, _ => by
    show (if nm.toList == nm.toList then v else gvL nm b) = v
    rw [if_pos ((teq _ _).2 rfl)]
  | x :: a, b, h => by
    show (if x.1.toList == nm.toList then x.2 else gvL nm (a ++ (nm, v) :: b)) = v
    rw [if_neg (by rw [teq]; exact h x (by simp))]
    exact gv_hit a b fun y hy => h y (List.mem_cons_of_mem _ hy)
theorem Ls.one {ks : List Lb} (h : Ls ks) (p : Lb → Bool) (nm : ByteArray) (hp : ∀ x, p x = true → x.1 = nm) : (ks.filter p).length ≤ 1 := by
  have hf := h.filter p
  rcases hc : ks.filter p with _ | ⟨a, _ | ⟨b, l⟩⟩
  · simp
  · simp
  · rw [hc] at hf
    have ha := hp a (List.mem_filter.1 (by rw [hc]; simp)).2
    have hb := hp b (List.mem_filter.1 (by rw [hc]; simp : b ∈ ks.filter p)).2
    exact absurd (ha.trans hb.symm) (bl_ne ((List.pairwise_cons.1 hf.2).1 b (by simp)))
theorem len_split (p : Lb → Bool) : ∀ ks : List Lb, ks.length = (ks.filter p).length + (ks.filter fun x => !p x).length
  | [] => rfl
  | x :: ks => by
    have := len_split p ks
    rw [List.filter_cons, List.filter_cons]
    cases p x <;> simp <;> omega
/-! With. -/
theorem drop_gL (ks : List Lb) (nm : ByteArray) : K.dropL (K.gL ks) nm ks.length = ks.filter fun l => !(l.1.toList == nm.toList) := by
  unfold K.dropL
  rw [K.ll_gL]
theorem with_get (ks : List Lb) (nm vl : ByteArray) : gvL nm (K.wthL (K.gL ks) nm vl ks.length) = vl := by
  have hd : ∀ x ∈ ks.filter fun l : Lb => !(l.1.toList == nm.toList), x.1 ≠ nm := fun x hx => by
    have := (List.mem_filter.1 hx).2
    rw [← tne]
    simpa using this
  unfold K.wthL
  rw [drop_gL]
  split
  · rename_i h
    rw [gv_none hd]
    exact ((tempty _).1 h).symm
  · unfold K.insL
    exact gv_hit _ _ fun x hx => hd x (List.takeWhile_subset _ hx)
theorem with_other {ks : List Lb} (h : Ls ks) (nm vl : ByteArray) {x : Lb} (hx : x ∈ ks) (hn : x.1 ≠ nm) : gvL x.1 (K.wthL (K.gL ks) nm vl ks.length) = x.2 := by
  have hd : x ∈ ks.filter fun l : Lb => !(l.1.toList == nm.toList) := List.mem_filter.2 ⟨hx, by rw [(tne _ _).2 hn]; rfl⟩
  unfold K.wthL
  rw [drop_gL]
  split
  · exact (h.filter _).get hd
  · unfold K.insL
    rw [gv_mid (fun e => hn e.symm), List.takeWhile_append_dropWhile]
    exact (h.filter _).get hd
theorem ins_len (nm vl : ByteArray) (D : List Lb) : (K.insL nm vl D).length = D.length + 1 := by
  unfold K.insL
  rw [List.length_append, List.length_cons, ← Nat.add_assoc, ← List.length_append, List.takeWhile_append_dropWhile]
theorem with_len {ks : List Lb} (h : Ls ks) (nm vl : ByteArray) : (K.wthL (K.gL ks) nm vl ks.length).length ≤ ks.length + 1 ∧ ks.length ≤ (K.wthL (K.gL ks) nm vl ks.length).length + 1 := by
  have h1 := len_split (fun l => l.1.toList == nm.toList) ks
  have h2 := h.one (fun l => l.1.toList == nm.toList) nm (fun x hx => (teq _ _).1 hx)
  unfold K.wthL
  rw [drop_gL]
  split
  · constructor <;> omega
  · rw [ins_len]
    constructor <;> omega
theorem with_mem {ks : List Lb} {nm vl : ByteArray} {x : Lb} (hx : x ∈ K.wthL (K.gL ks) nm vl ks.length) : x ∈ ks ∨ x = (nm, vl) := by
  unfold K.wthL at hx
  rw [drop_gL] at hx
  split at hx
  · exact .inl (List.mem_filter.1 hx).1
  · unfold K.insL at hx
    rcases List.mem_append.1 hx with hx | hx
    · exact .inl (List.mem_filter.1 (List.takeWhile_subset _ hx)).1
    · rcases List.mem_cons.1 hx with rfl | hx
      · exact .inr rfl
      · exact .inl (List.mem_filter.1 (List.dropWhile_subset _ hx)).1
/-! Keep. -/
theorem kept_gL (ks : List Lb) (xs : List ByteArray) (wo : Bool) : K.keptL (K.gL ks) xs wo ks.length = ks.filter fun l => K.stay xs wo l.1 := by
  unfold K.keptL
  rw [K.ll_gL]
abbrev nmB : ByteArray := ⟨#[95, 95, 110, 97, 109, 101, 95, 95]⟩
theorem nmL_eq : K.nmL = nmB.toList := by rw [Lib.toList_data]
theorem stay_in (xs : List ByteArray) (x : ByteArray) : K.stay xs false x = K.mb xs x := rfl
theorem stay_out (xs : List ByteArray) (x : ByteArray) : K.stay xs true x = (!K.mb xs x && !(x.toList == nmB.toList)) := by
  unfold K.stay
  rw [nmL_eq]
  rfl
theorem out_name (ks : List Lb) (xs : List ByteArray) : gvL nmB (ks.filter fun l => K.stay xs true l.1) = ⟨#[]⟩ :=
  gv_none fun x hx => by
    have := (List.mem_filter.1 hx).2
    rw [stay_out] at this
    rw [← tne]
    simp at this
    simpa using this.2
theorem kept_count {ks : List Lb} (h : Ls ks) (xs : List ByteArray) : (ks.filter fun l => K.stay xs false l.1).length + (ks.filter fun l => K.stay xs true l.1).length + (if gvL nmB ks ≠ ⟨#[]⟩ ∧ gvL nmB (ks.filter fun l => K.stay xs false l.1) = ⟨#[]⟩ then 1 else 0) = ks.length := by
  have h1 := len_split (fun l => K.mb xs l.1) ks
  have h2 := len_split (fun l => l.1.toList == nmB.toList) (ks.filter fun l => !K.mb xs l.1)
  rw [List.filter_filter, List.filter_filter] at h2
  have e1 : (ks.filter fun l => K.stay xs true l.1) = ks.filter fun l => (!(l.1.toList == nmB.toList) && !K.mb xs l.1) := by
    congr 1
    funext l
    rw [stay_out, Bool.and_comm]
  have e2 : (ks.filter fun l => K.stay xs false l.1) = ks.filter fun l => K.mb xs l.1 := rfl
  have h3 := h.one (fun l => (l.1.toList == nmB.toList) && !K.mb xs l.1) nmB (fun x hx => (teq _ _).1 (by simp at hx; simpa using hx.1))
  rw [e1, e2]
  rcases hc : ks.filter (fun l => (l.1.toList == nmB.toList) && !K.mb xs l.1) with _ | ⟨x, l⟩
  · rw [hc] at h2
    rw [if_neg]
    · rw [List.length_nil] at h2; omega
    · rintro ⟨g1, g2⟩
      apply g1
      apply gv_none
      intro x hx e
      have hm : K.mb xs x.1 = true := by
        cases hm : K.mb xs x.1
        · have : x ∈ ks.filter (fun l => (l.1.toList == nmB.toList) && !K.mb xs l.1) := List.mem_filter.2 ⟨hx, by simp [e]; rw [← e]; exact hm⟩
          rw [hc] at this
          simp at this
        · rfl
      have := (h.filter fun l => K.mb xs l.1).get (x := x) (List.mem_filter.2 ⟨hx, hm⟩)
      rw [e, g2] at this
      exact (h.1 x hx).2.1 this.symm
  · have hx : x ∈ ks.filter (fun l => (l.1.toList == nmB.toList) && !K.mb xs l.1) := by rw [hc]; simp
    rw [hc] at h2 h3
    have hx' := List.mem_filter.1 hx
    have e : x.1 = nmB := (teq _ _).1 (by have := hx'.2; simp at this; simpa using this.1)
    have hm : K.mb xs x.1 = false := by have := hx'.2; simp at this; exact this.2
    rw [if_pos]
    · rw [List.length_cons] at h2 h3; omega
    · refine ⟨?_, ?_⟩
      · rw [← e, h.get hx'.1]
        exact (h.1 x hx'.1).2.1
      · rw [← e]
        exact h.out hx'.1 hm
theorem kept_get {ks : List Lb} (h : Ls ks) (xs : List ByteArray) {x : Lb} (hx : x ∈ ks) : gvL x.1 (ks.filter fun l => K.stay xs false l.1) = x.2 ∨ (gvL x.1 (ks.filter fun l => K.stay xs false l.1) = ⟨#[]⟩ ∧ (x.1 = nmB ∨ gvL x.1 (ks.filter fun l => K.stay xs true l.1) = x.2)) := by
  cases hm : K.mb xs x.1
  · refine .inr ⟨h.out hx hm, ?_⟩
    by_cases e : x.1 = nmB
    · exact .inl e
    · refine .inr ((h.filter _).get (List.mem_filter.2 ⟨hx, ?_⟩))
      rw [stay_out, hm, (tne _ _).2 e]
      rfl
  · exact .inl ((h.filter _).get (List.mem_filter.2 ⟨hx, hm⟩))
end Go.Proofs.YtjmninjaoemhjaaDoor
