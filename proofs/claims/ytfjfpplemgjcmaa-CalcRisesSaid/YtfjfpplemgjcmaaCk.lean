/- The reference's sorted buckets. -/
import Derived.Test.YtfjfpplemgjcmaaCj
import Derived.Deep.CutRange
import Derived.Deep.RegionHeld3
namespace Go.Proofs.Ytfjfpplemgjcmaa
open Go.RowKit

abbrev gB (xs : List Bk) : Nat → Bk := fun j => xs.getD j (0, 0)
/-- Buckets of a list, in memory. -/
def BAl (w : World) (g o : Nat) (xs : List Bk) : Prop := BAt w g o (gB xs) xs.length
def Bl (w : World) (a : Option Addr) (xs : List Bk) : Prop := xs = [] ∨ ∃ g o, a = some ⟨g, o, none⟩ ∧ g < w.heap.size ∧ BAl w g o xs
def Wb (xs : List Bk) : Prop := ∀ u ∈ xs, u.1 < 18446744073709551616 ∧ u.2 < 18446744073709551616
/-- A row of one's own, of a list. -/
def Lr (w : World) (S : Nat) (v : Value) (ys : List Bk) : Prop := Br w S v ys.length (gB ys)
theorem Lr.nil (w : World) (S : Nat) : Lr w S (.slice none 0 0) [] := Br.nil _ _ _
theorem Lr.below {w w' : World} {S : Nat} {v : Value} {ys : List Bk} (h : Lr w S v ys) (hb : Below w.heap.size w w') : Lr w' S v ys := Br.below h hb
theorem Lr.drew {w : World} {S : Nat} {v : Value} {ys : List Bk} (h : Lr w S v ys) (k : Nat) : Lr (w.drewN k) S v ys := h
theorem Lr.low {w : World} {S S' : Nat} {v : Value} {ys : List Bk} (h : Lr w S v ys) (hs : S' ≤ S) : Lr w S' v ys := by
  refine ⟨h.1, ?_⟩
  rcases h.2 with h0 | ⟨g, cap, cur, hv, hB, r⟩
  · exact .inl h0
  · exact .inr ⟨g, cap, cur, hv, Nat.le_trans hs hB, r⟩
theorem Lr.fm {w : World} {S : Nat} {v : Value} {ys : List Bk} (h : Lr w S v ys) : ∃ a c, v = .slice a ys.length c ∧ Bl w a ys := by
  rcases Br.parts h with ⟨rfl, h0⟩ | ⟨g, c, rfl, hr, hc⟩
  · exact ⟨none, 0, by rw [h0], .inl (List.eq_nil_of_length_eq_zero h0)⟩
  · refine ⟨_, c, rfl, .inr ⟨g, 0, rfl, hr.lt, fun j hj => ?_⟩⟩
    rw [Nat.zero_add]
    exact ⟨hr.cellU j hj, hr.cellC j hj⟩
theorem getD_app (xs : List Bk) (u : Bk) (j : Nat) (h : j < xs.length + 1) : up (gB xs) xs.length u j = gB (xs ++ [u]) j := by
  unfold up gB
  by_cases e : j = xs.length
  · subst e
    rw [if_pos rfl]
    simp [List.getD]
  · rw [if_neg e]
    simp [List.getD, List.getElem?_append_left (show j < xs.length by omega)]
theorem append_l (w : World) (S : Nat) (v : Value) (ys : List Bk) (u : Bk) (hS : S ≤ w.heap.size) (hn : (ys.length + 1) * 16 ≤ 140737488355328) (o : Lr w S v ys) :
    ∃ v' w', (Builtin.append_ #[36, 36] 36 #[v, .slice (some ⟨w.heap.size, 0, none⟩) 1 1]).run Try.prog (w.alloc (.cells #[.float .f64 u.1, .float .f64 u.2] 34)) = .ok v' w' ∧ Lr w' S v' (ys ++ [u]) ∧ Below S w w' := by
  obtain ⟨v', w', r, o', b⟩ := append_b w S v ys.length (gB ys) u hS hn o
  refine ⟨v', w', r, ?_, b⟩
  unfold Lr
  rw [List.length_append]
  exact o'.congr fun j hj => getD_app ys u j hj
/-- A sorted list of one's own. -/
def SoB (w : World) (xs : List Bk) (r : Ending) (w' : World) : Prop := ∃ v ys, r = .returned v ∧ Lr w' w.heap.size v ys ∧ Sim kb (xs.filter nn) ys ∧ Up kb ys ∧ Wb ys ∧ ys.length ≤ xs.length ∧ Below w.heap.size w w'
def RsB (N : Nat) : Prop := ∀ (g o c : Nat) (xs : List Bk) (w : World), xs.length ≤ N → xs ≠ [] → xs.length ≤ c → c ≤ 4611686018427387904 → g < w.heap.size → BAl w g o xs → Wb xs → xs.length * 16 ≤ 140737488355328 → Calls Try.prog 61 #[.slice (some ⟨g, o, none⟩) xs.length c] w (SoB w xs)
theorem BAl.take {w : World} {g o : Nat} {xs : List Bk} (h : BAl w g o xs) (k : Nat) : BAl w g o (xs.take k) := fun j hj => by
  have hj2 : j < xs.length ∧ j < k := by simp at hj; omega
  have := h j hj2.1
  have e : gB (xs.take k) j = gB xs j := by simp [gB, List.getD, hj2.2]
  rw [e]
  exact this
theorem BAl.drop {w : World} {g o : Nat} {xs : List Bk} (h : BAl w g o xs) (k : Nat) : BAl w g (o + k * 2) (xs.drop k) := fun j hj => by
  have hj2 : k + j < xs.length := by simp at hj; omega
  have := h (k + j) hj2
  have e : gB (xs.drop k) j = gB xs (k + j) := by simp [gB, List.getD, List.getElem?_drop]
  rw [e, show o + k * 2 + j * 2 = o + (k + j) * 2 by omega]
  exact this
def slenB : Value → Nat
  | .slice _ n _ => n
  | _ => 0
/-- The merging: what has come and what is left. -/
def MsB (xs out ra rb : List Bk) (L : Nat) : Prop := Sim kb (xs.filter nn) (out ++ (ra ++ rb)) ∧ Up kb out ∧ Up kb ra ∧ Up kb rb ∧ (∀ x ∈ out, ∀ y ∈ ra ++ rb, kb x ≤ kb y) ∧ Wb out ∧ Wb ra ∧ Wb rb ∧ out.length + ra.length + rb.length ≤ L
theorem Wb.app {xs ys : List Bk} (h1 : Wb xs) (h2 : Wb ys) : Wb (xs ++ ys) := fun u hu => by
  rcases List.mem_append.1 hu with h | h
  · exact h1 u h
  · exact h2 u h
theorem Wb.tail {x : Bk} {xs : List Bk} (h : Wb (x :: xs)) : Wb xs := fun u hu => h u (List.mem_cons_of_mem _ hu)
theorem Wb.one {x : Bk} {xs : List Bk} (h : Wb (x :: xs)) : Wb [x] := fun u hu => by
  rw [List.mem_singleton.1 hu]
  exact h x List.mem_cons_self
theorem up_pushB {out : List Bk} {x : Bk} (h : Up kb out) (h2 : ∀ z ∈ out, kb z ≤ kb x) : Up kb (out ++ [x]) :=
  List.pairwise_append.2 ⟨h, List.pairwise_singleton _ _, fun a ha b hb => by rw [List.mem_singleton.1 hb]; exact h2 a ha⟩
theorem MsB.left {xs out ra rb : List Bk} {x : Bk} {L : Nat} (h : MsB xs out (x :: ra) rb L) (hx : ∀ y ∈ rb, kb x ≤ kb y) : MsB xs (out ++ [x]) ra rb L := by
  obtain ⟨h1, h2, h3, h4, h5, h6, h7, h8, h9⟩ := h
  refine ⟨by simpa using h1, up_pushB h2 fun z hz => h5 z hz x (by simp), (List.pairwise_cons.1 h3).2, h4, fun z hz y hy => ?_, h6.app h7.one, h7.tail, h8, by simp at h9 ⊢; omega⟩
  rcases List.mem_append.1 hz with hz | hz
  · exact h5 z hz y (by rcases List.mem_append.1 hy with h | h <;> simp [h])
  · rw [List.mem_singleton.1 hz]
    rcases List.mem_append.1 hy with h | h
    · exact (List.pairwise_cons.1 h3).1 y h
    · exact hx y h
theorem MsB.right {xs out ra rb : List Bk} {y : Bk} {L : Nat} (h : MsB xs out ra (y :: rb) L) (hx : ∀ x ∈ ra, kb y < kb x) : MsB xs (out ++ [y]) ra rb L := by
  obtain ⟨h1, h2, h3, h4, h5, h6, h7, h8, h9⟩ := h
  refine ⟨?_, up_pushB h2 fun z hz => h5 z hz y (by simp), h3, (List.pairwise_cons.1 h4).2, fun z hz u hu => ?_, h6.app h8.one, h7, h8.tail, by simp at h9 ⊢; omega⟩
  · have e : Sim kb (out ++ (ra ++ y :: rb)) (out ++ [y] ++ (ra ++ rb)) := by
      have hs : Sim kb (ra ++ [y]) ([y] ++ ra) := Sim.swap _ _ fun a ha b hb => by
        rw [List.mem_singleton.1 hb]
        have := hx a ha
        omega
      have := (Sim.refl (k := kb) out).append (hs.append (Sim.refl rb))
      simpa using this
    exact h1.trans e
  · rcases List.mem_append.1 hz with hz | hz
    · exact h5 z hz u (by rcases List.mem_append.1 hu with h | h <;> simp [h])
    · rw [List.mem_singleton.1 hz]
      rcases List.mem_append.1 hu with h | h
      · exact Int.le_of_lt (hx u h)
      · exact (List.pairwise_cons.1 h4).1 u h
theorem MsB.num {xs out ra rb : List Bk} {L : Nat} (h : MsB xs out ra rb L) (u : Bk) (hu : u ∈ ra ++ rb) : nanB u.1 = false := by
  have := h.1.symm.mem u (List.mem_append_right _ hu)
  have h2 := (List.mem_filter.1 this).2
  unfold nn at h2
  cases hn : nanB u.1
  · rfl
  · rw [hn] at h2; cases h2
theorem Bl.tail {w : World} {g o : Nat} {x : Bk} {xs : List Bk} (hg : g < w.heap.size) (h : BAl w g o (x :: xs)) : Bl w (some ⟨g, o + 2, none⟩) xs := .inr ⟨g, o + 2, rfl, hg, fun j hj => by
  have := h (j + 1) (by simp; omega)
  rw [show o + 2 + j * 2 = o + (j + 1) * 2 by omega]
  simpa [gB] using this⟩
theorem BAl.head {w : World} {g o : Nat} {x : Bk} {xs : List Bk} (h : BAl w g o (x :: xs)) : w.cell? ⟨g, o, none⟩ = some (.float .f64 x.1) ∧ w.cell? ⟨g, o + 1, none⟩ = some (.float .f64 x.2) := by
  have := h 0 (by simp)
  simpa [gB] using this

set_option maxHeartbeats 4000000 in
set_option maxRecDepth 100000 in
theorem rsortB_two (g o c : Nat) (xs : List Bk) (w : World) (N : Nat) (ih : RsB N) (hN : xs.length ≤ N + 1) (h2 : 2 ≤ xs.length) (hc : xs.length ≤ c) (hcm : c ≤ 4611686018427387904) (hg : g < w.heap.size) (hat : BAl w g o xs) (hw : Wb xs) (hb : xs.length * 16 ≤ 140737488355328) :
    Calls Try.prog 61 #[.slice (some ⟨g, o, none⟩) xs.length c] w (SoB w xs) := by
  obtain ⟨h, hh⟩ : ∃ h : Nat, h = xs.length / 2 := ⟨_, rfl⟩
  have hq : (xs.length : Int).tdiv 2 = (h : Int) := by rw [Int.tdiv_eq_ediv_of_nonneg (by omega)]; omega
  have hz0 : ((xs.length : Int) == 0) = false := beq_eq_false_iff_ne.2 (by omega)
  have hz1 : ((xs.length : Int) == 1) = false := beq_eq_false_iff_ne.2 (by omega)
  have hz0n : (xs.length == 0) = false := beq_eq_false_iff_ne.2 (by omega)
  have hz1n : (xs.length == 1) = false := beq_eq_false_iff_ne.2 (by omega)
  have hh1 : 1 ≤ h ∧ h < xs.length := by omega
  have hl1 : (xs.take h).length = h := by simp; omega
  have hl2 : (xs.drop h).length = xs.length - h := by simp
  have kA : Hid (∀ w1, Below w.heap.size w w1 → Calls Try.prog 61 #[.slice (some ⟨g, o, none⟩) h c] w1 (SoB w1 (xs.take h))) := fun w1 hb1 => by
    have := ih g o c (xs.take h) w1 (by omega) (fun e => by rw [e] at hl1; simp at hl1; omega) (by omega) hcm (Nat.lt_of_lt_of_le hg hb1.size) (fun j hj => by
      obtain ⟨e1, e2⟩ := hat.take h j hj
      exact ⟨(hb1.cell (p := ⟨g, o + j * 2, none⟩) hg).trans e1, (hb1.cell (p := ⟨g, o + j * 2 + 1, none⟩) hg).trans e2⟩) (fun u hu => hw u (List.mem_of_mem_take hu)) (by omega)
    rw [hl1] at this
    exact this
  have kB : Hid (∀ w1, Below w.heap.size w w1 → Calls Try.prog 61 #[.slice (some ⟨g, o + h * 2, none⟩) (xs.length - h) (c - h)] w1 (SoB w1 (xs.drop h))) := fun w1 hb1 => by
    have := ih g (o + h * 2) (c - h) (xs.drop h) w1 (by omega) (fun e => by rw [e] at hl2; simp at hl2; omega) (by omega) (by omega) (Nat.lt_of_lt_of_le hg hb1.size) (fun j hj => by
      obtain ⟨e1, e2⟩ := hat.drop h j hj
      exact ⟨(hb1.cell (p := ⟨g, o + h * 2 + j * 2, none⟩) hg).trans e1, (hb1.cell (p := ⟨g, o + h * 2 + j * 2 + 1, none⟩) hg).trans e2⟩) (fun u hu => hw u (List.mem_of_mem_drop hu)) (by omega)
    rw [hl2] at this
    exact this
  have HX : Hid (xs.take h ++ xs.drop h = xs) := List.take_append_drop h xs
  obtain ⟨h1a, h1b⟩ := hh1
  have hhc : h ≤ c := by omega
  clear hat hw ih hh hl1 hl2
  generalize hL : xs.length = L at *
  have HL : Hid (xs.length = L) := hL
  clear hL
  have stp : Hid (∀ w1 w2, Below w.heap.size w w1 → Below w1.heap.size w1 w2 → Below w.heap.size w w2) := fun w1 w2 h1 h2 => h1.trans (h2.mono h1.size)
  have blD : ∀ {w1 : World}, Below w.heap.size w w1 → Below w.heap.size w w1.drew := fun h => h.drew
  have hwr : IntKind.i64.wrap (h : Int) = (h : Int) := by rw [IntKind.wrap_i64]; omega
  have hch : ¬ c = h := by omega
  have ib1 : (0 : Int) ≤ (h : Int) := by omega
  have ib2 : (h : Int) ≤ (c : Int) := by omega
  have ib3 : (h : Int) ≤ (L : Int) := by omega
  have ib4 : (L : Int) - (h : Int) = ((L - h : Nat) : Int) := by omega
  go_enter Try.func61, Try.ntmps61
  go_wp2_with fail
  go_region_held3 (fun w' => Below w.heap.size w w') (first | assumption | exact blD (Below.refl _ _) | exact Below.refl _ _) (first | (go_at_call 61; go_fit (kA.out _ (by assumption)); rintro e w5 ⟨v1, ys1, rfl, f1, s1, u1, d1, l1, hb5⟩; have q5 : Below w.heap.size w w5 := stp.out _ _ (by assumption) hb5) | (go_at_call 61; go_fit (kB.out _ (by assumption)); rintro e w6 ⟨v2, ys2, rfl, f2, s2, u2, d2, l2, hb6⟩; have q6 : Below w.heap.size w w6 := stp.out _ _ (by assumption) hb6))
  have f1' := f1.below hb6
  obtain ⟨a1, c1, rfl, m1⟩ := f1'.fm
  obtain ⟨a2, c2, rfl, m2⟩ := f2.fm
  have k1 : ys1.length ≤ c1 ∧ c1 ≤ 9223372036854775807 := by
    rcases f1'.2 with ⟨e, h0⟩ | ⟨_, cap, _, e, _, _, h1, h2, _⟩
    · have := Value.slice.inj e; omega
    · have := Value.slice.inj e; unfold maxLen at h2; omega
  have k2 : ys2.length ≤ c2 ∧ c2 ≤ 9223372036854775807 := by
    rcases f2.2 with ⟨e, h0⟩ | ⟨_, cap, _, e, _, _, h1, h2, _⟩
    · have := Value.slice.inj e; omega
    · have := Value.slice.inj e; unfold maxLen at h2; omega
  have MM : Hid (MsB xs [] ys1 ys2 L) := by
    have h4 : ys1.length + ys2.length ≤ L := by
      have h1 := l1
      have h2 := l2
      have h3 := HL.out
      simp at h1 h2
      omega
    refine ⟨?_, List.Pairwise.nil, u1, u2, (fun x hx => by cases hx), (fun j hj => by cases hj), d1, d2, by simpa using h4⟩
    have := s1.append s2
    rw [← List.filter_append, HX.out] at this
    simpa using this
  obtain ⟨S1, hS1⟩ : ∃ S1, S1 = w6.heap.size := ⟨_, rfl⟩
  have HS1 : Hid (S1 = w6.heap.size) := hS1
  have M1 : Hid (Bl w6 a1 ys1) := m1
  have M2 : Hid (Bl w6 a2 ys2) := m2
  have Q6 : Hid (Below w.heap.size w w6) := q6
  have HB : Hid (L * 16 ≤ 140737488355328) := hb
  clear f1 f1' f2 s1 s2 u1 u2 d1 d2 l1 l2 hb5 hb6 q5 m1 m2 hS1 q6 kA kB
  generalize hn1 : ys1.length = n1 at *
  generalize hn2 : ys2.length = n2 at *
  have N1 : Hid (ys1.length = n1) := hn1
  have N2 : Hid (ys2.length = n2) := hn2
  clear hn1 hn2
  go_wp2
  go_loopw [3, 4, 5] (fun av bv ov w' => ∃ (a1 a2 : Option Addr) (ra rb out : List Bk) (na nb c1 c2 : Nat), av = .slice a1 na c1 ∧ bv = .slice a2 nb c2 ∧ na ≤ c1 ∧ nb ≤ c2 ∧ c1 ≤ 9223372036854775807 ∧ c2 ≤ 9223372036854775807 ∧ Hid (ra.length = na) ∧ Hid (rb.length = nb) ∧ Hid (Bl w6 a1 ra) ∧ Hid (Bl w6 a2 rb) ∧ Hid (MsB xs out ra rb L) ∧ Hid (Lr w' S1 ov out) ∧ Below S1 w6 w') (fun av bv _ _ => slenB av + slenB bv)
  case atStart => exact ⟨a1, a2, ys1, ys2, [], n1, n2, c1, c2, rfl, rfl, k1.1, k2.1, k1.2, k2.2, N1, N2, M1, M2, MM, Lr.nil _ _, by rw [HS1.out]; exact Below.refl _ _⟩
  case round =>
    clear k1 k2 M1 M2 MM N1 N2
    obtain ⟨b1, b2, ra, rb, out, na, nb, e1, e2, rfl, rfl, he1, he2, he3, he4, hl1, hl2, m1, m2, mm, oo, hbel⟩ := hrel
    have HG : Hid (S1 ≤ wr.heap.size) := by show _ ≤ _; have := hbel.size; rw [← HS1.out] at this; exact this
    by_cases ha : na = 0
    · by_cases hb0 : nb = 0
      · subst ha hb0
        have FIN : Hid (Sim kb (xs.filter nn) out ∧ Up kb out ∧ Wb out ∧ out.length ≤ xs.length) := by
          obtain ⟨h1, h2, _, _, _, h6, _, _, h9⟩ := mm.out
          have e1 : ra = [] := List.eq_nil_of_length_eq_zero hl1.out
          have e2 : rb = [] := List.eq_nil_of_length_eq_zero hl2.out
          subst e1 e2
          have h10 := HL.out
          exact ⟨by simpa using h1, h2, h6, by simp at h9; omega⟩
        have FB : Hid (Below w.heap.size w wr) := Q6.out.trans (by
          have := hbel.mono (B' := w.heap.size) (by rw [HS1.out]; exact Q6.out.size)
          exact this)
        have FR : Hid (w.heap.size ≤ S1) := by show _ ≤ _; rw [HS1.out]; exact Q6.out.size
        go_wp2
        go_ret
        exact ⟨_, out, rfl, oo.out.low FR.out, FIN.out.1, FIN.out.2.1, FIN.out.2.2.1, FIN.out.2.2.2, FB.out⟩
      · subst ha
        have e0 : ra = [] := List.eq_nil_of_length_eq_zero hl1.out
        subst e0
        obtain ⟨y, rb', hry⟩ : ∃ y rb', rb = y :: rb' := by
          cases rb with
          | nil => exact absurd hl2.out.symm hb0
          | cons u v => exact ⟨u, v, rfl⟩
        subst hry
        obtain ⟨g2, o2, rfl, hg2, haty⟩ : ∃ g2 o2, b2 = some ⟨g2, o2, none⟩ ∧ g2 < w6.heap.size ∧ BAl w6 g2 o2 (y :: rb') := by
          rcases m2.out with h0 | ⟨g2, o2, h1, h2, h3⟩
          · cases h0
          · exact ⟨g2, o2, h1, h2, h3⟩
        have cy : wr.cell? ⟨g2, o2, none⟩ = some (.float .f64 y.1) := (hbel.cell (p := ⟨g2, o2, none⟩) (by rw [HS1.out]; exact hg2)).trans haty.head.1
        have cy2 : wr.cell? ⟨g2, o2 + 1, none⟩ = some (.float .f64 y.2) := (hbel.cell (p := ⟨g2, o2 + 1, none⟩) (by rw [HS1.out]; exact hg2)).trans haty.head.2
        have MTy : Hid (Bl w6 (some ⟨g2, o2 + 2, none⟩) rb') := Bl.tail hg2 haty
        have LTy : Hid (rb'.length = nb - 1) := by show _ = _; have := hl2.out; simp at this; omega
        have hpy : (0 : Int) < (nb : Int) := by omega
        have hqy : (1 : Int) ≤ (nb : Int) := by omega
        have hdy : decide (0 < nb) = true := decide_eq_true (by omega)
        have hzy : (nb == 0) = false := beq_eq_false_iff_ne.2 hb0
        have hzyi : ((nb : Int) == 0) = false := beq_eq_false_iff_ne.2 (by omega)
        have hny : (nb : Int) ≠ 0 := by omega
        clear haty hg2
        have MS : Hid (MsB xs (out ++ [y]) [] rb' L) := mm.out.right fun x hx => by cases hx
        have HOL : Hid ((out.length + 1) * 16 ≤ 140737488355328) := by
          have h1 := MS.out.2.2.2.2.2.2.2.2
          have h2 := HB.out
          simp at h1
          show _ ≤ _
          omega
        by_cases hcap : e2 = 1
        · have MT : Hid (Bl w6 (some ⟨g2, o2, none⟩) rb') := by
            left
            refine List.eq_nil_of_length_eq_zero ?_
            rw [LTy.out]
            omega
          go_wp2_with fail
          go_quiet (fail)
          have cz : (wr.drewN nq).cell? ⟨g2, o2, none⟩ = some (.float .f64 y.1) := cy
          have cz2 : (wr.drewN nq).cell? ⟨g2, o2 + 1, none⟩ = some (.float .f64 y.2) := cy2
          have oz := oo.out.drew nq
          have bz := below_drewN hbel nq
          have gz : S1 ≤ (wr.drewN nq).heap.size := HG.out
          clear cy cy2 oo hbel HG
          generalize wr.drewN nq = W2 at *
          obtain ⟨v', w', r1, o3, b3⟩ := append_l W2 S1 _ out y gz HOL.out oz
          have O3 : Hid _ := o3
          have B3 := bz.trans b3
          clear o3 oz bz gz b3
          go_wp2_with (at_builtin; refine wpList_append_run rfl (.tmp 75) (.tmp 79) 36 36 rfl _ _ rfl rfl r1 ?_)
          exact ⟨⟨_, _, [], rb', _, 0, nb - 1, e1, 0, rfl, rfl, by omega, by omega, by omega, by omega, hl1, LTy, m1, MT, MS, O3, B3⟩, by simp [slenB]; omega⟩
        · have MT := MTy
          go_wp2_with fail
          go_quiet (fail)
          have cz : (wr.drewN nq).cell? ⟨g2, o2, none⟩ = some (.float .f64 y.1) := cy
          have cz2 : (wr.drewN nq).cell? ⟨g2, o2 + 1, none⟩ = some (.float .f64 y.2) := cy2
          have oz := oo.out.drew nq
          have bz := below_drewN hbel nq
          have gz : S1 ≤ (wr.drewN nq).heap.size := HG.out
          clear cy cy2 oo hbel HG
          generalize wr.drewN nq = W2 at *
          obtain ⟨v', w', r1, o3, b3⟩ := append_l W2 S1 _ out y gz HOL.out oz
          have O3 : Hid _ := o3
          have B3 := bz.trans b3
          clear o3 oz bz gz b3
          go_wp2_with (at_builtin; refine wpList_append_run rfl (.tmp 75) (.tmp 79) 36 36 rfl _ _ rfl rfl r1 ?_)
          exact ⟨⟨_, _, [], rb', _, 0, nb - 1, e1, e2 - 1, rfl, rfl, by omega, by omega, by omega, by omega, hl1, LTy, m1, MT, MS, O3, B3⟩, by simp [slenB]; omega⟩
    · by_cases hb0 : nb = 0
      · subst hb0
        have e0 : rb = [] := List.eq_nil_of_length_eq_zero hl2.out
        subst e0
        obtain ⟨x, ra', hrx⟩ : ∃ x ra', ra = x :: ra' := by
          cases ra with
          | nil => exact absurd hl1.out.symm ha
          | cons u v => exact ⟨u, v, rfl⟩
        subst hrx
        obtain ⟨g1, o1, rfl, hg1, hatx⟩ : ∃ g1 o1, b1 = some ⟨g1, o1, none⟩ ∧ g1 < w6.heap.size ∧ BAl w6 g1 o1 (x :: ra') := by
          rcases m1.out with h0 | ⟨g1, o1, h1, h2, h3⟩
          · cases h0
          · exact ⟨g1, o1, h1, h2, h3⟩
        have cx : wr.cell? ⟨g1, o1, none⟩ = some (.float .f64 x.1) := (hbel.cell (p := ⟨g1, o1, none⟩) (by rw [HS1.out]; exact hg1)).trans hatx.head.1
        have cx2 : wr.cell? ⟨g1, o1 + 1, none⟩ = some (.float .f64 x.2) := (hbel.cell (p := ⟨g1, o1 + 1, none⟩) (by rw [HS1.out]; exact hg1)).trans hatx.head.2
        have MTx : Hid (Bl w6 (some ⟨g1, o1 + 2, none⟩) ra') := Bl.tail hg1 hatx
        have LTx : Hid (ra'.length = na - 1) := by show _ = _; have := hl1.out; simp at this; omega
        have hpx : (0 : Int) < (na : Int) := by omega
        have hqx : (1 : Int) ≤ (na : Int) := by omega
        have hdx : decide (0 < na) = true := decide_eq_true (by omega)
        have hzx : (na == 0) = false := beq_eq_false_iff_ne.2 ha
        have hzxi : ((na : Int) == 0) = false := beq_eq_false_iff_ne.2 (by omega)
        have hnx : (na : Int) ≠ 0 := by omega
        clear hatx hg1
        have MS : Hid (MsB xs (out ++ [x]) ra' [] L) := mm.out.left fun y hy => by cases hy
        have HOL : Hid ((out.length + 1) * 16 ≤ 140737488355328) := by
          have h1 := MS.out.2.2.2.2.2.2.2.2
          have h2 := HB.out
          simp at h1
          show _ ≤ _
          omega
        by_cases hcap : e1 = 1
        · have MT : Hid (Bl w6 (some ⟨g1, o1, none⟩) ra') := by
            left
            refine List.eq_nil_of_length_eq_zero ?_
            rw [LTx.out]
            omega
          go_wp2_with fail
          go_quiet (fail)
          have cz : (wr.drewN nq).cell? ⟨g1, o1, none⟩ = some (.float .f64 x.1) := cx
          have cz2 : (wr.drewN nq).cell? ⟨g1, o1 + 1, none⟩ = some (.float .f64 x.2) := cx2
          have oz := oo.out.drew nq
          have bz := below_drewN hbel nq
          have gz : S1 ≤ (wr.drewN nq).heap.size := HG.out
          clear cx cx2 oo hbel HG
          generalize wr.drewN nq = W2 at *
          obtain ⟨v', w', r1, o3, b3⟩ := append_l W2 S1 _ out x gz HOL.out oz
          have O3 : Hid _ := o3
          have B3 := bz.trans b3
          clear o3 oz bz gz b3
          go_wp2_with (at_builtin; refine wpList_append_run rfl (.tmp 67) (.tmp 71) 36 36 rfl _ _ rfl rfl r1 ?_)
          exact ⟨⟨_, _, ra', [], _, na - 1, 0, 0, e2, rfl, rfl, by omega, by omega, by omega, by omega, LTx, hl2, MT, m2, MS, O3, B3⟩, by simp [slenB]; omega⟩
        · have MT := MTx
          go_wp2_with fail
          go_quiet (fail)
          have cz : (wr.drewN nq).cell? ⟨g1, o1, none⟩ = some (.float .f64 x.1) := cx
          have cz2 : (wr.drewN nq).cell? ⟨g1, o1 + 1, none⟩ = some (.float .f64 x.2) := cx2
          have oz := oo.out.drew nq
          have bz := below_drewN hbel nq
          have gz : S1 ≤ (wr.drewN nq).heap.size := HG.out
          clear cx cx2 oo hbel HG
          generalize wr.drewN nq = W2 at *
          obtain ⟨v', w', r1, o3, b3⟩ := append_l W2 S1 _ out x gz HOL.out oz
          have O3 : Hid _ := o3
          have B3 := bz.trans b3
          clear o3 oz bz gz b3
          go_wp2_with (at_builtin; refine wpList_append_run rfl (.tmp 67) (.tmp 71) 36 36 rfl _ _ rfl rfl r1 ?_)
          exact ⟨⟨_, _, ra', [], _, na - 1, 0, e1 - 1, e2, rfl, rfl, by omega, by omega, by omega, by omega, LTx, hl2, MT, m2, MS, O3, B3⟩, by simp [slenB]; omega⟩
      · obtain ⟨x, ra', hrx⟩ : ∃ x ra', ra = x :: ra' := by
          cases ra with
          | nil => exact absurd hl1.out.symm ha
          | cons u v => exact ⟨u, v, rfl⟩
        subst hrx
        obtain ⟨g1, o1, rfl, hg1, hatx⟩ : ∃ g1 o1, b1 = some ⟨g1, o1, none⟩ ∧ g1 < w6.heap.size ∧ BAl w6 g1 o1 (x :: ra') := by
          rcases m1.out with h0 | ⟨g1, o1, h1, h2, h3⟩
          · cases h0
          · exact ⟨g1, o1, h1, h2, h3⟩
        have cx : wr.cell? ⟨g1, o1, none⟩ = some (.float .f64 x.1) := (hbel.cell (p := ⟨g1, o1, none⟩) (by rw [HS1.out]; exact hg1)).trans hatx.head.1
        have cx2 : wr.cell? ⟨g1, o1 + 1, none⟩ = some (.float .f64 x.2) := (hbel.cell (p := ⟨g1, o1 + 1, none⟩) (by rw [HS1.out]; exact hg1)).trans hatx.head.2
        have MTx : Hid (Bl w6 (some ⟨g1, o1 + 2, none⟩) ra') := Bl.tail hg1 hatx
        have LTx : Hid (ra'.length = na - 1) := by show _ = _; have := hl1.out; simp at this; omega
        have hpx : (0 : Int) < (na : Int) := by omega
        have hqx : (1 : Int) ≤ (na : Int) := by omega
        have hdx : decide (0 < na) = true := decide_eq_true (by omega)
        have hzx : (na == 0) = false := beq_eq_false_iff_ne.2 ha
        have hzxi : ((na : Int) == 0) = false := beq_eq_false_iff_ne.2 (by omega)
        have hnx : (na : Int) ≠ 0 := by omega
        clear hatx hg1
        obtain ⟨y, rb', hry⟩ : ∃ y rb', rb = y :: rb' := by
          cases rb with
          | nil => exact absurd hl2.out.symm hb0
          | cons u v => exact ⟨u, v, rfl⟩
        subst hry
        obtain ⟨g2, o2, rfl, hg2, haty⟩ : ∃ g2 o2, b2 = some ⟨g2, o2, none⟩ ∧ g2 < w6.heap.size ∧ BAl w6 g2 o2 (y :: rb') := by
          rcases m2.out with h0 | ⟨g2, o2, h1, h2, h3⟩
          · cases h0
          · exact ⟨g2, o2, h1, h2, h3⟩
        have cy : wr.cell? ⟨g2, o2, none⟩ = some (.float .f64 y.1) := (hbel.cell (p := ⟨g2, o2, none⟩) (by rw [HS1.out]; exact hg2)).trans haty.head.1
        have cy2 : wr.cell? ⟨g2, o2 + 1, none⟩ = some (.float .f64 y.2) := (hbel.cell (p := ⟨g2, o2 + 1, none⟩) (by rw [HS1.out]; exact hg2)).trans haty.head.2
        have MTy : Hid (Bl w6 (some ⟨g2, o2 + 2, none⟩) rb') := Bl.tail hg2 haty
        have LTy : Hid (rb'.length = nb - 1) := by show _ = _; have := hl2.out; simp at this; omega
        have hpy : (0 : Int) < (nb : Int) := by omega
        have hqy : (1 : Int) ≤ (nb : Int) := by omega
        have hdy : decide (0 < nb) = true := decide_eq_true (by omega)
        have hzy : (nb == 0) = false := beq_eq_false_iff_ne.2 hb0
        have hzyi : ((nb : Int) == 0) = false := beq_eq_false_iff_ne.2 (by omega)
        have hny : (nb : Int) ≠ 0 := by omega
        clear haty hg2
        have hxn := mm.out.num x (by simp)
        have hyn := mm.out.num y (by simp)
        have hor : FloatKind.f64.format.order x.1 y.1 = some (compare (kb x) (kb y)) := key_order x.1 y.1 hxn hyn
        clear hxn hyn
        by_cases hxy : kb x ≤ kb y
        · have MS : Hid (MsB xs (out ++ [x]) ra' (y :: rb') L) := mm.out.left fun u hu => by
            rcases List.mem_cons.1 hu with rfl | hu
            · exact hxy
            · have := (List.pairwise_cons.1 mm.out.2.2.2.1).1 u hu
              omega
          have HOL : Hid ((out.length + 1) * 16 ≤ 140737488355328) := by
            have h1 := MS.out.2.2.2.2.2.2.2.2
            have h2 := HB.out
            simp at h1
            show _ ≤ _
            omega
          have hoo : FloatKind.f64.format.order x.1 y.1 = some .lt ∨ FloatKind.f64.format.order x.1 y.1 = some .eq := by
            rw [hor]
            by_cases h1 : kb x < kb y
            · left; rw [Int.compare_eq_lt.2 h1]
            · right; rw [Int.compare_eq_eq.2 (by omega)]
          clear hor hxy
          by_cases hcap : e1 = 1
          · have MT : Hid (Bl w6 (some ⟨g1, o1, none⟩) ra') := by
              left
              refine List.eq_nil_of_length_eq_zero ?_
              rw [LTx.out]
              omega
            rcases hoo with hoo | hoo
            · go_wp2_with fail
              go_quiet (fail)
              have cz : (wr.drewN nq).cell? ⟨g1, o1, none⟩ = some (.float .f64 x.1) := cx
              have cz2 : (wr.drewN nq).cell? ⟨g1, o1 + 1, none⟩ = some (.float .f64 x.2) := cx2
              have oz := oo.out.drew nq
              have bz := below_drewN hbel nq
              have gz : S1 ≤ (wr.drewN nq).heap.size := HG.out
              clear cx cy cx2 cy2 oo hbel HG
              generalize wr.drewN nq = W2 at *
              obtain ⟨v', w', r1, o3, b3⟩ := append_l W2 S1 _ out x gz HOL.out oz
              have O3 : Hid _ := o3
              have B3 := bz.trans b3
              clear o3 oz bz gz b3
              go_wp2_with (at_builtin; refine wpList_append_run rfl (.tmp 67) (.tmp 71) 36 36 rfl _ _ rfl rfl r1 ?_)
              exact ⟨⟨_, _, ra', y :: rb', _, na - 1, nb, 0, e2, rfl, rfl, by omega, by omega, by omega, by omega, LTx, hl2, MT, m2, MS, O3, B3⟩, by simp [slenB]; omega⟩
            · go_wp2_with fail
              go_quiet (fail)
              have cz : (wr.drewN nq).cell? ⟨g1, o1, none⟩ = some (.float .f64 x.1) := cx
              have cz2 : (wr.drewN nq).cell? ⟨g1, o1 + 1, none⟩ = some (.float .f64 x.2) := cx2
              have oz := oo.out.drew nq
              have bz := below_drewN hbel nq
              have gz : S1 ≤ (wr.drewN nq).heap.size := HG.out
              clear cx cy cx2 cy2 oo hbel HG
              generalize wr.drewN nq = W2 at *
              obtain ⟨v', w', r1, o3, b3⟩ := append_l W2 S1 _ out x gz HOL.out oz
              have O3 : Hid _ := o3
              have B3 := bz.trans b3
              clear o3 oz bz gz b3
              go_wp2_with (at_builtin; refine wpList_append_run rfl (.tmp 67) (.tmp 71) 36 36 rfl _ _ rfl rfl r1 ?_)
              exact ⟨⟨_, _, ra', y :: rb', _, na - 1, nb, 0, e2, rfl, rfl, by omega, by omega, by omega, by omega, LTx, hl2, MT, m2, MS, O3, B3⟩, by simp [slenB]; omega⟩
          · have MT := MTx
            rcases hoo with hoo | hoo
            · go_wp2_with fail
              go_quiet (fail)
              have cz : (wr.drewN nq).cell? ⟨g1, o1, none⟩ = some (.float .f64 x.1) := cx
              have cz2 : (wr.drewN nq).cell? ⟨g1, o1 + 1, none⟩ = some (.float .f64 x.2) := cx2
              have oz := oo.out.drew nq
              have bz := below_drewN hbel nq
              have gz : S1 ≤ (wr.drewN nq).heap.size := HG.out
              clear cx cy cx2 cy2 oo hbel HG
              generalize wr.drewN nq = W2 at *
              obtain ⟨v', w', r1, o3, b3⟩ := append_l W2 S1 _ out x gz HOL.out oz
              have O3 : Hid _ := o3
              have B3 := bz.trans b3
              clear o3 oz bz gz b3
              go_wp2_with (at_builtin; refine wpList_append_run rfl (.tmp 67) (.tmp 71) 36 36 rfl _ _ rfl rfl r1 ?_)
              exact ⟨⟨_, _, ra', y :: rb', _, na - 1, nb, e1 - 1, e2, rfl, rfl, by omega, by omega, by omega, by omega, LTx, hl2, MT, m2, MS, O3, B3⟩, by simp [slenB]; omega⟩
            · go_wp2_with fail
              go_quiet (fail)
              have cz : (wr.drewN nq).cell? ⟨g1, o1, none⟩ = some (.float .f64 x.1) := cx
              have cz2 : (wr.drewN nq).cell? ⟨g1, o1 + 1, none⟩ = some (.float .f64 x.2) := cx2
              have oz := oo.out.drew nq
              have bz := below_drewN hbel nq
              have gz : S1 ≤ (wr.drewN nq).heap.size := HG.out
              clear cx cy cx2 cy2 oo hbel HG
              generalize wr.drewN nq = W2 at *
              obtain ⟨v', w', r1, o3, b3⟩ := append_l W2 S1 _ out x gz HOL.out oz
              have O3 : Hid _ := o3
              have B3 := bz.trans b3
              clear o3 oz bz gz b3
              go_wp2_with (at_builtin; refine wpList_append_run rfl (.tmp 67) (.tmp 71) 36 36 rfl _ _ rfl rfl r1 ?_)
              exact ⟨⟨_, _, ra', y :: rb', _, na - 1, nb, e1 - 1, e2, rfl, rfl, by omega, by omega, by omega, by omega, LTx, hl2, MT, m2, MS, O3, B3⟩, by simp [slenB]; omega⟩
        · have MS : Hid (MsB xs (out ++ [y]) (x :: ra') rb' L) := mm.out.right fun u hu => by
            rcases List.mem_cons.1 hu with rfl | hu
            · omega
            · have := (List.pairwise_cons.1 mm.out.2.2.1).1 u hu
              omega
          have HOL : Hid ((out.length + 1) * 16 ≤ 140737488355328) := by
            have h1 := MS.out.2.2.2.2.2.2.2.2
            have h2 := HB.out
            simp at h1
            show _ ≤ _
            omega
          rw [Int.compare_eq_gt.2 (show kb y < kb x by omega)] at hor
          clear hxy
          by_cases hcap : e2 = 1
          · have MT : Hid (Bl w6 (some ⟨g2, o2, none⟩) rb') := by
              left
              refine List.eq_nil_of_length_eq_zero ?_
              rw [LTy.out]
              omega
            go_wp2_with fail
            go_quiet (fail)
            have cz : (wr.drewN nq).cell? ⟨g2, o2, none⟩ = some (.float .f64 y.1) := cy
            have cz2 : (wr.drewN nq).cell? ⟨g2, o2 + 1, none⟩ = some (.float .f64 y.2) := cy2
            have oz := oo.out.drew nq
            have bz := below_drewN hbel nq
            have gz : S1 ≤ (wr.drewN nq).heap.size := HG.out
            clear cx cy cx2 cy2 oo hbel HG
            generalize wr.drewN nq = W2 at *
            obtain ⟨v', w', r1, o3, b3⟩ := append_l W2 S1 _ out y gz HOL.out oz
            have O3 : Hid _ := o3
            have B3 := bz.trans b3
            clear o3 oz bz gz b3
            go_wp2_with (at_builtin; refine wpList_append_run rfl (.tmp 75) (.tmp 79) 36 36 rfl _ _ rfl rfl r1 ?_)
            exact ⟨⟨_, _, x :: ra', rb', _, na, nb - 1, e1, 0, rfl, rfl, by omega, by omega, by omega, by omega, hl1, LTy, m1, MT, MS, O3, B3⟩, by simp [slenB]; omega⟩
          · have MT := MTy
            go_wp2_with fail
            go_quiet (fail)
            have cz : (wr.drewN nq).cell? ⟨g2, o2, none⟩ = some (.float .f64 y.1) := cy
            have cz2 : (wr.drewN nq).cell? ⟨g2, o2 + 1, none⟩ = some (.float .f64 y.2) := cy2
            have oz := oo.out.drew nq
            have bz := below_drewN hbel nq
            have gz : S1 ≤ (wr.drewN nq).heap.size := HG.out
            clear cx cy cx2 cy2 oo hbel HG
            generalize wr.drewN nq = W2 at *
            obtain ⟨v', w', r1, o3, b3⟩ := append_l W2 S1 _ out y gz HOL.out oz
            have O3 : Hid _ := o3
            have B3 := bz.trans b3
            clear o3 oz bz gz b3
            go_wp2_with (at_builtin; refine wpList_append_run rfl (.tmp 75) (.tmp 79) 36 36 rfl _ _ rfl rfl r1 ?_)
            exact ⟨⟨_, _, x :: ra', rb', _, na, nb - 1, e1, e2 - 1, rfl, rfl, by omega, by omega, by omega, by omega, hl1, LTy, m1, MT, MS, O3, B3⟩, by simp [slenB]; omega⟩

set_option maxHeartbeats 1000000 in
set_option maxRecDepth 100000 in
theorem rsortB_one (g o c : Nat) (x : Bk) (w : World) (hg : g < w.heap.size) (hat : BAl w g o [x]) (hw : Wb [x]) :
    Calls Try.prog 61 #[.slice (some ⟨g, o, none⟩) 1 c] w (SoB w [x]) := by
  have kN := bad_any x.1
  obtain ⟨c1, c2⟩ := hat.head
  have HW : Hid (Wb [x]) := hw
  have o1 : Br (w.alloc (.cells #[.float .f64 x.1, .float .f64 x.2] 34)) w.heap.size (.slice (some ⟨w.heap.size, 0, none⟩) 1 1) 1 (fun _ => x) := World.ownsRow_lit (e := 34) (size := 2) w #[.float .f64 x.1, .float .f64 x.2] 1 (Nat.le_refl _) (by decide) rfl
  have O1 : Hid (Lr (w.alloc (.cells #[.float .f64 x.1, .float .f64 x.2] 34)) w.heap.size (.slice (some ⟨w.heap.size, 0, none⟩) 1 1) [x]) := o1.congr fun j hj => by
    obtain rfl : j = 0 := by omega
    rfl
  have b1 : Below w.heap.size w (w.alloc (.cells #[.float .f64 x.1, .float .f64 x.2] 34)) := (Below.refl _ _).alloc (Nat.le_refl _) _
  have HF : Hid (nanB x.1 = false → Sim kb ([x].filter nn) [x]) := fun hn => by
    have : nn x = true := by unfold nn; rw [hn]; rfl
    simp [this]
    exact Sim.refl _
  have HT : Hid (nanB x.1 = true → Sim kb ([x].filter nn) []) := fun hn => by
    have : nn x = false := by unfold nn; rw [hn]; rfl
    simp [this]
    exact Sim.refl _
  clear hat o1 hw
  obtain ⟨xu, xc⟩ := x
  dsimp only at kN c1 c2 O1 b1 HF HT
  cases hn : nanB xu
  · rw [hn] at kN
    have S1 := HF.out hn
    have HS : Hid _ := S1
    clear S1
    go_enter Try.func61, Try.ntmps61
    go_wp2_with fail
    go_fit (kN _)
    rintro r w ⟨rfl, rfl⟩
    go_wp2
    go_ret
    exact ⟨_, [(xu, xc)], rfl, O1.out, HS.out, List.pairwise_singleton _ _, HW.out, Nat.le_refl _, b1⟩
  · rw [hn] at kN
    have S1 := HT.out hn
    have HS : Hid _ := S1
    clear S1
    go_enter Try.func61, Try.ntmps61
    go_wp2_with fail
    go_fit (kN _)
    rintro r w ⟨rfl, rfl⟩
    go_wp2
    go_ret
    exact ⟨_, [], rfl, Lr.nil _ _, HS.out, List.Pairwise.nil, (fun u hu => by cases hu), by simp, Below.refl _ _⟩
theorem rsortB_any : ∀ N, RsB N := by
  intro N
  induction N with
  | zero => intro g o c xs w h1 h2; exact absurd (List.eq_nil_of_length_eq_zero (by omega)) h2
  | succ N ih =>
    intro g o c xs w h1 h2 h3 h4 h5 h6 h7 h8
    match xs, h2 with
    | [x], _ => exact rsortB_one g o c x w h5 h6 h7
    | x :: y :: l, _ => exact rsortB_two g o c (x :: y :: l) w N ih h1 (by simp) h3 h4 h5 h6 h7 h8
set_option maxHeartbeats 1000000 in
theorem rsortB_nil (a : Option Addr) (c : Nat) (w : World) : Calls Try.prog 61 #[.slice a 0 c] w (SoB w []) := by
  go_enter Try.func61, Try.ntmps61
  go_wp2
  go_ret
  exact ⟨_, [], rfl, Lr.nil _ _, Sim.refl _, List.Pairwise.nil, (fun u hu => by cases hu), by simp, Below.refl _ _⟩
end Go.Proofs.Ytfjfpplemgjcmaa
