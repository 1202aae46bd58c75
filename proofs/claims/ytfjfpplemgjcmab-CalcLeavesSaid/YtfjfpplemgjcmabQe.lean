/- The reference's sorted list. -/
import Derived.Test.YtfjfpplemgjcmabQb
import Derived.Test.YtfjfpplemgjcmabQa
import Derived.Deep.CutRange
import Derived.Deep.RegionHeld3
namespace Go.Proofs.Ytfjfpplemgjcmab
open Go.RowKit

/-- A sorted list of one's own. -/
def So (w : World) (xs : List Nat) (r : Ending) (w' : World) : Prop := ∃ v ys, r = .returned v ∧ Fr w' w.heap.size v ys ∧ Sim ky xs ys ∧ Up ky ys ∧ Wd ys ∧ ys.length = xs.length ∧ Below w.heap.size w w'
def Rs (N : Nat) : Prop := ∀ (g o c : Nat) (xs : List Nat) (w : World), xs.length ≤ N → xs ≠ [] → xs.length ≤ c → c ≤ 9223372036854775807 → g < w.heap.size → FAt w g o xs → Wd xs → xs.length * 8 ≤ 140737488355328 → Calls Try.prog 70 #[.slice (some ⟨g, o, none⟩) xs.length c] w (So w xs)
theorem FAt.take {w : World} {g o : Nat} {xs : List Nat} (h : FAt w g o xs) (k : Nat) : FAt w g o (xs.take k) := fun j hj => by
  have hj2 : j < xs.length ∧ j < k := by simp at hj; omega
  rw [h j hj2.1]
  simp [List.getD, hj2.2]
theorem FAt.drop {w : World} {g o : Nat} {xs : List Nat} (h : FAt w g o xs) (k : Nat) : FAt w g (o + k) (xs.drop k) := fun j hj => by
  have hj2 : k + j < xs.length := by simp at hj; omega
  rw [Nat.add_assoc, h (k + j) hj2]
  simp [List.getD, List.getElem?_drop]

theorem Fr.low {w : World} {S S' : Nat} {v : Value} {ys : List Nat} (h : Fr w S v ys) (hs : S' ≤ S) : Fr w S' v ys := by
  refine ⟨h.1, ?_⟩
  rcases h.2 with h0 | ⟨g, cap, cur, hv, hB, r⟩
  · exact .inl h0
  · exact .inr ⟨g, cap, cur, hv, Nat.le_trans hs hB, r⟩
def slen : Value → Nat
  | .slice _ n _ => n
  | _ => 0
/-- The merging: what has come and what is left. -/
def Ms (xs out ra rb : List Nat) (L : Nat) : Prop := Sim ky xs (out ++ (ra ++ rb)) ∧ Up ky out ∧ Up ky ra ∧ Up ky rb ∧ (∀ x ∈ out, ∀ y ∈ ra ++ rb, ky x ≤ ky y) ∧ Wd out ∧ Wd ra ∧ Wd rb ∧ out.length + ra.length + rb.length = L
theorem Wd.app {xs ys : List Nat} (h1 : Wd xs) (h2 : Wd ys) : Wd (xs ++ ys) := fun j hj => by
  by_cases h : j < xs.length
  · have := h1 j h
    simpa [List.getD, List.getElem?_append, h] using this
  · have := h2 (j - xs.length) (by simp at hj; omega)
    simpa [List.getD, List.getElem?_append, h] using this
theorem Wd.tail {x : Nat} {xs : List Nat} (h : Wd (x :: xs)) : Wd xs := fun j hj => by
  have := h (j + 1) (by simp; omega)
  simpa using this
theorem Wd.head {x : Nat} {xs : List Nat} (h : Wd (x :: xs)) : x < 18446744073709551616 := h 0 (by simp)
theorem Wd.one {x : Nat} (h : x < 18446744073709551616) : Wd [x] := fun j hj => by
  have e : j = 0 := by simp at hj; omega
  subst e
  exact h
theorem up_push {out : List Nat} {x : Nat} (h : Up ky out) (h2 : ∀ z ∈ out, ky z ≤ ky x) : Up ky (out ++ [x]) :=
  List.pairwise_append.2 ⟨h, List.pairwise_singleton _ _, fun a ha b hb => by rw [List.mem_singleton.1 hb]; exact h2 a ha⟩
theorem Ms.left {xs out ra rb : List Nat} {x L : Nat} (h : Ms xs out (x :: ra) rb L) (hx : ∀ y ∈ rb, ky x ≤ ky y) : Ms xs (out ++ [x]) ra rb L := by
  obtain ⟨h1, h2, h3, h4, h5, h6, h7, h8, h9⟩ := h
  refine ⟨by simpa using h1, up_push h2 fun z hz => h5 z hz x (by simp), (List.pairwise_cons.1 h3).2, h4, fun z hz y hy => ?_, h6.app (Wd.one h7.head), h7.tail, h8, by simp at h9 ⊢; omega⟩
  rcases List.mem_append.1 hz with hz | hz
  · exact h5 z hz y (by rcases List.mem_append.1 hy with h | h <;> simp [h])
  · rw [List.mem_singleton.1 hz]
    rcases List.mem_append.1 hy with h | h
    · exact (List.pairwise_cons.1 h3).1 y h
    · exact hx y h
theorem Ms.right {xs out ra rb : List Nat} {y L : Nat} (h : Ms xs out ra (y :: rb) L) (hx : ∀ x ∈ ra, ky y < ky x) : Ms xs (out ++ [y]) ra rb L := by
  obtain ⟨h1, h2, h3, h4, h5, h6, h7, h8, h9⟩ := h
  refine ⟨?_, up_push h2 fun z hz => h5 z hz y (by simp), h3, (List.pairwise_cons.1 h4).2, fun z hz u hu => ?_, h6.app (Wd.one h8.head), h7, h8.tail, by simp at h9 ⊢; omega⟩
  · have e : Sim ky (out ++ (ra ++ y :: rb)) (out ++ [y] ++ (ra ++ rb)) := by
      have hs : Sim ky (ra ++ [y]) ([y] ++ ra) := Sim.swap _ _ fun a ha b hb => by
        rw [List.mem_singleton.1 hb]
        have := hx a ha
        omega
      have := (Sim.refl (k := ky) out).append (hs.append (Sim.refl rb))
      simpa using this
    exact h1.trans e
  · rcases List.mem_append.1 hz with hz | hz
    · exact h5 z hz u (by rcases List.mem_append.1 hu with h | h <;> simp [h])
    · rw [List.mem_singleton.1 hz]
      rcases List.mem_append.1 hu with h | h
      · exact Int.le_of_lt (hx u h)
      · exact (List.pairwise_cons.1 h4).1 u h
theorem Fm.tail {w : World} {g o : Nat} {x : Nat} {xs : List Nat} (hg : g < w.heap.size) (h : FAt w g o (x :: xs)) : Fm w (some ⟨g, o + 1, none⟩) xs := .inr ⟨g, o + 1, rfl, hg, fun j hj => by
  have := h (j + 1) (by simp; omega)
  rw [Nat.add_assoc, Nat.add_comm 1 j]
  simpa using this⟩
theorem FAt.head {w : World} {g o : Nat} {x : Nat} {xs : List Nat} (h : FAt w g o (x :: xs)) : w.cell? ⟨g, o, none⟩ = some (.float .f64 x) := by
  have := h 0 (by simp)
  simpa using this

set_option maxHeartbeats 4000000 in
set_option maxRecDepth 100000 in
theorem rsorted_two (g o c : Nat) (xs : List Nat) (w : World) (N : Nat) (ih : Rs N) (hN : xs.length ≤ N + 1) (h2 : 2 ≤ xs.length) (hc : xs.length ≤ c) (hcm : c ≤ 9223372036854775807) (hg : g < w.heap.size) (hat : FAt w g o xs) (hw : Wd xs) (hb : xs.length * 8 ≤ 140737488355328) :
    Calls Try.prog 70 #[.slice (some ⟨g, o, none⟩) xs.length c] w (So w xs) := by
  obtain ⟨h, hh⟩ : ∃ h : Nat, h = xs.length / 2 := ⟨_, rfl⟩
  have hq : (xs.length : Int).tdiv 2 = (h : Int) := by rw [Int.tdiv_eq_ediv_of_nonneg (by omega)]; omega
  have hge : ¬ (xs.length : Int) < 2 := by omega
  have hh1 : 1 ≤ h ∧ h < xs.length := by omega
  have hl1 : (xs.take h).length = h := by simp; omega
  have hl2 : (xs.drop h).length = xs.length - h := by simp
  have kA : Hid (∀ w1, Below w.heap.size w w1 → Calls Try.prog 70 #[.slice (some ⟨g, o, none⟩) h c] w1 (So w1 (xs.take h))) := fun w1 hb1 => by
    have := ih g o c (xs.take h) w1 (by omega) (fun e => by rw [e] at hl1; simp at hl1; omega) (by omega) hcm (Nat.lt_of_lt_of_le hg hb1.size) (fun j hj => (hb1.cell (p := ⟨g, o + j, none⟩) hg).trans (hat.take h j hj)) (fun j hj => by
      rw [hl1] at hj
      have := hw j (by omega)
      simpa [List.getD, List.getElem?_take, hj] using this) (by omega)
    rw [hl1] at this
    exact this
  have kB : Hid (∀ w1, Below w.heap.size w w1 → Calls Try.prog 70 #[.slice (some ⟨g, o + h, none⟩) (xs.length - h) (c - h)] w1 (So w1 (xs.drop h))) := fun w1 hb1 => by
    have := ih g (o + h) (c - h) (xs.drop h) w1 (by omega) (fun e => by rw [e] at hl2; simp at hl2; omega) (by omega) (by omega) (Nat.lt_of_lt_of_le hg hb1.size) (fun j hj => (hb1.cell (p := ⟨g, o + h + j, none⟩) hg).trans (hat.drop h j hj)) (fun j hj => by
      rw [hl2] at hj
      have := hw (h + j) (by omega)
      simpa [List.getD, List.getElem?_drop] using this) (by omega)
    rw [hl2] at this
    exact this
  have HX : Hid (xs.take h ++ xs.drop h = xs) := List.take_append_drop h xs
  obtain ⟨h1a, h1b⟩ := hh1
  have hhc : h ≤ c := by omega
  clear hat hw ih hh hl1 hl2
  generalize hL : xs.length = L at *
  have HL : Hid (xs.length = L) := hL
  clear hL
  have stp : Hid (∀ w1 w2, Below w.heap.size w w1 → Below w1.heap.size w1 w2 → Below w.heap.size w w2) := fun w1 w2 h1 h2 => h1.trans (h2.mono h1.size)
  have blD : ∀ {w1 : World}, Below w.heap.size w w1 → Below w.heap.size w w1.drew := fun h => h.drew
  have hwr : IntKind.i64.wrap (h : Int) = (h : Int) := by rw [IntKind.wrap_i64]; omega
  have hch : ¬ c = h := by omega
  have ib1 : (0 : Int) ≤ (h : Int) := by omega
  have ib2 : (h : Int) ≤ (c : Int) := by omega
  have ib3 : (h : Int) ≤ (L : Int) := by omega
  have ib4 : (L : Int) - (h : Int) = ((L - h : Nat) : Int) := by omega
  go_enter Try.func70, Try.ntmps70
  go_wp2_with fail
  go_region_held3 (fun w' => Below w.heap.size w w') (first | assumption | exact blD (Below.refl _ _) | exact Below.refl _ _) (first | (go_at_call 70; go_fit (kA.out _ (by assumption)); rintro e w5 ⟨v1, ys1, rfl, f1, s1, u1, d1, l1, hb5⟩; have q5 : Below w.heap.size w w5 := stp.out _ _ (by assumption) hb5) | (go_at_call 70; go_fit (kB.out _ (by assumption)); rintro e w6 ⟨v2, ys2, rfl, f2, s2, u2, d2, l2, hb6⟩; have q6 : Below w.heap.size w w6 := stp.out _ _ (by assumption) hb6))
  have f1' := f1.below hb6
  obtain ⟨a1, c1, rfl, m1⟩ := f1'.fm
  obtain ⟨a2, c2, rfl, m2⟩ := f2.fm
  have k1 : ys1.length ≤ c1 ∧ c1 ≤ 9223372036854775807 := by
    rcases f1'.2 with ⟨e, h0⟩ | ⟨_, cap, _, e, _, _, h1, h2, _⟩
    · have := Value.slice.inj e; omega
    · have := Value.slice.inj e; unfold maxLen at h2; omega
  have k2 : ys2.length ≤ c2 ∧ c2 ≤ 9223372036854775807 := by
    rcases f2.2 with ⟨e, h0⟩ | ⟨_, cap, _, e, _, _, h1, h2, _⟩
    · have := Value.slice.inj e; omega
    · have := Value.slice.inj e; unfold maxLen at h2; omega
  have MM : Hid (Ms xs [] ys1 ys2 L) := by
    have h4 : ys1.length + ys2.length = L := by
      have h1 := l1
      have h2 := l2
      have h3 := HL.out
      simp at h1 h2
      omega
    refine ⟨?_, List.Pairwise.nil, u1, u2, (fun x hx => by cases hx), (fun j hj => by simp at hj), d1, d2, by simpa using h4⟩
    have := s1.append s2
    rw [HX.out] at this
    simpa using this
  obtain ⟨S1, hS1⟩ : ∃ S1, S1 = w6.heap.size := ⟨_, rfl⟩
  have HS1 : Hid (S1 = w6.heap.size) := hS1
  have M1 : Hid (Fm w6 a1 ys1) := m1
  have M2 : Hid (Fm w6 a2 ys2) := m2
  have Q6 : Hid (Below w.heap.size w w6) := q6
  have HB : Hid (L * 8 ≤ 140737488355328) := hb
  clear f1 f1' f2 s1 s2 u1 u2 d1 d2 l1 l2 hb5 hb6 q5 m1 m2 hS1 q6 kA kB
  generalize hn1 : ys1.length = n1 at *
  generalize hn2 : ys2.length = n2 at *
  have N1 : Hid (ys1.length = n1) := hn1
  have N2 : Hid (ys2.length = n2) := hn2
  clear hn1 hn2
  go_wp2
  go_loopw [3, 4, 5] (fun av bv ov w' => ∃ (a1 a2 : Option Addr) (ra rb out : List Nat) (na nb c1 c2 : Nat), av = .slice a1 na c1 ∧ bv = .slice a2 nb c2 ∧ na ≤ c1 ∧ nb ≤ c2 ∧ c1 ≤ 9223372036854775807 ∧ c2 ≤ 9223372036854775807 ∧ Hid (ra.length = na) ∧ Hid (rb.length = nb) ∧ Hid (Fm w6 a1 ra) ∧ Hid (Fm w6 a2 rb) ∧ Hid (Ms xs out ra rb L) ∧ Hid (Fr w' S1 ov out) ∧ Below S1 w6 w') (fun av bv _ _ => slen av + slen bv)
  case atStart => exact ⟨a1, a2, ys1, ys2, [], n1, n2, c1, c2, rfl, rfl, k1.1, k2.1, k1.2, k2.2, N1, N2, M1, M2, MM, Fr.nil _ _, by rw [HS1.out]; exact Below.refl _ _⟩
  case round =>
    clear k1 k2 M1 M2 MM N1 N2
    obtain ⟨b1, b2, ra, rb, out, na, nb, e1, e2, rfl, rfl, he1, he2, he3, he4, hl1, hl2, m1, m2, mm, oo, hbel⟩ := hrel
    have HG : Hid (S1 ≤ wr.heap.size) := by show _ ≤ _; have := hbel.size; rw [← HS1.out] at this; exact this
    by_cases ha : na = 0
    · by_cases hb0 : nb = 0
      · subst ha hb0
        have FIN : Hid (Sim ky xs out ∧ Up ky out ∧ Wd out ∧ out.length = xs.length) := by
          obtain ⟨h1, h2, _, _, _, h6, _, _, h9⟩ := mm.out
          have e1 : ra = [] := List.eq_nil_of_length_eq_zero hl1.out
          have e2 : rb = [] := List.eq_nil_of_length_eq_zero hl2.out
          subst e1 e2
          have h10 := HL.out
          exact ⟨by simpa using h1, h2, h6, by simp at h9; omega⟩
        have FB : Hid (Below w.heap.size w wr) := Q6.out.trans (by
          have := hbel.mono (B' := w.heap.size) (by rw [HS1.out]; exact Q6.out.size)
          exact this)
        have FR : Hid (w.heap.size ≤ S1) := by show _ ≤ _; rw [HS1.out]; exact Q6.out.size
        go_wp2
        go_ret
        exact ⟨_, out, rfl, oo.out.low FR.out, FIN.out.1, FIN.out.2.1, FIN.out.2.2.1, FIN.out.2.2.2, FB.out⟩
      · subst ha
        have e0 : ra = [] := List.eq_nil_of_length_eq_zero hl1.out
        subst e0
        obtain ⟨y, rb', hry⟩ : ∃ y rb', rb = y :: rb' := by
          cases rb with
          | nil => exact absurd hl2.out.symm hb0
          | cons u v => exact ⟨u, v, rfl⟩
        subst hry
        obtain ⟨g2, o2, rfl, hg2, haty⟩ : ∃ g2 o2, b2 = some ⟨g2, o2, none⟩ ∧ g2 < w6.heap.size ∧ FAt w6 g2 o2 (y :: rb') := by
          rcases m2.out with h0 | ⟨g2, o2, h1, h2, h3⟩
          · cases h0
          · exact ⟨g2, o2, h1, h2, h3⟩
        have cy : wr.cell? ⟨g2, o2, none⟩ = some (.float .f64 y) := (hbel.cell (p := ⟨g2, o2, none⟩) (by rw [HS1.out]; exact hg2)).trans haty.head
        have MTy : Hid (Fm w6 (some ⟨g2, o2 + 1, none⟩) rb') := Fm.tail hg2 haty
        have LTy : Hid (rb'.length = nb - 1) := by show _ = _; have := hl2.out; simp at this; omega
        have hpy : (0 : Int) < (nb : Int) := by omega
        have hqy : (1 : Int) ≤ (nb : Int) := by omega
        have hdy : decide (0 < nb) = true := decide_eq_true (by omega)
        have hzy : (nb == 0) = false := beq_eq_false_iff_ne.2 hb0
        have hzyi : ((nb : Int) == 0) = false := beq_eq_false_iff_ne.2 (by omega)
        have hny : (nb : Int) ≠ 0 := by omega
        clear haty hg2
        have MS : Hid (Ms xs (out ++ [y]) [] rb' L) := mm.out.right fun x hx => by cases hx
        have HOL : Hid ((out.length + 1) * 8 ≤ 140737488355328) := by
          have h1 := MS.out.2.2.2.2.2.2.2.2
          have h2 := HB.out
          simp at h1
          show _ ≤ _
          omega
        by_cases hcap : e2 = 1
        · have MT : Hid (Fm w6 (some ⟨g2, o2, none⟩) rb') := by
            left
            refine List.eq_nil_of_length_eq_zero ?_
            rw [LTy.out]
            omega
          go_wp2_with fail
          go_quiet (fail)
          have cz : (wr.drewN nq).cell? ⟨g2, o2, none⟩ = some (.float .f64 y) := cy
          have oz := oo.out.drew nq
          have bz := below_drewN hbel nq
          have gz : S1 ≤ (wr.drewN nq).heap.size := HG.out
          clear cy oo hbel HG
          generalize wr.drewN nq = W2 at *
          obtain ⟨v', w', r1, o3, b3⟩ := append_f W2 S1 _ out y gz HOL.out oz
          have O3 : Hid _ := o3
          have B3 := bz.trans b3
          clear o3 oz bz gz b3
          go_wp2_with (at_builtin; refine wpList_append_run rfl (.tmp 58) (.tmp 62) 35 35 rfl _ _ rfl rfl r1 ?_)
          exact ⟨⟨_, _, [], rb', _, 0, nb - 1, e1, 0, rfl, rfl, by omega, by omega, by omega, by omega, hl1, LTy, m1, MT, MS, O3, B3⟩, by simp [slen]; omega⟩
        · have MT := MTy
          go_wp2_with fail
          go_quiet (fail)
          have cz : (wr.drewN nq).cell? ⟨g2, o2, none⟩ = some (.float .f64 y) := cy
          have oz := oo.out.drew nq
          have bz := below_drewN hbel nq
          have gz : S1 ≤ (wr.drewN nq).heap.size := HG.out
          clear cy oo hbel HG
          generalize wr.drewN nq = W2 at *
          obtain ⟨v', w', r1, o3, b3⟩ := append_f W2 S1 _ out y gz HOL.out oz
          have O3 : Hid _ := o3
          have B3 := bz.trans b3
          clear o3 oz bz gz b3
          go_wp2_with (at_builtin; refine wpList_append_run rfl (.tmp 58) (.tmp 62) 35 35 rfl _ _ rfl rfl r1 ?_)
          exact ⟨⟨_, _, [], rb', _, 0, nb - 1, e1, e2 - 1, rfl, rfl, by omega, by omega, by omega, by omega, hl1, LTy, m1, MT, MS, O3, B3⟩, by simp [slen]; omega⟩
    · by_cases hb0 : nb = 0
      · subst hb0
        have e0 : rb = [] := List.eq_nil_of_length_eq_zero hl2.out
        subst e0
        obtain ⟨x, ra', hrx⟩ : ∃ x ra', ra = x :: ra' := by
          cases ra with
          | nil => exact absurd hl1.out.symm ha
          | cons u v => exact ⟨u, v, rfl⟩
        subst hrx
        obtain ⟨g1, o1, rfl, hg1, hatx⟩ : ∃ g1 o1, b1 = some ⟨g1, o1, none⟩ ∧ g1 < w6.heap.size ∧ FAt w6 g1 o1 (x :: ra') := by
          rcases m1.out with h0 | ⟨g1, o1, h1, h2, h3⟩
          · cases h0
          · exact ⟨g1, o1, h1, h2, h3⟩
        have cx : wr.cell? ⟨g1, o1, none⟩ = some (.float .f64 x) := (hbel.cell (p := ⟨g1, o1, none⟩) (by rw [HS1.out]; exact hg1)).trans hatx.head
        have MTx : Hid (Fm w6 (some ⟨g1, o1 + 1, none⟩) ra') := Fm.tail hg1 hatx
        have LTx : Hid (ra'.length = na - 1) := by show _ = _; have := hl1.out; simp at this; omega
        have hpx : (0 : Int) < (na : Int) := by omega
        have hqx : (1 : Int) ≤ (na : Int) := by omega
        have hdx : decide (0 < na) = true := decide_eq_true (by omega)
        have hzx : (na == 0) = false := beq_eq_false_iff_ne.2 ha
        have hzxi : ((na : Int) == 0) = false := beq_eq_false_iff_ne.2 (by omega)
        have hnx : (na : Int) ≠ 0 := by omega
        clear hatx hg1
        have MS : Hid (Ms xs (out ++ [x]) ra' [] L) := mm.out.left fun y hy => by cases hy
        have HOL : Hid ((out.length + 1) * 8 ≤ 140737488355328) := by
          have h1 := MS.out.2.2.2.2.2.2.2.2
          have h2 := HB.out
          simp at h1
          show _ ≤ _
          omega
        by_cases hcap : e1 = 1
        · have MT : Hid (Fm w6 (some ⟨g1, o1, none⟩) ra') := by
            left
            refine List.eq_nil_of_length_eq_zero ?_
            rw [LTx.out]
            omega
          go_wp2_with fail
          go_quiet (fail)
          have cz : (wr.drewN nq).cell? ⟨g1, o1, none⟩ = some (.float .f64 x) := cx
          have oz := oo.out.drew nq
          have bz := below_drewN hbel nq
          have gz : S1 ≤ (wr.drewN nq).heap.size := HG.out
          clear cx oo hbel HG
          generalize wr.drewN nq = W2 at *
          obtain ⟨v', w', r1, o3, b3⟩ := append_f W2 S1 _ out x gz HOL.out oz
          have O3 : Hid _ := o3
          have B3 := bz.trans b3
          clear o3 oz bz gz b3
          go_wp2_with (at_builtin; refine wpList_append_run rfl (.tmp 50) (.tmp 54) 35 35 rfl _ _ rfl rfl r1 ?_)
          exact ⟨⟨_, _, ra', [], _, na - 1, 0, 0, e2, rfl, rfl, by omega, by omega, by omega, by omega, LTx, hl2, MT, m2, MS, O3, B3⟩, by simp [slen]; omega⟩
        · have MT := MTx
          go_wp2_with fail
          go_quiet (fail)
          have cz : (wr.drewN nq).cell? ⟨g1, o1, none⟩ = some (.float .f64 x) := cx
          have oz := oo.out.drew nq
          have bz := below_drewN hbel nq
          have gz : S1 ≤ (wr.drewN nq).heap.size := HG.out
          clear cx oo hbel HG
          generalize wr.drewN nq = W2 at *
          obtain ⟨v', w', r1, o3, b3⟩ := append_f W2 S1 _ out x gz HOL.out oz
          have O3 : Hid _ := o3
          have B3 := bz.trans b3
          clear o3 oz bz gz b3
          go_wp2_with (at_builtin; refine wpList_append_run rfl (.tmp 50) (.tmp 54) 35 35 rfl _ _ rfl rfl r1 ?_)
          exact ⟨⟨_, _, ra', [], _, na - 1, 0, e1 - 1, e2, rfl, rfl, by omega, by omega, by omega, by omega, LTx, hl2, MT, m2, MS, O3, B3⟩, by simp [slen]; omega⟩
      · obtain ⟨x, ra', hrx⟩ : ∃ x ra', ra = x :: ra' := by
          cases ra with
          | nil => exact absurd hl1.out.symm ha
          | cons u v => exact ⟨u, v, rfl⟩
        subst hrx
        obtain ⟨g1, o1, rfl, hg1, hatx⟩ : ∃ g1 o1, b1 = some ⟨g1, o1, none⟩ ∧ g1 < w6.heap.size ∧ FAt w6 g1 o1 (x :: ra') := by
          rcases m1.out with h0 | ⟨g1, o1, h1, h2, h3⟩
          · cases h0
          · exact ⟨g1, o1, h1, h2, h3⟩
        have cx : wr.cell? ⟨g1, o1, none⟩ = some (.float .f64 x) := (hbel.cell (p := ⟨g1, o1, none⟩) (by rw [HS1.out]; exact hg1)).trans hatx.head
        have MTx : Hid (Fm w6 (some ⟨g1, o1 + 1, none⟩) ra') := Fm.tail hg1 hatx
        have LTx : Hid (ra'.length = na - 1) := by show _ = _; have := hl1.out; simp at this; omega
        have hpx : (0 : Int) < (na : Int) := by omega
        have hqx : (1 : Int) ≤ (na : Int) := by omega
        have hdx : decide (0 < na) = true := decide_eq_true (by omega)
        have hzx : (na == 0) = false := beq_eq_false_iff_ne.2 ha
        have hzxi : ((na : Int) == 0) = false := beq_eq_false_iff_ne.2 (by omega)
        have hnx : (na : Int) ≠ 0 := by omega
        clear hatx hg1
        obtain ⟨y, rb', hry⟩ : ∃ y rb', rb = y :: rb' := by
          cases rb with
          | nil => exact absurd hl2.out.symm hb0
          | cons u v => exact ⟨u, v, rfl⟩
        subst hry
        obtain ⟨g2, o2, rfl, hg2, haty⟩ : ∃ g2 o2, b2 = some ⟨g2, o2, none⟩ ∧ g2 < w6.heap.size ∧ FAt w6 g2 o2 (y :: rb') := by
          rcases m2.out with h0 | ⟨g2, o2, h1, h2, h3⟩
          · cases h0
          · exact ⟨g2, o2, h1, h2, h3⟩
        have cy : wr.cell? ⟨g2, o2, none⟩ = some (.float .f64 y) := (hbel.cell (p := ⟨g2, o2, none⟩) (by rw [HS1.out]; exact hg2)).trans haty.head
        have MTy : Hid (Fm w6 (some ⟨g2, o2 + 1, none⟩) rb') := Fm.tail hg2 haty
        have LTy : Hid (rb'.length = nb - 1) := by show _ = _; have := hl2.out; simp at this; omega
        have hpy : (0 : Int) < (nb : Int) := by omega
        have hqy : (1 : Int) ≤ (nb : Int) := by omega
        have hdy : decide (0 < nb) = true := decide_eq_true (by omega)
        have hzy : (nb == 0) = false := beq_eq_false_iff_ne.2 hb0
        have hzyi : ((nb : Int) == 0) = false := beq_eq_false_iff_ne.2 (by omega)
        have hny : (nb : Int) ≠ 0 := by omega
        clear haty hg2
        have hxl : x < 18446744073709551616 := mm.out.2.2.2.2.2.2.1.head
        have hyl : y < 18446744073709551616 := mm.out.2.2.2.2.2.2.2.1.head
        have kO := rorder_any x y hxl hyl
        by_cases hxy : ky x ≤ ky y
        · have MS : Hid (Ms xs (out ++ [x]) ra' (y :: rb') L) := mm.out.left fun u hu => by
            rcases List.mem_cons.1 hu with rfl | hu
            · exact hxy
            · have := (List.pairwise_cons.1 mm.out.2.2.2.1).1 u hu
              omega
          have HOL : Hid ((out.length + 1) * 8 ≤ 140737488355328) := by
            have h1 := MS.out.2.2.2.2.2.2.2.2
            have h2 := HB.out
            simp at h1
            show _ ≤ _
            omega
          obtain ⟨cc, hcc, hc0⟩ : ∃ cc, cmS (ky x) (ky y) = cc ∧ cc ≤ 0 := by
            unfold cmS
            by_cases h1 : ky x < ky y
            · rw [if_pos h1]; exact ⟨_, rfl, by decide⟩
            · rw [if_neg h1, if_neg (by omega)]; exact ⟨_, rfl, by decide⟩
          rw [hcc] at kO
          have hcd : decide (cc ≤ 0) = true := decide_eq_true hc0
          clear hcc hxy
          by_cases hcap : e1 = 1
          · have MT : Hid (Fm w6 (some ⟨g1, o1, none⟩) ra') := by
              left
              refine List.eq_nil_of_length_eq_zero ?_
              rw [LTx.out]
              omega
            go_wp2_with fail
            go_quiet (exact Calls.quiet_of_same (kO _))
            have cz : (wr.drewN nq).cell? ⟨g1, o1, none⟩ = some (.float .f64 x) := cx
            have oz := oo.out.drew nq
            have bz := below_drewN hbel nq
            have gz : S1 ≤ (wr.drewN nq).heap.size := HG.out
            clear cx cy oo hbel HG
            generalize wr.drewN nq = W2 at *
            obtain ⟨v', w', r1, o3, b3⟩ := append_f W2 S1 _ out x gz HOL.out oz
            have O3 : Hid _ := o3
            have B3 := bz.trans b3
            clear o3 oz bz gz b3
            go_wp2_with (at_builtin; refine wpList_append_run rfl (.tmp 50) (.tmp 54) 35 35 rfl _ _ rfl rfl r1 ?_)
            exact ⟨⟨_, _, ra', y :: rb', _, na - 1, nb, 0, e2, rfl, rfl, by omega, by omega, by omega, by omega, LTx, hl2, MT, m2, MS, O3, B3⟩, by simp [slen]; omega⟩
          · have MT := MTx
            go_wp2_with fail
            go_quiet (exact Calls.quiet_of_same (kO _))
            have cz : (wr.drewN nq).cell? ⟨g1, o1, none⟩ = some (.float .f64 x) := cx
            have oz := oo.out.drew nq
            have bz := below_drewN hbel nq
            have gz : S1 ≤ (wr.drewN nq).heap.size := HG.out
            clear cx cy oo hbel HG
            generalize wr.drewN nq = W2 at *
            obtain ⟨v', w', r1, o3, b3⟩ := append_f W2 S1 _ out x gz HOL.out oz
            have O3 : Hid _ := o3
            have B3 := bz.trans b3
            clear o3 oz bz gz b3
            go_wp2_with (at_builtin; refine wpList_append_run rfl (.tmp 50) (.tmp 54) 35 35 rfl _ _ rfl rfl r1 ?_)
            exact ⟨⟨_, _, ra', y :: rb', _, na - 1, nb, e1 - 1, e2, rfl, rfl, by omega, by omega, by omega, by omega, LTx, hl2, MT, m2, MS, O3, B3⟩, by simp [slen]; omega⟩
        · have MS : Hid (Ms xs (out ++ [y]) (x :: ra') rb' L) := mm.out.right fun u hu => by
            rcases List.mem_cons.1 hu with rfl | hu
            · omega
            · have := (List.pairwise_cons.1 mm.out.2.2.1).1 u hu
              omega
          have HOL : Hid ((out.length + 1) * 8 ≤ 140737488355328) := by
            have h1 := MS.out.2.2.2.2.2.2.2.2
            have h2 := HB.out
            simp at h1
            show _ ≤ _
            omega
          have hcc : cmS (ky x) (ky y) = 1 := by unfold cmS; rw [if_neg (by omega), if_pos (by omega)]
          rw [hcc] at kO
          clear hcc hxy
          by_cases hcap : e2 = 1
          · have MT : Hid (Fm w6 (some ⟨g2, o2, none⟩) rb') := by
              left
              refine List.eq_nil_of_length_eq_zero ?_
              rw [LTy.out]
              omega
            go_wp2_with fail
            go_quiet (exact Calls.quiet_of_same (kO _))
            have cz : (wr.drewN nq).cell? ⟨g2, o2, none⟩ = some (.float .f64 y) := cy
            have oz := oo.out.drew nq
            have bz := below_drewN hbel nq
            have gz : S1 ≤ (wr.drewN nq).heap.size := HG.out
            clear cx cy oo hbel HG
            generalize wr.drewN nq = W2 at *
            obtain ⟨v', w', r1, o3, b3⟩ := append_f W2 S1 _ out y gz HOL.out oz
            have O3 : Hid _ := o3
            have B3 := bz.trans b3
            clear o3 oz bz gz b3
            go_wp2_with (at_builtin; refine wpList_append_run rfl (.tmp 58) (.tmp 62) 35 35 rfl _ _ rfl rfl r1 ?_)
            exact ⟨⟨_, _, x :: ra', rb', _, na, nb - 1, e1, 0, rfl, rfl, by omega, by omega, by omega, by omega, hl1, LTy, m1, MT, MS, O3, B3⟩, by simp [slen]; omega⟩
          · have MT := MTy
            go_wp2_with fail
            go_quiet (exact Calls.quiet_of_same (kO _))
            have cz : (wr.drewN nq).cell? ⟨g2, o2, none⟩ = some (.float .f64 y) := cy
            have oz := oo.out.drew nq
            have bz := below_drewN hbel nq
            have gz : S1 ≤ (wr.drewN nq).heap.size := HG.out
            clear cx cy oo hbel HG
            generalize wr.drewN nq = W2 at *
            obtain ⟨v', w', r1, o3, b3⟩ := append_f W2 S1 _ out y gz HOL.out oz
            have O3 : Hid _ := o3
            have B3 := bz.trans b3
            clear o3 oz bz gz b3
            go_wp2_with (at_builtin; refine wpList_append_run rfl (.tmp 58) (.tmp 62) 35 35 rfl _ _ rfl rfl r1 ?_)
            exact ⟨⟨_, _, x :: ra', rb', _, na, nb - 1, e1, e2 - 1, rfl, rfl, by omega, by omega, by omega, by omega, hl1, LTy, m1, MT, MS, O3, B3⟩, by simp [slen]; omega⟩

set_option maxHeartbeats 1000000 in
set_option maxRecDepth 100000 in
theorem rsorted_one (g o c : Nat) (x : Nat) (w : World) (hg : g < w.heap.size) (hat : FAt w g o [x]) (hw : Wd [x]) :
    Calls Try.prog 70 #[.slice (some ⟨g, o, none⟩) 1 c] w (So w [x]) := by
  obtain ⟨v', w1, r1, o1, b1⟩ := copy_all w g o c [x] hg hat (by simp)
  have r2 : (Builtin.append_ #[35, 35] 35 #[.slice (some ⟨w.heap.size, 0, none⟩) 0 0, .slice (some ⟨g, o, none⟩) 1 c]).run Try.prog (w.alloc (.cells #[] 23)) = .ok v' w1 := r1
  have O1 : Hid (Fr w1 w.heap.size v' [x]) := o1
  have HW : Hid (Wd [x]) := hw
  clear hat o1 r1 hw
  go_enter Try.func70, Try.ntmps70
  go_wp2_with (at_builtin; refine wpList_append_run rfl _ _ 35 35 rfl _ _ rfl rfl r2 ?_)
  go_wp2
  go_ret
  exact ⟨_, [x], rfl, O1.out, Sim.refl _, List.pairwise_singleton _ _, HW.out, rfl, b1⟩
theorem rsorted_any : ∀ N, Rs N := by
  intro N
  induction N with
  | zero => intro g o c xs w h1 h2; exact absurd (List.eq_nil_of_length_eq_zero (by omega)) h2
  | succ N ih =>
    intro g o c xs w h1 h2 h3 h4 h5 h6 h7 h8
    match xs, h2 with
    | [x], _ => exact rsorted_one g o c x w h5 h6 h7
    | x :: y :: l, _ => exact rsorted_two g o c (x :: y :: l) w N ih h1 (by simp) h3 h4 h5 h6 h7 h8
end Go.Proofs.Ytfjfpplemgjcmab
