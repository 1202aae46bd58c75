/- A bundle of texts. -/
import Derived.Test.YtbciclnffokjjaaGreatDoorBt11
import Derived.Test.YtbciclnffokjjaaGreatDoorBt16
/- Words: the texts of a tree, as the program reckons them. -/
namespace Go.Proofs.YtbciclnffokjjaaGreatDoor
open Go.RowKit

def clsS (r : Sto) (f : Nat → Rg) : Nat → Sto
  | 0 => r
  | n + 1 => rngS (clsS r f n) (f n).1 ((f n).2 - (f n).1 + 1).toNat
def altS (F : Nat → Sto) : Nat → Sto
  | 0 => some []
  | n + 1 => allS (altS F n) (F n)
/-- A row of n from lo on, by halves (fuel). -/
def rowH (F : Nat → Sto) : Nat → Nat → Nat → Sto
  | 0, _, _ => some []
  | f + 1, lo, n => if n = 1 then F lo else jnS (rowH F f lo (n / 2)) (rowH F f (lo + n / 2) (n - n / 2))
def powS (k : Sto) : Nat → Sto
  | 0 => some [⟨#[]⟩]
  | n + 1 => jnS (powS k n) k
def powsS (k : Sto) (a : Nat) : Nat → Sto
  | 0 => allS (some []) (powS k a)
  | n + 1 => allS (powsS k a n) (powS k (a + n + 1))
def repS (k : Sto) (mn mx : Int) : Sto :=
  if mx = 0 then some [⟨#[]⟩]
  else if grwS k = false then (if mn = 0 then some [⟨#[]⟩] else k)
  else if mx = -1 then none
  else powsS k mn.toNat (mx - mn).toNat
def wrdF : Nat → Tr → Sto
  | 0, _ => some []
  | m + 1, t =>
    if (t []).kind = 1 then some [⟨#[]⟩]
    else if (t []).kind = 2 then rngS (some []) (t []).r 1
    else if (t []).kind = 3 then clsS (some []) (t []).rf (t []).rn
    else if (t []).kind = 4 then rowH (fun q => wrdF m (kid t q)) (t []).kn 0 (t []).kn
    else if (t []).kind = 5 then altS (fun q => wrdF m (kid t q)) (t []).kn
    else if (t []).kind = 6 then repS (wrdF m (kid t 0)) (t []).mn (t []).mx
    else if (t []).kind = 7 then wrdF m (kid t 0)
    else some []
theorem one_ok (x : ByteArray) : Sto.ok (some [x]) := fun L e => by cases e; exact ⟨List.pairwise_singleton _ _, by simp⟩
theorem clsS_ok (f : Nat → Rg) : ∀ n, (clsS (some []) f n).ok
  | 0 => nil_ok
  | n + 1 => rngS_ok (clsS_ok f n) _ _
theorem altS_ok (F : Nat → Sto) : ∀ n, (altS F n).ok
  | 0 => nil_ok
  | n + 1 => allS_ok (altS_ok F n)
theorem rowH_ok {F : Nat → Sto} (h : ∀ q, (F q).ok) : ∀ f lo n, (rowH F f lo n).ok
  | 0, _, _ => nil_ok
  | f + 1, lo, n => by
    unfold rowH
    split
    · exact h lo
    · exact jnS_ok _ _
theorem powS_ok (k : Sto) : ∀ n, (powS k n).ok
  | 0 => one_ok _
  | _ + 1 => jnS_ok _ _
theorem powsS_ok (k : Sto) (a : Nat) : ∀ n, (powsS k a n).ok
  | 0 => allS_ok nil_ok
  | n + 1 => allS_ok (powsS_ok k a n)
theorem repS_ok {k : Sto} (h : k.ok) (mn mx : Int) : (repS k mn mx).ok := by
  unfold repS
  split
  · exact one_ok _
  split
  · split
    · exact one_ok _
    · exact h
  split
  · exact none_ok
  · exact powsS_ok _ _ _
theorem wrdF_ok : ∀ m t, (wrdF m t).ok
  | 0, _ => nil_ok
  | m + 1, t => by
    unfold wrdF
    split
    · exact one_ok _
    split
    · exact rngS_ok nil_ok _ _
    split
    · exact clsS_ok _ _
    split
    · exact rowH_ok (fun q => wrdF_ok m (kid t q)) _ _ _
    split
    · exact altS_ok _ _
    split
    · exact repS_ok (wrdF_ok m _) _ _
    split
    · exact wrdF_ok m _
    · exact nil_ok
/- Sizes. -/
theorem Szs.mono {r : Sto} {a b : Nat} (h : Szs r a) (hb : a ≤ b) : Szs r b := fun L e x hx => Nat.le_trans (h L e x hx) hb
theorem Szs.none (b : Nat) : Szs none b := fun L e => by cases e
theorem Szs.nil (b : Nat) : Szs (some []) b := fun L e x hx => by cases e; cases hx
theorem Szs.one (x : ByteArray) : Szs (some [x]) x.size := fun L e y hy => by
  cases e
  rcases List.mem_singleton.1 hy with rfl
  exact Nat.le_refl _
theorem Szs.add {r : Sto} {b : Nat} (hr : r.ok) (h : Szs r b) {x : ByteArray} (hx : x.size ≤ b) : Szs (addS r x) b := fun L e y hy => by
  obtain ⟨K, hK, hm⟩ := addS_mem hr e
  rcases (hm y).1 hy with rfl | h2
  · exact hx
  · exact h K hK y h2
theorem Szs.adds {b : Nat} : ∀ (L : List ByteArray) {r : Sto}, r.ok → Szs r b → (∀ x ∈ L, x.size ≤ b) → Szs (addsS r L) b
  | [], _, _, h, _ => h
  | x :: L, _, hr, h, hL => Szs.adds L (addS_ok hr x) (h.add hr (hL x (List.mem_cons_self))) (fun y hy => hL y (List.mem_cons_of_mem _ hy))
theorem Szs.all {r rr : Sto} {b : Nat} (hr : r.ok) (h : Szs r b) (h' : Szs rr b) : Szs (allS r rr) b := by
  cases rr with
  | none => exact Szs.none b
  | some L => exact Szs.adds L hr h (h' L rfl)
theorem Szs.jn {ra rb : Sto} {a b : Nat} (h : Szs ra a) (h' : Szs rb b) : Szs (jnS ra rb) (a + b) := by
  unfold jnS
  split
  · exact Szs.nil _
  · cases ra with
    | none => exact Szs.none _
    | some L =>
      cases rb with
      | none => exact Szs.none _
      | some M =>
        refine Szs.adds _ nil_ok (Szs.nil _) (fun x hx => ?_)
        obtain ⟨y, hy, hx⟩ := List.mem_flatMap.1 hx
        obtain ⟨z, hz, rfl⟩ := List.mem_map.1 hx
        rw [ByteArray.size_append]
        have := h L rfl y hy
        have := h' M rfl z hz
        omega
theorem enc_le4 (r : Int) (h : Utf8.valid r = true) : (Utf8.encode r).size ≤ 4 := by
  rw [enc_size r (by rw [← valid_iff]; exact h)]
  exact (wd_bd r).2
theorem Szs.rng {r : Sto} {b : Nat} (hb : 4 ≤ b) (hr : r.ok) (h : Szs r b) (lo : Int) : ∀ k, Szs (rngS r lo k) b
  | 0 => h
  | k + 1 => by
    have ih := Szs.rng hb hr h lo k
    unfold rngS
    split
    · rename_i hv
      exact ih.add (rngS_ok hr lo k) (Nat.le_trans (enc_le4 _ hv) hb)
    · exact ih
theorem Szs.cls {b : Nat} (hb : 4 ≤ b) (f : Nat → Rg) : ∀ n, Szs (clsS (some []) f n) b
  | 0 => Szs.nil b
  | n + 1 => Szs.rng hb (clsS_ok f n) (Szs.cls hb f n) _ _
theorem Szs.alt {F : Nat → Sto} {b : Nat} : ∀ n, (∀ q, q < n → Szs (F q) b) → Szs (altS F n) b
  | 0, _ => Szs.nil b
  | n + 1, h => Szs.all (altS_ok F n) (Szs.alt n (fun q hq => h q (by omega))) (h n (by omega))
/-- A sum from lo on. -/
def sumL (f : Nat → Nat) (lo : Nat) : Nat → Nat
  | 0 => 0
  | n + 1 => sumL f lo n + f (lo + n)
theorem sumL_add (f : Nat → Nat) (lo : Nat) (a : Nat) : ∀ b, sumL f lo (a + b) = sumL f lo a + sumL f (lo + a) b
  | 0 => rfl
  | b + 1 => by
    show sumL f lo (a + b) + f (lo + (a + b)) = _
    rw [sumL_add f lo a b]
    show _ = sumL f lo a + (sumL f (lo + a) b + f (lo + a + b))
    rw [Nat.add_assoc lo a b]
    omega
theorem Szs.row {F : Nat → Sto} {g : Nat → Nat} : ∀ f lo n, n ≤ f → 1 ≤ n → (∀ q, lo ≤ q → q < lo + n → Szs (F q) (g q)) → Szs (rowH F f lo n) (sumL g lo n)
  | 0, _, _, h, h', _ => by omega
  | f + 1, lo, n, hf, h1, h => by
    unfold rowH
    split
    · rename_i e
      subst e
      have := h lo (Nat.le_refl _) (by omega)
      simpa [sumL] using this
    · have e := sumL_add g lo (n / 2) (n - n / 2)
      rw [show n / 2 + (n - n / 2) = n by omega] at e
      rw [e]
      exact (Szs.row f lo (n / 2) (by omega) (by omega) (fun q h1 h2 => h q h1 (by omega))).jn (Szs.row f (lo + n / 2) (n - n / 2) (by omega) (by omega) (fun q h1 h2 => h q (by omega) (by omega)))
theorem Szs.pow {k : Sto} {b : Nat} (h : Szs k b) : ∀ n, Szs (powS k n) (n * b)
  | 0 => by rw [Nat.zero_mul]; exact Szs.one ⟨#[]⟩
  | n + 1 => by rw [Nat.add_mul, Nat.one_mul]; exact (Szs.pow h n).jn h
theorem Szs.pows {k : Sto} {b : Nat} (h : Szs k b) (a : Nat) : ∀ n, Szs (powsS k a n) ((a + n) * b)
  | 0 => Szs.all nil_ok (Szs.nil _) (h.pow a)
  | n + 1 => Szs.all (powsS_ok k a n) ((Szs.pows h a n).mono (Nat.mul_le_mul_right b (by omega))) (h.pow (a + n + 1))
theorem sum_nat (f : Nat → Int) : ∀ n : Nat, (∀ j, j < n → 0 ≤ f j) → ((sumL (fun q => (4 * f q).toNat) 0 n : Nat) : Int) = 4 * sumN f n
  | 0, _ => rfl
  | n + 1, h => by
    have ih := sum_nat f n (fun j hj => h j (by omega))
    have hn := h n (by omega)
    show ((sumL (fun q => (4 * f q).toNat) 0 n + (4 * f (0 + n)).toNat : Nat) : Int) = 4 * (sumN f n + f n)
    rw [Nat.zero_add]
    omega
theorem lenF_kid {m : Nat} {t : Tr} (hw : WF (m + 1) t) (hl : lenF (m + 1) t ≤ 10000) (h6 : ¬ ((t []).kind = 6 ∧ (t []).mx = 0)) : ∀ j, j < (t []).kn → lenF m (kid t j) ≤ 10000 := by
  obtain ⟨⟨hnd, _⟩, hkn, hk⟩ := hw
  intro j hj
  have hbd : ∀ j, j < (t []).kn → 0 ≤ lenF m (kid t j) ∧ lenF m (kid t j) ≤ 10001 := fun j hj => lenF_bd m _ (hk j hj)
  rw [lenF_succ] at hl
  obtain ⟨s, hs⟩ : ∃ s, sumN (fun j => lenF m (kid t j)) (t []).kn = s := ⟨_, rfl⟩
  rw [hs] at hl
  have hmem : lenF m (kid t j) ≤ s := by rw [← hs]; exact sumN_mem (L := fun j => lenF m (kid t j)) (fun j hj => (hbd j hj).1) j hj
  have hs0 : 0 ≤ s := by
    rw [← hs]
    exact (sumN_bd (f := fun j => lenF m (kid t j)) (b := 10001) (by omega) _ hbd).1
  have hmin : lenK (t []) s ≤ 10000 := by omega
  have hkd := ndB_kind hnd
  unfold lenK at hmin
  split at hmin
  · omega
  split at hmin
  · omega
  split at hmin
  · omega
  split at hmin
  · rename_i k6
    have hx : ¬ (t []).mx = 0 := fun e => h6 ⟨k6, e⟩
    have h6' := ndB_rep hnd k6
    split at hmin
    · have := Int.mul_nonneg h6'.2.1 hs0
      omega
    · by_cases hm0 : (t []).mn = 0
      · rw [hm0] at hmin
        have h3 : 1 * (s + 1) ≤ ((t []).mx - 0) * (s + 1) := Int.mul_le_mul_of_nonneg_right (by omega) (by omega)
        omega
      · have h3 : 1 * s ≤ (t []).mn * s := Int.mul_le_mul_of_nonneg_right (by omega) hs0
        have h4 := Int.mul_nonneg (show 0 ≤ (t []).mx - (t []).mn by omega) (show 0 ≤ s + 1 by omega)
        omega
  · have := ndB_leaf hnd (by omega)
    omega
/-- The texts of a tree are no longer than its code allows. -/
theorem wrd_size : ∀ (m : Nat) (t : Tr), WF m t → lenF m t ≤ 10000 → Szs (wrdF m t) (4 * lenF m t).toNat
  | 0, _, h, _ => by cases h
  | m + 1, t, hw, hl => by
    have hkid := lenF_kid hw hl
    have h0 := (lenF_bd (m + 1) t hw).1
    obtain ⟨⟨hnd, _⟩, hkn, hk⟩ := hw
    have hbd : ∀ j, j < (t []).kn → 0 ≤ lenF m (kid t j) ∧ lenF m (kid t j) ≤ 10001 := fun j hj => lenF_bd m _ (hk j hj)
    have hkd := ndB_kind hnd
    rw [lenF_succ] at hl h0 ⊢
    obtain ⟨s, hs⟩ : ∃ s, sumN (fun j => lenF m (kid t j)) (t []).kn = s := ⟨_, rfl⟩
    rw [hs] at hl h0 ⊢
    have hs0 : 0 ≤ s := by
      rw [← hs]
      exact (sumN_bd (f := fun j => lenF m (kid t j)) (b := 10001) (by omega) _ hbd).1
    have hmem : ∀ j, j < (t []).kn → lenF m (kid t j) ≤ s := fun j hj => by rw [← hs]; exact sumN_mem (L := fun j => lenF m (kid t j)) (fun j hj => (hbd j hj).1) j hj
    have hmin : lenK (t []) s ≤ 10000 := by omega
    rw [show min (lenK (t []) s) 10001 = lenK (t []) s by omega] at h0 ⊢
    unfold wrdF
    split
    · exact (Szs.one ⟨#[]⟩).mono (Nat.zero_le _)
    rename_i k1
    split
    · rename_i k2
      have eL : lenK (t []) s = 1 := by unfold lenK; rw [if_neg (by omega), if_neg (by omega), if_neg (by omega), if_neg (by omega)]
      rw [eL]
      exact Szs.rng (by decide) nil_ok (Szs.nil _) _ _
    rename_i k2
    split
    · rename_i k3
      have eL : lenK (t []) s = 1 := by unfold lenK; rw [if_neg (by omega), if_neg (by omega), if_neg (by omega), if_neg (by omega)]
      rw [eL]
      exact Szs.cls (by decide) _ _
    rename_i k3
    split
    · rename_i k4
      have h2 := ndB_row hnd (.inl k4)
      have eL : lenK (t []) s = s := by unfold lenK; rw [if_pos (Or.inr k4)]
      rw [eL]
      have := Szs.row (F := fun q => wrdF m (kid t q)) (g := fun q => (4 * lenF m (kid t q)).toNat) (t []).kn 0 (t []).kn (Nat.le_refl _) (by omega) (fun q _ hq => wrd_size m _ (hk q (by omega)) (hkid (fun e => by omega) q (by omega)))
      refine this.mono ?_
      have e := sum_nat (fun q => lenF m (kid t q)) (t []).kn (fun j hj => (hbd j hj).1)
      rw [hs] at e
      omega
    rename_i k4
    split
    · rename_i k5
      have eL : lenK (t []) s = s + 2 * (((t []).kn : Int) - 1) := by unfold lenK; rw [if_neg (by omega), if_pos k5]
      have h2 := ndB_row hnd (.inr k5)
      refine Szs.alt _ (fun q hq => (wrd_size m _ (hk q hq) (hkid (fun e => by omega) q hq)).mono ?_)
      have := hmem q hq
      have := (hbd q hq).1
      omega
    rename_i k5
    split
    · rename_i k6
      have h6 := ndB_rep hnd k6
      have eL : lenK (t []) s = if (t []).mx = -1 then (t []).mn * s + s + 2 else (t []).mn * s + ((t []).mx - (t []).mn) * (s + 1) := by unfold lenK; rw [if_neg (by omega), if_neg k5, if_neg (by omega), if_pos k6]
      unfold repS
      split
      · exact (Szs.one ⟨#[]⟩).mono (Nat.zero_le _)
      rename_i hx
      have b := wrd_size m _ (hk 0 (by omega)) (hkid (fun e => hx e.2) 0 (by omega))
      have c := hmem 0 (by omega)
      have c0 := (hbd 0 (by omega)).1
      have hge : (t []).mn * s ≤ lenK (t []) s := by
        rw [eL]
        split
        · omega
        · have h4 := Int.mul_nonneg (show 0 ≤ (t []).mx - (t []).mn by omega) (show 0 ≤ s + 1 by omega)
          omega
      split
      · split
        · exact (Szs.one ⟨#[]⟩).mono (Nat.zero_le _)
        · have h3 : 1 * s ≤ (t []).mn * s := Int.mul_le_mul_of_nonneg_right (by omega) hs0
          exact b.mono (by omega)
      split
      · exact Szs.none _
      · rename_i hm1
        refine ((b.mono (show (4 * lenF m (kid t 0)).toNat ≤ (4 * s).toNat by omega)).pows _ _).mono ?_
        rw [if_neg hm1] at eL
        rw [show (t []).mn.toNat + ((t []).mx - (t []).mn).toNat = (t []).mx.toNat by omega]
        obtain ⟨x, hx'⟩ : ∃ x : Nat, (t []).mx = x := ⟨(t []).mx.toNat, by omega⟩
        obtain ⟨sn, hsn⟩ : ∃ sn : Nat, s = sn := ⟨s.toNat, by omega⟩
        have h7 : (t []).mx * s ≤ lenK (t []) s := by
          rw [eL, Int.mul_add, Int.mul_one, Int.sub_mul]
          omega
        rw [hx', hsn] at h7
        rw [hx', hsn, Int.toNat_natCast, show (4 * (sn : Int)).toNat = 4 * sn by omega]
        have h8 : ((x * (4 * sn) : Nat) : Int) = 4 * ((x : Int) * sn) := by
          rw [Int.natCast_mul, Int.natCast_mul]
          rw [Int.mul_left_comm]
          rfl
        omega
    rename_i k6
    split
    · rename_i k7
      have h7 := ndB_grp hnd k7
      have eL : lenK (t []) s = s + 2 := by unfold lenK; rw [if_neg (by omega), if_neg k5, if_pos k7]
      have c := hmem 0 (by omega)
      have c0 := (hbd 0 (by omega)).1
      exact (wrd_size m _ (hk 0 (by omega)) (hkid (fun e => by omega) 0 (by omega))).mono (by omega)
    · exact Szs.nil _
end Go.Proofs.YtbciclnffokjjaaGreatDoor
/- Words: rowOf. -/
namespace Go.Proofs.YtbciclnffokjjaaGreatDoor
open Go.RowKit

/-- The texts of a tree, m deep. -/
def WrC (m : Nat) : Prop := ∀ (t : Tr) (w : World), WF m t → lenF m t ≤ 10000 → Tat w.heap.size w t → Calls Tryz.prog 14 #[ndV (t [])] w (NewP w (wrdF m t))
theorem btr2 {V w w' : World} (h : Below V.heap.size V w) (k : Below w.heap.size w w') : Below V.heap.size V w' := h.trans (k.mono h.size)
theorem sumL_le (g : Nat → Nat) (b lo : Nat) : ∀ n, (∀ q, lo ≤ q → q < lo + n → g q ≤ b) → sumL g lo n ≤ n * b
  | 0, _ => by simp [sumL]
  | n + 1, h => by
    have ih := sumL_le g b lo n (fun q h1 h2 => h q h1 (by omega))
    have := h (lo + n) (by omega) (by omega)
    show sumL g lo n + g (lo + n) ≤ _
    rw [Nat.add_mul, Nat.one_mul]
    omega
theorem row_sz {m : Nat} {t : Tr} (hk : ∀ j, j < (t []).kn → WF m (kid t j) ∧ lenF m (kid t j) ≤ 10000) (hkn : (t []).kn ≤ 8194) (f lo n : Nat) (hf : n ≤ f) (h1 : 1 ≤ n) (hl : lo + n ≤ (t []).kn) : Szs (rowH (fun q => wrdF m (kid t q)) f lo n) 1000000000000 := by
  refine (Szs.row (g := fun q => (4 * lenF m (kid t q)).toNat) f lo n hf h1 (fun q _ h2 => wrd_size m _ (hk q (by omega)).1 (hk q (by omega)).2)).mono ?_
  have := sumL_le (fun q => (4 * lenF m (kid t q)).toNat) 40000 lo n (fun q _ h2 => by have := (hk q (by omega)).2; omega)
  have h3 : n * 40000 ≤ 8194 * 40000 := Nat.mul_le_mul_right _ (by omega)
  omega
/-- An answer, written into the block that was laid for it. -/
theorem NewP.put {w V w' : World} {B : Nat} {v : Value} {m : Bool} {r : Sto} (hB : w.heap.size ≤ B) (hs : StV V.heap.size w' v m r) (hb : Below w.heap.size w w') (hBV : B < V.heap.size) : NewP w r (.returned (kV v m)) ((w'.setCell ⟨B, 0, none⟩ v).setCell ⟨B, 1, none⟩ (.bool m)) := by
  have k2 : Kp (fun k => k = B) w' ((w'.setCell ⟨B, 0, none⟩ v).setCell ⟨B, 1, none⟩ (.bool m)) := ((Kp.refl (fun k => k = B) w').setCell (p := ⟨B, 0, none⟩) (show B = B from rfl) _).setCell (p := ⟨B, 1, none⟩) (show B = B from rfl) _
  refine ⟨⟨v, m, rfl, ?_⟩, (hb.setCell (p := ⟨B, 0, none⟩) hB _).setCell (p := ⟨B, 1, none⟩) hB _⟩
  have h1 := hs.kp k2 (fun i e hi => by
    have hi' : i = B := hi
    rcases hs with ⟨_, rfl, _⟩ | ⟨L, _, _, ho⟩
    · cases e
    · have := (ho.lt i e).1
      omega)
  rcases h1 with h1 | ⟨L, e1, e2, e3⟩
  · exact .inl h1
  · refine .inr ⟨L, e1, e2, e3.1, ?_⟩
    rcases e3.2 with h | ⟨g, cap, cur, h1, h2, h3⟩
    · exact .inl h
    · exact .inr ⟨g, cap, cur, h1, by omega, h3⟩
set_option maxHeartbeats 4000000 in
set_option maxRecDepth 100000 in
theorem rowOf_any (m : Nat) (hIH : WrC m) (t : Tr) (g o : Nat) (hka : (t []).ka = some ⟨g, o, none⟩) (hk : ∀ j, j < (t []).kn → WF m (kid t j) ∧ lenF m (kid t j) ≤ 10000) (hkn : (t []).kn ≤ 8194) :
    ∀ (f lo n c : Nat) (w : World), n ≤ f → 1 ≤ n → lo + n ≤ (t []).kn → n ≤ c → Tat w.heap.size w t → Calls Tryz.prog 28 #[.slice (some ⟨g, o + lo * 9, none⟩) n c] w (NewP w (rowH (fun q => wrdF m (kid t q)) f lo n))
  | 0, _, _, _, _, h, h', _, _, _ => by omega
  | f + 1, lo, n, c, w, hf, h1, hl, hc, ht => by
    obtain ⟨W, hW⟩ : ∃ W, W = w.alloc (kX (.slice none 0 0) false) := ⟨_, rfl⟩
    have HW : Hid (W = w.alloc (kX (.slice none 0 0) false)) := hW
    have hWz : W.heap.size = w.heap.size + 1 := by rw [hW]; simp
    have hb0 : Below w.heap.size w W := by rw [hW]; exact (Below.refl _ w).alloc (Nat.le_refl _) _
    have hr0 : W.heap[w.heap.size]? = some (kX (.slice none 0 0) false) := by rw [hW]; exact heap_alloc_new w _
    have HR : Hid (∀ V, Below W.heap.size W V → (V.cell? ⟨w.heap.size, 0, none⟩ = some (.slice none 0 0) ∧ V.cell? ⟨w.heap.size, 1, none⟩ = some (.bool false) ∧ V.frozen? ⟨w.heap.size, 0, none⟩ = false ∧ V.frozen? ⟨w.heap.size, 1, none⟩ = false) ∧ Below w.heap.size w V ∧ Tat V.heap.size V t) := fun V b => ⟨kx_cells ((b.block _ (by omega)).trans hr0), hb0.trans (b.mono hb0.size), ((ht.below (hb0.trans (b.mono hb0.size))).mono (hb0.trans (b.mono hb0.size)).size)⟩
    have hnI : (n : Int) ≤ 8194 := by omega
    have hnc : (n : Int) ≤ c := by omega
    by_cases hn1 : n = 1
    · have HE : Hid (rowH (fun q => wrdF m (kid t q)) (f + 1) lo n = wrdF m (kid t lo)) := by
        unfold Hid
        unfold rowH
        rw [if_pos hn1]
      have kT := hIH (kid t lo) W (hk lo (by omega)).1 (hk lo (by omega)).2 ((HR.out W (Below.refl _ _)).2.2.kid lo (by omega))
      change Calls Tryz.prog 14 #[ndV (t [lo])] W _ at kT
      obtain ⟨g', o', hka', hg', hcs⟩ := (HR.out W (Below.refl _ _)).2.2.kids.at lo (by omega)
      rw [hka] at hka'
      cases hka'
      obtain ⟨p0, p1, p2, p3, p4, p5, p6, p7, p8⟩ := hcs
      have HF : Hid (∀ w2 v mm, StV W.heap.size w2 v mm (wrdF m (kid t lo)) → Below W.heap.size W w2 → NewP w (rowH (fun q => wrdF m (kid t q)) (f + 1) lo n) (.returned (kV v mm)) ((w2.setCell ⟨w.heap.size, 0, none⟩ v).setCell ⟨w.heap.size, 1, none⟩ (.bool mm))) := fun w2 v mm h b => by rw [HE.out]; exact NewP.put (Nat.le_refl _) h (HR.out w2 b).2.1 (by omega)
      have tn : ((n : Int) == 1) = true := by rw [hn1]; rfl
      have tn0 : 0 < (n : Int) := by omega
      clear hk hW hb0 hr0 ht hka hn1 HE
      generalize t [lo] = dk at *
      generalize wrdF m (kid t lo) = RR at *
      go_enter Tryz.func28, Tryz.ntmps28
      go_upto_region 1 with fail
      rw [← HW.out]
      go_wp2_with fail
      go_fit kT
      rintro e w2 ⟨⟨v, mm, rfl, hs⟩, b2⟩
      obtain ⟨⟨r0, r1, z0, z1⟩, _, _⟩ := HR.out w2 b2
      obtain ⟨fa, fn, fc, rfl, _, _⟩ := hs.form
      have HP : Hid _ := HF.out w2 _ _ hs b2
      clear hs b2 HF kT HR
      go_wp2
      exact bodyPost_ret (v := kV (.slice fa fn fc) mm) (by simp [results, Tryz.results28, go_sem, r0, r1]) rfl HP.out
    · obtain ⟨h, hh⟩ : ∃ h, h = n / 2 := ⟨_, rfl⟩
      have hh1 : 1 ≤ h := by omega
      have hh2 : h < n := by omega
      have HE : Hid (rowH (fun q => wrdF m (kid t q)) (f + 1) lo n = jnS (rowH (fun q => wrdF m (kid t q)) f lo h) (rowH (fun q => wrdF m (kid t q)) f (lo + h) (n - h))) := by
        unfold Hid
        conv => lhs; unfold rowH
        rw [if_neg hn1, hh]
      have k1 : Hid (∀ V, Below W.heap.size W V → Calls Tryz.prog 28 #[.slice (some ⟨g, o + lo * 9, none⟩) h c] V (NewP V (rowH (fun q => wrdF m (kid t q)) f lo h))) := fun V b => rowOf_any m hIH t g o hka hk hkn f lo h c V (by omega) hh1 (by omega) (by omega) (HR.out V b).2.2
      have k2 : Hid (∀ V, Below W.heap.size W V → Calls Tryz.prog 28 #[.slice (some ⟨g, o + lo * 9 + h * 9, none⟩) (n - h) (c - h)] V (NewP V (rowH (fun q => wrdF m (kid t q)) f (lo + h) (n - h)))) := fun V b => by
        have := rowOf_any m hIH t g o hka hk hkn f (lo + h) (n - h) (c - h) V (by omega) (by omega) (by omega) (by omega) (HR.out V b).2.2
        rwa [show o + (lo + h) * 9 = o + lo * 9 + h * 9 by omega] at this
      have HJ : Hid (Szs (rowH (fun q => wrdF m (kid t q)) f lo h) 1000000000000 ∧ Szs (rowH (fun q => wrdF m (kid t q)) f (lo + h) (n - h)) 1000000000000 ∧ (rowH (fun q => wrdF m (kid t q)) f lo h).ok ∧ (rowH (fun q => wrdF m (kid t q)) f (lo + h) (n - h)).ok) := ⟨row_sz hk hkn f lo h (by omega) hh1 (by omega), row_sz hk hkn f (lo + h) (n - h) (by omega) (by omega) (by omega), rowH_ok (fun q => wrdF_ok m (kid t q)) _ _ _, rowH_ok (fun q => wrdF_ok m (kid t q)) _ _ _⟩
      obtain ⟨RA, hRA⟩ : ∃ RA, rowH (fun q => wrdF m (kid t q)) f lo h = RA := ⟨_, rfl⟩
      obtain ⟨RB, hRB⟩ : ∃ RB, rowH (fun q => wrdF m (kid t q)) f (lo + h) (n - h) = RB := ⟨_, rfl⟩
      rw [hRA, hRB] at HE HJ
      rw [hRA] at k1
      rw [hRB] at k2
      have HF : Hid (∀ (V w2 : World) v mm, W.heap.size ≤ V.heap.size → StV V.heap.size w2 v mm (jnS RA RB) → Below W.heap.size W w2 → NewP w (rowH (fun q => wrdF m (kid t q)) (f + 1) lo n) (.returned (kV v mm)) ((w2.setCell ⟨w.heap.size, 0, none⟩ v).setCell ⟨w.heap.size, 1, none⟩ (.bool mm))) := fun V w2 v mm hVW h b => by rw [HE.out]; exact NewP.put (Nat.le_refl _) h (HR.out w2 b).2.1 (by omega)
      have HK5 : Hid (∀ V, Below W.heap.size W V → V.cell? ⟨w.heap.size, 0, none⟩ = some (.slice none 0 0) ∧ V.cell? ⟨w.heap.size, 1, none⟩ = some (.bool false) ∧ V.frozen? ⟨w.heap.size, 0, none⟩ = false ∧ V.frozen? ⟨w.heap.size, 1, none⟩ = false ∧ Below W.heap.size W V) := fun V b => ⟨(HR.out V b).1.1, (HR.out V b).1.2.1, (HR.out V b).1.2.2.1, (HR.out V b).1.2.2.2, b⟩
      have tn : ((n : Int) == 1) = false := by rw [beq_eq_false_iff_ne]; omega
      have hq : (n : Int).tdiv 2 = (h : Int) := by
        have : (n : Int).tdiv 2 = (n : Int) / 2 := Int.tdiv_eq_ediv_of_nonneg (by omega)
        omega
      have hI1 : (h : Int) < n := by omega
      have hI2 : (h : Int) ≤ c := by omega
      have hI3 : ¬ c = h := by omega
      have hI4 : (0 : Int) ≤ h := by omega
      have hI5 : (h : Int) ≤ n := by omega
      have HB5 : Hid (∀ V, Below W.heap.size W V → Below w.heap.size w V) := fun V b => (HR.out V b).2.1
      clear hk hW hb0 hr0 ht hka hn1 HE hRA hRB HR hh
      go_enter Tryz.func28, Tryz.ntmps28
      go_upto_region 1 with fail
      rw [← HW.out]
      go_wp2_with fail
      have bD : Below W.heap.size W W.drew := (Below.refl _ _).drew
      go_region_held3 (fun w' => Below w.heap.size w w') (first | exact HB5.out _ (by assumption) | exact HB5.out _ (Below.refl _ _).drew | exact HB5.out _ (Below.refl _ _) | exact ((HB5.out _ (by assumption)).setCell (p := ⟨w.heap.size, 0, none⟩) (Nat.le_refl _) _).setCell (p := ⟨w.heap.size, 1, none⟩) (Nat.le_refl _) _) (first | (go_at_call 28; go_fit (k1.out _ (by assumption)); rintro e w4 ⟨⟨v1, m1, rfl, s1⟩, b4⟩; have q4 : Below W.heap.size W w4 := btr2 (by assumption) b4) | (go_at_call 28; go_fit (k2.out _ (by assumption)); rintro e w5 ⟨⟨v2, m2, rfl, s2⟩, b5⟩; have q5 : Below W.heap.size W w5 := btr2 (by assumption) b5; have k3 : Hid (Calls Tryz.prog 52 #[kV v1 m1, kV v2 m2] w5 (NewP w5 (jnS RA RB))) := joined_any _ _ v1 v2 m1 m2 RA RB w5 (s1.kp (Kp.of (M := fun _ => False) b5) (fun _ _ => id)) s2 HJ.out.2.2.1 HJ.out.2.2.2 HJ.out.1 HJ.out.2.1) | (go_at_call 52; go_fit k3.out; rintro e w6 ⟨⟨v3, m3, rfl, s3⟩, b6⟩; have q6 : Below W.heap.size W w6 := btr2 (by assumption) b6; obtain ⟨fa, fn, fc, rfl, _, _⟩ := s3.form; obtain ⟨r0, r1, z0, z1, _⟩ := HK5.out _ q6; have HP : Hid _ := HF.out _ _ _ _ (by assumption : Below W.heap.size W w5).size s3 q6))
      go_wp2
      exact bodyPost_ret (v := kV (.slice fa fn fc) m3) (by simp [results, Tryz.results28, go_sem, r0, r1]) rfl HP.out
end Go.Proofs.YtbciclnffokjjaaGreatDoor
/- Words: repeatsOf. -/
namespace Go.Proofs.YtbciclnffokjjaaGreatDoor
open Go.RowKit

theorem StV.own {S : Nat} {w : World} {v : Value} {m : Bool} {r : Sto} (h : StV S w v m r) : ∀ i, v.ownBlock = some i → S ≤ i ∧ i < w.heap.size := fun i e => by
  rcases h with ⟨_, rfl, _⟩ | ⟨L, _, _, ho⟩
  · cases e
  · exact ho.lt i e
theorem kp_two {w : World} {B : Nat} {v : Value} {m : Bool} : Kp (fun k => k = B) w ((w.setCell ⟨B, 0, none⟩ v).setCell ⟨B, 1, none⟩ (.bool m)) := ((Kp.refl (fun k => k = B) w).setCell (p := ⟨B, 0, none⟩) (show B = B from rfl) _).setCell (p := ⟨B, 1, none⟩) (show B = B from rfl) _
theorem kx_two {w : World} {B : Nat} {v u : Value} {m n : Bool} (h : w.heap[B]? = some (kX u n)) : ((w.setCell ⟨B, 0, none⟩ v).setCell ⟨B, 1, none⟩ (.bool m)).heap[B]? = some (kX v m) := by simp [World.setCell, Array.getElem?_modify, h]
/-- A row under way: a box with a stock; all else is as it was. -/
structure RwI (V : World) (RB : Nat) (r : Sto) (w' : World) (v : Value) (m : Bool) : Prop where
  box : w'.heap[RB]? = some (kX v m)
  st : ∃ S, StV S w' v m r
  ap : v.ownBlock ≠ some RB
/-- One joining: the row's box takes what joined answers. -/
theorem RwI.next {V : World} {RB : Nat} {r K : Sto} {wr w5 : World} {v u : Value} {m n : Bool} (h : RwI V RB r wr v m) (hl : RB < wr.heap.size) (hs : StV wr.heap.size w5 u n (jnS r K)) (hb : Below wr.heap.size wr w5) : RwI V RB (jnS r K) ((w5.setCell ⟨RB, 0, none⟩ u).setCell ⟨RB, 1, none⟩ (.bool n)) u n := by
  have hap : u.ownBlock ≠ some RB := fun e => by have := (hs.own RB e).1; omega
  exact ⟨kx_two ((hb.block RB hl).trans h.box), ⟨_, hs.kp kp_two (fun i e hi => hap (by rw [← (show i = RB from hi)]; exact e))⟩, hap⟩
theorem pow_sz {K : Sto} (h : Szs K 40000) (n : Nat) (hn : n ≤ 1000) : Szs (powS K n) 1000000000000 := by
  refine (h.pow n).mono ?_
  have : n * 40000 ≤ 1000 * 40000 := Nat.mul_le_mul_right _ hn
  omega
end Go.Proofs.YtbciclnffokjjaaGreatDoor
