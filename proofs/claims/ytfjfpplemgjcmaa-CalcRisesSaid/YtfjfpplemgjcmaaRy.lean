/- Buckets of a histogram of whole numbers: both quantiles. -/
import Derived.Test.YtfjfpplemgjcmaaRx
import Derived.Test.YtfjfpplemgjcmaaCn
namespace Go.Proofs.Ytfjfpplemgjcmaa
open Go.RowKit Ieee

/-- The histogram's buckets. -/
structure Hb (bs : Nat → Bk) (m : Nat) (b s : Nat → Int) : Prop where
  one : 1 ≤ m
  val : ∀ j, j < m → bs j = (iw (b j), iw (s j))
  top : bs m = (9218868437227405312, iw (s m))
  rise : ∀ i j, i < j → j < m → b i < b j
  keep : ∀ i j, i ≤ j → j ≤ m → s i ≤ s j
  pos : 0 < s 0
  bb : ∀ j, j < m → -4294967296 ≤ b j ∧ b j ≤ 4294967296
  sb : ∀ j, j ≤ m → s j ≤ 4294967296
section
variable {bs : Nat → Bk} {m : Nat} {b s : Nat → Int}
theorem Hb.s0 (h : Hb bs m b s) (j : Nat) (hj : j ≤ m) : 0 < s j ∧ -9007199254740992 ≤ s j ∧ s j ≤ 9007199254740992 := by
  have h1 := h.keep 0 j (by omega) hj
  have h2 := h.pos
  have h3 := h.sb j hj
  omega
theorem Hb.cnt (h : Hb bs m b s) (j : Nat) (hj : j ≤ m) : (ab' (bs j)).2 = some (iw (s j)) := by
  have := h.s0 j hj
  have hc := (iw_facts (s j) this.2.1 this.2.2).2.2
  by_cases e : j = m
  · subst e; rw [h.top]; exact hc
  · rw [h.val j (by omega)]; exact hc
theorem Hb.key (h : Hb bs m b s) (i j : Nat) (hij : i < j) (hj : j ≤ m) : ky (bs i).1 < ky (bs j).1 := by
  have hi := h.bb i (by omega)
  rw [h.val i (by omega)]
  by_cases e : j = m
  · subst e
    rw [h.top]
    have := (ky_bound (b i) (by omega) (by omega)).2
    have e2 : ky 9218868437227405312 = 9218868437227405312 := by decide
    show ky (iw (b i)) < ky 9218868437227405312
    omega
  · have hj2 := h.bb j (by omega)
    rw [h.val j (by omega)]
    refine Int.not_le.1 fun hc => ?_
    have h1 := (iw_ky (b j) (b i) (by omega) (by omega) (by omega) (by omega)).1 hc
    have h2 := h.rise i j hij (by omega)
    omega
theorem Hb.num (h : Hb bs m b s) (j : Nat) (hj : j ≤ m) : nanB (bs j).1 = false := by
  by_cases e : j = m
  · subst e; rw [h.top]; show nanB 9218868437227405312 = false; decide
  · have hj2 := h.bb j (by omega)
    rw [h.val j (by omega)]
    exact (ky_fin _ (iw_facts (b j) (by omega) (by omega)).1).1
theorem Hb.joined (h : Hb bs m b s) : ∀ k, k ≤ m + 1 → jnI (fun j => ab' (bs j)) k = rsg bs k
  | 0, _ => rfl
  | 1, _ => rfl
  | k + 2, hk => by
    rw [jnI, h.joined (k + 1) (by omega), rsg]
    have ho : FloatKind.f64.format.order (bs k).1 (bs (k + 1)).1 = some .lt := by
      rw [key_order _ _ (h.num k (by omega)) (h.num (k + 1) (by omega)), Int.compare_eq_lt.2 (h.key k (k + 1) (by omega) (by omega))]
    have e : jnR (ab' (bs k) :: rsg bs k) (ab' (bs (k + 1))) = ab' (bs (k + 1)) :: ab' (bs k) :: rsg bs k := by
      unfold jnR ab'
      dsimp only
      rw [ho]
      rfl
    rw [e]
    rfl
theorem Hb.sorted (h : Hb bs m b s) : Sim kb ((seg bs 0 (m + 1)).filter nn) (seg bs 0 (m + 1)) ∧ Up kb (seg bs 0 (m + 1)) := by
  constructor
  · have : (seg bs 0 (m + 1)).filter nn = seg bs 0 (m + 1) := by
      rw [List.filter_eq_self]
      intro u hu
      obtain ⟨j, _, hj, rfl⟩ := (mem_seg _ _ _ _).1 hu
      unfold nn
      rw [h.num j (by omega)]
      rfl
    rw [this]
    exact Sim.refl _
  · refine Srt.up (k := kb) (f := bs) (n := m + 1) (a := 0) fun i j _ hij hj => ?_
    exact Int.le_of_lt (h.key i j hij (by omega))
theorem Hb.tops (h : Hb bs m b s) : ∀ i, i ≤ m → tpI (fun j => ab' (bs j)) i = some (iw (s (i - 1)))
  | 0, hi => by rw [tpI, h.cnt 0 hi]
  | i + 1, hi => by
    rw [tpI, h.tops i (by omega), h.cnt i (by omega), show i + 1 - 1 = i from rfl]
    have h1 := h.s0 i (by omega)
    have h2 := h.s0 (i - 1) (by omega)
    have hk := h.keep (i - 1) i (by omega) (by omega)
    have f1 := (iw_facts (s i) h1.2.1 h1.2.2).1
    have f2 := (iw_facts (s (i - 1)) h2.2.1 h2.2.2).1
    have ho : fo (some (iw (s i))) (some (iw (s (i - 1)))) = some (compare (ky (iw (s i))) (ky (iw (s (i - 1))))) := key_order _ _ (ky_fin _ f1).1 (ky_fin _ f2).1
    by_cases hg : fo (some (iw (s i))) (some (iw (s (i - 1)))) = some .gt
    · rw [if_pos hg]
    · rw [if_neg hg]
      rw [ho] at hg
      have hle : ky (iw (s i)) ≤ ky (iw (s (i - 1))) := by
        refine Int.not_lt.1 fun hc => hg ?_
        rw [Int.compare_eq_gt.2 hc]
      have := (iw_ky (s i) (s (i - 1)) (by omega) (by omega) (by omega) (by omega)).1 hle
      rw [show s (i - 1) = s i by omega]
theorem Hb.raised (h : Hb bs m b s) (i : Nat) (hi : i ≤ m) : rzI (fun j => ab' (bs j)) i = ab' (bs i) := by
  unfold rzI
  rw [h.tops i hi, h.cnt i hi]
  have h1 := h.s0 i (by omega)
  have h2 := h.s0 (i - 1) (by omega)
  have hk := h.keep (i - 1) i (by omega) (by omega)
  have f1 := (iw_facts (s i) h1.2.1 h1.2.2).1
  have f2 := (iw_facts (s (i - 1)) h2.2.1 h2.2.2).1
  have ho : fo (some (iw (s i))) (some (iw (s (i - 1)))) = some (compare (ky (iw (s i))) (ky (iw (s (i - 1))))) := key_order _ _ (ky_fin _ f1).1 (ky_fin _ f2).1
  have hle := (iw_ky (s (i - 1)) (s i) (by omega) (by omega) (by omega) (by omega)).2 hk
  rw [if_neg (by
    rw [ho]
    intro hc
    have := Int.compare_eq_lt.1 (Option.some.inj hc)
    omega), ← h.cnt i hi]
theorem Hb.hw (h : Hb bs m b s) : Hw (fun j => ab' (bs j)) m b s where
  one := h.one
  val := fun j hj => by
    have e := h.cnt j (by omega)
    have e1 : (ab' (bs j)).1 = iw (b j) := by rw [h.val j hj]; rfl
    exact Prod.ext e1 e
  rise := h.rise
  keep := fun i j h1 h2 => h.keep i j h1 (by omega)
  pos := h.pos
  bb := h.bb
  sb := fun j hj => h.sb j (by omega)
theorem Pt.fin {q : Nat} (h : Pt q) : q % 2 ^ 63 < 0x7ff0000000000000 := fin_of q (by have := h.2.1; omega) (by have := h.2.2; omega)
theorem Hb.quant (h : Hb bs m b s) (p q : Nat) (d e : Option Nat) (hp : Pt p) (hq : Pt q) (hpq : ky p ≤ ky q) (hd : BuV bs (m + 1) (cl p) d) (he : BuV bs (m + 1) (cl q) e) :
    ∃ z z', d = some z ∧ e = some z' ∧ ky (iw (if b 0 < 0 then b 0 else 0)) ≤ ky z ∧ ky z ≤ ky z' ∧ ky z' ≤ ky (iw (b (m - 1))) := by
  have hm := h.one
  obtain ⟨hs1, hs2⟩ := h.sorted
  have hup : upB (bs m).1 = true := by rw [h.top]; show upB 9218868437227405312 = true; decide
  have hsm := h.s0 m (Nat.le_refl _)
  have form : ∀ x c, BuV bs (m + 1) x c → c = anC (fun j => ab' (bs j)) (m + 1) (fb .mul x (some (iw (s m)))) := fun x c hc => by
    have e1 := hc.one ⟨m + 1, bs, hs1, hs2, rfl⟩
    rw [e1, h.joined (m + 1) (Nat.le_refl _), buC_val x bs m hm hup, h.raised m (Nat.le_refl _), h.cnt m (Nat.le_refl _)]
    have fm := (iw_facts (s m) hsm.2.1 hsm.2.2).1
    have ho : fo (some (iw (s m))) (some 0) = some .gt := by
      have e2 : fo (some (iw (s m))) (some 0) = some (compare (ky (iw (s m))) (ky 0)) := key_order _ _ (ky_fin _ fm).1 (by decide)
      have h3 := (iw_ky (s m) 0 (by omega) (by omega) (by omega) (by omega))
      rw [ky_iw0] at h3
      rw [e2, ky0, Int.compare_eq_gt.2 (Int.not_le.1 fun hc => by have := h3.1 hc; omega)]
    rw [if_pos ho]
    exact anC_congr _ _ (m + 1) _ (by omega) fun j hj => h.raised j (by omega)
  rw [form _ _ hd, form _ _ he]
  have fm := (iw_facts (s m) hsm.2.1 hsm.2.2).1
  have h0m : 0 ≤ ky (iw (s m)) := by
    have := (iw_ky 0 (s m) (by omega) (by omega) (by omega) (by omega)).2 (by omega)
    rw [ky_iw0] at this
    exact this
  obtain ⟨r, r', a1, _, a3, _, a5, a6⟩ := mul_mono p q (iw (s m)) hp.fin hq.fin hp.2.1 hpq fm h0m
  obtain ⟨r2, r3, c1, _, _, c4, c5, _⟩ := mul_mono q 4607182418800017408 (iw (s m)) hq.fin (by decide) hq.2.1 (by rw [ky_one]; exact hq.2.2) fm h0m
  rw [mul_one (s m) (by omega) (by omega)] at c4
  rw [a3] at c1
  cases c1; cases c4
  have bm := ky_bound (s m) (by omega) (by omega)
  have e1 : fb .mul (cl p) (some (iw (s m))) = some r := by rw [cl_num hp.1]; exact a1
  have e2 : fb .mul (cl q) (some (iw (s m))) = some r' := by rw [cl_num hq.1]; exact a3
  rw [e1, e2]
  exact rises h.hw r r' (fin_of r (by omega) (by omega)) (fin_of r' (by omega) (by omega)) a6 a5
end
end Go.Proofs.Ytfjfpplemgjcmaa
