/- A bundle of texts. -/
import Derived.Test.YtbciclnffokjjaaBl45
import Derived.Test.YtbciclnffokjjaaBl07
/- The texts that the program reckons are those of the language. -/
namespace Go.Proofs.Ytbciclnffokjjaa
open Go.RowKit Go.Lib

def Rp (r : Sto) (P : Lng) : Prop := ∀ L, r = some L → ∀ x : ByteArray, x ∈ L ↔ P x.data.toList
theorem Rp.imp {r : Sto} {P Q : Lng} (h : Rp r P) (e : ∀ z, P z ↔ Q z) : Rp r Q := fun L hL x => (h L hL x).trans (e _)
theorem Rp.none (P : Lng) : Rp none P := fun L e => by cases e
theorem Rp.nil : Rp (some []) (fun _ => False) := fun L e x => by cases e; simp
theorem Rp.one (y : ByteArray) : Rp (some [y]) (fun z => z = y.data.toList) := fun L e x => by
  cases e
  rw [List.mem_singleton]
  exact ⟨fun h => by rw [h], fun h => ba_ext h⟩
theorem Rp.add {r : Sto} {P : Lng} (hr : r.ok) (h : Rp r P) (y : ByteArray) : Rp (addS r y) (fun z => z = y.data.toList ∨ P z) := fun L e x => by
  obtain ⟨K, hK, hm⟩ := addS_mem hr e
  rw [hm, h K hK]
  constructor
  · rintro (h | h)
    · exact .inl (by rw [h])
    · exact .inr h
  · rintro (h | h)
    · exact .inl (ba_ext h)
    · exact .inr h
theorem Rp.adds : ∀ (M : List ByteArray) {r : Sto} {P : Lng}, r.ok → Rp r P → Rp (addsS r M) (fun z => P z ∨ ∃ y ∈ M, z = y.data.toList)
  | [], r, P, _, h => h.imp (fun z => by simp)
  | y :: M, r, P, hr, h => by
    refine (Rp.adds M (addS_ok hr y) (h.add hr y)).imp (fun z => ?_)
    simp only [List.mem_cons, exists_eq_or_imp]
    constructor
    · rintro ((h | h) | h)
      · exact .inr (.inl h)
      · exact .inl h
      · exact .inr (.inr h)
    · rintro (h | h | h)
      · exact .inl (.inr h)
      · exact .inl (.inl h)
      · exact .inr h
theorem Rp.all {r rr : Sto} {P Q : Lng} (hr : r.ok) (h : Rp r P) (h' : Rp rr Q) : Rp (allS r rr) (fun z => P z ∨ Q z) := by
  cases rr with
  | none => exact Rp.none _
  | some M =>
    refine (Rp.adds M hr h).imp (fun z => or_congr Iff.rfl ?_)
    constructor
    · rintro ⟨y, hy, rfl⟩; exact (h' M rfl y).1 hy
    · intro hz; exact ⟨⟨z.toArray⟩, (h' M rfl _).2 (by simpa using hz), by simp⟩
theorem nonS_iff {r : Sto} : nonS r = true ↔ r = some [] := by
  unfold nonS
  split <;> simp_all
theorem Rp.jn {a b : Sto} {P Q : Lng} (h : Rp a P) (h' : Rp b Q) : Rp (jnS a b) (catL P Q) := by
  unfold jnS
  split
  · rename_i hn
    refine Rp.nil.imp (fun z => ⟨fun h => h.elim, fun ⟨x, y, hx, hy, _⟩ => ?_⟩)
    rcases hn with hn | hn
    · have := (h [] (nonS_iff.1 hn) ⟨x.toArray⟩).2 (by simpa using hx)
      cases this
    · have := (h' [] (nonS_iff.1 hn) ⟨y.toArray⟩).2 (by simpa using hy)
      cases this
  · cases a with
    | none => exact Rp.none _
    | some L =>
      cases b with
      | none => exact Rp.none _
      | some M =>
        refine (Rp.adds (prdL L M) nil_ok Rp.nil).imp (fun z => ?_)
        constructor
        · rintro (h0 | ⟨y, hy, rfl⟩)
          · exact h0.elim
          · unfold prdL at hy
            obtain ⟨u, hu, hy⟩ := List.mem_flatMap.1 hy
            obtain ⟨v, hv, rfl⟩ := List.mem_map.1 hy
            exact ⟨_, _, (h L rfl u).1 hu, (h' M rfl v).1 hv, app_list u v⟩
        · rintro ⟨x, y, hx, hy, rfl⟩
          refine .inr ⟨⟨x.toArray⟩ ++ ⟨y.toArray⟩, ?_, by rw [app_list]⟩
          unfold prdL
          exact List.mem_flatMap.2 ⟨⟨x.toArray⟩, (h L rfl _).2 (by simpa using hx), List.mem_map.2 ⟨⟨y.toArray⟩, (h' M rfl _).2 (by simpa using hy), rfl⟩⟩
theorem Rp.rng {r : Sto} {P : Lng} (hr : r.ok) (h : Rp r P) (lo : Int) : ∀ k, Rp (rngS r lo k) (fun z => P z ∨ ∃ i, i < k ∧ isRune (lo + (i : Nat)) = true ∧ z = (Utf8.encode (lo + (i : Nat))).data.toList)
  | 0 => h.imp (fun z => by simp)
  | k + 1 => by
    have ih := Rp.rng hr h lo k
    unfold rngS
    split
    · rename_i hv
      rw [valid_iff] at hv
      refine (ih.add (rngS_ok hr lo k) _).imp (fun z => ?_)
      constructor
      · rintro (e | e | ⟨i, hi, e⟩)
        · exact .inr ⟨k, by omega, hv, e⟩
        · exact .inl e
        · exact .inr ⟨i, by omega, e⟩
      · rintro (e | ⟨i, hi, e⟩)
        · exact .inr (.inl e)
        · by_cases hk : i = k
          · subst hk; exact .inl e.2
          · exact .inr (.inr ⟨i, by omega, e⟩)
    · rename_i hv
      rw [valid_iff] at hv
      refine ih.imp (fun z => or_congr Iff.rfl ?_)
      constructor
      · rintro ⟨i, hi, e⟩; exact ⟨i, by omega, e⟩
      · rintro ⟨i, hi, e⟩
        by_cases hk : i = k
        · subst hk; exact absurd e.1 hv
        · exact ⟨i, by omega, e⟩
theorem Rp.cls (f : Nat → Rg) : ∀ n, (∀ j, j < n → (f j).1 ≤ (f j).2) → Rp (clsS (some []) f n) (fun z => ∃ r, isRune r = true ∧ (∃ j, j < n ∧ (f j).1 ≤ r ∧ r ≤ (f j).2) ∧ z = (Utf8.encode r).data.toList)
  | 0, _ => Rp.nil.imp (fun z => by simp)
  | n + 1, h => by
    refine ((Rp.cls f n (fun j hj => h j (by omega))).rng (clsS_ok f n) _ _).imp (fun z => ?_)
    have hn := h n (by omega)
    constructor
    · rintro (⟨r, h1, ⟨j, hj, h2⟩, h3⟩ | ⟨i, hi, h1, h2⟩)
      · exact ⟨r, h1, ⟨j, by omega, h2⟩, h3⟩
      · exact ⟨_, h1, ⟨n, by omega, by omega, by omega⟩, h2⟩
    · rintro ⟨r, h1, ⟨j, hj, h2, h2'⟩, h3⟩
      by_cases hjn : j = n
      · subst hjn
        refine .inr ⟨(r - (f j).1).toNat, by omega, ?_, ?_⟩
        · rw [show (f j).1 + ((r - (f j).1).toNat : Int) = r by omega]; exact h1
        · rw [show (f j).1 + ((r - (f j).1).toNat : Int) = r by omega]; exact h3
      · exact .inl ⟨r, h1, ⟨j, by omega, h2, h2'⟩, h3⟩
theorem Rp.alt {F : Nat → Sto} {G : Nat → Lng} : ∀ n, (∀ q, q < n → Rp (F q) (G q)) → Rp (altS F n) (fun z => ∃ q, q < n ∧ G q z)
  | 0, _ => Rp.nil.imp (fun z => by simp)
  | n + 1, h => by
    refine ((Rp.alt n (fun q hq => h q (by omega))).all (altS_ok F n) (h n (by omega))).imp (fun z => ?_)
    constructor
    · rintro (⟨q, hq, h⟩ | h)
      · exact ⟨q, by omega, h⟩
      · exact ⟨n, by omega, h⟩
    · rintro ⟨q, hq, hz⟩
      by_cases e : q = n
      · subst e; exact .inr hz
      · exact .inl ⟨q, by omega, hz⟩
theorem catL_nil {P : Lng} {z : List UInt8} : catL P (fun z => z = []) z ↔ P z := by
  constructor
  · rintro ⟨x, y, hx, rfl, rfl⟩; rwa [List.append_nil]
  · intro h; exact ⟨z, [], h, rfl, by simp⟩
theorem nil_catL {P : Lng} {z : List UInt8} : catL (fun z => z = []) P z ↔ P z := by
  constructor
  · rintro ⟨x, y, rfl, hx, rfl⟩; exact hx
  · intro h; exact ⟨[], z, rfl, h, rfl⟩
theorem rowL_add (F : Nat → Lng) (lo a : Nat) : ∀ b z, rowL F lo (a + b) z ↔ catL (rowL F lo a) (rowL F (lo + a) b) z
  | 0, z => catL_nil.symm
  | b + 1, z => by
    show catL (rowL F lo (a + b)) (F (lo + (a + b))) z ↔ catL (rowL F lo a) (catL (rowL F (lo + a) b) (F (lo + a + b))) z
    rw [← Nat.add_assoc]
    constructor
    · rintro ⟨x, y, hx, hy, rfl⟩
      obtain ⟨u, v, hu, hv, rfl⟩ := (rowL_add F lo a b x).1 hx
      exact ⟨u, v ++ y, hu, ⟨v, y, hv, hy, rfl⟩, by rw [List.append_assoc]⟩
    · rintro ⟨u, _, hu, ⟨v, y, hv, hy, rfl⟩, rfl⟩
      exact ⟨u ++ v, y, (rowL_add F lo a b _).2 ⟨u, v, hu, hv, rfl⟩, hy, by rw [List.append_assoc]⟩
theorem Rp.row {F : Nat → Sto} {G : Nat → Lng} : ∀ f lo n, n ≤ f → 1 ≤ n → (∀ q, lo ≤ q → q < lo + n → Rp (F q) (G q)) → Rp (rowH F f lo n) (rowL G lo n)
  | 0, _, _, h, h', _ => by omega
  | f + 1, lo, n, hf, h1, h => by
    unfold rowH
    split
    · rename_i e
      subst e
      exact (h lo (by omega) (by omega)).imp (fun z => nil_catL.symm)
    · have := (Rp.row f lo (n / 2) (by omega) (by omega) (fun q a b => h q a (by omega))).jn (Rp.row f (lo + n / 2) (n - n / 2) (by omega) (by omega) (fun q a b => h q (by omega) (by omega)))
      refine this.imp (fun z => ?_)
      have e := rowL_add G lo (n / 2) (n - n / 2) z
      rw [show n / 2 + (n - n / 2) = n by omega] at e
      exact e.symm
theorem Rp.pow {k : Sto} {P : Lng} (h : Rp k P) : ∀ n, Rp (powS k n) (powL P n)
  | 0 => (Rp.one ⟨#[]⟩).imp (fun _ => Iff.rfl)
  | n + 1 => (Rp.pow h n).jn h
theorem Rp.pows {k : Sto} {P : Lng} (h : Rp k P) (a : Nat) : ∀ n, Rp (powsS k a n) (fun z => ∃ d, d ≤ n ∧ powL P (a + d) z)
  | 0 => (Rp.all nil_ok Rp.nil (h.pow a)).imp (fun z => by
    constructor
    · rintro (e | e)
      · exact e.elim
      · exact ⟨0, Nat.le_refl _, e⟩
    · rintro ⟨d, hd, e⟩
      have : d = 0 := by omega
      subst this
      exact .inr e)
  | n + 1 => by
    refine ((Rp.pows h a n).all (powsS_ok k a n) (h.pow (a + n + 1))).imp (fun z => ?_)
    constructor
    · rintro (⟨d, hd, e⟩ | e)
      · exact ⟨d, by omega, e⟩
      · exact ⟨n + 1, by omega, e⟩
    · rintro ⟨d, hd, e⟩
      by_cases q : d = n + 1
      · subst q; exact .inr e
      · exact .inl ⟨d, by omega, e⟩
theorem powL_eps {P : Lng} (h : ∀ z, P z → z = []) : ∀ n z, powL P n z → z = []
  | 0, z, e => e
  | n + 1, z, ⟨x, y, hx, hy, e⟩ => by rw [e, powL_eps h n x hx, h y hy]; rfl
theorem powL_some {P : Lng} (h : P []) : ∀ n, powL P n []
  | 0 => rfl
  | n + 1 => ⟨[], [], powL_some h n, h, rfl⟩
theorem Rp.rep {k : Sto} {P : Lng} (h : Rp k P) (mn mx : Int) (h0 : 0 ≤ mn) (hx : mx = -1 ∨ mn ≤ mx) : Rp (repS k mn mx) (fun z => ∃ n : Nat, mn ≤ n ∧ (mx = -1 ∨ (n : Int) ≤ mx) ∧ powL P n z) := by
  unfold repS
  split
  · rename_i e
    refine (Rp.one ⟨#[]⟩).imp (fun z => ⟨fun e' => ⟨0, by omega, .inr (by omega), e'⟩, fun ⟨n, h1, h2, h3⟩ => ?_⟩)
    have : n = 0 := by omega
    subst this
    exact h3
  split
  · rename_i hz hg
    -- the kid has the empty text or nothing
    have hk : k = some [] ∨ k = some [⟨#[]⟩] := by
      unfold grwS at hg
      split at hg
      · cases hg
      · exact .inl rfl
      · rename_i x
        refine .inr ?_
        have h1 : x.toList = (⟨#[]⟩ : ByteArray).toList := by simpa using hg
        have h2 := toList_eq x ⟨#[]⟩
        rw [h1] at h2
        have h3 : decide (x = ⟨#[]⟩) = true := by rw [← h2]; simp
        rw [of_decide_eq_true h3]
      · cases hg
    have hP : ∀ z, P z → z = [] := fun z hz => by
      rcases hk with e | e
      · have := (h _ e ⟨z.toArray⟩).2 (by simpa using hz)
        cases this
      · have := (h _ e ⟨z.toArray⟩).2 (by simpa using hz)
        rw [List.mem_singleton] at this
        have := congrArg (fun b : ByteArray => b.data.toList) this
        simpa using this
    split
    · rename_i hm
      refine (Rp.one ⟨#[]⟩).imp (fun z => ⟨fun e => ⟨0, by omega, by omega, e⟩, fun ⟨n, h1, h2, h3⟩ => powL_eps hP n z h3⟩)
    · rename_i hm
      refine h.imp (fun z => ⟨fun e => ⟨mn.toNat, by omega, by omega, ?_⟩, fun ⟨n, h1, h2, h3⟩ => ?_⟩)
      · have := hP z e
        subst this
        exact powL_some e _
      · have := powL_eps hP n z h3
        subst this
        obtain ⟨n', rfl⟩ : ∃ n', n = n' + 1 := ⟨n - 1, by omega⟩
        obtain ⟨x, y, _, hy, e⟩ := h3
        have := hP y hy
        subst this
        exact hy
  split
  · exact Rp.none _
  · rename_i h1 h2 h3
    refine (h.pows mn.toNat (mx - mn).toNat).imp (fun z => ⟨fun ⟨d, hd, e⟩ => ⟨mn.toNat + d, by omega, by omega, e⟩, fun ⟨n, a1, a2, a3⟩ => ⟨n - mn.toNat, by omega, ?_⟩⟩)
    rw [show mn.toNat + (n - mn.toNat) = n by omega]
    exact a3
theorem in_one {r a : Int} : inR r [(a, a)] ↔ r = a := by
  unfold inR
  simp
  omega
theorem in_rs {r : Int} {d : Nd} : inR r (rsL d) ↔ ∃ j, j < d.rn ∧ (d.rf j).1 ≤ r ∧ r ≤ (d.rf j).2 := by
  unfold inR rsL
  constructor
  · rintro ⟨x, hx, h1⟩
    obtain ⟨j, hj, rfl⟩ := List.mem_map.1 hx
    exact ⟨j, List.mem_range.1 hj, h1⟩
  · rintro ⟨j, hj, h1⟩
    exact ⟨_, List.mem_map.2 ⟨j, List.mem_range.2 hj, rfl⟩, h1⟩
theorem wrd_lb : ∀ (m : Nat) (t : Tr), WF m t → askF m t = false → Rp (wrdF m t) (Lb m t)
  | 0, _, h, _ => by cases h
  | m + 1, t, hw, ha => by
    obtain ⟨⟨hnd, _⟩, _, hk⟩ := hw
    obtain ⟨h8, hak⟩ := ask_kid ha
    have hkd := ndB_kind hnd
    have ih : ∀ q, q < (t []).kn → Rp (wrdF m (kid t q)) (Lb m (kid t q)) := fun q hq => wrd_lb m (kid t q) (hk q hq) (hak q hq)
    have eL : ∀ z, Lb (m + 1) t z ↔ if (t []).kind = 2 then runL [((t []).r, (t []).r)] z
      else if (t []).kind = 3 then runL (rsL (t [])) z
      else if (t []).kind = 4 then rowL (fun q => Lb m (kid t q)) 0 (t []).kn z
      else if (t []).kind = 5 then ∃ q, q < (t []).kn ∧ Lb m (kid t q) z
      else if (t []).kind = 6 then ∃ n : Nat, (t []).mn ≤ n ∧ ((t []).mx = -1 ∨ (n : Int) ≤ (t []).mx) ∧ powL (Lb m (kid t 0)) n z
      else if (t []).kind = 7 then Lb m (kid t 0) z
      else z = [] := fun z => Iff.rfl
    refine Rp.imp ?_ (fun z => (eL z).symm)
    unfold wrdF
    by_cases k1 : (t []).kind = 1
    · rw [if_pos k1]
      refine (Rp.one ⟨#[]⟩).imp (fun z => ?_)
      rw [if_neg (by omega), if_neg (by omega), if_neg (by omega), if_neg (by omega), if_neg (by omega), if_neg (by omega)]
    rw [if_neg k1]
    by_cases k2 : (t []).kind = 2
    · simp only [if_pos k2]
      refine (Rp.rng nil_ok Rp.nil _ 1).imp (fun z => ?_)
      unfold runL
      constructor
      · rintro (e | ⟨i, hi, h1, h2⟩)
        · exact e.elim
        · have : i = 0 := by omega
          subst this
          simp at h1 h2
          exact ⟨_, h1, in_one.2 rfl, h2⟩
      · rintro ⟨r, h1, h2, h3⟩
        rw [in_one] at h2
        subst h2
        exact .inr ⟨0, by omega, by simpa using h1, by simpa using h3⟩
    simp only [if_neg k2]
    by_cases k3 : (t []).kind = 3
    · simp only [if_pos k3]
      refine (Rp.cls _ _ (fun j hj => (ssB_at (ndB_cls hnd k3) j hj).2.1)).imp (fun z => ?_)
      unfold runL
      simp only [in_rs]
    simp only [if_neg k3]
    by_cases k4 : (t []).kind = 4
    · simp only [if_pos k4]
      have := ndB_row hnd (.inl k4)
      exact Rp.row _ 0 _ (Nat.le_refl _) (by omega) (fun q _ hq => ih q (by omega))
    simp only [if_neg k4]
    by_cases k5 : (t []).kind = 5
    · simp only [if_pos k5]
      exact Rp.alt _ ih
    simp only [if_neg k5]
    by_cases k6 : (t []).kind = 6
    · simp only [if_pos k6]
      obtain ⟨a0, a1, a2, a3⟩ := ndB_rep hnd k6
      exact (ih 0 (by omega)).rep _ _ a1 (by omega)
    simp only [if_neg k6]
    by_cases k7 : (t []).kind = 7
    · simp only [if_pos k7]
      have h1 := ndB_grp hnd k7
      exact ih 0 (by omega)
    · omega
/-- What Words lists: just what the tree takes, and all of it well formed. -/
theorem wds_mn {t : Tr} {L : List ByteArray} (h : wdsF t = some L) : (0 < sizF t ∧ sizF t ≤ 10000) ∧ Srt L ∧ L.length ≤ 64 ∧ ∀ x : ByteArray, (x ∈ L ↔ Mn x 8195 t 0 x.size) ∧ (x ∈ L → gdF x (x.size + 1) 0) := by
  have hok := wdsF_ok t L h
  unfold wdsF at h
  split at h
  · rename_i hz
    split at h
    · cases h
    · rename_i ha
      have ha' : askF 8195 t = false := by simpa using ha
      obtain ⟨hk, _, _⟩ := sizF_ok (t := t) (by omega) hz.2
      have hw := WF_ok hk
      have hR := wrd_lb 8195 t hw ha' L h
      refine ⟨hz, hok.1, hok.2, fun x => ⟨(hR x).trans (mn_whole hw ha').symm, fun hx => (Lb.wel 8195 t hw _ ((hR x).1 hx)).gd _⟩⟩
  · cases h
end Go.Proofs.Ytbciclnffokjjaa
/- RxprogSounds: the copy that the law makes, range by range. -/
namespace Go.Proofs.Ytbciclnffokjjaa
open Go.RowKit

/-- Ranges that don't lie in block gi. -/
def RN (w : World) (gi : Nat) (a : Option Addr) (f : Nat → Rg) (n : Nat) : Prop := Rml w a f n ∧ (n = 0 ∨ ∃ g o, a = some ⟨g, o, none⟩ ∧ g ≠ gi)
theorem RN.kp {w w' : World} {gi n : Nat} {a : Option Addr} {f : Nat → Rg} (h : RN w gi a f n) (k : Kp (· = gi) w w') : RN w' gi a f n := by
  refine ⟨?_, h.2⟩
  rcases h.2 with h0 | ⟨g, o, rfl, hne⟩
  · exact .inl h0
  · rcases h.1 with h1 | ⟨g1, o1, e, hg, hc⟩
    · exact .inl h1
    · cases e
      exact .inr ⟨g, o, rfl, Nat.lt_of_lt_of_le hg k.size, fun j hj => ⟨k.cell (hc j hj).1 hne, k.cell (hc j hj).2 hne⟩⟩
def LQ (S : Nat) (W : World) (gi cap n : Nat) (x : Nat → In) (wr : World) : Prop :=
  Kp (· = gi) W wr ∧ ∃ y : Nat → In, wr.ownsRow S 29 5 (.slice (some ⟨gi, 0, none⟩) n cap) n (n5 y n) ∧ ∀ j, j < n → Alk (x j) (y j) ∧ RN wr gi (y j).ra (x j).rf (x j).rn ∧ (x j).rn * 8 ≤ 140737488351232
theorem LQ.start {S : Nat} {w W : World} {gi cap n : Nat} {x : Nat → In} {ia : Option Addr} (hx : Nml w ia x n) (hr : W.ownsRow S 29 5 (.slice (some ⟨gi, 0, none⟩) n cap) n (n5 x n)) (hb : Below w.heap.size w W) (hgi : w.heap.size ≤ gi) : LQ S W gi cap n x W := by
  refine ⟨Kp.refl _ _, x, hr, fun j hj => ?_⟩
  obtain ⟨_, _, _, _, _, _, _, _, _, hR, hs⟩ := hx.at j hj
  refine ⟨⟨rfl, rfl, rfl, rfl, rfl, rfl⟩, ⟨hR.below hb, ?_⟩, hs⟩
  rcases hR with h0 | ⟨g, o, e, hg, _⟩
  · exact .inl h0
  · exact .inr ⟨g, o, e, by omega⟩
theorem LQ.nml {S : Nat} {W : World} {gi cap n : Nat} {x : Nat → In} {wr : World} (h : LQ S W gi cap n x wr) : ∃ y, Nml wr (some ⟨gi, 0, none⟩) y n ∧ ∀ j, j < n → Alk (x j) (y j) := by
  obtain ⟨_, y, hr, ha⟩ := h
  refine ⟨y, ?_, fun j hj => (ha j hj).1⟩
  have hg : gi < wr.heap.size := (World.ownsRow.lt hr gi rfl).2
  refine .inr ⟨gi, 0, rfl, hg, fun j hj => ?_⟩
  obtain ⟨⟨_, _, _, _, a5, a6⟩, hR, hs⟩ := ha j hj
  rw [Nat.zero_add]
  have c := fun k (hk : k < 5) => (World.ownsRow.cellAt hr (j * 5 + k) (by omega)).trans (n5_get y n j k hj hk)
  have c0 := c 0 (by omega)
  rw [Nat.add_zero] at c0
  rw [a5, a6] at hR
  rw [a5] at hs
  exact ⟨c0, c 1 (by omega), c 2 (by omega), c 3 (by omega), c 4 (by omega), hR.1, hs⟩
theorem LQ.step {S : Nat} {W : World} {gi cap n : Nat} {x : Nat → In} {wr : World} (h : LQ S W gi cap n x wr) (i : Nat) (hi : i < n) (hR : Rml wr (x i).ra (x i).rf (x i).rn) (hz : (x i).ra = none → (x i).rn = 0 ∧ (x i).rc = 0) :
    ∃ g c w6 v, (Builtin.append_ #[27, 27] 27 #[.slice (some ⟨wr.heap.size, 0, none⟩) 0 0, .slice (x i).ra (x i).rn (x i).rc]).run Try.prog (wr.alloc (.cells #[] 50)).drew = .ok (.slice (some ⟨g, 0, none⟩) (x i).rn c) w6 ∧
      w6.cell? ⟨gi, i * 5 + 4, none⟩ = some v ∧ w6.frozen? ⟨gi, i * 5 + 4, none⟩ = false ∧ Kp (· = gi) W w6 ∧ LQ S W gi cap n x (w6.setCell ⟨gi, i * 5 + 4, none⟩ (.slice (some ⟨g, 0, none⟩) (x i).rn c)) := by
  obtain ⟨hk, y, hr, ha⟩ := h
  obtain ⟨⟨a1, a2, a3, a4, a5, a6⟩, _, hs⟩ := ha i hi
  have hg : gi < wr.heap.size := (World.ownsRow.lt hr gi rfl).2
  obtain ⟨g, c, w6, r, o6, b6, hg6, hlt⟩ := fresh_copy (P := Try.prog) wr.drew 27 50 _ 2 8 Try.underlying27 infG rfl (by decide) (x i).ra (x i).rn (x i).rc (rc2 (x i).rf (x i).rn) hz (rc2_len _ _) (fun p hp => by
    have h2 : Rml wr (some p) (x i).rf (x i).rn := hp ▸ hR
    exact h2.cells) (rc2_one _ _) (by unfold maxLen; omega) (by omega)
  have b6 : Below wr.heap.size wr w6 := ⟨b6.os, b6.tape, b6.output, b6.size, b6.block⟩
  have k6 : Kp (· = gi) wr w6 := Kp.of b6
  have r6 : w6.ownsRow S 29 5 (.slice (some ⟨gi, 0, none⟩) n cap) n (n5 y n) := (Kp.of (M := fun _ => False) b6).row hr (fun _ _ => id)
  have hne : g ≠ gi := by
    have : wr.heap.size ≤ g := hg6
    omega
  have c4 : w6.cell? ⟨gi, i * 5 + 4, none⟩ = some (.slice (y i).ra (y i).rn (y i).rc) := (World.ownsRow.cellAt r6 (i * 5 + 4) (by omega)).trans (n5_get y n i 4 hi (by omega))
  refine ⟨g, c, w6, _, r, c4, World.ownsRow.frozenAt r6 _, hk.trans k6, ?_⟩
  have ks : Kp (· = gi) w6 (w6.setCell ⟨gi, i * 5 + 4, none⟩ (.slice (some ⟨g, 0, none⟩) (x i).rn c)) := (Kp.refl (· = gi) w6).setCell (p := ⟨gi, i * 5 + 4, none⟩) rfl _
  refine ⟨(hk.trans k6).trans ks, up y i { y i with ra := some ⟨g, 0, none⟩, rc := c }, ?_, fun j hj => ?_⟩
  · rw [← n5_set y i (some ⟨g, 0, none⟩) c n hi, a5]
    exact (World.ownsRow.stored r6 (i * 5 + 4) _).1
  · obtain ⟨al, rn, hs2⟩ := ha j hj
    by_cases hji : j = i
    · subst hji
      rw [up_same]
      refine ⟨al, ⟨?_, .inr ⟨g, 0, rfl, hne⟩⟩, hs2⟩
      have hm : Rml w6 (some ⟨g, 0, none⟩) (x j).rf (x j).rn := Rml.of_row o6 hlt
      exact (RN.kp ⟨hm, .inr ⟨g, 0, rfl, hne⟩⟩ ks).1
    · rw [up_other _ _ _ _ hji]
      exact ⟨al, (rn.kp k6).kp ks, hs2⟩
theorem allB_congr {x y : Nat → In} {m g : Int} : ∀ {n : Nat}, (∀ j, j < n → Alk (x j) (y j)) → allB y m g n = allB x m g n
  | 0, _ => rfl
  | n + 1, h => by
    unfold allB
    rw [allB_congr (n := n) fun j hj => h j (by omega)]
    obtain ⟨a1, a2, a3, a4, a5, a6⟩ := h n (by omega)
    rw [a1, a2, a3, a4, a5, a6]
theorem SdB_congr {x y : Nat → In} {n : Nat} {st gr : Int} {nn : Nat} (h : ∀ j, j < n → Alk (x j) (y j)) : SdB y n st gr nn = SdB x n st gr nn := by
  unfold SdB
  rw [allB_congr h]
end Go.Proofs.Ytbciclnffokjjaa
