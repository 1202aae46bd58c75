/- A bundle of texts. -/
import Derived.Test.YtbciclnffokjjaaBk47
import Derived.Test.YtbciclnffokjjaaBk34
/- The texts that the program reckons are those of the language. -/
namespace Go.Proofs.Ytbciclnffokjjaa
open Go.RowKit Go.Lib

def Rp (r : Sto) (P : Lng) : Prop := ∀ L, r = some L → ∀ x : ByteArray, x ∈ L ↔ P x.data.toList
theorem Rp.imp {r : Sto} {P Q : Lng} (h : Rp r P) (e : ∀ z, P z ↔ Q z) : Rp r Q := fun L hL x => (h L hL x).trans (e _)
theorem Rp.none (P : Lng) : Rp none P := fun L e => by cases e
theorem Rp.nil : Rp (some []) (fun _ => False) := fun L e x => by cases e; simp
theorem Rp.one (y : ByteArray) : Rp (some [y]) (fun z => z = y.data.toList) := fun L e x => by
  cases e
  rw [List.mem_singleton]
  exact ⟨fun h => by rw [h], fun h => ba_ext h⟩
theorem Rp.add {r : Sto} {P : Lng} (hr : r.ok) (h : Rp r P) (y : ByteArray) : Rp (addS r y) (fun z => z = y.data.toList ∨ P z) := fun L e x => by
  obtain ⟨K, hK, hm⟩ := addS_mem hr e
  rw [hm, h K hK]
  constructor
  · rintro (h | h)
    · exact .inl (by rw [h])
    · exact .inr h
  · rintro (h | h)
    · exact .inl (ba_ext h)
    · exact .inr h
theorem Rp.adds : ∀ (M : List ByteArray) {r : Sto} {P : Lng}, r.ok → Rp r P → Rp (addsS r M) (fun z => P z ∨ ∃ y ∈ M, z = y.data.toList)
  | [], r, P, _, h => h.imp (fun z => by simp)
  | y :: M, r, P, hr, h => by
    refine (Rp.adds M (addS_ok hr y) (h.add hr y)).imp (fun z => ?_)
    simp only [List.mem_cons, exists_eq_or_imp]
    constructor
    · rintro ((h | h) | h)
      · exact .inr (.inl h)
      · exact .inl h
      · exact .inr (.inr h)
    · rintro (h | h | h)
      · exact .inl (.inr h)
      · exact .inl (.inl h)
      · exact .inr h
theorem Rp.all {r rr : Sto} {P Q : Lng} (hr : r.ok) (h : Rp r P) (h' : Rp rr Q) : Rp (allS r rr) (fun z => P z ∨ Q z) := by
  cases rr with
  | none => exact Rp.none _
  | some M =>
    refine (Rp.adds M hr h).imp (fun z => or_congr Iff.rfl ?_)
    constructor
    · rintro ⟨y, hy, rfl⟩; exact (h' M rfl y).1 hy
    · intro hz; exact ⟨⟨z.toArray⟩, (h' M rfl _).2 (by simpa using hz), by simp⟩
theorem nonS_iff {r : Sto} : nonS r = true ↔ r = some [] := by
  unfold nonS
  split <;> simp_all
theorem Rp.jn {a b : Sto} {P Q : Lng} (h : Rp a P) (h' : Rp b Q) : Rp (jnS a b) (catL P Q) := by
  unfold jnS
  split
  · rename_i hn
    refine Rp.nil.imp (fun z => ⟨fun h => h.elim, fun ⟨x, y, hx, hy, _⟩ => ?_⟩)
    rcases hn with hn | hn
    · have := (h [] (nonS_iff.1 hn) ⟨x.toArray⟩).2 (by simpa using hx)
      cases this
    · have := (h' [] (nonS_iff.1 hn) ⟨y.toArray⟩).2 (by simpa using hy)
      cases this
  · cases a with
    | none => exact Rp.none _
    | some L =>
      cases b with
      | none => exact Rp.none _
      | some M =>
        refine (Rp.adds (prdL L M) nil_ok Rp.nil).imp (fun z => ?_)
        constructor
        · rintro (h0 | ⟨y, hy, rfl⟩)
          · exact h0.elim
          · unfold prdL at hy
            obtain ⟨u, hu, hy⟩ := List.mem_flatMap.1 hy
            obtain ⟨v, hv, rfl⟩ := List.mem_map.1 hy
            exact ⟨_, _, (h L rfl u).1 hu, (h' M rfl v).1 hv, app_list u v⟩
        · rintro ⟨x, y, hx, hy, rfl⟩
          refine .inr ⟨⟨x.toArray⟩ ++ ⟨y.toArray⟩, ?_, by rw [app_list]⟩
          unfold prdL
          exact List.mem_flatMap.2 ⟨⟨x.toArray⟩, (h L rfl _).2 (by simpa using hx), List.mem_map.2 ⟨⟨y.toArray⟩, (h' M rfl _).2 (by simpa using hy), rfl⟩⟩
theorem Rp.rng {r : Sto} {P : Lng} (hr : r.ok) (h : Rp r P) (lo : Int) : ∀ k, Rp (rngS r lo k) (fun z => P z ∨ ∃ i, i < k ∧ isRune (lo + (i : Nat)) = true ∧ z = (Utf8.encode (lo + (i : Nat))).data.toList)
  | 0 => h.imp (fun z => by simp)
  | k + 1 => by
    have ih := Rp.rng hr h lo k
    unfold rngS
    split
    · rename_i hv
      rw [valid_iff] at hv
      refine (ih.add (rngS_ok hr lo k) _).imp (fun z => ?_)
      constructor
      · rintro (e | e | ⟨i, hi, e⟩)
        · exact .inr ⟨k, by omega, hv, e⟩
        · exact .inl e
        · exact .inr ⟨i, by omega, e⟩
      · rintro (e | ⟨i, hi, e⟩)
        · exact .inr (.inl e)
        · by_cases hk : i = k
          · subst hk; exact .inl e.2
          · exact .inr (.inr ⟨i, by omega, e⟩)
    · rename_i hv
      rw [valid_iff] at hv
      refine ih.imp (fun z => or_congr Iff.rfl ?_)
      constructor
      · rintro ⟨i, hi, e⟩; exact ⟨i, by omega, e⟩
      · rintro ⟨i, hi, e⟩
        by_cases hk : i = k
        · subst hk; exact absurd e.1 hv
        · exact ⟨i, by omega, e⟩
theorem Rp.cls (f : Nat → Rg) : ∀ n, (∀ j, j < n → (f j).1 ≤ (f j).2) → Rp (clsS (some []) f n) (fun z => ∃ r, isRune r = true ∧ (∃ j, j < n ∧ (f j).1 ≤ r ∧ r ≤ (f j).2) ∧ z = (Utf8.encode r).data.toList)
  | 0, _ => Rp.nil.imp (fun z => by simp)
  | n + 1, h => by
    refine ((Rp.cls f n (fun j hj => h j (by omega))).rng (clsS_ok f n) _ _).imp (fun z => ?_)
    have hn := h n (by omega)
    constructor
    · rintro (⟨r, h1, ⟨j, hj, h2⟩, h3⟩ | ⟨i, hi, h1, h2⟩)
      · exact ⟨r, h1, ⟨j, by omega, h2⟩, h3⟩
      · exact ⟨_, h1, ⟨n, by omega, by omega, by omega⟩, h2⟩
    · rintro ⟨r, h1, ⟨j, hj, h2, h2'⟩, h3⟩
      by_cases hjn : j = n
      · subst hjn
        refine .inr ⟨(r - (f j).1).toNat, by omega, ?_, ?_⟩
        · rw [show (f j).1 + ((r - (f j).1).toNat : Int) = r by omega]; exact h1
        · rw [show (f j).1 + ((r - (f j).1).toNat : Int) = r by omega]; exact h3
      · exact .inl ⟨r, h1, ⟨j, by omega, h2, h2'⟩, h3⟩
theorem Rp.alt {F : Nat → Sto} {G : Nat → Lng} : ∀ n, (∀ q, q < n → Rp (F q) (G q)) → Rp (altS F n) (fun z => ∃ q, q < n ∧ G q z)
  | 0, _ => Rp.nil.imp (fun z => by simp)
  | n + 1, h => by
    refine ((Rp.alt n (fun q hq => h q (by omega))).all (altS_ok F n) (h n (by omega))).imp (fun z => ?_)
    constructor
    · rintro (⟨q, hq, h⟩ | h)
      · exact ⟨q, by omega, h⟩
      · exact ⟨n, by omega, h⟩
    · rintro ⟨q, hq, hz⟩
      by_cases e : q = n
      · subst e; exact .inr hz
      · exact .inl ⟨q, by omega, hz⟩
theorem catL_nil {P : Lng} {z : List UInt8} : catL P (fun z => z = []) z ↔ P z := by
  constructor
  · rintro ⟨x, y, hx, rfl, rfl⟩; rwa [List.append_nil]
  · intro h; exact ⟨z, [], h, rfl, by simp⟩
theorem nil_catL {P : Lng} {z : List UInt8} : catL (fun z => z = []) P z ↔ P z := by
  constructor
  · rintro ⟨x, y, rfl, hx, rfl⟩; exact hx
  · intro h; exact ⟨[], z, rfl, h, rfl⟩
theorem rowL_add (F : Nat → Lng) (lo a : Nat) : ∀ b z, rowL F lo (a + b) z ↔ catL (rowL F lo a) (rowL F (lo + a) b) z
  | 0, z => catL_nil.symm
  | b + 1, z => by
    show catL (rowL F lo (a + b)) (F (lo + (a + b))) z ↔ catL (rowL F lo a) (catL (rowL F (lo + a) b) (F (lo + a + b))) z
    rw [← Nat.add_assoc]
    constructor
    · rintro ⟨x, y, hx, hy, rfl⟩
      obtain ⟨u, v, hu, hv, rfl⟩ := (rowL_add F lo a b x).1 hx
      exact ⟨u, v ++ y, hu, ⟨v, y, hv, hy, rfl⟩, by rw [List.append_assoc]⟩
    · rintro ⟨u, _, hu, ⟨v, y, hv, hy, rfl⟩, rfl⟩
      exact ⟨u ++ v, y, (rowL_add F lo a b _).2 ⟨u, v, hu, hv, rfl⟩, hy, by rw [List.append_assoc]⟩
theorem Rp.row {F : Nat → Sto} {G : Nat → Lng} : ∀ f lo n, n ≤ f → 1 ≤ n → (∀ q, lo ≤ q → q < lo + n → Rp (F q) (G q)) → Rp (rowH F f lo n) (rowL G lo n)
  | 0, _, _, h, h', _ => by omega
  | f + 1, lo, n, hf, h1, h => by
    unfold rowH
    split
    · rename_i e
      subst e
      exact (h lo (by omega) (by omega)).imp (fun z => nil_catL.symm)
    · have := (Rp.row f lo (n / 2) (by omega) (by omega) (fun q a b => h q a (by omega))).jn (Rp.row f (lo + n / 2) (n - n / 2) (by omega) (by omega) (fun q a b => h q (by omega) (by omega)))
      refine this.imp (fun z => ?_)
      have e := rowL_add G lo (n / 2) (n - n / 2) z
      rw [show n / 2 + (n - n / 2) = n by omega] at e
      exact e.symm
theorem Rp.pow {k : Sto} {P : Lng} (h : Rp k P) : ∀ n, Rp (powS k n) (powL P n)
  | 0 => (Rp.one ⟨#[]⟩).imp (fun _ => Iff.rfl)
  | n + 1 => (Rp.pow h n).jn h
theorem Rp.pows {k : Sto} {P : Lng} (h : Rp k P) (a : Nat) : ∀ n, Rp (powsS k a n) (fun z => ∃ d, d ≤ n ∧ powL P (a + d) z)
  | 0 => (Rp.all nil_ok Rp.nil (h.pow a)).imp (fun z => by
    constructor
    · rintro (e | e)
      · exact e.elim
      · exact ⟨0, Nat.le_refl _, e⟩
    · rintro ⟨d, hd, e⟩
      have : d = 0 := by omega
      subst this
      exact .inr e)
  | n + 1 => by
    refine ((Rp.pows h a n).all (powsS_ok k a n) (h.pow (a + n + 1))).imp (fun z => ?_)
    constructor
    · rintro (⟨d, hd, e⟩ | e)
      · exact ⟨d, by omega, e⟩
      · exact ⟨n + 1, by omega, e⟩
    · rintro ⟨d, hd, e⟩
      by_cases q : d = n + 1
      · subst q; exact .inr e
      · exact .inl ⟨d, by omega, e⟩
theorem powL_eps {P : Lng} (h : ∀ z, P z → z = []) : ∀ n z, powL P n z → z = []
  | 0, z, e => e
  | n + 1, z, ⟨x, y, hx, hy, e⟩ => by rw [e, powL_eps h n x hx, h y hy]; rfl
theorem powL_some {P : Lng} (h : P []) : ∀ n, powL P n []
  | 0 => rfl
  | n + 1 => ⟨[], [], powL_some h n, h, rfl⟩
theorem Rp.rep {k : Sto} {P : Lng} (h : Rp k P) (mn mx : Int) (h0 : 0 ≤ mn) (hx : mx = -1 ∨ mn ≤ mx) : Rp (repS k mn mx) (fun z => ∃ n : Nat, mn ≤ n ∧ (mx = -1 ∨ (n : Int) ≤ mx) ∧ powL P n z) := by
  unfold repS
  split
  · rename_i e
    refine (Rp.one ⟨#[]⟩).imp (fun z => ⟨fun e' => ⟨0, by omega, .inr (by omega), e'⟩, fun ⟨n, h1, h2, h3⟩ => ?_⟩)
    have : n = 0 := by omega
    subst this
    exact h3
  split
  · rename_i hz hg
    -- the kid has the empty text or nothing
    have hk : k = some [] ∨ k = some [⟨#[]⟩] := by
      unfold grwS at hg
      split at hg
      · cases hg
      · exact .inl rfl
      · rename_i x
        refine .inr ?_
        have h1 : x.toList = (⟨#[]⟩ : ByteArray).toList := by simpa using hg
        have h2 := toList_eq x ⟨#[]⟩
        rw [h1] at h2
        have h3 : decide (x = ⟨#[]⟩) = true := by rw [← h2]; simp
        rw [of_decide_eq_true h3]
      · cases hg
    have hP : ∀ z, P z → z = [] := fun z hz => by
      rcases hk with e | e
      · have := (h _ e ⟨z.toArray⟩).2 (by simpa using hz)
        cases this
      · have := (h _ e ⟨z.toArray⟩).2 (by simpa using hz)
        rw [List.mem_singleton] at this
        have := congrArg (fun b : ByteArray => b.data.toList) this
        simpa using this
    split
    · rename_i hm
      refine (Rp.one ⟨#[]⟩).imp (fun z => ⟨fun e => ⟨0, by omega, by omega, e⟩, fun ⟨n, h1, h2, h3⟩ => powL_eps hP n z h3⟩)
    · rename_i hm
      refine h.imp (fun z => ⟨fun e => ⟨mn.toNat, by omega, by omega, ?_⟩, fun ⟨n, h1, h2, h3⟩ => ?_⟩)
      · have := hP z e
        subst this
        exact powL_some e _
      · have := powL_eps hP n z h3
        subst this
        obtain ⟨n', rfl⟩ : ∃ n', n = n' + 1 := ⟨n - 1, by omega⟩
        obtain ⟨x, y, _, hy, e⟩ := h3
        have := hP y hy
        subst this
        exact hy
  split
  · exact Rp.none _
  · rename_i h1 h2 h3
    refine (h.pows mn.toNat (mx - mn).toNat).imp (fun z => ⟨fun ⟨d, hd, e⟩ => ⟨mn.toNat + d, by omega, by omega, e⟩, fun ⟨n, a1, a2, a3⟩ => ⟨n - mn.toNat, by omega, ?_⟩⟩)
    rw [show mn.toNat + (n - mn.toNat) = n by omega]
    exact a3
theorem in_one {r a : Int} : inR r [(a, a)] ↔ r = a := by
  unfold inR
  simp
  omega
theorem in_rs {r : Int} {d : Nd} : inR r (rsL d) ↔ ∃ j, j < d.rn ∧ (d.rf j).1 ≤ r ∧ r ≤ (d.rf j).2 := by
  unfold inR rsL
  constructor
  · rintro ⟨x, hx, h1⟩
    obtain ⟨j, hj, rfl⟩ := List.mem_map.1 hx
    exact ⟨j, List.mem_range.1 hj, h1⟩
  · rintro ⟨j, hj, h1⟩
    exact ⟨_, List.mem_map.2 ⟨j, List.mem_range.2 hj, rfl⟩, h1⟩
theorem wrd_lb : ∀ (m : Nat) (t : Tr), WF m t → askF m t = false → Rp (wrdF m t) (Lb m t)
  | 0, _, h, _ => by cases h
  | m + 1, t, hw, ha => by
    obtain ⟨⟨hnd, _⟩, _, hk⟩ := hw
    obtain ⟨h8, hak⟩ := ask_kid ha
    have hkd := ndB_kind hnd
    have ih : ∀ q, q < (t []).kn → Rp (wrdF m (kid t q)) (Lb m (kid t q)) := fun q hq => wrd_lb m (kid t q) (hk q hq) (hak q hq)
    have eL : ∀ z, Lb (m + 1) t z ↔ if (t []).kind = 2 then runL [((t []).r, (t []).r)] z
      else if (t []).kind = 3 then runL (rsL (t [])) z
      else if (t []).kind = 4 then rowL (fun q => Lb m (kid t q)) 0 (t []).kn z
      else if (t []).kind = 5 then ∃ q, q < (t []).kn ∧ Lb m (kid t q) z
      else if (t []).kind = 6 then ∃ n : Nat, (t []).mn ≤ n ∧ ((t []).mx = -1 ∨ (n : Int) ≤ (t []).mx) ∧ powL (Lb m (kid t 0)) n z
      else if (t []).kind = 7 then Lb m (kid t 0) z
      else z = [] := fun z => Iff.rfl
    refine Rp.imp ?_ (fun z => (eL z).symm)
    unfold wrdF
    by_cases k1 : (t []).kind = 1
    · rw [if_pos k1]
      refine (Rp.one ⟨#[]⟩).imp (fun z => ?_)
      rw [if_neg (by omega), if_neg (by omega), if_neg (by omega), if_neg (by omega), if_neg (by omega), if_neg (by omega)]
    rw [if_neg k1]
    by_cases k2 : (t []).kind = 2
    · simp only [if_pos k2]
      refine (Rp.rng nil_ok Rp.nil _ 1).imp (fun z => ?_)
      unfold runL
      constructor
      · rintro (e | ⟨i, hi, h1, h2⟩)
        · exact e.elim
        · have : i = 0 := by omega
          subst this
          simp at h1 h2
          exact ⟨_, h1, in_one.2 rfl, h2⟩
      · rintro ⟨r, h1, h2, h3⟩
        rw [in_one] at h2
        subst h2
        exact .inr ⟨0, by omega, by simpa using h1, by simpa using h3⟩
    simp only [if_neg k2]
    by_cases k3 : (t []).kind = 3
    · simp only [if_pos k3]
      refine (Rp.cls _ _ (fun j hj => (ssB_at (ndB_cls hnd k3) j hj).2.1)).imp (fun z => ?_)
      unfold runL
      simp only [in_rs]
    simp only [if_neg k3]
    by_cases k4 : (t []).kind = 4
    · simp only [if_pos k4]
      have := ndB_row hnd (.inl k4)
      exact Rp.row _ 0 _ (Nat.le_refl _) (by omega) (fun q _ hq => ih q (by omega))
    simp only [if_neg k4]
    by_cases k5 : (t []).kind = 5
    · simp only [if_pos k5]
      exact Rp.alt _ ih
    simp only [if_neg k5]
    by_cases k6 : (t []).kind = 6
    · simp only [if_pos k6]
      obtain ⟨a0, a1, a2, a3⟩ := ndB_rep hnd k6
      exact (ih 0 (by omega)).rep _ _ a1 (by omega)
    simp only [if_neg k6]
    by_cases k7 : (t []).kind = 7
    · simp only [if_pos k7]
      have h1 := ndB_grp hnd k7
      exact ih 0 (by omega)
    · omega
/-- What Words lists: just what the tree takes, and all of it well formed. -/
theorem wds_mn {t : Tr} {L : List ByteArray} (h : wdsF t = some L) : (0 < sizF t ∧ sizF t ≤ 10000) ∧ Srt L ∧ L.length ≤ 64 ∧ ∀ x : ByteArray, (x ∈ L ↔ Mn x 8195 t 0 x.size) ∧ (x ∈ L → gdF x (x.size + 1) 0) := by
  have hok := wdsF_ok t L h
  unfold wdsF at h
  split at h
  · rename_i hz
    split at h
    · cases h
    · rename_i ha
      have ha' : askF 8195 t = false := by simpa using ha
      obtain ⟨hk, _, _⟩ := sizF_ok (t := t) (by omega) hz.2
      have hw := WF_ok hk
      have hR := wrd_lb 8195 t hw ha' L h
      refine ⟨hz, hok.1, hok.2, fun x => ⟨(hR x).trans (mn_whole hw ha').symm, fun hx => (Lb.wel 8195 t hw _ ((hR x).1 hx)).gd _⟩⟩
  · cases h
end Go.Proofs.Ytbciclnffokjjaa
/- The tree ab; lit. -/
namespace Go.Proofs.Ytbciclnffokjjaa
open Go.RowKit Go.Lib

def ltN (c : Int) : Nd := ⟨2, c, none, 0, 0, fun _ => (0, 0), 0, 0, false, 0, ⟨#[]⟩, none, 0, 0⟩
def ctN (g : Nat) : Nd := ⟨4, 0, none, 0, 0, fun _ => (0, 0), 0, 0, false, 0, ⟨#[]⟩, some ⟨g, 0, none⟩, 2, 2⟩
def ltT (c : Int) : Tr := topT (ltN c) (fun _ _ => nd0)
def ctT (g : Nat) : Tr := topT (ctN g) (fun j => if j = 0 then ltT 97 else ltT 98)
theorem ltT_root (c : Int) : ltT c [] = ltN c := rfl
theorem ctT_root (g : Nat) : ctT g [] = ctN g := rfl
theorem ctT_kid0 (g : Nat) : kid (ctT g) 0 = ltT 97 := rfl
theorem ctT_kid1 (g : Nat) : kid (ctT g) 1 = ltT 98 := rfl
theorem ltN_ok (c : Int) (h : c = 97 ∨ c = 98) : ndB (ltN c) = true := by
  rcases h with rfl | rfl
  · kernel_rfl
  · kernel_rfl
theorem vd_lt (m : Nat) (c op : Int) (s : St) (hc : c = 97 ∨ c = 98) (h : s.k + 1 ≤ 8194) (ho : op ≤ 250) : vd (m + 1) (ltT c) op s = some { s with k := s.k + 1 } := by
  unfold vd
  rw [ltT_root, if_neg (by
    rintro (h1 | h1 | h1)
    · omega
    · omega
    · rw [ltN_ok c hc] at h1; cases h1)]
  rfl
theorem ctN_ok (g : Nat) : ndB (ctN g) = true := by
  have e : ndB (ctN 0) = true := by kernel_rfl
  exact e
theorem vd_ct (g : Nat) : vd 8195 (ctT g) 0 s0 = some { s0 with k := 3 } := by
  show vd (8194 + 1) (ctT g) 0 s0 = _
  unfold vd
  rw [ctT_root, if_neg (by
    rintro (h1 | h1 | h1)
    · exact absurd h1 (by decide)
    · exact absurd h1 (by decide)
    · rw [ctN_ok] at h1; cases h1)]
  have e1 : mid (ctN g) { s0 with k := s0.k + 1 } = some { s0 with k := 1 } := rfl
  rw [e1]
  show vds (vd 8194) (ctT g) (if (ctN g).kind = 7 then 0 + 1 else 0) 2 { s0 with k := 1 } = _
  rw [if_neg (by show ¬ (4 : Int) = 7; decide)]
  have e2 : vds (vd 8194) (ctT g) 0 2 { s0 with k := 1 } = (vd 8194 (ltT 97) (if brB (ctT g []).kind (ctT g [0]).kind = true then 0 + 1 else 0) { s0 with k := 1 }).bind fun s' => vd 8194 (ltT 98) (if brB (ctT g []).kind (ctT g [1]).kind = true then 0 + 1 else 0) s' := rfl
  rw [e2]
  have e3 : brB (ctT g []).kind (ctT g [0]).kind = false := by show brB 4 2 = false; decide
  have e4 : brB (ctT g []).kind (ctT g [1]).kind = false := by show brB 4 2 = false; decide
  rw [e3, e4]
  have e5 := vd_lt 8193 97 0 { s0 with k := 1 } (.inl rfl) (by decide) (by decide)
  have e6 := vd_lt 8193 98 0 { s0 with k := 2 } (.inr rfl) (by decide) (by decide)
  show (vd 8194 (ltT 97) 0 { s0 with k := 1 }).bind (fun s' => vd 8194 (ltT 98) 0 s') = _
  rw [show vd 8194 (ltT 97) 0 { s0 with k := 1 } = some { s0 with k := 2 } from e5]
  exact e6
theorem ok_ct (g : Nat) : okT (ctT g) = true := by
  unfold okT svd
  rw [vd_ct]
  rfl
theorem len_lt (m : Nat) (c : Int) : lenF (m + 1) (ltT c) = 1 := by
  unfold lenF
  rw [ltT_root]
  have : lenK (ltN c) (sumN (fun j => lenF m (kid (ltT c) j)) (ltN c).kn) = 1 := by
    unfold lenK
    rw [if_neg (by show ¬ ((2 : Int) = 1 ∨ (2 : Int) = 4); decide), if_neg (by show ¬ (2 : Int) = 5; decide), if_neg (by show ¬ (2 : Int) = 7; decide), if_neg (by show ¬ (2 : Int) = 6; decide)]
  rw [this]
  decide
theorem len_ct (g : Nat) : lenF 8195 (ctT g) = 2 := by
  show lenF (8194 + 1) (ctT g) = 2
  unfold lenF
  rw [ctT_root]
  have e : sumN (fun j => lenF 8194 (kid (ctT g) j)) (ctN g).kn = 2 := by
    show (0 + lenF 8194 (kid (ctT g) 0)) + lenF 8194 (kid (ctT g) 1) = 2
    rw [ctT_kid0, ctT_kid1, len_lt 8193, len_lt 8193]
    rfl
  rw [e]
  have e2 : lenK (ctN g) 2 = 2 := by
    unfold lenK
    rw [if_pos (by show ((4 : Int) = 1 ∨ (4 : Int) = 4); decide)]
  rw [e2]
  decide
theorem siz_ct (g : Nat) : sizF (ctT g) = 3 := by
  unfold sizF
  rw [if_pos (ok_ct g), len_ct]
  decide
theorem ask_lt (m : Nat) (c : Int) : askF (m + 1) (ltT c) = false := rfl
theorem ask_two {m : Nat} {t : Tr} (h : (t []).kind = 4) (hn : (t []).kn = 2) (h0 : askF m (kid t 0) = false) (h1 : askF m (kid t 1) = false) : askF (m + 1) t = false := by
  unfold askF
  rw [hn, h]
  unfold anyN anyN anyN
  rw [h0, h1]
  decide
theorem ask_ct (g : Nat) : askF 8195 (ctT g) = false := ask_two (m := 8194) rfl rfl (by rw [ctT_kid0]; exact ask_lt 8193 97) (by rw [ctT_kid1]; exact ask_lt 8193 98)
theorem row_two (F : Nat → Sto) : rowH F 2 0 2 = jnS (F 0) (F 1) := by
  unfold rowH
  rw [if_neg (by decide)]
  unfold rowH
  rw [if_pos (by decide), if_pos (by decide)]
theorem wrd_97 (m : Nat) : wrdF (m + 1) (ltT 97) = some [⟨#[97]⟩] := by
  unfold wrdF
  rw [ltT_root, if_neg (by show ¬ (2 : Int) = 1; decide), if_pos (by rfl)]
  show rngS (some []) 97 1 = _
  decide
theorem wrd_98 (m : Nat) : wrdF (m + 1) (ltT 98) = some [⟨#[98]⟩] := by
  unfold wrdF
  rw [ltT_root, if_neg (by show ¬ (2 : Int) = 1; decide), if_pos (by rfl)]
  show rngS (some []) 98 1 = _
  decide
theorem wds_ct (g : Nat) : wdsF (ctT g) = some [⟨#[97, 98]⟩] := by
  unfold wdsF
  rw [siz_ct, if_pos (by decide), ask_ct, if_neg (by decide)]
  show wrdF (8194 + 1) (ctT g) = _
  unfold wrdF
  rw [ctT_root, if_neg (by show ¬ (4 : Int) = 1; decide), if_neg (by show ¬ (4 : Int) = 2; decide), if_neg (by show ¬ (4 : Int) = 3; decide), if_pos (by rfl)]
  have e : rowH (fun q => wrdF 8194 (kid (ctT g) q)) (ctN g).kn 0 (ctN g).kn = jnS (wrdF 8194 (kid (ctT g) 0)) (wrdF 8194 (kid (ctT g) 1)) := row_two _
  rw [e, ctT_kid0, ctT_kid1, show wrdF 8194 (ltT 97) = _ from wrd_97 8193, show wrdF 8194 (ltT 98) = _ from wrd_98 8193]
  decide
theorem lt_at (B : Nat) (W : World) (c : Int) : Tat B W (ltT c) :=
  topT_at ⟨by show 0 * 8 ≤ 140737488351232; decide, by show 0 * 8 ≤ 140737488351232; decide, by show (0 : Nat) ≤ 140737488351232; decide, by show 0 ≤ 0; decide⟩ (.inl rfl) (.inl rfl) (fun j hj => absurd hj (Nat.not_lt_zero _))
theorem ct_at {B g : Nat} {W : World} (hg : g < B) (h : Cs W g 0 (ltN 97)) (h' : Cs W g 9 (ltN 98)) : Tat B W (ctT g) :=
  topT_at ⟨by show 0 * 8 ≤ 140737488351232; decide, by show 2 * 8 ≤ 140737488351232; decide, by show (0 : Nat) ≤ 140737488351232; decide, by show 2 ≤ 2; decide⟩ (.inl rfl) (.inr ⟨g, 0, rfl, hg, fun j hj => by
    have h2 : j < 2 := hj
    by_cases e : j = 0
    · subst e; exact h
    · have : j = 1 := by omega
      subst this; exact h'⟩) (fun j hj => by
    have h2 : j < 2 := hj
    by_cases e : j = 0
    · subst e; exact lt_at B W 97
    · have : j = 1 := by omega
      subst this; exact lt_at B W 98)
/-- Two nodes side by side. -/
abbrev twX (a b : Int) : Obj := .cells #[.int .i64 2, .int .i32 a, .slice none 0 0, .int .i64 0, .int .i64 0, .bool false, .int .i64 0, .string ⟨#[]⟩, .slice none 0 0, .int .i64 2, .int .i32 b, .slice none 0 0, .int .i64 0, .int .i64 0, .bool false, .int .i64 0, .string ⟨#[]⟩, .slice none 0 0] 33
theorem twX_cells {w : World} (a b : Int) : Cs (w.alloc (twX a b)) w.heap.size 0 (ltN a) ∧ Cs (w.alloc (twX a b)) w.heap.size 9 (ltN b) := by
  have e : (w.alloc (twX a b)).heap[w.heap.size]? = some (twX a b) := heap_alloc_new w _
  constructor
  · constructor <;> (unfold World.cell?; rw [e]; rfl)
  · constructor <;> (unfold World.cell?; rw [e]; rfl)

set_option maxHeartbeats 1000000 in
set_option maxRecDepth 100000 in
theorem lit_any (c : Int) (w : World) : Calls Try.prog 11 #[.int .i32 c] w fun e w' => e = .returned (ndV (ltN c)) ∧ Below w.heap.size w w' := by
  go_enter Try.func11, Try.ntmps11
  go_wp2
  have hc := ndX_cells (w := w) (ltN c) (W := w.alloc (ndX (ltN c))) (Below.refl _ _)
  obtain ⟨q0, q1, q2, q3, q4, q5, q6, q7, q8⟩ := hc
  simp only [Nat.zero_add, ltN, ndX, rxX] at q0 q1 q2 q3 q4 q5 q6 q7 q8
  refine bodyPost_ret (v := ndV (ltN c)) (by simp [results, Try.results11, go_sem, q0, q1, q2, q3, q4, q5, q6, q7, q8, ltN]) rfl ⟨rfl, (Below.refl _ _).alloc (Nat.le_refl _) _⟩
end Go.Proofs.Ytbciclnffokjjaa
