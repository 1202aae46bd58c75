/- A bundle of texts. -/
import Derived.Test.YtbciclnffokjjaaGreatDoorBt25
/- The texts that the program reckons are those of the language. -/
namespace Go.Proofs.YtbciclnffokjjaaGreatDoor
open Go.RowKit Go.Lib

def Rp (r : Sto) (P : Lng) : Prop := ∀ L, r = some L → ∀ x : ByteArray, x ∈ L ↔ P x.data.toList
theorem Rp.imp {r : Sto} {P Q : Lng} (h : Rp r P) (e : ∀ z, P z ↔ Q z) : Rp r Q := fun L hL x => (h L hL x).trans (e _)
theorem Rp.none (P : Lng) : Rp none P := fun L e => by cases e
theorem Rp.nil : Rp (some []) (fun _ => False) := fun L e x => by cases e; simp
theorem Rp.one (y : ByteArray) : Rp (some [y]) (fun z => z = y.data.toList) := fun L e x => by
  cases e
  rw [List.mem_singleton]
  exact ⟨fun h => by rw [h], fun h => ba_ext h⟩
theorem Rp.add {r : Sto} {P : Lng} (hr : r.ok) (h : Rp r P) (y : ByteArray) : Rp (addS r y) (fun z => z = y.data.toList ∨ P z) := fun L e x => by
  obtain ⟨K, hK, hm⟩ := addS_mem hr e
  rw [hm, h K hK]
  constructor
  · rintro (h | h)
    · exact .inl (by rw [h])
    · exact .inr h
  · rintro (h | h)
    · exact .inl (ba_ext h)
    · exact .inr h
theorem Rp.adds : ∀ (M : List ByteArray) {r : Sto} {P : Lng}, r.ok → Rp r P → Rp (addsS r M) (fun z => P z ∨ ∃ y ∈ M, z = y.data.toList)
  | [], r, P, _, h => h.imp (fun z => by simp)
  | y :: M, r, P, hr, h => by
    refine (Rp.adds M (addS_ok hr y) (h.add hr y)).imp (fun z => ?_)
    simp only [List.mem_cons, exists_eq_or_imp]
    constructor
    · rintro ((h | h) | h)
      · exact .inr (.inl h)
      · exact .inl h
      · exact .inr (.inr h)
    · rintro (h | h | h)
      · exact .inl (.inr h)
      · exact .inl (.inl h)
      · exact .inr h
theorem Rp.all {r rr : Sto} {P Q : Lng} (hr : r.ok) (h : Rp r P) (h' : Rp rr Q) : Rp (allS r rr) (fun z => P z ∨ Q z) := by
  cases rr with
  | none => exact Rp.none _
  | some M =>
    refine (Rp.adds M hr h).imp (fun z => or_congr Iff.rfl ?_)
    constructor
    · rintro ⟨y, hy, rfl⟩; exact (h' M rfl y).1 hy
    · intro hz; exact ⟨⟨z.toArray⟩, (h' M rfl _).2 (by simpa using hz), by simp⟩
theorem nonS_iff {r : Sto} : nonS r = true ↔ r = some [] := by
  unfold nonS
  split <;> simp_all
theorem Rp.jn {a b : Sto} {P Q : Lng} (h : Rp a P) (h' : Rp b Q) : Rp (jnS a b) (catL P Q) := by
  unfold jnS
  split
  · rename_i hn
    refine Rp.nil.imp (fun z => ⟨fun h => h.elim, fun ⟨x, y, hx, hy, _⟩ => ?_⟩)
    rcases hn with hn | hn
    · have := (h [] (nonS_iff.1 hn) ⟨x.toArray⟩).2 (by simpa using hx)
      cases this
    · have := (h' [] (nonS_iff.1 hn) ⟨y.toArray⟩).2 (by simpa using hy)
      cases this
  · cases a with
    | none => exact Rp.none _
    | some L =>
      cases b with
      | none => exact Rp.none _
      | some M =>
        refine (Rp.adds (prdL L M) nil_ok Rp.nil).imp (fun z => ?_)
        constructor
        · rintro (h0 | ⟨y, hy, rfl⟩)
          · exact h0.elim
          · unfold prdL at hy
            obtain ⟨u, hu, hy⟩ := List.mem_flatMap.1 hy
            obtain ⟨v, hv, rfl⟩ := List.mem_map.1 hy
            exact ⟨_, _, (h L rfl u).1 hu, (h' M rfl v).1 hv, app_list u v⟩
        · rintro ⟨x, y, hx, hy, rfl⟩
          refine .inr ⟨⟨x.toArray⟩ ++ ⟨y.toArray⟩, ?_, by rw [app_list]⟩
          unfold prdL
          exact List.mem_flatMap.2 ⟨⟨x.toArray⟩, (h L rfl _).2 (by simpa using hx), List.mem_map.2 ⟨⟨y.toArray⟩, (h' M rfl _).2 (by simpa using hy), rfl⟩⟩
theorem Rp.rng {r : Sto} {P : Lng} (hr : r.ok) (h : Rp r P) (lo : Int) : ∀ k, Rp (rngS r lo k) (fun z => P z ∨ ∃ i, i < k ∧ isRune (lo + (i : Nat)) = true ∧ z = (Utf8.encode (lo + (i : Nat))).data.toList)
  | 0 => h.imp (fun z => by simp)
  | k + 1 => by
    have ih := Rp.rng hr h lo k
    unfold rngS
    split
    · rename_i hv
      rw [valid_iff] at hv
      refine (ih.add (rngS_ok hr lo k) _).imp (fun z => ?_)
      constructor
      · rintro (e | e | ⟨i, hi, e⟩)
        · exact .inr ⟨k, by omega, hv, e⟩
        · exact .inl e
        · exact .inr ⟨i, by omega, e⟩
      · rintro (e | ⟨i, hi, e⟩)
        · exact .inr (.inl e)
        · by_cases hk : i = k
          · subst hk; exact .inl e.2
          · exact .inr (.inr ⟨i, by omega, e⟩)
    · rename_i hv
      rw [valid_iff] at hv
      refine ih.imp (fun z => or_congr Iff.rfl ?_)
      constructor
      · rintro ⟨i, hi, e⟩; exact ⟨i, by omega, e⟩
      · rintro ⟨i, hi, e⟩
        by_cases hk : i = k
        · subst hk; exact absurd e.1 hv
        · exact ⟨i, by omega, e⟩
theorem Rp.cls (f : Nat → Rg) : ∀ n, (∀ j, j < n → (f j).1 ≤ (f j).2) → Rp (clsS (some []) f n) (fun z => ∃ r, isRune r = true ∧ (∃ j, j < n ∧ (f j).1 ≤ r ∧ r ≤ (f j).2) ∧ z = (Utf8.encode r).data.toList)
  | 0, _ => Rp.nil.imp (fun z => by simp)
  | n + 1, h => by
    refine ((Rp.cls f n (fun j hj => h j (by omega))).rng (clsS_ok f n) _ _).imp (fun z => ?_)
    have hn := h n (by omega)
    constructor
    · rintro (⟨r, h1, ⟨j, hj, h2⟩, h3⟩ | ⟨i, hi, h1, h2⟩)
      · exact ⟨r, h1, ⟨j, by omega, h2⟩, h3⟩
      · exact ⟨_, h1, ⟨n, by omega, by omega, by omega⟩, h2⟩
    · rintro ⟨r, h1, ⟨j, hj, h2, h2'⟩, h3⟩
      by_cases hjn : j = n
      · subst hjn
        refine .inr ⟨(r - (f j).1).toNat, by omega, ?_, ?_⟩
        · rw [show (f j).1 + ((r - (f j).1).toNat : Int) = r by omega]; exact h1
        · rw [show (f j).1 + ((r - (f j).1).toNat : Int) = r by omega]; exact h3
      · exact .inl ⟨r, h1, ⟨j, by omega, h2, h2'⟩, h3⟩
theorem Rp.alt {F : Nat → Sto} {G : Nat → Lng} : ∀ n, (∀ q, q < n → Rp (F q) (G q)) → Rp (altS F n) (fun z => ∃ q, q < n ∧ G q z)
  | 0, _ => Rp.nil.imp (fun z => by simp)
  | n + 1, h => by
    refine ((Rp.alt n (fun q hq => h q (by omega))).all (altS_ok F n) (h n (by omega))).imp (fun z => ?_)
    constructor
    · rintro (⟨q, hq, h⟩ | h)
      · exact ⟨q, by omega, h⟩
      · exact ⟨n, by omega, h⟩
    · rintro ⟨q, hq, hz⟩
      by_cases e : q = n
      · subst e; exact .inr hz
      · exact .inl ⟨q, by omega, hz⟩
theorem catL_nil {P : Lng} {z : List UInt8} : catL P (fun z => z = []) z ↔ P z := by
  constructor
  · rintro ⟨x, y, hx, rfl, rfl⟩; rwa [List.append_nil]
  · intro h; exact ⟨z, [], h, rfl, by simp⟩
theorem nil_catL {P : Lng} {z : List UInt8} : catL (fun z => z = []) P z ↔ P z := by
  constructor
  · rintro ⟨x, y, rfl, hx, rfl⟩; exact hx
  · intro h; exact ⟨[], z, rfl, h, rfl⟩
theorem rowL_add (F : Nat → Lng) (lo a : Nat) : ∀ b z, rowL F lo (a + b) z ↔ catL (rowL F lo a) (rowL F (lo + a) b) z
  | 0, z => catL_nil.symm
  | b + 1, z => by
    show catL (rowL F lo (a + b)) (F (lo + (a + b))) z ↔ catL (rowL F lo a) (catL (rowL F (lo + a) b) (F (lo + a + b))) z
    rw [← Nat.add_assoc]
    constructor
    · rintro ⟨x, y, hx, hy, rfl⟩
      obtain ⟨u, v, hu, hv, rfl⟩ := (rowL_add F lo a b x).1 hx
      exact ⟨u, v ++ y, hu, ⟨v, y, hv, hy, rfl⟩, by rw [List.append_assoc]⟩
    · rintro ⟨u, _, hu, ⟨v, y, hv, hy, rfl⟩, rfl⟩
      exact ⟨u ++ v, y, (rowL_add F lo a b _).2 ⟨u, v, hu, hv, rfl⟩, hy, by rw [List.append_assoc]⟩
theorem Rp.row {F : Nat → Sto} {G : Nat → Lng} : ∀ f lo n, n ≤ f → 1 ≤ n → (∀ q, lo ≤ q → q < lo + n → Rp (F q) (G q)) → Rp (rowH F f lo n) (rowL G lo n)
  | 0, _, _, h, h', _ => by omega
  | f + 1, lo, n, hf, h1, h => by
    unfold rowH
    split
    · rename_i e
      subst e
      exact (h lo (by omega) (by omega)).imp (fun z => nil_catL.symm)
    · have := (Rp.row f lo (n / 2) (by omega) (by omega) (fun q a b => h q a (by omega))).jn (Rp.row f (lo + n / 2) (n - n / 2) (by omega) (by omega) (fun q a b => h q (by omega) (by omega)))
      refine this.imp (fun z => ?_)
      have e := rowL_add G lo (n / 2) (n - n / 2) z
      rw [show n / 2 + (n - n / 2) = n by omega] at e
      exact e.symm
theorem Rp.pow {k : Sto} {P : Lng} (h : Rp k P) : ∀ n, Rp (powS k n) (powL P n)
  | 0 => (Rp.one ⟨#[]⟩).imp (fun _ => Iff.rfl)
  | n + 1 => (Rp.pow h n).jn h
theorem Rp.pows {k : Sto} {P : Lng} (h : Rp k P) (a : Nat) : ∀ n, Rp (powsS k a n) (fun z => ∃ d, d ≤ n ∧ powL P (a + d) z)
  | 0 => (Rp.all nil_ok Rp.nil (h.pow a)).imp (fun z => by
    constructor
    · rintro (e | e)
      · exact e.elim
      · exact ⟨0, Nat.le_refl _, e⟩
    · rintro ⟨d, hd, e⟩
      have : d = 0 := by omega
      subst this
      exact .inr e)
  | n + 1 => by
    refine ((Rp.pows h a n).all (powsS_ok k a n) (h.pow (a + n + 1))).imp (fun z => ?_)
    constructor
    · rintro (⟨d, hd, e⟩ | e)
      · exact ⟨d, by omega, e⟩
      · exact ⟨n + 1, by omega, e⟩
    · rintro ⟨d, hd, e⟩
      by_cases q : d = n + 1
      · subst q; exact .inr e
      · exact .inl ⟨d, by omega, e⟩
theorem powL_eps {P : Lng} (h : ∀ z, P z → z = []) : ∀ n z, powL P n z → z = []
  | 0, z, e => e
  | n + 1, z, ⟨x, y, hx, hy, e⟩ => by rw [e, powL_eps h n x hx, h y hy]; rfl
theorem powL_some {P : Lng} (h : P []) : ∀ n, powL P n []
  | 0 => rfl
  | n + 1 => ⟨[], [], powL_some h n, h, rfl⟩
theorem Rp.rep {k : Sto} {P : Lng} (h : Rp k P) (mn mx : Int) (h0 : 0 ≤ mn) (hx : mx = -1 ∨ mn ≤ mx) : Rp (repS k mn mx) (fun z => ∃ n : Nat, mn ≤ n ∧ (mx = -1 ∨ (n : Int) ≤ mx) ∧ powL P n z) := by
  unfold repS
  split
  · rename_i e
    refine (Rp.one ⟨#[]⟩).imp (fun z => ⟨fun e' => ⟨0, by omega, .inr (by omega), e'⟩, fun ⟨n, h1, h2, h3⟩ => ?_⟩)
    have : n = 0 := by omega
    subst this
    exact h3
  split
  · rename_i hz hg
    -- the kid has the empty text or nothing
    have hk : k = some [] ∨ k = some [⟨#[]⟩] := by
      unfold grwS at hg
      split at hg
      · cases hg
      · exact .inl rfl
      · rename_i x
        refine .inr ?_
        have h1 : x.toList = (⟨#[]⟩ : ByteArray).toList := by simpa using hg
        have h2 := toList_eq x ⟨#[]⟩
        rw [h1] at h2
        have h3 : decide (x = ⟨#[]⟩) = true := by rw [← h2]; simp
        rw [of_decide_eq_true h3]
      · cases hg
    have hP : ∀ z, P z → z = [] := fun z hz => by
      rcases hk with e | e
      · have := (h _ e ⟨z.toArray⟩).2 (by simpa using hz)
        cases this
      · have := (h _ e ⟨z.toArray⟩).2 (by simpa using hz)
        rw [List.mem_singleton] at this
        have := congrArg (fun b : ByteArray => b.data.toList) this
        simpa using this
    split
    · rename_i hm
      refine (Rp.one ⟨#[]⟩).imp (fun z => ⟨fun e => ⟨0, by omega, by omega, e⟩, fun ⟨n, h1, h2, h3⟩ => powL_eps hP n z h3⟩)
    · rename_i hm
      refine h.imp (fun z => ⟨fun e => ⟨mn.toNat, by omega, by omega, ?_⟩, fun ⟨n, h1, h2, h3⟩ => ?_⟩)
      · have := hP z e
        subst this
        exact powL_some e _
      · have := powL_eps hP n z h3
        subst this
        obtain ⟨n', rfl⟩ : ∃ n', n = n' + 1 := ⟨n - 1, by omega⟩
        obtain ⟨x, y, _, hy, e⟩ := h3
        have := hP y hy
        subst this
        exact hy
  split
  · exact Rp.none _
  · rename_i h1 h2 h3
    refine (h.pows mn.toNat (mx - mn).toNat).imp (fun z => ⟨fun ⟨d, hd, e⟩ => ⟨mn.toNat + d, by omega, by omega, e⟩, fun ⟨n, a1, a2, a3⟩ => ⟨n - mn.toNat, by omega, ?_⟩⟩)
    rw [show mn.toNat + (n - mn.toNat) = n by omega]
    exact a3
theorem in_one {r a : Int} : inR r [(a, a)] ↔ r = a := by
  unfold inR
  simp
  omega
theorem in_rs {r : Int} {d : Nd} : inR r (rsL d) ↔ ∃ j, j < d.rn ∧ (d.rf j).1 ≤ r ∧ r ≤ (d.rf j).2 := by
  unfold inR rsL
  constructor
  · rintro ⟨x, hx, h1⟩
    obtain ⟨j, hj, rfl⟩ := List.mem_map.1 hx
    exact ⟨j, List.mem_range.1 hj, h1⟩
  · rintro ⟨j, hj, h1⟩
    exact ⟨_, List.mem_map.2 ⟨j, List.mem_range.2 hj, rfl⟩, h1⟩
theorem wrd_lb : ∀ (m : Nat) (t : Tr), WF m t → askF m t = false → Rp (wrdF m t) (Lb m t)
  | 0, _, h, _ => by cases h
  | m + 1, t, hw, ha => by
    obtain ⟨⟨hnd, _⟩, _, hk⟩ := hw
    obtain ⟨h8, hak⟩ := ask_kid ha
    have hkd := ndB_kind hnd
    have ih : ∀ q, q < (t []).kn → Rp (wrdF m (kid t q)) (Lb m (kid t q)) := fun q hq => wrd_lb m (kid t q) (hk q hq) (hak q hq)
    have eL : ∀ z, Lb (m + 1) t z ↔ if (t []).kind = 2 then runL [((t []).r, (t []).r)] z
      else if (t []).kind = 3 then runL (rsL (t [])) z
      else if (t []).kind = 4 then rowL (fun q => Lb m (kid t q)) 0 (t []).kn z
      else if (t []).kind = 5 then ∃ q, q < (t []).kn ∧ Lb m (kid t q) z
      else if (t []).kind = 6 then ∃ n : Nat, (t []).mn ≤ n ∧ ((t []).mx = -1 ∨ (n : Int) ≤ (t []).mx) ∧ powL (Lb m (kid t 0)) n z
      else if (t []).kind = 7 then Lb m (kid t 0) z
      else z = [] := fun z => Iff.rfl
    refine Rp.imp ?_ (fun z => (eL z).symm)
    unfold wrdF
    by_cases k1 : (t []).kind = 1
    · rw [if_pos k1]
      refine (Rp.one ⟨#[]⟩).imp (fun z => ?_)
      rw [if_neg (by omega), if_neg (by omega), if_neg (by omega), if_neg (by omega), if_neg (by omega), if_neg (by omega)]
    rw [if_neg k1]
    by_cases k2 : (t []).kind = 2
    · simp only [if_pos k2]
      refine (Rp.rng nil_ok Rp.nil _ 1).imp (fun z => ?_)
      unfold runL
      constructor
      · rintro (e | ⟨i, hi, h1, h2⟩)
        · exact e.elim
        · have : i = 0 := by omega
          subst this
          simp at h1 h2
          exact ⟨_, h1, in_one.2 rfl, h2⟩
      · rintro ⟨r, h1, h2, h3⟩
        rw [in_one] at h2
        subst h2
        exact .inr ⟨0, by omega, by simpa using h1, by simpa using h3⟩
    simp only [if_neg k2]
    by_cases k3 : (t []).kind = 3
    · simp only [if_pos k3]
      refine (Rp.cls _ _ (fun j hj => (ssB_at (ndB_cls hnd k3) j hj).2.1)).imp (fun z => ?_)
      unfold runL
      simp only [in_rs]
    simp only [if_neg k3]
    by_cases k4 : (t []).kind = 4
    · simp only [if_pos k4]
      have := ndB_row hnd (.inl k4)
      exact Rp.row _ 0 _ (Nat.le_refl _) (by omega) (fun q _ hq => ih q (by omega))
    simp only [if_neg k4]
    by_cases k5 : (t []).kind = 5
    · simp only [if_pos k5]
      exact Rp.alt _ ih
    simp only [if_neg k5]
    by_cases k6 : (t []).kind = 6
    · simp only [if_pos k6]
      obtain ⟨a0, a1, a2, a3⟩ := ndB_rep hnd k6
      exact (ih 0 (by omega)).rep _ _ a1 (by omega)
    simp only [if_neg k6]
    by_cases k7 : (t []).kind = 7
    · simp only [if_pos k7]
      have h1 := ndB_grp hnd k7
      exact ih 0 (by omega)
    · omega

end Go.Proofs.YtbciclnffokjjaaGreatDoor
/- Stocks are exact: one that is too many has more than 64 texts; so a stock is known by its language. -/
namespace Go.Proofs.YtbciclnffokjjaaGreatDoor
open Go.RowKit Go.Lib

/-- At least 65 texts are of the language. -/
def Mny (P : Lng) : Prop := ∃ M : List ByteArray, M.Nodup ∧ M.length = 65 ∧ ∀ x ∈ M, P x.data.toList
theorem Mny.imp {P Q : Lng} (h : Mny P) (e : ∀ z, P z → Q z) : Mny Q := by
  obtain ⟨M, h1, h2, h3⟩ := h
  exact ⟨M, h1, h2, fun x hx => e _ (h3 x hx)⟩
def Ex (r : Sto) (P : Lng) : Prop := Rp r P ∧ (r = none → Mny P)
theorem Ex.imp {r : Sto} {P Q : Lng} (h : Ex r P) (e : ∀ z, P z ↔ Q z) : Ex r Q := ⟨h.1.imp e, fun hn => (h.2 hn).imp (fun z hz => (e z).1 hz)⟩
theorem Srt.nodup {L : List ByteArray} (h : Srt L) : L.Nodup := h.imp (fun hxy e => by subst e; rw [tl_irr] at hxy; cases hxy)
theorem nodup_le : ∀ (M L : List ByteArray), M.Nodup → (∀ x ∈ M, x ∈ L) → M.length ≤ L.length
  | [], _, _, _ => Nat.zero_le _
  | x :: M, L, h, hs => by
    obtain ⟨h1, h2⟩ := List.nodup_cons.1 h
    have hx : x ∈ L := hs x (List.mem_cons_self ..)
    have hl : (L.filter (fun y => decide (y ≠ x))).length < L.length := List.length_filter_lt_length_iff_exists.2 ⟨x, hx, by simp⟩
    have := nodup_le M (L.filter (fun y => decide (y ≠ x))) h2 (fun y hy => List.mem_filter.2 ⟨hs y (List.mem_cons_of_mem _ hy), decide_eq_true (fun e => h1 (by rw [← e]; exact hy))⟩)
    rw [List.length_cons]
    omega
theorem srt_ext : ∀ {L K : List ByteArray}, Srt L → Srt K → (∀ x, x ∈ L ↔ x ∈ K) → L = K
  | [], [], _, _, _ => rfl
  | [], y :: K, _, _, h => absurd ((h y).2 (List.mem_cons_self ..)) (by simp)
  | x :: L, [], _, _, h => absurd ((h x).1 (List.mem_cons_self ..)) (by simp)
  | x :: L, y :: K, hL, hK, h => by
    obtain ⟨a1, a2⟩ := List.pairwise_cons.1 hL
    obtain ⟨b1, b2⟩ := List.pairwise_cons.1 hK
    have e : x = y := by
      rcases List.mem_cons.1 ((h x).1 (List.mem_cons_self ..)) with e | e
      · exact e
      · rcases List.mem_cons.1 ((h y).2 (List.mem_cons_self ..)) with e' | e'
        · exact e'.symm
        · have := tl_trans (b1 x e) (a1 y e')
          rw [tl_irr] at this
          cases this
    subst e
    have : L = K := srt_ext a2 b2 (fun z => by
      constructor
      · intro hz
        rcases List.mem_cons.1 ((h z).1 (List.mem_cons_of_mem _ hz)) with e | e
        · subst e; have := a1 z hz; rw [tl_irr] at this; cases this
        · exact e
      · intro hz
        rcases List.mem_cons.1 ((h z).2 (List.mem_cons_of_mem _ hz)) with e | e
        · subst e; have := b1 z hz; rw [tl_irr] at this; cases this
        · exact e)
    rw [this]
/-- A language has one stock. -/
theorem ex_uniq {r q : Sto} {P : Lng} (hr : r.ok) (hq : q.ok) (h : Ex r P) (k : Ex q P) : r = q := by
  have key : ∀ {L : List ByteArray}, Srt L ∧ L.length ≤ 64 → (∀ x : ByteArray, x ∈ L ↔ P x.data.toList) → ¬ Mny P := fun hL hm ⟨M, m1, m2, m3⟩ => by
    have := nodup_le M _ m1 (fun x hx => (hm x).2 (m3 x hx))
    omega
  cases r with
  | none =>
    cases q with
    | none => rfl
    | some K => exact absurd (h.2 rfl) (key (hq K rfl) (k.1 K rfl))
  | some L =>
    cases q with
    | none => exact absurd (k.2 rfl) (key (hr L rfl) (h.1 L rfl))
    | some K => rw [srt_ext (hr L rfl).1 (hq K rfl).1 (fun x => (h.1 L rfl x).trans (k.1 K rfl x).symm)]
theorem ex_add {r : Sto} {P : Lng} (hr : r.ok) (h : Ex r P) (y : ByteArray) : Ex (addS r y) (fun z => z = y.data.toList ∨ P z) := by
  refine ⟨h.1.add hr y, fun hn => ?_⟩
  cases r with
  | none => exact (h.2 rfl).imp (fun z hz => .inr hz)
  | some L =>
    obtain ⟨h1, h2⟩ := hr L rfl
    simp only [addS, Option.bind_some] at hn
    split at hn
    · cases hn
    · rename_i hy
      split at hn
      · rename_i hl
        refine ⟨y :: L, List.nodup_cons.2 ⟨fun e => hy ((ahd_mem h1).1 e), h1.nodup⟩, by rw [List.length_cons, hl], fun x hx => ?_⟩
        rcases List.mem_cons.1 hx with rfl | hx
        · exact .inl rfl
        · exact .inr ((h.1 L rfl x).1 hx)
      · cases hn
theorem ex_adds : ∀ (M : List ByteArray) {r : Sto} {P : Lng}, r.ok → Ex r P → Ex (addsS r M) (fun z => P z ∨ ∃ y ∈ M, z = y.data.toList)
  | [], r, P, _, h => h.imp (fun z => by simp)
  | y :: M, r, P, hr, h => by
    have := ex_adds M (addS_ok hr y) (ex_add hr h y)
    refine this.imp (fun z => ?_)
    constructor
    · rintro ((e | e) | ⟨x, hx, e⟩)
      · exact .inr ⟨y, List.mem_cons_self .., e⟩
      · exact .inl e
      · exact .inr ⟨x, List.mem_cons_of_mem _ hx, e⟩
    · rintro (e | ⟨x, hx, e⟩)
      · exact .inl (.inr e)
      · rcases List.mem_cons.1 hx with rfl | hx
        · exact .inl (.inl e)
        · exact .inr ⟨x, hx, e⟩
theorem ex_nil : Ex (some []) (fun _ => False) := ⟨Rp.nil, fun h => by cases h⟩
theorem ex_one (y : ByteArray) : Ex (some [y]) (fun z => z = y.data.toList) := ⟨Rp.one y, fun h => by cases h⟩
theorem Mny.some {P : Lng} (h : Mny P) : ∃ x : ByteArray, P x.data.toList := by
  obtain ⟨M, _, h2, h3⟩ := h
  cases M with
  | nil => cases h2
  | cons x M => exact ⟨x, h3 x (List.mem_cons_self ..)⟩
theorem Ex.some {r : Sto} {P : Lng} (h : Ex r P) (hn : nonS r ≠ true) : ∃ x : ByteArray, P x.data.toList := by
  cases r with
  | none => exact (h.2 rfl).some
  | some L =>
    cases L with
    | nil => exact absurd rfl hn
    | cons x L => exact ⟨x, (h.1 _ rfl x).1 (List.mem_cons_self ..)⟩
theorem map_nodup {f : ByteArray → ByteArray} (hf : ∀ x y, f x = f y → x = y) : ∀ {M : List ByteArray}, M.Nodup → (M.map f).Nodup
  | [], _ => List.nodup_nil
  | x :: M, h => by
    obtain ⟨h1, h2⟩ := List.nodup_cons.1 h
    rw [List.map_cons]
    refine List.nodup_cons.2 ⟨fun e => ?_, map_nodup hf h2⟩
    obtain ⟨y, hy, e'⟩ := List.mem_map.1 e
    exact h1 ((hf _ _ e') ▸ hy)
theorem Mny.left {P Q : Lng} (h : Mny P) {y : ByteArray} (hy : Q y.data.toList) : Mny (catL P Q) := by
  obtain ⟨M, h1, h2, h3⟩ := h
  refine ⟨M.map (fun x => x ++ y), map_nodup (fun a b e => ?_) h1, by simp [h2], fun z hz => ?_⟩
  · have := congrArg (fun x : ByteArray => x.data.toList) e
    rw [app_list, app_list] at this
    exact ba_ext (List.append_cancel_right this)
  · obtain ⟨x, hx, rfl⟩ := List.mem_map.1 hz
    exact ⟨_, _, h3 x hx, hy, app_list _ _⟩
theorem Mny.right {P Q : Lng} (h : Mny Q) {x : ByteArray} (hx : P x.data.toList) : Mny (catL P Q) := by
  obtain ⟨M, h1, h2, h3⟩ := h
  refine ⟨M.map (fun y => x ++ y), map_nodup (fun a b e => ?_) h1, by simp [h2], fun z hz => ?_⟩
  · have := congrArg (fun x : ByteArray => x.data.toList) e
    rw [app_list, app_list] at this
    exact ba_ext (List.append_cancel_left this)
  · obtain ⟨y, hy, rfl⟩ := List.mem_map.1 hz
    exact ⟨_, _, hx, h3 y hy, app_list _ _⟩
theorem ex_jn {a b : Sto} {P Q : Lng} (h : Ex a P) (k : Ex b Q) : Ex (jnS a b) (catL P Q) := by
  refine ⟨h.1.jn k.1, fun hn => ?_⟩
  unfold jnS at hn
  split at hn
  · cases hn
  · rename_i hne
    have na : nonS a ≠ true := fun e => hne (.inl e)
    have nb : nonS b ≠ true := fun e => hne (.inr e)
    cases a with
    | none =>
      obtain ⟨y, hy⟩ := k.some nb
      exact (h.2 rfl).left hy
    | some L =>
      cases b with
      | none =>
        obtain ⟨x, hx⟩ := h.some na
        exact (k.2 rfl).right hx
      | some M =>
        have e1 : addsS (some []) (prdL L M) = none := hn
        have e2 := (ex_adds (prdL L M) nil_ok ex_nil).2 e1
        refine e2.imp (fun z hz => ?_)
        rcases hz with hz | ⟨y, hy, rfl⟩
        · exact hz.elim
        · obtain ⟨u, hu, hy'⟩ := List.mem_flatMap.1 hy
          obtain ⟨v, hv, rfl⟩ := List.mem_map.1 hy'
          rw [app_list]
          exact ⟨_, _, (h.1 L rfl u).1 hu, (k.1 M rfl v).1 hv, rfl⟩
/-- The language of a stock. -/
def lgS : Sto → Lng
  | none => fun _ => True
  | some L => fun z => ∃ x ∈ L, z = x.data.toList
def nTx (n : Nat) : ByteArray := ⟨(List.replicate n (0 : UInt8)).toArray⟩
theorem ex_lg (r : Sto) : Ex r (lgS r) := by
  cases r with
  | some L => exact ⟨fun K e x => (by cases e; exact ⟨fun h => ⟨x, h, rfl⟩, fun ⟨y, hy, e⟩ => (by rw [ba_ext e]; exact hy)⟩), fun h => (by cases h)⟩
  | none =>
    refine ⟨fun K e => (by cases e), fun _ => ⟨(List.range 65).map nTx, ?_, by simp, fun _ _ => trivial⟩⟩
    have key : ∀ l : List Nat, l.Nodup → (l.map nTx).Nodup := by
      intro l
      induction l with
      | nil => intro _; exact List.nodup_nil
      | cons a l ih =>
        intro h
        obtain ⟨h1, h2⟩ := List.nodup_cons.1 h
        rw [List.map_cons]
        refine List.nodup_cons.2 ⟨fun e => ?_, ih h2⟩
        obtain ⟨y, hy, e'⟩ := List.mem_map.1 e
        have : y = a := by
          have := congrArg (fun x : ByteArray => x.data.toList.length) e'
          simpa [nTx] using this
        exact h1 (this ▸ hy)
    exact key _ List.nodup_range
theorem catL_assoc {P Q R : Lng} {z : List UInt8} : catL (catL P Q) R z ↔ catL P (catL Q R) z := by
  constructor
  · rintro ⟨_, c, ⟨a, b, ha, hb, rfl⟩, hc, rfl⟩
    exact ⟨a, b ++ c, ha, ⟨b, c, hb, hc, rfl⟩, by rw [List.append_assoc]⟩
  · rintro ⟨a, _, ha, ⟨b, c, hb, hc, rfl⟩, rfl⟩
    exact ⟨a ++ b, c, ⟨a, b, ha, hb, rfl⟩, hc, by rw [List.append_assoc]⟩
theorem jn_assoc (a b c : Sto) : jnS (jnS a b) c = jnS a (jnS b c) :=
  ex_uniq (jnS_ok _ _) (jnS_ok _ _) (ex_jn (ex_jn (ex_lg a) (ex_lg b)) (ex_lg c)) ((ex_jn (ex_lg a) (ex_jn (ex_lg b) (ex_lg c))).imp (fun _ => catL_assoc.symm))
theorem jn_unit {a : Sto} (h : a.ok) : jnS (some [⟨#[]⟩]) a = a :=
  ex_uniq (jnS_ok _ _) h (ex_jn (ex_one _) (ex_lg a)) ((ex_lg a).imp (fun _ => nil_catL.symm))
theorem jn_unit' {a : Sto} (h : a.ok) : jnS a (some [⟨#[]⟩]) = a :=
  ex_uniq (jnS_ok _ _) h (ex_jn (ex_lg a) (ex_one _)) ((ex_lg a).imp (fun _ => catL_nil.symm))
/-- A row, from the left. -/
def catS (F : Nat → Sto) (lo : Nat) : Nat → Sto
  | 0 => some [⟨#[]⟩]
  | n + 1 => jnS (catS F lo n) (F (lo + n))
theorem catS_ok (F : Nat → Sto) (lo : Nat) : ∀ n, (catS F lo n).ok
  | 0 => one_ok _
  | _ + 1 => jnS_ok _ _
theorem catS_add (F : Nat → Sto) (lo a : Nat) : ∀ b, catS F lo (a + b) = jnS (catS F lo a) (catS F (lo + a) b)
  | 0 => (jn_unit' (catS_ok F lo a)).symm
  | b + 1 => by
    show jnS (catS F lo (a + b)) (F (lo + (a + b))) = jnS (catS F lo a) (jnS (catS F (lo + a) b) (F (lo + a + b)))
    rw [catS_add F lo a b, jn_assoc, Nat.add_assoc]
theorem row_cat {F : Nat → Sto} (hF : ∀ q, (F q).ok) : ∀ f lo n, n ≤ f → 1 ≤ n → rowH F f lo n = catS F lo n
  | 0, _, _, h, h' => by omega
  | f + 1, lo, n, h, h' => by
    unfold rowH
    split
    · rename_i e
      subst e
      show F lo = jnS (some [⟨#[]⟩]) (F (lo + 0))
      rw [jn_unit (hF _), Nat.add_zero]
    · rename_i e
      rw [row_cat hF f lo (n / 2) (by omega) (by omega), row_cat hF f (lo + n / 2) (n - n / 2) (by omega) (by omega), ← catS_add]
      congr 1
      omega
/-- Put down anew, a stock is as it was. -/
theorem all_nil {r : Sto} (h : r.ok) : allS (some []) r = r := by
  cases r with
  | none => rfl
  | some L =>
    refine ex_uniq (addsS_ok nil_ok L) h (P := lgS (some L)) ((ex_adds L nil_ok ex_nil).imp (fun z => ?_)) (ex_lg _)
    simp [lgS]
end Go.Proofs.YtbciclnffokjjaaGreatDoor
