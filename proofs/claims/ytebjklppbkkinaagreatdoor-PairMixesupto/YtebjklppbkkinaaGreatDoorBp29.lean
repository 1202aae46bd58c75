/- A bundle of texts. -/
import Derived.Test.YtebjklppbkkinaaGreatDoorBp28
/- Pair: what comes out of an operator with a number, as mathematics; named. -/
namespace Go.Proofs.YtebjklppbkkinaaGreatDoor
open Go.RowKit Go.Lib Go.Shelf Go.Sort

attribute [local go_sem] Oper.semAt_some run_store_float

/-- What an element says, all NaN as one. -/
abbrev Kc := List Lb × Option Nat
def kc (e : El) : Kc := (K.ll e.f e.n, F.cl e.x)
def cfK (x y : Kc) : Int := cm (K.gL x.1) x.1.length (K.gL y.1) y.1.length
theorem cfE_kc (x y : El) : cfE x y = cfK (kc x) (kc y) := by
  unfold cfE cfK kc cm
  rw [ll_len, ll_len]
  exact cmF_cong (fun j hj => (gL_ll x.f x.n j hj).symm) (fun j hj => (gL_ll y.f y.n j hj).symm) x.n 0 (by omega)
theorem cfK_anti (x y : Kc) : cfK y x = - cfK x y := cm_anti _ _ _ _
/-- What is answered of elements that come out. -/
def DV (lo : List Kc) (E : Int) (l : List Kc) : Prop := (E = 6 ∧ l = [] ∧ ¬ lo.Pairwise (fun x y => cfK x y ≠ 0)) ∨ (E = 0 ∧ l.Perm lo ∧ l.Pairwise (fun x y => cfK x y < 0))
theorem DV.ne {lo l : List Kc} (hp : l.Perm lo) (h : l.Pairwise (fun x y => cfK x y < 0)) : lo.Pairwise (fun x y => cfK x y ≠ 0) :=
  (hp.pairwise_iff (fun {x y} h => by have := cfK_anti x y; omega)).1 (h.imp fun {x y} h => by omega)
theorem DV.uniq {lo l l' : List Kc} {E E' : Int} (h : DV lo E l) (h' : DV lo E' l') : E = E' ∧ l = l' := by
  rcases h with ⟨e, k, n⟩ | ⟨e, p, s⟩
  · rcases h' with ⟨e', k', _⟩ | ⟨_, p', s'⟩
    · exact ⟨e.trans e'.symm, k.trans k'.symm⟩
    · exact (n (DV.ne p' s')).elim
  · rcases h' with ⟨_, _, n'⟩ | ⟨e', p', s'⟩
    · exact (n' (DV.ne p s)).elim
    · exact ⟨e.trans e'.symm, sorted_uniq (fun x y h1 h2 => by have := cfK_anti x y; omega) (p.trans p'.symm) s s'⟩
/-- What Mixed and Negate say. -/
def MX (cs : List Co) (tk : Bool) (mp : Co → Option Kc) (E : Int) (L : List Kc) : Prop :=
  (CV cs 5 [] ∧ E = 5 ∧ L = []) ∨ ((∃ ks, CV cs 0 ks) ∧ tk = false ∧ E = 7 ∧ L = []) ∨ (tk = true ∧ ∃ ks, CV cs 0 ks ∧ DV (ks.filterMap mp) E L)
theorem MX.uniq {cs : List Co} {tk : Bool} {mp : Co → Option Kc} {E E' : Int} {L L' : List Kc} (h : MX cs tk mp E L) (h' : MX cs tk mp E' L') : E = E' ∧ L = L' := by
  rcases h with ⟨c, e, l⟩ | ⟨⟨ks, c⟩, t, e, l⟩ | ⟨t, ks, c, d⟩
  · rcases h' with ⟨_, e', l'⟩ | ⟨⟨ks', c'⟩, _⟩ | ⟨_, ks', c', _⟩
    · exact ⟨e.trans e'.symm, l.trans l'.symm⟩
    · exact absurd (c.uniq c').1 (by decide)
    · exact absurd (c.uniq c').1 (by decide)
  · rcases h' with ⟨c', _⟩ | ⟨_, _, e', l'⟩ | ⟨t', _⟩
    · exact absurd (c.uniq c').1 (by decide)
    · exact ⟨e.trans e'.symm, l.trans l'.symm⟩
    · rw [t] at t'; cases t'
  · rcases h' with ⟨c', _⟩ | ⟨_, t', _⟩ | ⟨_, ks', c', d'⟩
    · exact absurd (c.uniq c').1 (by decide)
    · rw [t] at t'; cases t'
    · obtain rfl := (c.uniq c').2
      exact d.uniq d'
/-- An answer that is read. -/
def AN (P : Int → List Kc → Prop) (w : World) (e : Ending) (w' : World) : Prop := ∃ a c N r E, e = .returned (.tuple #[.slice a N c, .int .i64 E]) ∧ Below w.heap.size w w' ∧ Em w' a r N ∧ N ≤ 1099511627776 ∧ (∀ j, j < N → Lm w' (r j).a (r j).f (r j).n ∧ (r j).n ≤ 4294967296) ∧ P E ((elL r N).map kc)
def drN (l : List Lb) : List Lb := l.filter fun u => !isN u
def flB (k : Nat) (y : Bool) : Bool := F.knN k == 2 && !y
def nmL (k : Nat) (y : Bool) (l : List Lb) : List Lb := if flB k y = true then l else drN l
/-- What becomes of an element. -/
def outP (V : Nat → Nat → Option Nat) (k : Nat) (yes : Bool) (p q x : Nat) (l : List Lb) : Option Kc :=
  if k < 6 then some (drN l, V p q) else if yes = true then some (drN l, F.cl (if F.hdB k p q = true then 4607182418800017408 else 0)) else if F.hdB k p q = true then some (l, F.cl x) else none
def outC (V : Nat → Nat → Option Nat) (k : Nat) (yes left : Bool) (X : Nat) (e : Co) : Option Kc := outP V k yes (if left = true then X else e.2.2) (if left = true then e.2.2 else X) e.2.2 e.2.1
theorem OR.dv {v : Value} {q : Nat → El} {n : Nat} {W W' : World} {e : Ending} (h : OR v q n W e W') : ∃ a c N r E, e = .returned (.tuple #[.slice a N c, .int .i64 E]) ∧ Kp (fun b => v.ownBlock = some b) W W' ∧ Em W' a r N ∧ N ≤ n ∧ (∀ j, j < N → ∃ i, i < n ∧ r j = q i) ∧ DV ((elL q n).map kc) E ((elL r N).map kc) := by
  obtain ⟨a, c, N, r, E, rfl, k, hm, ⟨e6, n0, hne⟩ | ⟨e0, nn, hp, hs⟩⟩ := h
  · subst n0
    refine ⟨a, c, 0, r, E, rfl, k, hm, Nat.zero_le _, fun j hj => absurd hj (by omega), .inl ⟨e6, rfl, fun hpw => hne ?_⟩⟩
    rw [List.pairwise_map] at hpw
    exact hpw.imp fun {x y} h => by rw [cfE_kc]; exact h
  · subst nn
    refine ⟨a, c, N, r, E, rfl, k, hm, Nat.le_refl _, fun j hj => ?_, .inr ⟨e0, hp.map kc, ?_⟩⟩
    · obtain ⟨i, hi, e⟩ := mem_elL.1 (hp.subset (List.mem_of_getElem? (elL_get r N j hj)))
      exact ⟨i, hi, e.symm⟩
    · rw [List.pairwise_map]
      exact hs.imp fun {x y} h => by rw [← cfE_kc]; exact h
set_option maxRecDepth 100000 in
set_option maxHeartbeats 4000000 in
theorem named_any (s : ByteArray) (k : Nat) (y : Bool) (S n c : Nat) (a : Option Addr) (f : Nat → Lb) (w : World) (h : K.Ir w S (.slice a n c) n f) (hn : n ≤ 1099511627776) :
    Calls Tryz.prog 24 #[F.opV s k y, .slice a n c] w fun e w' => ∃ a' m c' f', e = .returned (.slice a' m c') ∧ m ≤ n ∧ K.ll f' m = nmL k y (K.ll f n) ∧ K.Ir w' S (.slice a' m c') m f' ∧ Kp (fun b => (Value.slice a n c).ownBlock = some b) w w' ∧ (∀ b, (Value.slice a' m c').ownBlock = some b → (Value.slice a n c).ownBlock = some b) := by
  have HR : Hid (∀ W, Below w.heap.size w W → K.Ir W S (.slice a n c) n f) := (show ∀ W, _ → _ from fun W b => h.below b)
  have HF : ∀ W, _ := fun W => F.filter_any s k y W
  have HK : Hid (∀ W, Below w.heap.size w W → Calls Tryz.prog 26 #[.slice a n c] W fun e w' => ∃ a' m c', e = .returned (.slice a' m c') ∧ m = (dN f n).length ∧ K.Ir w' S (.slice a' m c') m (K.gL (dN f n)) ∧ Kp (fun b => (Value.slice a n c).ownBlock = some b) W w' ∧ (∀ b, (Value.slice a' m c').ownBlock = some b → (Value.slice a n c).ownBlock = some b)) := (show ∀ W, _ → _ from fun W b => nameless_any S n c a f W (h.below b) hn)
  have HA : Hid (∀ o, Below w.heap.size w (w.alloc o)) := fun o => (Below.refl _ w).alloc (Nat.le_refl _) o
  obtain ⟨B, hB⟩ : ∃ B, (F.knN k == 2 && !y) = B := ⟨_, rfl⟩
  have HB : Hid (flB k y = B) := (show flB k y = B from hB)
  unfold F.opV at *
  rw [hB] at HF
  clear h hB
  go_enter Tryz.func24, Tryz.ntmps24
  go_wp2_with fail
  go_fit (HF _)
  rintro e w2 ⟨rfl, b2⟩
  have HB2 : Hid (Below w.heap.size w w2) := (HA.out _).trans (b2.mono (HA.out _).size)
  clear b2 HF
  cases B
  · have k2 := HK.out w2 HB2.out
    go_wp2_with fail
    go_fit k2
    rintro e w3 ⟨a', m, c', rfl, hm, hr, kp, hb⟩
    have HE : Hid (m = (dN f n).length ∧ K.Ir w3 S (.slice a' m c') m (K.gL (dN f n)) ∧ Kp (fun b => (Value.slice a n c).ownBlock = some b) w w3 ∧ ∀ b, (Value.slice a' m c').ownBlock = some b → (Value.slice a n c).ownBlock = some b) := (show _ ∧ _ ∧ _ ∧ _ from ⟨hm, hr, (Kp.of HB2.out).trans kp, hb⟩)
    clear k2 hm hr kp hb
    go_wp2
    go_ret
    refine ⟨a', m, c', K.gL (dN f n), rfl, by have := dN_le f n; have := HE.out.1; omega, ?_, HE.out.2.1, HE.out.2.2.1, HE.out.2.2.2⟩
    unfold nmL
    rw [HB.out, if_neg (by decide), HE.out.1]
    exact K.ll_gL _
  · go_wp2
    go_ret
    exact ⟨a, n, c, f, rfl, Nat.le_refl _, by unfold nmL; rw [HB.out, if_pos rfl], HR.out _ HB2.out, Kp.of HB2.out, fun b h => h⟩
/-- between, for every operator with numbers. -/
theorem btw_any (s : ByteArray) (k : Nat) (hk : k < 12) (hop : F.OpK s k) (V : Nat → Nat → Option Nat) (hV : k < 6 → ∀ x y, x < 18446744073709551616 → y < 18446744073709551616 → F.BothV 50 60 s x y (V x y)) (yes : Bool) (p q x : Nat) (l : List Lb)
    (hp : p < 18446744073709551616) (hq : q < 18446744073709551616) (hx : x < 18446744073709551616) (w : World) :
    Calls Tryz.prog 23 #[F.opV s k yes, .float .f64 p, .float .f64 q, .float .f64 x] w fun e w' => ∃ z ok, e = .returned (.tuple #[.float .f64 z, .bool ok]) ∧ Below w.heap.size w w' ∧ z < 18446744073709551616 ∧ outP V k yes p q x l = (if ok = true then some (nmL k yes l, F.cl z) else none) := by
  by_cases h6 : k < 6
  · refine (F.between_arith s k h6 yes p q x (V p q) (hV h6 p q hp hq).1 w).mono ?_
    rintro e w' ⟨z, rfl, b, hz, hc⟩
    refine ⟨z, true, rfl, b, hz, ?_⟩
    have hf : flB k yes = false := by
      unfold flB F.knN
      simp [h6]
    unfold outP nmL
    rw [if_pos h6, hf]
    simp [hc]
  · refine (F.between_cmp s k (by omega) hk hop yes p q x w).mono ?_
    rintro e w' ⟨rfl, b⟩
    have hkn : F.knN k = 2 := by
      unfold F.knN
      simp [h6, hk]
    cases yes
    · have hf : flB k false = true := by unfold flB; rw [hkn]; rfl
      refine ⟨x, F.hdB k p q, rfl, b, hx, ?_⟩
      unfold outP nmL
      rw [if_neg h6, hf]
      simp
    · have hf : flB k true = false := by unfold flB; rw [hkn]; rfl
      refine ⟨_, true, rfl, b, ?_, ?_⟩
      · show (if F.hdB k p q = true then 4607182418800017408 else 0) < _
        split <;> omega
      · unfold outP nmL
        rw [if_neg h6, hf]
        simp [F.cmV]
theorem Kp.trans' {M N : Nat → Prop} {a b c : World} (h : Kp M a b) (k : Kp N b c) (hn : ∀ i, i < a.heap.size → N i → M i) : Kp M a c := ⟨k.os.trans h.os, k.tape.trans h.tape, k.output.trans h.output, Nat.le_trans h.size k.size, fun i hi hm => (k.block i (Nat.lt_of_lt_of_le hi h.size) (fun e => hm (hn i hi e))).trans (h.block i hi hm)⟩
/-- The elements that came out of the first j. -/
structure MI (S N : Nat) (r : Nat → El) (wB : World) (mp : Co → Option Kc) (j i : Nat) (qo : Nat → El) (ov : Value) (W : World) : Prop where
  row : W.ownsRow wB.heap.size 31 2 ov i (fl e2 (elL qo i))
  lab : ∀ m, m < i → Lm W (qo m).a (qo m).f (qo m).n ∧ (qo m).n ≤ 4294967296 ∧ ∀ b, (Value.slice (qo m).a (qo m).n (qo m).c).ownBlock = some b → ∃ t, t < j ∧ (Value.slice (r t).a (r t).n (r t).c).ownBlock = some b
  left : ∀ m, j ≤ m → m < N → Ow W S (r m)
  kcs : (elL qo i).map kc = ((elL r j).map core).filterMap mp
  kp : Kp (fun b => wB.heap.size ≤ b ∨ ∃ t, t < N ∧ (Value.slice (r t).a (r t).n (r t).c).ownBlock = some b) wB W
theorem elL_succ (q : Nat → El) (n : Nat) : elL q (n + 1) = elL q n ++ [q n] := by simp [elL, List.range_succ]
theorem MI.len {S N j i : Nat} {r qo : Nat → El} {wB W : World} {mp : Co → Option Kc} {ov : Value} (h : MI S N r wB mp j i qo ov W) : i ≤ j := by
  have := congrArg List.length h.kcs
  rw [List.length_map, elL_len] at this
  have h2 := List.length_filterMap_le mp ((elL r j).map core)
  rw [List.length_map, elL_len] at h2
  omega
theorem MI.skip {S N j i : Nat} {r qo : Nat → El} {wB W W' : World} {mp : Co → Option Kc} {ov : Value} (h : MI S N r wB mp j i qo ov W) (b : Below W.heap.size W W') (hm : mp (core (r j)) = none) : MI S N r wB mp (j + 1) i qo ov W' :=
  ⟨kept_row h.row b, fun m hm => by
    obtain ⟨h1, h2, h3⟩ := h.lab m hm
    exact ⟨h1.below b, h2, fun b hb => by obtain ⟨t, ht, e⟩ := h3 b hb; exact ⟨t, by omega, e⟩⟩, fun m h1 h2 => kept_row (h.left m (by omega) h2) b, by
    rw [h.kcs, elL_succ, List.map_append, List.filterMap_append]
    simp [hm], h.kp.trans (Kp.of b)⟩
theorem MI.step {S N j i : Nat} {r qo : Nat → El} {wB W W1 W2 W3 : World} {mp : Co → Option Kc} {ov : Value} {x : El} {g c : Nat} (h : MI S N r wB mp j i qo ov W) (hj : j < N) (b1 : Below W.heap.size W W1)
    (hap : ∀ s t, s < N → t < N → s ≠ t → Ap (r s) (r t)) (hlo : ∀ t, t < N → ∀ b, (Value.slice (r t).a (r t).n (r t).c).ownBlock = some b → b < wB.heap.size)
    (k2 : Kp (fun b => (Value.slice (r j).a (r j).n (r j).c).ownBlock = some b) W1 W2) (hx : K.Ir W2 S (.slice x.a x.n x.c) x.n x.f) (hn : x.n ≤ 4294967296) (hxb : ∀ b, (Value.slice x.a x.n x.c).ownBlock = some b → (Value.slice (r j).a (r j).n (r j).c).ownBlock = some b)
    (o3 : W3.ownsRow wB.heap.size 31 2 (.slice (some ⟨g, 0, none⟩) (i + 1) c) (i + 1) (fl e2 (elL qo i) ++ e2 x)) (k3 : Kp (fun b => ov.ownBlock = some b) W2 W3) (hm : mp (core (r j)) = some (kc x)) :
    MI S N r wB mp (j + 1) (i + 1) (up qo i x) (.slice (some ⟨g, 0, none⟩) (i + 1) c) W3 := by
  have hov : ∀ b, ov.ownBlock = some b → wB.heap.size ≤ b := fun b hb => (own_bd h.row b hb).1
  have hbl : ∀ {a : Option Addr} {n c b : Nat} {o : Nat}, a = some ⟨b, o, none⟩ → (Value.slice a n c).ownBlock = some b := fun e => by rw [e]; rfl
  have lm3 : ∀ {a : Option Addr} {f : Nat → Lb} {n c : Nat} {t : Nat}, Lm W a f n → t < N → t ≠ j → (∀ b, (Value.slice a n c).ownBlock = some b → (Value.slice (r t).a (r t).n (r t).c).ownBlock = some b) → Lm W3 a f n := fun {a f n c t} hl ht hne hb =>
    lm_kp (lm_kp (lm_kp hl (Kp.of (M := fun _ => False) b1) (fun _ _ _ h => h)) k2 (fun b o e h1 => hap t j ht hj hne b (hb b (hbl e)) h1)) k3 (fun b o e h1 => by have := hov b h1; have := hlo t ht b (hb b (hbl e)); omega)
  refine ⟨?_, fun m hm => ?_, fun m h1 h2 => ?_, ?_, ?_⟩
  · have e : elL (up qo i x) (i + 1) = elL qo i ++ [x] := by
      rw [elL_succ, up_at]
      congr 1
      simp only [elL]
      exact List.map_congr_left fun m hm => up_ne _ _ _ _ (by have := List.mem_range.1 hm; omega)
    rw [e]
    have e' : fl e2 (elL qo i ++ [x]) = fl e2 (elL qo i) ++ e2 x := by simp [fl]
    rw [e']
    exact o3
  · by_cases e : m = i
    · rw [e, up_at]
      obtain ⟨a9, c9, e9, hl, _⟩ := hx.iml
      cases e9
      exact ⟨lm_kp hl k3 (fun b o e h1 => by have := hov b h1; have := hlo j hj b (hxb b (hbl e)); omega), hn, fun b hb => ⟨j, by omega, hxb b hb⟩⟩
    · rw [up_ne _ _ _ _ e]
      obtain ⟨h1, h2, h3⟩ := h.lab m (by omega)
      refine ⟨?_, h2, fun b hb => by obtain ⟨t, ht, e⟩ := h3 b hb; exact ⟨t, by omega, e⟩⟩
      rcases h1 with h0 | ⟨g', o', ea, hg, hc⟩
      · exact .inl h0
      · obtain ⟨t, ht, et⟩ := h3 g' (hbl ea)
        exact lm3 (c := (qo m).c) (t := t) (.inr ⟨g', o', ea, hg, hc⟩) (by omega) (by omega) (fun b hb => by
          have : b = g' := by rw [ea] at hb; exact (Option.some.inj hb).symm
          rw [this]; exact et)
  · have o1 := kept_row (h.left m (by omega) h2) b1
    have o2 := k2.row o1 (fun b hb h1 => hap m j h2 hj (by omega) b hb h1)
    exact k3.row o2 (fun b hb h1 => by have := hov b h1; have := hlo m h2 b hb; omega)
  · have e : elL (up qo i x) (i + 1) = elL qo i ++ [x] := by
      rw [elL_succ, up_at]
      congr 1
      simp only [elL]
      exact List.map_congr_left fun m hm => up_ne _ _ _ _ (by have := List.mem_range.1 hm; omega)
    rw [e, List.map_append, h.kcs, elL_succ, List.map_append, List.filterMap_append]
    simp [hm]
  · exact ((h.kp.trans (Kp.of b1)).trans' k2 (fun b _ h1 => .inr ⟨j, hj, h1⟩)).trans' k3 (fun b _ h1 => .inl (hov b h1))
end Go.Proofs.YtebjklppbkkinaaGreatDoor
/- Pair: sets of labels; the reference's With of an empty value; its answers as what they say. -/
namespace Go.Proofs.YtebjklppbkkinaaGreatDoor
open Go.RowKit Go.Lib Go.Shelf Go.Sort

theorem rwF_none (f : Nat → Lb) (nm : ByteArray) : ∀ n, K.rwF f nm ⟨#[]⟩ n = ((K.ll f n).filter (fun u => !(u.1.toList == nm.toList)), true)
  | 0 => by
    unfold K.rwF
    have : (ByteArray.toList ⟨#[]⟩).isEmpty = true := by rw [Lib.toList_data]; rfl
    rw [this]
    rfl
  | n + 1 => by
    unfold K.rwF
    rw [rwF_none f nm n, K.ll_succ, List.filter_append]
    unfold K.rwS
    cases h : ((f n).1.toList == nm.toList) <;> simp [h]
theorem rwL_none (f : Nat → Lb) (nm : ByteArray) (n : Nat) : K.rwL f nm ⟨#[]⟩ n = (K.ll f n).filter (fun u => !(u.1.toList == nm.toList)) := by
  unfold K.rwL
  rw [rwF_none]
  rfl
theorem va_at (f : Nat → Lb) : ∀ k i, vaF f k i = true → ∀ j, i ≤ j → j < i + k → okL f j = true
  | 0, _, _, j, h1, h2 => absurd h2 (by omega)
  | k + 1, i, h, j, h1, h2 => by
    unfold vaF at h
    rw [Bool.and_eq_true] at h
    by_cases e : j = i
    · rw [e]; exact h.1
    · exact va_at f k (i + 1) h.2 j (by omega) (by omega)
theorem less_trans {x y z : ByteArray} (h1 : Op.bytesLess x.toList y.toList = true) (h2 : Op.bytesLess y.toList z.toList = true) : Op.bytesLess x.toList z.toList = true := by
  have a1 : od x y = -1 := by
    rcases od_cases x y with ⟨e, _⟩ | ⟨_, e, _⟩ | ⟨_, e, _⟩
    · exact e
    · rw [h1] at e; cases e
    · rw [h1] at e; cases e
  have a2 : od y z = -1 := by
    rcases od_cases y z with ⟨e, _⟩ | ⟨_, e, _⟩ | ⟨_, e, _⟩
    · exact e
    · rw [h2] at e; cases e
    · rw [h2] at e; cases e
  have a3 := od_od.lt x y z (by omega) (by omega)
  rcases od_cases x z with ⟨_, e, _⟩ | ⟨e, _⟩ | ⟨e, _⟩
  · exact e
  · obtain rfl := (od_od.eq x z).1 e
    have := od_od.anti x y
    omega
  · omega
theorem ls_of_va (f : Nat → Lb) (n : Nat) (h : vaF f n 0 = true) : Ls (K.ll f n) := by
  have ok : ∀ j, j < n → okL f j = true := fun j hj => va_at f n 0 h j (by omega) (by omega)
  have parts : ∀ j, j < n → lbN (f j).1 = true ∧ (f j).2.toList.isEmpty = false ∧ vld (f j).2 (f j).2.size 0 = true ∧ (0 < j → Op.bytesLess (f (j - 1)).1.toList (f j).1.toList = true) := fun j hj => by
    have := ok j hj
    unfold okL at this
    simp only [Bool.and_eq_true, Bool.not_eq_true', Bool.or_eq_true, decide_eq_true_eq] at this
    exact ⟨this.1, this.2.1, this.2.2.1, fun hp => by
      rcases this.2.2.2 with e | e
      · omega
      · exact e⟩
  refine ⟨fun x hx => ?_, ?_⟩
  · obtain ⟨j, hj, rfl⟩ : ∃ j, j < n ∧ f j = x := by simpa [K.ll] using hx
    obtain ⟨p1, p2, p3, _⟩ := parts j hj
    refine ⟨p1, fun e => ?_, p3⟩
    rw [e, Lib.toList_data] at p2
    cases p2
  · rw [List.pairwise_iff_getElem]
    intro i j hi hj hij
    rw [ll_len] at hi hj
    simp only [K.ll, List.getElem_map, List.getElem_range]
    obtain ⟨d, rfl⟩ : ∃ d, j = i + 1 + d := ⟨j - i - 1, by omega⟩
    induction d with
    | zero => exact (parts (i + 1) (by omega)).2.2.2 (by omega)
    | succ d ih => exact less_trans (ih (by omega) (by omega) (by omega)) ((parts (i + 1 + d + 1) (by omega)).2.2.2 (by omega))
theorem va_of_ls (f : Nat → Lb) (n : Nat) (h : Ls (K.ll f n)) : vaF f n 0 = true := by
  have := h.valid
  rw [ll_len] at this
  rw [← this]
  exact vaF_cong (fun j hj => (gL_ll f n j hj).symm) n 0 (by omega)
theorem ls_drN {l : List Lb} (h : Ls l) : Ls (drN l) := h.filter _
theorem ls_none {l : List Lb} (h : Ls l) : l.filter (fun u => !(u.1.toList == (⟨#[]⟩ : ByteArray).toList)) = l := by
  apply List.filter_eq_self.2
  intro u hu
  have h1 := (h.1 u hu).1
  cases e : (u.1.toList == (⟨#[]⟩ : ByteArray).toList)
  · rfl
  · have e2 : u.1.toList = [] := by
      have := beq_iff_eq.1 e
      rw [this, Lib.toList_data]
    have e3 := (nil_iff u.1).1 e2
    unfold lbN at h1
    rw [e3] at h1
    simp at h1
def kf (c : Co) : Kc := (c.2.1, F.cl c.2.2)
theorem kc_core (e : El) : kc e = kf (core e) := rfl
theorem kf_map (q : Nat → El) (n : Nat) : (elL q n).map kc = ((elL q n).map core).map kf := by rw [List.map_map]; rfl
theorem cfC_kf (q : El) (r : El) : cfC (core q) (core r) = cfK (kc q) (kc r) := by rw [← cfE_core, cfE_kc]
/-- What done says. -/
theorem WA.dv {q : Nat → El} {n : Nat} {w w' : World} {e : Ending} (h : WA n q w e w') (hL : ∀ j, j < n → Ls (K.ll (q j).f (q j).n)) : ∃ E N a c r, e = .returned (.tuple #[.slice a N c, .int .i64 E]) ∧ (E = 5 ∨ E = 0) ∧ Below w.heap.size w w' ∧ Em w' a r N ∧ N ≤ n ∧ (∀ j, j < N → ∃ k, k < n ∧ q k = r j) ∧ DV ((elL q n).map kc) (if E = 5 then 6 else 0) ((elL r N).map kc) := by
  obtain ⟨E, N, a, c, r, rfl, b, o, hN, hm, hC⟩ := h
  have hok : ∀ c ∈ (elL q n).map core, okC c = true := ok_core fun j hj => va_of_ls _ _ (hL j hj)
  rcases hC with ⟨e5, hnil, hbad⟩ | ⟨e0, _, hp, hs⟩
  · subst e5
    refine ⟨5, N, a, c, r, rfl, .inl rfl, b, elM_row o, hN, hm, .inl ⟨rfl, ?_, fun hpw => hbad ⟨hok, ?_⟩⟩⟩
    · rw [kf_map, hnil]; rfl
    · rw [ne_core]
      rw [List.pairwise_map] at hpw
      exact hpw.imp fun {x y} h => by rw [cfE_kc]; exact h
  · subst e0
    refine ⟨0, N, a, c, r, rfl, .inr rfl, b, elM_row o, hN, hm, .inr ⟨rfl, ?_, ?_⟩⟩
    · rw [kf_map, kf_map]; exact hp.map kf
    · rw [List.pairwise_map] at hs ⊢
      exact hs.imp fun {x y} h => by rw [← cfC_kf]; exact h
end Go.Proofs.YtebjklppbkkinaaGreatDoor
