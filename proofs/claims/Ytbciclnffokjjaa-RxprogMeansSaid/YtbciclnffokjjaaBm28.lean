/- A bundle of texts. -/
import Derived.Test.YtbciclnffokjjaaBm19
import Derived.Test.YtbciclnffokjjaaBm20
/- RxprogKeeps: programOf once more: each instruction's ranges lie in a block of their own. -/
namespace Go.Proofs.Ytbciclnffokjjaa
open Go.RowKit

abbrev rgV (x : In) : Value := .slice x.ra x.rn x.rc
/-- Ranges in a row of their own. -/
def RoW (S : Nat) (w : World) (v : Value) (rs : List Rg) : Prop := w.ownsRow S 50 2 v rs.length (rc2 (fun j => rs.getD j (0, 0)) rs.length)
set_option maxHeartbeats 1000000 in
set_option maxRecDepth 100000 in
theorem cloneR_own (M : Nat → Prop) (a : Option Addr) (n c : Nat) (rs : List Rg) (w : World) (hM : ∀ k, M k → k < w.heap.size) (hr : Ro w M a n rs) (hn : n * 8 ≤ 140737488355328) :
    Calls Try.prog 49 #[.slice a n c] w fun e w' => (∃ a' c', e = .returned (.slice a' n c') ∧ Ro w' M a' n rs ∧ RoW w.heap.size w' (.slice a' n c') rs) ∧ Below w.heap.size w w' := by
  have hrn : rs.length = n := hr.1.symm
  cases a with
  | none =>
    have h0 : n = 0 := by
      rcases hr.2 with h | ⟨_, _, h, _⟩
      · exact h
      · cases h
    subst h0
    have HR : Hid (Ro w M none 0 rs) := hr
    have HO : Hid (RoW w.heap.size w (.slice none 0 0) rs) := ⟨rc2_len _ _, .inl ⟨rfl, hrn⟩⟩
    have hnil : ∀ w : World, (binOp BinOp.eql 27 (.slice none 0 c) (.slice none 0 0)).run Try.prog w = .ok (.bool true) w := fun _ => by kernel_rfl
    clear hr
    go_enter Try.func49, Try.ntmps49
    go_wp2
    go_ret
    exact ⟨⟨none, 0, rfl, HR.out, HO.out⟩, Below.refl _ _⟩
  | some p =>
    obtain ⟨g, cap, w', r, o, b, hg, hlt⟩ := fresh_copy (P := Try.prog) w 27 50 _ 2 8 Try.underlying27 infG rfl (by decide) (some p) n c (rc2 (fun j => rs.getD j (0, 0)) n) (fun h => by cases h) (rc2_len _ _) (fun q hq => by cases hq; exact hr.rml.cells) (rc2_one _ _) (by unfold maxLen; omega) hn
    have HR : Hid (Ro w' M (some ⟨g, 0, none⟩) n rs) := by
      refine ⟨hr.1, ?_⟩
      by_cases h0 : n = 0
      · exact .inl h0
      · refine .inr ⟨g, 0, rfl, hlt, fun h => by have := hM g h; omega, fun j x hx => ?_⟩
        have hj : j < n := by have := (List.getElem?_eq_some_iff.1 hx).1; have := hr.1; omega
        have := (Rml.of_row o hlt).at j hj
        obtain ⟨g', o', e', _, c0, c1⟩ := this
        cases e'
        have ex : rs.getD j (0, 0) = x := by simp [List.getD, hx]
        rw [ex] at c0 c1
        exact ⟨c0, c1⟩
    have HO : Hid (RoW w.heap.size w' (.slice (some ⟨g, 0, none⟩) n cap) rs) := by
      unfold Hid RoW
      rw [hrn]
      exact o
    have HB : Hid (Below w.heap.size w w') := b
    have hnil : ∀ w : World, (binOp BinOp.eql 27 (.slice (some p) n c) (.slice none 0 0)).run Try.prog w = .ok (.bool false) w := fun _ => by kernel_rfl
    clear o hr
    go_enter Try.func49, Try.ntmps49
    go_wp2_with (at_builtin; refine wpList_append_run rfl (.tmp 5) (.tmp 6) 27 27 rfl _ _ rfl rfl r ?_)
    go_ret
    exact ⟨⟨_, _, rfl, HR.out, HO.out⟩, HB.out⟩
/-- The first i instructions' ranges: each in a row of its own, apart from each other and from G. -/
structure Apt (S G : Nat) (w : World) (f : Nat → In) (c : List Ia) (i : Nat) : Prop where
  row : ∀ j x, j < i → c[j]? = some x → RoW S w (rgV (f j)) x.rs ∧ (rgV (f j)).ownBlock ≠ some G
  two : ∀ j k b, j < i → k < i → j ≠ k → (rgV (f j)).ownBlock = some b → (rgV (f k)).ownBlock ≠ some b
/-- One instruction's ranges more. -/
theorem Apt.next {S G : Nat} {w w5 : World} {f : Nat → In} {c : List Ia} {i : Nat} {x : Ia} {a : Option Addr} {rc : Nat} (h : Apt S G w f c i) (hx : c[i]? = some x) (hG : G < w.heap.size) (hS : S ≤ w.heap.size) (b5 : Below w.heap.size w w5) (ho : RoW w.heap.size w5 (.slice a (f i).rn rc) x.rs) :
    Apt S G (w5.setCell ⟨G, i * 5 + 4, none⟩ (.slice a (f i).rn rc)) (up f i { f i with ra := a, rc := rc }) c (i + 1) := by
  have ks : Kp (fun b => b = G) w5 (w5.setCell ⟨G, i * 5 + 4, none⟩ (.slice a (f i).rn rc)) := (Kp.refl (fun b => b = G) w5).setCell (p := ⟨G, i * 5 + 4, none⟩) (show G = G from rfl) _
  have kw : Kp (fun b => b = G) w (w5.setCell ⟨G, i * 5 + 4, none⟩ (.slice a (f i).rn rc)) := (Kp.of b5).trans ks
  have hnew : ∀ b, (Value.slice a (f i).rn rc).ownBlock = some b → w.heap.size ≤ b := fun b e => (ho.lt b e).1
  have hold : ∀ j y, j < i → c[j]? = some y → ∀ b, (rgV (f j)).ownBlock = some b → b < w.heap.size := fun j y hj hy b e => ((h.row j y hj hy).1.lt b e).2
  have hget : ∀ j, j < i → ∃ y, c[j]? = some y := fun j hj => by
    have := (List.getElem?_eq_some_iff.1 hx).1
    exact ⟨_, List.getElem?_eq_getElem (by omega)⟩
  constructor
  · intro j y hj hy
    by_cases e : j = i
    · subst e
      rw [hx] at hy
      cases hy
      rw [up_same]
      have hne : (Value.slice a (f j).rn rc).ownBlock ≠ some G := fun e => by have := hnew G e; omega
      refine ⟨row_mono (ks.row ho (fun b e2 e3 => hne (by rw [← (show b = G from e3)]; exact e2))) hS, hne⟩
    · rw [up_other _ _ _ _ e]
      obtain ⟨q1, q2⟩ := h.row j y (by omega) hy
      exact ⟨kw.row q1 (fun b e2 e3 => q2 (by rw [← (show b = G from e3)]; exact e2)), q2⟩
  · intro j k b hj hk hjk e1 e2
    by_cases ej : j = i
    · subst ej
      rw [up_same] at e1
      rw [up_other _ _ _ _ (by omega)] at e2
      obtain ⟨y, hy⟩ := hget k (by omega)
      have := hold k y (by omega) hy b e2
      have := hnew b e1
      omega
    · by_cases ek : k = i
      · subst ek
        rw [up_same] at e2
        rw [up_other _ _ _ _ (by omega)] at e1
        obtain ⟨y, hy⟩ := hget j (by omega)
        have := hold j y (by omega) hy b e1
        have := hnew b e2
        omega
      · rw [up_other _ _ _ _ ej] at e1
        rw [up_other _ _ _ _ ek] at e2
        exact h.two j k b (by omega) (by omega) hjk e1 e2
theorem Apt.kp {S G : Nat} {w w' : World} {f : Nat → In} {c : List Ia} {i : Nat} {M : Nat → Prop} (h : Apt S G w f c i) (k : Kp M w w') (hM : ∀ j b, j < i → (rgV (f j)).ownBlock = some b → ¬ M b) : Apt S G w' f c i := ⟨fun j x hj hx => ⟨k.row (h.row j x hj hx).1 (fun b e => hM j b hj e), (h.row j x hj hx).2⟩, h.two⟩
end Go.Proofs.Ytbciclnffokjjaa
/- RxprogKeeps: programOf, with each instruction's ranges of their own. -/
namespace Go.Proofs.Ytbciclnffokjjaa
open Go.RowKit

/-- Code that a slice of one's own shows, with ranges of their own. -/
def OwA (S : Nat) (w : World) (v : Value) (c : List Ia) : Prop := ∃ (g cc : Nat) (f : Nat → In), v = .slice (some ⟨g, 0, none⟩) c.length cc ∧ w.ownsRow S 29 5 v c.length (n5 f c.length) ∧ (∀ j i, c[j]? = some i → Ism w (fun k => k = g) (f j) i) ∧ Apt S g w f c c.length
theorem OwA.ow {S : Nat} {w : World} {v : Value} {c : List Ia} (h : OwA S w v c) : Ow S w v c := by
  obtain ⟨g, cc, f, h1, h2, h3, _⟩ := h
  exact ⟨g, cc, f, h1, h2, h3⟩
theorem Apt.mono {S T G : Nat} {w : World} {f : Nat → In} {c : List Ia} {i : Nat} (h : Apt S G w f c i) (hS : T ≤ S) : Apt T G w f c i := ⟨fun j x hj hx => ⟨row_mono (h.row j x hj hx).1 hS, (h.row j x hj hx).2⟩, h.two⟩
set_option maxHeartbeats 4000000 in
set_option maxRecDepth 100000 in
theorem programOf_own (t : Tr) (w : World) (ht : Tat w.heap.size w t) (hw : WF 8195 t) (hn : (cod 8195 t 0).length + 1 ≤ 100000) :
    Calls Try.prog 27 #[ndV (t [])] w fun e w' => (∃ v, e = .returned v ∧ OwA w.heap.size w' v (prgC t)) ∧ Below w.heap.size w w' := by
  have b1 : Below w.heap.size w (w.alloc (ndX (t []))) := (Below.refl _ w).alloc (Nat.le_refl _) _
  obtain ⟨W1, hW1⟩ : ∃ W1, W1 = w.alloc (ndX (t [])) := ⟨_, rfl⟩
  have hz1 : W1.heap.size = w.heap.size + 1 := by rw [hW1]; simp
  rw [← hW1] at b1
  have b2 : Below W1.heap.size W1 (W1.alloc (.cells #[.slice none 0 0] 85)) := (Below.refl _ W1).alloc (Nat.le_refl _) _
  have ht2 : Tat w.heap.size (W1.alloc (.cells #[.slice none 0 0] 85)) t := (ht.below b1).below (b2.mono b1.size)
  have cN := cd_new (fun _ => False) W1
  have kN := nodeC_any 8195 (fun _ => False) w.heap.size W1.heap.size W1.heap.size (.slice none 0 0) fIn [] t (W1.alloc (.cells #[.slice none 0 0] 85)) cN ht2 b1.size (fun k h => h.elim) hw b2.size (by show 0 + (cod 8195 t 0).length ≤ 100000; omega)
  change Calls Try.prog 47 _ _ (Cp (fun _ => False) W1.heap.size W1.heap.size (.slice none 0 0) [] (cod 8195 t 0) (W1.alloc (.cells #[.slice none 0 0] 85))) at kN
  have HQ : Hid (∀ i ∈ prgC t, Qr i) := fun i hi => by
    unfold prgC at hi
    rcases List.mem_append.1 hi with hi | hi
    · exact cod_rs 8195 t 0 ht hw i hi
    · rcases List.mem_singleton.1 hi with rfl
      exact Qr.nil _ _ _ _
  have H3 : Hid (∀ e w3, Cp (fun _ => False) W1.heap.size W1.heap.size (.slice none 0 0) [] (cod 8195 t 0) (W1.alloc (.cells #[.slice none 0 0] 85)) e w3 → e = .returned (.tuple #[]) ∧ Rn (fun _ => False) W1.heap.size W1.heap.size (.slice none 0 0) [] (W1.alloc (.cells #[.slice none 0 0] 85)) (cod 8195 t 0) w3) := fun e w3 h => by
    obtain ⟨he, ⟨v2, f2, cd2, sb2⟩, kp2⟩ := h
    exact ⟨he, v2, f2, cd2, sb2, kp2⟩
  have HS2 : Hid (W1.heap.size ≤ (W1.alloc (.cells #[.slice none 0 0] 85)).heap.size) := b2.size
  have HLOW : Hid (∀ l w', Rn (fun _ => False) W1.heap.size W1.heap.size (.slice none 0 0) [] (W1.alloc (.cells #[.slice none 0 0] 85)) l w' → Below w.heap.size w w' ∧ Below W1.heap.size W1 w') := fun l w' h => by
    have := b2.trans (cN.low b2.size h.kp)
    exact ⟨b1.trans (this.mono b1.size), this⟩
  have HN : Hid ((cod 8195 t 0).length + 1 ≤ 100000) := hn
  have HP : Hid (prgC t = cod 8195 t 0 ++ [⟨1, 0, 0, 0, []⟩]) := rfl
  rw [hz1] at kN H3 HS2 HLOW
  subst hW1
  clear ht hw hn b1 hz1 b2 ht2 cN
  generalize hcd : cod 8195 t 0 = cd0 at *
  generalize prgC t = pr at *
  clear hcd
  generalize t [] = d at *
  go_enter Try.func27, Try.ntmps27
  go_wp2_with fail
  go_fit kN
  rintro e w3 h3
  obtain ⟨rfl, r3⟩ := H3.out _ _ h3
  have kP := r3.put HS2.out (by have := HN.out; simp; omega) 1 0 0 0
  clear kN H3 h3 r3
  go_wp2_with fail
  go_fit kP
  rintro e w4 ⟨rfl, r4⟩
  rw [← HP.out] at r4
  obtain ⟨v4, f4, cd4, sb4, kp4⟩ := r4
  rw [List.nil_append] at cd4
  have hlen : 0 < pr.length := by rw [HP.out]; simp
  have hlenI : (pr.length : Int) ≤ 100000 := by have := HN.out; rw [HP.out]; simp; omega
  obtain ⟨g, cc, rfl⟩ : ∃ g cc, v4 = .slice (some ⟨g, 0, none⟩) pr.length cc := by
    rcases cd4.row.2 with ⟨_, e2⟩ | ⟨g, cc, cur, e, _⟩
    · omega
    · exact ⟨g, cc, e⟩
  have HB4 : Hid (Below w.heap.size w w4) := (HLOW.out _ _ ⟨_, f4, by rw [List.nil_append]; exact cd4, sb4, kp4⟩).1
  have CD4 : Hid _ := cd4
  obtain ⟨B, hB⟩ : ∃ B, B = w.heap.size + 1 := ⟨_, rfl⟩
  rw [← hB] at cd4 CD4
  have c4 := cd4.c0
  have HBB : Hid (B = w.heap.size + 1) := hB
  clear kP sb4 kp4 cd4 hB HLOW
  go_upto_region 4 with fail
  rw [← HBB.out]
  go_wp2_with fail
  go_loopw [12] (fun ivv w' => ∃ i : Nat, ivv = .int .i64 (i : Int) ∧ i ≤ pr.length ∧ ∃ f', Hid (Cd (fun _ => False) B w' B (.slice (some ⟨g, 0, none⟩) pr.length cc) f' pr ∧ Apt B g w' f' pr i ∧ Kp (Mv B (.slice (some ⟨g, 0, none⟩) pr.length cc)) w4 w')) (fun ivv _ => pr.length - (RowKit.intOf ivv).toNat)
  case atStart => exact ⟨0, rfl, by omega, f4, CD4.out, ⟨fun j x hj => by omega, fun j k b hj => by omega⟩, Kp.refl _ _⟩
  case round =>
    obtain ⟨i, rfl, hi, f', hI⟩ := hrel
    obtain ⟨cd, apt, kp⟩ := hI.out
    have c0 := cd.c0
    by_cases hlt : i < pr.length
    · have hii : (i : Int) < pr.length := by omega
      obtain ⟨x, hget⟩ : ∃ x, pr[i]? = some x := ⟨_, List.getElem?_eq_getElem hlt⟩
      have hq := HQ.out x (List.mem_of_getElem? hget)
      have hro := (cd.rg i x hget).2.2.2.2
      have hdr : Below wr.heap.size wr wr.drew := (Below.refl _ wr).drew
      have kC := cloneR_own (MZ (fun _ => False) B (.slice (some ⟨g, 0, none⟩) pr.length cc)) (f' i).ra (f' i).rn (f' i).rc x.rs wr.drew (fun k h => by
        rcases h with h | h
        · exact (cd.base k h).2
        · exact h.elim) (hro.kp (Kp.of hdr) (fun _ _ e => e)) (by have := hro.1; unfold Qr at hq; omega)
      have z1 : wr.cell? ⟨g, i * 5 + 4, none⟩ = some (.slice (f' i).ra (f' i).rn (f' i).rc) := by
        rw [World.ownsRow.cellAt cd.row (i * 5 + 4) (by omega), n5_get _ _ _ _ hlt (by omega)]
        rfl
      have z2 : wr.frozen? ⟨g, i * 5 + 4, none⟩ = false := World.ownsRow.frozenAt cd.row _
      have H5 : Hid (∀ w5 a' c', Ro w5 (MZ (fun _ => False) B (.slice (some ⟨g, 0, none⟩) pr.length cc)) a' (f' i).rn x.rs → RoW wr.drew.heap.size w5 (.slice a' (f' i).rn c') x.rs → Below wr.drew.heap.size wr.drew w5 → ∃ f2, Cd (fun _ => False) B (w5.setCell ⟨g, i * 5 + 4, none⟩ (.slice a' (f' i).rn c')) B (.slice (some ⟨g, 0, none⟩) pr.length cc) f2 pr ∧ Apt B g (w5.setCell ⟨g, i * 5 + 4, none⟩ (.slice a' (f' i).rn c')) f2 pr (i + 1) ∧ Kp (Mv B (.slice (some ⟨g, 0, none⟩) pr.length cc)) w4 (w5.setCell ⟨g, i * 5 + 4, none⟩ (.slice a' (f' i).rn c'))) := fun w5 a' c' hr ho b5 => by
        obtain ⟨q1, q2⟩ := ((cd.below hdr).below b5).patch4 i x a' c' hget hr
        have hgl : g < wr.heap.size := (cd.base g (.inr rfl)).2
        have hSl : B ≤ wr.heap.size := by have := (cd.base B (.inl rfl)).2; omega
        exact ⟨_, q1, (apt.kp (Kp.of (M := fun _ => False) hdr) (fun _ _ _ _ => id)).next hget hgl hSl b5 ho, (kp.trans (Kp.of (hdr.trans b5))).trans q2⟩
      have HC5 : Hid (∀ w5, Below wr.drew.heap.size wr.drew w5 → w5.cell? ⟨B, 0, none⟩ = some (.slice (some ⟨g, 0, none⟩) pr.length cc) ∧ w5.cell? ⟨g, i * 5 + 4, none⟩ = some (.slice (f' i).ra (f' i).rn (f' i).rc) ∧ w5.frozen? ⟨g, i * 5 + 4, none⟩ = false) := fun w5 b5 => by
        have cd5 := (cd.below hdr).below b5
        refine ⟨cd5.c0, ?_, World.ownsRow.frozenAt cd5.row _⟩
        rw [World.ownsRow.cellAt cd5.row (i * 5 + 4) (by omega), n5_get _ _ _ _ hlt (by omega)]
        rfl
      have HLT : Hid (i < pr.length) := hlt
      clear cd kp hget hq hro hdr hI apt
      go_wp2_with fail
      go_region_with (go_at_call 49; go_fit kC; rintro e w5 ⟨⟨a', c', rfl, hr5, ho5⟩, b5⟩; have y5 := HC5.out w5 b5; have y6 := y5.1; have y7 := y5.2.1; have y8 := y5.2.2; clear y5)
      all_goals
        obtain ⟨f2, h2⟩ := H5.out w5 a' c' hr5 ho5 b5
        have HH2 : Hid _ := h2
        clear h2 hr5 ho5 b5 y6 y7 y8 kC H5 HC5
        go_wp2
        exact ⟨⟨i + 1, by go_num, HLT.out, f2, HH2⟩, by simp [RowKit.intOf]; omega⟩
    · have hii : ¬ (i : Int) < pr.length := by omega
      have HF : Hid ((∃ v, Ending.returned (.slice (some ⟨g, 0, none⟩) pr.length cc) = .returned v ∧ OwA w.heap.size wr v pr) ∧ Below w.heap.size w wr) := by
        have hBw : w.heap.size ≤ B := by rw [HBB.out]; omega
        have hil : i = pr.length := by omega
        have apt2 : Apt B g wr f' pr pr.length := by rw [← hil]; exact apt
        refine ⟨⟨_, rfl, g, cc, f', rfl, row_mono cd.row hBw, fun j i hj => (cd.rg j i hj).kp (Kp.refl _ wr) (fun k _ e => .inl (.inr (by rw [e]; rfl))), apt2.mono hBw⟩, HB4.out.trans (kp.below HB4.out.size (fun k hk e => ?_))⟩
        have := (CD4.out.base k e).1
        omega
      clear cd kp hI apt
      go_wp2
      go_ret
      exact HF.out
end Go.Proofs.Ytbciclnffokjjaa
/- RxprogKeeps: Compile, with each instruction's ranges of their own. -/
namespace Go.Proofs.Ytbciclnffokjjaa
open Go.RowKit

set_option maxHeartbeats 2000000 in
set_option maxRecDepth 100000 in
/-- Compile of a valid tree that isn't too big: its program. -/
theorem compile_own (t : Tr) (w : World) (ht : Tat w.heap.size w t) (h0 : ¬ sizF t = 0) (h1 : sizF t ≤ 10000) :
    Calls Try.prog 10 #[ndV (t [])] w fun e w' => (∃ iv nv s1 S', e = .returned (.tuple #[.agg #[iv, .int .i64 0, .int .i64 (s1.n : Int), nv], .int .i64 0]) ∧ svd t = some s1 ∧ s1.n ≤ 100 ∧ w.heap.size ≤ S' ∧ (∀ b, nv.ownBlock = some b → b < S') ∧ OwA S' w' iv (prgC t) ∧ w'.ownsRow w.heap.size 9 1 nv s1.n (sc s1.f s1.n)) ∧ Below w.heap.size w w' := by
  obtain ⟨hok, hlen, hsz⟩ := sizF_ok h0 h1
  have hwf := WF_ok hok
  obtain ⟨s1, hs1⟩ : ∃ s1, svd t = some s1 := by
    unfold okT at hok
    cases hs : svd t with
    | none => rw [hs] at hok; cases hok
    | some s1 => exact ⟨s1, rfl⟩
  have hn100 : s1.n ≤ 100 := vd_n 8195 t 0 s0 s1 hs1 (by decide)
  have hcl : (cod 8195 t 0).length + 1 ≤ 100000 := by have := cod_len 8195 t 0 hwf (by omega); omega
  have b1 : Below w.heap.size w ((w.alloc (ndX (t []))).alloc pX0) := two_below _ _
  have hb1 : ((w.alloc (ndX (t []))).alloc pX0).heap[w.heap.size + 1]? = some pX0 := by have := heap_alloc_new (w.alloc (ndX (t []))) pX0; simpa using this
  have hc1 : Cs ((w.alloc (ndX (t []))).alloc pX0) w.heap.size 0 (t []) := ndX_cells (t []) ((Below.refl _ _).alloc (Nat.le_refl _) _)
  obtain ⟨V, hV⟩ : ∃ V, V = (w.alloc (ndX (t []))).alloc pX0 := ⟨_, rfl⟩
  have hVz : V.heap.size = w.heap.size + 2 := by rw [hV]; simp
  rw [← hV] at b1 hb1 hc1
  have htV : Tat V.heap.size V t := (ht.below b1).mono b1.size
  have kS := size_any t V htV
  have HG : Hid (∀ w1, Below V.heap.size V w1 → Calls Try.prog 26 #[ndV (t [])] w1 fun e w' => (∃ v, e = .returned v ∧ w'.ownsRow w1.heap.size 9 1 v s1.n (sc s1.f s1.n)) ∧ Below w1.heap.size w1 w') := fun w1 b => groups_any t w1 s1 ((htV.below b).mono b.size) hs1 (vd_names 8195 t 0 s0 s1 ht hs1 (fun j hj => by cases hj)) hn100
  have HP : Hid (∀ w1, Below V.heap.size V w1 → Calls Try.prog 27 #[ndV (t [])] w1 fun e w' => (∃ v, e = .returned v ∧ OwA w1.heap.size w' v (prgC t)) ∧ Below w1.heap.size w1 w') := fun w1 b => programOf_own t w1 ((htV.below b).mono b.size) hwf hcl
  have HC : Hid (∀ w1, Below V.heap.size V w1 → Cs w1 w.heap.size 0 (t []) ∧ w1.heap[w.heap.size + 1]? = some pX0) := fun w1 b => ⟨hc1.below b (by omega), (b.block (w.heap.size + 1) (by omega)).trans hb1⟩
  have HB : Hid (Below w.heap.size w V) := b1
  have HVZ : Hid (V.heap.size = w.heap.size + 2) := hVz
  have HS1 : Hid (svd t = some s1) := hs1
  have HN : Hid (s1.n ≤ 100) := hn100
  have hs0' : (sizF t == 0) = false := by simpa using h0
  clear ht hok hlen hsz hwf hs1 hcl b1 hb1 hc1 hVz htV h0
  generalize sizF t = s at *
  generalize prgC t = pr at *
  have HVV : Hid (V = (w.alloc (ndX (t []))).alloc pX0) := hV
  subst hV
  have HT : Hid (∃ d, t [] = d) := ⟨_, rfl⟩
  clear HVV
  generalize t [] = d at *
  go_enter Try.func10, Try.ntmps10
  go_wp2_with fail
  go_fit kS
  rintro e w1 ⟨rfl, b1⟩
  have k1 := HG.out w1 b1
  obtain ⟨f0, f1, f2, f3, f4, f5, f6, f7, f8⟩ := (HC.out w1 b1).1.zero
  have B1 : Hid (Below ((w.alloc (ndX d)).alloc pX0).heap.size ((w.alloc (ndX d)).alloc pX0) w1) := b1
  clear kS b1
  go_wp2_with fail
  go_fit k1
  rintro e w2 ⟨⟨nv, rfl, o2⟩, b2⟩
  have B2 : Hid (Below ((w.alloc (ndX d)).alloc pX0).heap.size ((w.alloc (ndX d)).alloc pX0) w2) := B1.out.trans (b2.mono B1.out.size)
  have O2 : Hid (w2.ownsRow w.heap.size 9 1 nv s1.n (sc s1.f s1.n)) := row_mono o2 (by have := B1.out.size; have := HVZ.out; omega)
  have O2s : Hid (w2.ownsRow w1.heap.size 9 1 nv s1.n (sc s1.f s1.n)) := o2
  obtain ⟨na, nc, hnv⟩ : ∃ na nc, nv = .slice na s1.n nc := by
    rcases o2.2 with ⟨e, e2⟩ | ⟨g, cc, cur, e, _⟩
    · exact ⟨none, 0, by rw [e, e2]⟩
    · exact ⟨_, cc, e⟩
  have k2 := HP.out w2 B2.out
  obtain ⟨g0, g1, g2, g3, g4, g5, g6, g7, g8⟩ := (HC.out w2 B2.out).1.zero
  subst hnv
  clear k1 o2 b2 f0 f1 f2 f3 f4 f5 f6 f7 f8
  go_wp2_with fail
  go_fit k2
  rintro e w3 ⟨⟨iv, rfl, o3⟩, b3⟩
  have B3 : Hid (Below ((w.alloc (ndX d)).alloc pX0).heap.size ((w.alloc (ndX d)).alloc pX0) w3) := B2.out.trans (b3.mono B2.out.size)
  have O3 : Hid (w3.ownsRow w.heap.size 9 1 (.slice na s1.n nc) s1.n (sc s1.f s1.n)) := (Kp.of (M := fun _ => False) b3).row O2.out (fun _ _ => id)
  obtain ⟨g, cc, fi, hiv, hrow, hism, hapt⟩ := o3
  have hblk := (HC.out w3 B3.out).2
  have q : ∀ i u, #[Value.slice none 0 0, .int .i64 0, .int .i64 0, .slice none 0 0][i]? = some u → w3.cell? ⟨w.heap.size + 1, i, none⟩ = some u := fun i u h => by
    unfold World.cell?
    rw [hblk]
    exact h
  have q0 := q 0 _ rfl
  have q1 := q 1 _ rfl
  have q2 := q 2 _ rfl
  have q3 := q 3 _ rfl
  have z : ∀ i, w3.frozen? ⟨w.heap.size + 1, i, none⟩ = false := fun i => by
    unfold World.frozen?
    rw [hblk]
    simp
  have z0 := z 0
  have z1 := z 1
  have z2 := z 2
  have z3 := z 3
  subst hiv
  have HF : Hid (∀ w4, Kp (· = w.heap.size + 1) w3 w4 → OwA w2.heap.size w4 (.slice (some ⟨g, 0, none⟩) pr.length cc) pr ∧ w4.ownsRow w.heap.size 9 1 (.slice na s1.n nc) s1.n (sc s1.f s1.n) ∧ Below w.heap.size w w4) := fun w4 k => by
    have hg2 : w2.heap.size ≤ g := by
      rcases hrow.2 with ⟨e, _⟩ | ⟨G, _, _, e, hG, _⟩
      · cases e
      · cases e; exact hG
    have hw2 := B2.out.size
    have hvz := HVZ.out
    refine ⟨⟨g, cc, fi, rfl, k.row hrow (fun i e => by cases e; exact fun e => by have e' : g = w.heap.size + 1 := e; omega), fun j i hj => ?_, hapt.kp k (fun j b hj e e2 => by
      have e' : b = w.heap.size + 1 := e2
      have := ((hapt.row j _ hj (List.getElem?_eq_getElem hj)).1.lt b e).1
      omega)⟩, k.row O3.out (fun i e e' => ?_), (HB.out.trans (B3.out.mono HB.out.size)).trans (k.below (by have := B3.out.size; omega) (fun i hi e => by have e' : i = w.heap.size + 1 := e; omega))⟩
    · obtain ⟨a1, a2, a3, a4, hro⟩ := hism j i hj
      have hT : ∀ o r, w3.cell? ⟨w.heap.size + 1, o, none⟩ ≠ some (.int .i32 r) := fun o r h => by
        unfold World.cell? at h
        rw [hblk] at h
        match o, h with
        | 0, h => simp at h
        | 1, h => simp at h
        | 2, h => simp at h
        | 3, h => simp at h
        | o + 4, h => simp at h
      exact ⟨a1, a2, a3, a4, (hro.avoid (w.heap.size + 1) hT).kp (k.mono (fun i _ e => .inr e)) (fun i _ e => .inl e)⟩
    · have h1 : w1.heap.size ≤ i := by
        rcases O2s.out.2 with ⟨e0, _⟩ | ⟨G, _, _, e0, hG, _⟩
        · rw [e0] at e; cases e
        · rw [e0] at e
          have : G = i := Option.some.inj e
          omega
      have e2 : i = w.heap.size + 1 := e'
      have := B1.out.size
      omega
  clear hblk q z k2 b3 g0 g1 g2 g3 g4 g5 g6 g7 g8 hrow hism hapt
  go_wp2
  refine bodyPost_ret (v := .tuple #[.agg #[.slice (some ⟨g, 0, none⟩) pr.length cc, .int .i64 0, .int .i64 (s1.n : Int), .slice na s1.n nc], .int .i64 0]) (by simp [results, Try.results10, go_sem, q0, q1, q2, q3]) rfl ?_
  have kk : ∀ a b c d, Kp (· = w.heap.size + 1) w3 ((((w3.setCell ⟨w.heap.size + 1, 0, none⟩ a).setCell ⟨w.heap.size + 1, 1, none⟩ b).setCell ⟨w.heap.size + 1, 2, none⟩ c).setCell ⟨w.heap.size + 1, 3, none⟩ d) := fun a b c d => ((((Kp.refl (· = w.heap.size + 1) w3).setCell (p := ⟨w.heap.size + 1, 0, none⟩) rfl _).setCell (p := ⟨w.heap.size + 1, 1, none⟩) rfl _).setCell (p := ⟨w.heap.size + 1, 2, none⟩) rfl _).setCell (p := ⟨w.heap.size + 1, 3, none⟩) rfl _
  obtain ⟨h1, h2, h3⟩ := HF.out _ (kk _ _ _ _)
  exact ⟨⟨_, _, s1, w2.heap.size, rfl, HS1.out, HN.out, by have := B2.out.size; have := HVZ.out; omega, fun b e => (O2.out.lt b e).2, h1, h2⟩, h3⟩
end Go.Proofs.Ytbciclnffokjjaa
