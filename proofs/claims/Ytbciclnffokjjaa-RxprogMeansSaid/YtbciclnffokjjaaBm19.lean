/- A bundle of texts. -/
import Derived.Test.YtbciclnffokjjaaBm18
/- Code: slices.Clone of ranges; programOf. -/
namespace Go.Proofs.Ytbciclnffokjjaa
open Go.RowKit

theorem Ro.rml {w : World} {M : Nat → Prop} {a : Option Addr} {n : Nat} {rs : List Rg} (h : Ro w M a n rs) : Rml w a (fun j => rs.getD j (0, 0)) n := by
  rcases h.2 with h0 | ⟨g, o, e, hg, _, hc⟩
  · exact .inl h0
  · refine .inr ⟨g, o, e, hg, fun j hj => ?_⟩
    have hj' : j < rs.length := by have := h.1; omega
    have hg' : rs[j]? = some rs[j] := List.getElem?_eq_getElem hj'
    have e' : rs.getD j (0, 0) = rs[j] := by simp [List.getD, hg']
    dsimp only
    rw [e']
    exact hc j _ hg'
set_option maxHeartbeats 1000000 in
set_option maxRecDepth 100000 in
theorem cloneR_any (M : Nat → Prop) (a : Option Addr) (n c : Nat) (rs : List Rg) (w : World) (hM : ∀ k, M k → k < w.heap.size) (hr : Ro w M a n rs) (hn : n * 8 ≤ 140737488355328) :
    Calls Try.prog 49 #[.slice a n c] w fun e w' => (∃ a' c', e = .returned (.slice a' n c') ∧ Ro w' M a' n rs) ∧ Below w.heap.size w w' := by
  cases a with
  | none =>
    have h0 : n = 0 := by
      rcases hr.2 with h | ⟨_, _, h, _⟩
      · exact h
      · cases h
    subst h0
    have HR : Hid (Ro w M none 0 rs) := hr
    have hnil : ∀ w : World, (binOp BinOp.eql 27 (.slice none 0 c) (.slice none 0 0)).run Try.prog w = .ok (.bool true) w := fun _ => by kernel_rfl
    clear hr
    go_enter Try.func49, Try.ntmps49
    go_wp2
    go_ret
    exact ⟨⟨none, 0, rfl, HR.out⟩, Below.refl _ _⟩
  | some p =>
    obtain ⟨g, cap, w', r, o, b, hg, hlt⟩ := fresh_copy (P := Try.prog) w 27 50 _ 2 8 Try.underlying27 infG rfl (by decide) (some p) n c (rc2 (fun j => rs.getD j (0, 0)) n) (fun h => by cases h) (rc2_len _ _) (fun q hq => by cases hq; exact hr.rml.cells) (rc2_one _ _) (by unfold maxLen; omega) hn
    have HR : Hid (Ro w' M (some ⟨g, 0, none⟩) n rs) := by
      refine ⟨hr.1, ?_⟩
      by_cases h0 : n = 0
      · exact .inl h0
      · refine .inr ⟨g, 0, rfl, hlt, fun h => by have := hM g h; omega, fun j x hx => ?_⟩
        have hj : j < n := by have := (List.getElem?_eq_some_iff.1 hx).1; have := hr.1; omega
        have := (Rml.of_row o hlt).at j hj
        obtain ⟨g', o', e', _, c0, c1⟩ := this
        cases e'
        have ex : rs.getD j (0, 0) = x := by simp [List.getD, hx]
        rw [ex] at c0 c1
        exact ⟨c0, c1⟩
    have HB : Hid (Below w.heap.size w w') := b
    have hnil : ∀ w : World, (binOp BinOp.eql 27 (.slice (some p) n c) (.slice none 0 0)).run Try.prog w = .ok (.bool false) w := fun _ => by kernel_rfl
    clear o hr
    go_enter Try.func49, Try.ntmps49
    go_wp2_with (at_builtin; refine wpList_append_run rfl (.tmp 5) (.tmp 6) 27 27 rfl _ _ rfl rfl r ?_)
    go_ret
    exact ⟨⟨_, _, rfl, HR.out⟩, HB.out⟩
/-- The ranges of an instruction of the code are written. -/
theorem Cd.patch4 {Z : Nat → Prop} {S B g cc : Nat} {w : World} {f : Nat → In} {c : List Ia} (h : Cd Z S w B (.slice (some ⟨g, 0, none⟩) c.length cc) f c) (j : Nat) (i : Ia) (a : Option Addr) (rc : Nat) (hj : c[j]? = some i) (hr : Ro w (MZ Z B (.slice (some ⟨g, 0, none⟩) c.length cc)) a (f j).rn i.rs) :
    Cd Z S (w.setCell ⟨g, j * 5 + 4, none⟩ (.slice a (f j).rn rc)) B (.slice (some ⟨g, 0, none⟩) c.length cc) (up f j { f j with ra := a, rc := rc }) c ∧ Kp (Mv B (.slice (some ⟨g, 0, none⟩) c.length cc)) w (w.setCell ⟨g, j * 5 + 4, none⟩ (.slice a (f j).rn rc)) := by
  have hK : Kp (Mv B (.slice (some ⟨g, 0, none⟩) c.length cc)) w (w.setCell ⟨g, j * 5 + 4, none⟩ (.slice a (f j).rn rc)) := (Kp.refl _ w).setCell (p := ⟨g, j * 5 + 4, none⟩) (.inr rfl) _
  have hK' : Kp (MZ Z B (.slice (some ⟨g, 0, none⟩) c.length cc)) w (w.setCell ⟨g, j * 5 + 4, none⟩ (.slice a (f j).rn rc)) := hK.mono (fun _ _ e => .inl e)
  have hjl : j < c.length := (List.getElem?_eq_some_iff.1 hj).1
  have hgb : g ≠ B := fun e => h.gb (by rw [e]; rfl)
  have hkg : Kp (· = g) w (w.setCell ⟨g, j * 5 + 4, none⟩ (.slice a (f j).rn rc)) := (Kp.refl (· = g) w).setCell (p := ⟨g, j * 5 + 4, none⟩) rfl _
  refine ⟨⟨hkg.cell h.c0 (fun e => hgb e.symm), hkg.frozen h.c0 h.fz (fun e => hgb e.symm), ?_, h.gb, h.SB, fun k z hz => ?_⟩, hK⟩
  · rw [← n5_setq f j 4 (.slice a (f j).rn rc) { f j with ra := a, rc := rc } (by omega) rfl c.length hjl]
    exact (World.ownsRow.stored h.row (j * 5 + 4) _).1
  · by_cases e : k = j
    · subst e
      rw [hj] at hz
      cases hz
      rw [up_same]
      obtain ⟨a1, a2, a3, a4, _⟩ := h.rg k i hj
      exact ⟨a1, a2, a3, a4, hr.kp hK' (fun _ _ e => e)⟩
    · rw [up_other _ _ _ _ e]
      exact (h.rg k z hz).kp hK' (fun _ _ e => e)

/-- The program of a tree. -/
def prgC (t : Tr) : List Ia := cod 8195 t 0 ++ [⟨1, 0, 0, 0, []⟩]
/-- Code that a slice of one's own shows. -/
def Ow (S : Nat) (w : World) (v : Value) (c : List Ia) : Prop := ∃ (g cc : Nat) (f : Nat → In), v = .slice (some ⟨g, 0, none⟩) c.length cc ∧ w.ownsRow S 29 5 v c.length (n5 f c.length) ∧ ∀ j i, c[j]? = some i → Ism w (fun k => k = g) (f j) i
end Go.Proofs.Ytbciclnffokjjaa
/- Code: programOf. -/
namespace Go.Proofs.Ytbciclnffokjjaa
open Go.RowKit

/-- How many ranges an instruction has. -/
def Qr (i : Ia) : Prop := i.rs.length * 8 ≤ 140737488351232
theorem Qr.mvs {b : Int} {k : List Ia} (h : ∀ i ∈ k, Qr i) : ∀ i ∈ mvs b k, Qr i := by
  intro i hi
  unfold Go.Proofs.Ytbciclnffokjjaa.mvs at hi
  obtain ⟨j, hj, rfl⟩ := List.mem_map.1 hi
  exact h j hj
theorem Qr.nil (op out alt arg : Int) : Qr ⟨op, out, alt, arg, []⟩ := by unfold Qr; simp
theorem Qr.spl (k l : Int) (lz : Bool) : Qr (spl k l lz) := by unfold Qr Go.Proofs.Ytbciclnffokjjaa.spl; simp
theorem layF_rs {k : List Ia} (hk : ∀ i ∈ k, Qr i) (b : Int) : ∀ j, ∀ i ∈ layF k j b, Qr i
  | 0, i, h => by cases h
  | j + 1, i, h => by
    rw [layF_succ] at h
    rcases List.mem_append.1 h with h | h
    · exact layF_rs hk b j i h
    · exact Qr.mvs hk i h
theorem optF_rs {k : List Ia} (hk : ∀ i ∈ k, Qr i) (lz : Bool) (e b : Int) : ∀ j, ∀ i ∈ optF k lz e j b, Qr i
  | 0, i, h => by cases h
  | j + 1, i, h => by
    rw [optF_succ] at h
    rcases List.mem_append.1 h with h | h
    · exact optF_rs hk lz e b j i h
    · rcases List.mem_cons.1 h with rfl | h
      · exact Qr.spl _ _ _
      · exact Qr.mvs hk i h
theorem repC_rs {k : List Ia} (hk : ∀ i ∈ k, Qr i) (mn mx : Int) (lz : Bool) (b : Int) : ∀ i ∈ repC k mn mx lz b, Qr i := by
  intro i h
  unfold repC at h
  split at h
  · cases h
  · split at h
    · rcases List.mem_append.1 h with h | h
      · exact layF_rs hk b _ i h
      · rcases List.mem_cons.1 h with rfl | h
        · exact Qr.spl _ _ _
        · rcases List.mem_append.1 h with h | h
          · exact Qr.mvs hk i h
          · rcases List.mem_singleton.1 h with rfl
            exact Qr.nil _ _ _ _
    · rcases List.mem_append.1 h with h | h
      · exact layF_rs hk b _ i h
      · exact optF_rs hk lz _ _ _ i h
theorem catF_rs {F : Nat → Int → List Ia} (b : Int) : ∀ n, (∀ j, j < n → ∀ b, ∀ i ∈ F j b, Qr i) → ∀ i ∈ catF F n b, Qr i
  | 0, _, i, h => by cases h
  | n + 1, hF, i, h => by
    unfold catF at h
    rcases List.mem_append.1 h with h | h
    · exact catF_rs b n (fun j hj => hF j (by omega)) i h
    · exact hF n (by omega) _ i h
theorem altF_rs {F : Nat → Int → List Ia} (e b : Int) : ∀ n, (∀ j, j < n → ∀ b, ∀ i ∈ F j b, Qr i) → ∀ i ∈ altF F e n b, Qr i
  | 0, _, i, h => by cases h
  | n + 1, hF, i, h => by
    unfold altF at h
    rcases List.mem_append.1 h with h | h
    · exact altF_rs e b n (fun j hj => hF j (by omega)) i h
    · rcases List.mem_cons.1 h with rfl | h
      · exact Qr.nil _ _ _ _
      · rcases List.mem_append.1 h with h | h
        · exact hF n (by omega) _ i h
        · rcases List.mem_singleton.1 h with rfl
          exact Qr.nil _ _ _ _
theorem cod_rs {B : Nat} {w : World} : ∀ (m : Nat) (t : Tr) (b : Int), Tat B w t → WF m t → ∀ i ∈ cod m t b, Qr i
  | 0, _, _, _, h, _, _ => by cases h
  | m + 1, t, b, ht, hw, i, h => by
    obtain ⟨⟨hnd, _⟩, _, hk⟩ := hw
    have ih : ∀ j, j < (t []).kn → ∀ b, ∀ i ∈ cod m (kid t j) b, Qr i := fun j hj b i hi => cod_rs m _ b (ht.kid j hj) (hk j hj) i hi
    have hrn := ht.node.1
    unfold cod at h
    split at h
    · rcases List.mem_singleton.1 h with rfl
      unfold Qr; simp
    split at h
    · rcases List.mem_singleton.1 h with rfl
      unfold clsC Qr
      split
      · simp
      · dsimp only; rw [rsL_len]; exact hrn
    split at h
    · exact catF_rs b _ ih i h
    split at h
    · rename_i k5
      have h2 := ndB_row hnd (.inr k5)
      unfold altC at h
      rcases List.mem_append.1 h with h | h
      · exact altF_rs _ b _ (fun j hj => ih j (by omega)) i h
      · exact ih _ (by omega) _ i h
    split at h
    · rename_i k6
      have h6 := ndB_rep hnd k6
      exact repC_rs (ih 0 (by omega) 0) _ _ _ b i h
    split at h
    · rename_i k7
      have h7 := ndB_grp hnd k7
      rcases List.mem_cons.1 h with rfl | h
      · exact Qr.nil _ _ _ _
      · rcases List.mem_append.1 h with h | h
        · exact ih 0 (by omega) _ i h
        · rcases List.mem_singleton.1 h with rfl
          exact Qr.nil _ _ _ _
    split at h
    · rcases List.mem_singleton.1 h with rfl
      exact Qr.nil _ _ _ _
    split at h
    · rcases List.mem_singleton.1 h with rfl
      exact Qr.nil _ _ _ _
    · cases h

set_option maxHeartbeats 4000000 in
set_option maxRecDepth 100000 in
theorem programOf_any (t : Tr) (w : World) (ht : Tat w.heap.size w t) (hw : WF 8195 t) (hn : (cod 8195 t 0).length + 1 ≤ 100000) :
    Calls Try.prog 27 #[ndV (t [])] w fun e w' => (∃ v, e = .returned v ∧ Ow w.heap.size w' v (prgC t)) ∧ Below w.heap.size w w' := by
  have b1 : Below w.heap.size w (w.alloc (ndX (t []))) := (Below.refl _ w).alloc (Nat.le_refl _) _
  obtain ⟨W1, hW1⟩ : ∃ W1, W1 = w.alloc (ndX (t [])) := ⟨_, rfl⟩
  have hz1 : W1.heap.size = w.heap.size + 1 := by rw [hW1]; simp
  rw [← hW1] at b1
  have b2 : Below W1.heap.size W1 (W1.alloc (.cells #[.slice none 0 0] 85)) := (Below.refl _ W1).alloc (Nat.le_refl _) _
  have ht2 : Tat w.heap.size (W1.alloc (.cells #[.slice none 0 0] 85)) t := (ht.below b1).below (b2.mono b1.size)
  have cN := cd_new (fun _ => False) W1
  have kN := nodeC_any 8195 (fun _ => False) w.heap.size W1.heap.size W1.heap.size (.slice none 0 0) fIn [] t (W1.alloc (.cells #[.slice none 0 0] 85)) cN ht2 b1.size (fun k h => h.elim) hw b2.size (by show 0 + (cod 8195 t 0).length ≤ 100000; omega)
  change Calls Try.prog 47 _ _ (Cp (fun _ => False) W1.heap.size W1.heap.size (.slice none 0 0) [] (cod 8195 t 0) (W1.alloc (.cells #[.slice none 0 0] 85))) at kN
  have HQ : Hid (∀ i ∈ prgC t, Qr i) := fun i hi => by
    unfold prgC at hi
    rcases List.mem_append.1 hi with hi | hi
    · exact cod_rs 8195 t 0 ht hw i hi
    · rcases List.mem_singleton.1 hi with rfl
      exact Qr.nil _ _ _ _
  have H3 : Hid (∀ e w3, Cp (fun _ => False) W1.heap.size W1.heap.size (.slice none 0 0) [] (cod 8195 t 0) (W1.alloc (.cells #[.slice none 0 0] 85)) e w3 → e = .returned (.tuple #[]) ∧ Rn (fun _ => False) W1.heap.size W1.heap.size (.slice none 0 0) [] (W1.alloc (.cells #[.slice none 0 0] 85)) (cod 8195 t 0) w3) := fun e w3 h => by
    obtain ⟨he, ⟨v2, f2, cd2, sb2⟩, kp2⟩ := h
    exact ⟨he, v2, f2, cd2, sb2, kp2⟩
  have HS2 : Hid (W1.heap.size ≤ (W1.alloc (.cells #[.slice none 0 0] 85)).heap.size) := b2.size
  have HLOW : Hid (∀ l w', Rn (fun _ => False) W1.heap.size W1.heap.size (.slice none 0 0) [] (W1.alloc (.cells #[.slice none 0 0] 85)) l w' → Below w.heap.size w w' ∧ Below W1.heap.size W1 w') := fun l w' h => by
    have := b2.trans (cN.low b2.size h.kp)
    exact ⟨b1.trans (this.mono b1.size), this⟩
  have HN : Hid ((cod 8195 t 0).length + 1 ≤ 100000) := hn
  have HP : Hid (prgC t = cod 8195 t 0 ++ [⟨1, 0, 0, 0, []⟩]) := rfl
  rw [hz1] at kN H3 HS2 HLOW
  subst hW1
  clear ht hw hn b1 hz1 b2 ht2 cN
  generalize hcd : cod 8195 t 0 = cd0 at *
  generalize prgC t = pr at *
  clear hcd
  generalize t [] = d at *
  go_enter Try.func27, Try.ntmps27
  go_wp2_with fail
  go_fit kN
  rintro e w3 h3
  obtain ⟨rfl, r3⟩ := H3.out _ _ h3
  have kP := r3.put HS2.out (by have := HN.out; simp; omega) 1 0 0 0
  clear kN H3 h3 r3
  go_wp2_with fail
  go_fit kP
  rintro e w4 ⟨rfl, r4⟩
  rw [← HP.out] at r4
  obtain ⟨v4, f4, cd4, sb4, kp4⟩ := r4
  rw [List.nil_append] at cd4
  have hlen : 0 < pr.length := by rw [HP.out]; simp
  have hlenI : (pr.length : Int) ≤ 100000 := by have := HN.out; rw [HP.out]; simp; omega
  obtain ⟨g, cc, rfl⟩ : ∃ g cc, v4 = .slice (some ⟨g, 0, none⟩) pr.length cc := by
    rcases cd4.row.2 with ⟨_, e2⟩ | ⟨g, cc, cur, e, _⟩
    · omega
    · exact ⟨g, cc, e⟩
  have HB4 : Hid (Below w.heap.size w w4) := (HLOW.out _ _ ⟨_, f4, by rw [List.nil_append]; exact cd4, sb4, kp4⟩).1
  have CD4 : Hid _ := cd4
  obtain ⟨B, hB⟩ : ∃ B, B = w.heap.size + 1 := ⟨_, rfl⟩
  rw [← hB] at cd4 CD4
  have c4 := cd4.c0
  have HBB : Hid (B = w.heap.size + 1) := hB
  clear kP sb4 kp4 cd4 hB HLOW
  go_upto_region 4 with fail
  rw [← HBB.out]
  go_wp2_with fail
  go_loopw [12] (fun ivv w' => ∃ i : Nat, ivv = .int .i64 (i : Int) ∧ i ≤ pr.length ∧ ∃ f', Hid (Cd (fun _ => False) B w' B (.slice (some ⟨g, 0, none⟩) pr.length cc) f' pr ∧ Kp (Mv B (.slice (some ⟨g, 0, none⟩) pr.length cc)) w4 w')) (fun ivv _ => pr.length - (RowKit.intOf ivv).toNat)
  case atStart => exact ⟨0, rfl, by omega, f4, CD4.out, Kp.refl _ _⟩
  case round =>
    obtain ⟨i, rfl, hi, f', hI⟩ := hrel
    obtain ⟨cd, kp⟩ := hI.out
    have c0 := cd.c0
    by_cases hlt : i < pr.length
    · have hii : (i : Int) < pr.length := by omega
      obtain ⟨x, hget⟩ : ∃ x, pr[i]? = some x := ⟨_, List.getElem?_eq_getElem hlt⟩
      have hq := HQ.out x (List.mem_of_getElem? hget)
      have hro := (cd.rg i x hget).2.2.2.2
      have hdr : Below wr.heap.size wr wr.drew := (Below.refl _ wr).drew
      have kC := cloneR_any (MZ (fun _ => False) B (.slice (some ⟨g, 0, none⟩) pr.length cc)) (f' i).ra (f' i).rn (f' i).rc x.rs wr.drew (fun k h => by
        rcases h with h | h
        · exact (cd.base k h).2
        · exact h.elim) (hro.kp (Kp.of hdr) (fun _ _ e => e)) (by have := hro.1; unfold Qr at hq; omega)
      have z1 : wr.cell? ⟨g, i * 5 + 4, none⟩ = some (.slice (f' i).ra (f' i).rn (f' i).rc) := by
        rw [World.ownsRow.cellAt cd.row (i * 5 + 4) (by omega), n5_get _ _ _ _ hlt (by omega)]
        rfl
      have z2 : wr.frozen? ⟨g, i * 5 + 4, none⟩ = false := World.ownsRow.frozenAt cd.row _
      have H5 : Hid (∀ w5 a' c', Ro w5 (MZ (fun _ => False) B (.slice (some ⟨g, 0, none⟩) pr.length cc)) a' (f' i).rn x.rs → Below wr.drew.heap.size wr.drew w5 → ∃ f2, Cd (fun _ => False) B (w5.setCell ⟨g, i * 5 + 4, none⟩ (.slice a' (f' i).rn c')) B (.slice (some ⟨g, 0, none⟩) pr.length cc) f2 pr ∧ Kp (Mv B (.slice (some ⟨g, 0, none⟩) pr.length cc)) w4 (w5.setCell ⟨g, i * 5 + 4, none⟩ (.slice a' (f' i).rn c'))) := fun w5 a' c' hr b5 => by
        obtain ⟨q1, q2⟩ := ((cd.below hdr).below b5).patch4 i x a' c' hget hr
        exact ⟨_, q1, (kp.trans (Kp.of (hdr.trans b5))).trans q2⟩
      have HC5 : Hid (∀ w5, Below wr.drew.heap.size wr.drew w5 → w5.cell? ⟨B, 0, none⟩ = some (.slice (some ⟨g, 0, none⟩) pr.length cc) ∧ w5.cell? ⟨g, i * 5 + 4, none⟩ = some (.slice (f' i).ra (f' i).rn (f' i).rc) ∧ w5.frozen? ⟨g, i * 5 + 4, none⟩ = false) := fun w5 b5 => by
        have cd5 := (cd.below hdr).below b5
        refine ⟨cd5.c0, ?_, World.ownsRow.frozenAt cd5.row _⟩
        rw [World.ownsRow.cellAt cd5.row (i * 5 + 4) (by omega), n5_get _ _ _ _ hlt (by omega)]
        rfl
      have HLT : Hid (i < pr.length) := hlt
      clear cd kp hget hq hro hdr hI
      go_wp2_with fail
      go_region_with (go_at_call 49; go_fit kC; rintro e w5 ⟨⟨a', c', rfl, hr5⟩, b5⟩; have y5 := HC5.out w5 b5; have y6 := y5.1; have y7 := y5.2.1; have y8 := y5.2.2; clear y5)
      all_goals
        obtain ⟨f2, h2⟩ := H5.out w5 a' c' hr5 b5
        have HH2 : Hid _ := h2
        clear h2 hr5 b5 y6 y7 y8 kC H5 HC5
        go_wp2
        exact ⟨⟨i + 1, by go_num, HLT.out, f2, HH2⟩, by simp [RowKit.intOf]; omega⟩
    · have hii : ¬ (i : Int) < pr.length := by omega
      have HF : Hid ((∃ v, Ending.returned (.slice (some ⟨g, 0, none⟩) pr.length cc) = .returned v ∧ Ow w.heap.size wr v pr) ∧ Below w.heap.size w wr) := by
        have hBw : w.heap.size ≤ B := by rw [HBB.out]; omega
        refine ⟨⟨_, rfl, g, cc, f', rfl, row_mono cd.row hBw, fun j i hj => (cd.rg j i hj).kp (Kp.refl _ wr) (fun k _ e => .inl (.inr (by rw [e]; rfl)))⟩, HB4.out.trans (kp.below HB4.out.size (fun k hk e => ?_))⟩
        have := (CD4.out.base k e).1
        omega
      clear cd kp hI
      go_wp2
      go_ret
      exact HF.out
end Go.Proofs.Ytbciclnffokjjaa
