/- A bundle of texts. -/
import Derived.Test.YtbciclnffokjjaaBm46
/- The reference's lay: its walk. -/
namespace Go.Proofs.Ytbciclnffokjjaa
open Go.RowKit Go.Lib

/-- A region that ends in one way only. -/
def OnlyN (A : Act) (W : World) : Exit → Act → World → Prop
  | .normal, a, w => a = A ∧ w = W
  | _, _, _ => False
theorem OnlyN.imp {A : Act} {W : World} {Q : Exit → Act → World → Prop} (h : Q .normal A W) : ∀ e a w, OnlyN A W e a w → Q e a w := by
  intro e a w q
  cases e with
  | normal => obtain ⟨rfl, rfl⟩ := q; exact h
  | _ => exact (show False from q).elim
abbrev LyS (H B n : Nat) (na sa : Option Addr) (N nc sc : Nat) (d : Nd) (w' : World) : Prop := w'.cell? ⟨H, 0, none⟩ = some (.slice na N nc) ∧ w'.cell? ⟨H, 1, none⟩ = some (.slice sa n sc) ∧ w'.cell? ⟨B, 0, none⟩ = some (.int .i64 d.kind) ∧ w'.cell? ⟨B, 1, none⟩ = some (.int .i32 d.r) ∧ w'.cell? ⟨B, 2, none⟩ = some (.slice d.ra d.rn d.rc) ∧ w'.cell? ⟨B, 3, none⟩ = some (.int .i64 d.mn) ∧ w'.cell? ⟨B, 4, none⟩ = some (.int .i64 d.mx) ∧ w'.cell? ⟨B, 5, none⟩ = some (.bool d.lz) ∧ w'.cell? ⟨B, 6, none⟩ = some (.int .i64 d.cp) ∧ w'.cell? ⟨B, 7, none⟩ = some (.string d.nm) ∧ w'.cell? ⟨B, 8, none⟩ = some (.slice d.ka d.kn d.kc)
theorem LyS.of {H B n : Nat} {na sa : Option Addr} {N nc sc : Nat} {d : Nd} {w' : World} (h0 : w'.cell? ⟨H, 0, none⟩ = some (.slice na N nc)) (h1 : w'.cell? ⟨H, 1, none⟩ = some (.slice sa n sc)) (h : Cs w' B 0 d) : LyS H B n na sa N nc sc d w' := by
  obtain ⟨z0, z1, z2, z3, z4, z5, z6, z7, z8⟩ := h
  simp only [Nat.zero_add] at z0 z1 z2 z3 z4 z5 z6 z7 z8
  exact ⟨h0, h1, z0, z1, z2, z3, z4, z5, z6, z7, z8⟩
set_option maxHeartbeats 4000000 in
set_option maxRecDepth 100000 in
theorem lay_of (m : Nat) (IH : LyK m) : LyK (m + 1) := by
  intro t op s s1 H S n y nv sa sc W0 w Z hvd hw hT hb hv hZ hN hn
  have hk1 := vd_k _ _ _ _ _ hvd
  obtain ⟨s2, hmid, hvs⟩ : ∃ s2, mid (t []) { s with k := s.k + 1 } = some s2 ∧ vds (vd m) t (if (t []).kind = 7 then op + 1 else op) (t []).kn s2 = some s1 := by
    unfold vd at hvd
    split at hvd
    · cases hvd
    · cases hm : mid (t []) { s with k := s.k + 1 } with
      | none => rw [hm] at hvd; cases hvd
      | some s2 => rw [hm] at hvd; exact ⟨s2, rfl, hvd⟩
  obtain ⟨op2, hop2⟩ : ∃ op2, (if (t []).kind = 7 then op + 1 else op) = op2 := ⟨_, rfl⟩
  rw [hop2] at hvs
  obtain ⟨na, nc, hnv⟩ : ∃ na nc, nv = .slice na y.N nc := by
    rcases hv.row.2 with ⟨e, h0⟩ | ⟨g, cap, cur, e, _⟩
    · exact ⟨none, 0, by rw [e, h0]⟩
    · exact ⟨_, cap, e⟩
  have hHs : H < w.heap.size := Nat.lt_of_lt_of_le hv.hH hv.hS
  have hknl : (t []).kn ≤ 8194 := hw.2.1
  have hkk : (t []).kn ≤ (t []).kc := hT.node.2.2.2
  have hnv0 : ∀ b, nv.ownBlock = some b → b < w.heap.size := fun b e => (hv.row.lt b e).2
  -- the box of x
  obtain ⟨wA, hwA⟩ : ∃ wA, wA = w.alloc (ndX (t [])) := ⟨_, rfl⟩
  have HWA : Hid (wA = w.alloc (ndX (t []))) := hwA
  obtain ⟨wB, hwB⟩ : ∃ wB, wB = wA.drew := ⟨_, rfl⟩
  have hbA : Below w.heap.size w wA := by rw [hwA]; exact (Below.refl _ w).alloc (Nat.le_refl _) _
  have hzA : w.heap.size < wA.heap.size := by rw [hwA]; simp
  have hxA : Cs wA w.heap.size 0 (t []) := by rw [hwA]; exact ndX_cells (w := w) (t []) (Below.refl _ _)
  have hbB : Below w.heap.size w wB := by rw [hwB]; exact hbA.drew
  have hzB : w.heap.size < wB.heap.size := by rw [hwB]; exact hzA
  have hx : Cs wB w.heap.size 0 (t []) := by rw [hwB]; exact hxA.kp (M := fun _ => False) (Kp.refl _ _).drew id
  obtain ⟨W1, r1, ⟨g1, g2, g3⟩, b1⟩ := make_s wB (n + 1) (by omega)
  have hvB : LyT H S n y nv (.slice sa n sc) (fun b => Z b ∨ b = w.heap.size) wB := hv.kp (Kp.of hbB) (fun b hb e => e.elim id (fun e => by omega))
  have hv1 : LyT H S n y nv (.slice sa n sc) (fun b => Z b ∨ b = w.heap.size) W1 := hvB.kp (Kp.of b1) (fun _ _ e => e)
  obtain ⟨g, hg⟩ : ∃ g, g = wB.heap.size := ⟨_, rfl⟩
  rw [← hg] at r1 g1 g2 g3
  obtain ⟨gr, cr, w2, r2, o2, k2, hgr⟩ := append_11 W1 S nv y.N _ (t []) g n hv1.hS (by omega) hv1.row
  have HI0 : Hid (LyI m t op2 s2 H S n y nv (.slice sa n sc) Z W0 w 0 (.slice none 0 0) (w2.setCell ⟨H, 0, none⟩ (.slice (some ⟨gr, 0, none⟩) (y.N + 1) cr))) := LyI.start hv hZ hN hmid hbB hzB (by have := hx.c8; simpa using this) b1 ⟨by omega, g1⟩ g2 g3 o2 k2 hgr
  have hHnv : nv.ownBlock ≠ some H := fun e => by have := (hv.row.lt H e).1; have := hv.hH; omega
  have q0 := k2.cell hv1.h0 hHnv
  have q1 := k2.frozen hv1.h0 hv1.hf hHnv
  have HFIN : Hid (∀ (kv : Value) (w' : World), LyI m t op2 s2 H S n y nv (.slice sa n sc) Z W0 w (t []).kn kv w' → ∃ ks kc0, kv = .slice ks (t []).kn kc0 ∧ ∃ gr cr N, w'.cell? ⟨H, 0, none⟩ = some (.slice (some ⟨gr, 0, none⟩) N cr) ∧ y.N < N ∧ N ≤ 8194 ∧ (∃ v, w'.cell? ⟨gr, y.N * 11 + 9, none⟩ = some v) ∧ w'.frozen? ⟨gr, y.N * 11 + 9, none⟩ = false ∧ LyP (m + 1) t H S n y nv (.slice sa n sc) s1 Z W0 w (w'.setCell ⟨gr, y.N * 11 + 9, none⟩ kv)) := fun kv w' h => h.fin hw hT hvs hk1.2 hv.hS hZ
  have HKID : Hid (∀ (i : Nat) (kv : Value) (w' : World), LyI m t op2 s2 H S n y nv (.slice sa n sc) Z W0 w i kv w' → i < (t []).kn → (∃ ks kc, kv = .slice ks i kc) ∧ ∃ g o, (t []).ka = some ⟨g, o, none⟩ ∧ Cs w' g (o + i * 9) (t [i]) ∧ Calls Try.prog 33 #[.pointer (some ⟨H, 0, none⟩), ndV (t [i])] w' (fun e w5 => ∃ id : Nat, e = .returned (.int .i64 (id : Int)) ∧ ∃ g c w7, (Builtin.append_ #[57, 57] 57 #[kv, .slice (some ⟨w5.heap.size, 0, none⟩) 1 1]).run Try.prog (w5.alloc (.cells #[.int .i64 (id : Int)] 3)) = .ok (.slice (some ⟨g, 0, none⟩) (i + 1) c) w7 ∧ Hid (LyI m t op2 s2 H S n y nv (.slice sa n sc) Z W0 w (i + 1) (.slice (some ⟨g, 0, none⟩) (i + 1) c) w7))) := fun i kv w' h hi => by
    obtain ⟨y1, nv1, si, js, ⟨p1, p2⟩, hv1, hag, htop, hlg, hjs, hrow, hnv1⟩ := h.ex
    obtain ⟨sj, hsj⟩ := vds_some hvs (i + 1) (by omega)
    have hsj' := hsj
    unfold vds at hsj'
    rw [p1] at hsj'
    have hbw : Below H W0 w' := hb.trans (h.kp.below (by omega) (fun b hb e => by
      rcases e with e | e
      · omega
      · have := (hv.row.lt b e).1; have := hv.hH; omega))
    have htw : Tat H w' t := hT.below hbw
    obtain ⟨g, o, hka, hgl, hcs⟩ := htw.kids.at i hi
    refine ⟨Sp.form hrow, g, o, hka, hcs, ?_⟩
    have hZ' : ∀ b, ((Z b ∨ b = w.heap.size) ∨ kv.ownBlock = some b) → b < w'.heap.size := fun b e => by
      have := h.lt
      rcases e with (e | e) | e
      · have := hZ b e; omega
      · omega
      · exact (hrow.lt b e).2
    refine (IH (kid t i) _ si sj H S n y1 nv1 sa sc W0 w' _ hsj' (hw.2.2 i hi) (hT.kid i hi) hbw hv1 hZ' p2 hn).mono ?_
    rintro e w5 ⟨rfl, hp⟩
    refine ⟨y1.N, rfl, ?_⟩
    obtain ⟨_, _, _, _, _, _, _, k5, _⟩ := hp.out
    have o5 : w5.ownsRow (w.heap.size + 1) 3 1 kv js.length (jc js) := by
      rw [hjs.1]
      refine k5.row hrow (fun b e e2 => ?_)
      rcases e2 with e2 | e2
      · have := (hrow.lt b e).1; omega
      · exact hv1.hZ.2 b e2 (.inr e)
    have hl5 := h.lt
    have hs5 := k5.size
    obtain ⟨g7, c7, w7, r7, o7, k7, hg7⟩ := append_p w5 (w.heap.size + 1) kv js y1.N (by omega) (by rw [hjs.1]; omega) o5
    rw [hjs.1] at r7 o7
    exact ⟨g7, c7, w7, r7, h.next hv1 hag htop hlg hjs hrow hnv1 hHs hsj hp.out o7 k7 hg7⟩
  have HBX : Hid (∀ (i : Nat) (kv : Value) (w' : World), LyI m t op2 s2 H S n y nv (.slice sa n sc) Z W0 w i kv w' → w'.cell? ⟨w.heap.size, 8, none⟩ = some (.slice (t []).ka (t []).kn (t []).kc)) := fun i kv w' h => h.bx
  have hvA : LyT H S n y nv (.slice sa n sc) (fun b => Z b ∨ b = w.heap.size) wA := hv.kp (Kp.of hbA) (fun b hb e => e.elim id (fun e => by omega))
  have hx1 : Cs W1 w.heap.size 0 (t []) := hx.kp (M := fun _ => False) (Kp.of b1) id
  have hv2 : LyT H S n y nv (.slice sa n sc) (fun b => Z b ∨ b = w.heap.size) (W1.alloc (nX (t []) g n)) := hv1.kp ((Kp.refl _ W1).alloc _) (fun _ _ e => e)
  have hx2 : Cs (W1.alloc (nX (t []) g n)) w.heap.size 0 (t []) := hx1.kp (M := fun _ => False) ((Kp.refl _ W1).alloc _) id
  have hBnv : nv.ownBlock ≠ some w.heap.size := fun e => by have := (hv.row.lt _ e).2; omega
  have hx3 : Cs w2 w.heap.size 0 (t []) := hx1.kp k2 hBnv
  have HSA : Hid (LyS H w.heap.size n na sa y.N nc sc (t []) wA) := LyS.of (by rw [← hnv]; exact hvA.h0) hvA.h1 hxA
  have HS1 : Hid (LyS H w.heap.size n na sa y.N nc sc (t []) W1) := LyS.of (by rw [← hnv]; exact hv1.h0) hv1.h1 hx1
  have HS2 : Hid (LyS H w.heap.size n na sa y.N nc sc (t []) (W1.alloc (nX (t []) g n))) := LyS.of (by rw [← hnv]; exact hv2.h0) hv2.h1 hx2
  have HS3 : Hid (LyS H w.heap.size n na sa y.N nc sc (t []) w2) := LyS.of (by rw [← hnv]; exact k2.cell hv1.h0 hHnv) (k2.cell hv1.h1 hHnv) hx3
  obtain ⟨c01, _, z0, z1, z2, z3, z4, z5, z6, z7, z8⟩ := HS1.out
  have c02 := HS2.out.1
  have c0 := hvA.h0
  have c1 := hvA.h1
  have hknI : ((t []).kn : Int) ≤ 8194 := by omega
  have hnI : (n : Int) ≤ 100000 := by omega
  have hyI : (y.N : Int) ≤ 8194 := by omega
  obtain ⟨x0, x1, x2, x3, x4, x5, x6, x7, x8⟩ := hxA
  simp only [Nat.zero_add] at x0 x1 x2 x3 x4 x5 x6 x7 x8
  push_cast at r1
  have hwr : IntKind.i64.wrap ((n : Int) + 1) = (n : Int) + 1 := by rw [IntKind.wrap_i64]; omega
  have HG : Hid (g = wB.heap.size) := hg
  rw [hnv] at c0 q0 r2
  clear hvd hw hT hb hv hZ hN hn hk1 hmid hvs hop2 hnv hHs hknl hkk hnv0 hbB hzB b1 hvB hv1 o2 k2 hgr hHnv g1 g2 g3 IH hg hwA hbA hzA hvA hx hx1 hx2 hx3 hv2 hBnv
  generalize t [] = d at *
  go_enter Try.func33, Try.ntmps33
  go_upto_region 1 with fail
  rw [← HWA.out]
  go_upto_region 2 with fail
  subst hwB
  refine' Code.wp_mono (OnlyN.imp ?hq) ?h
  case h =>
    go_region_law (refine step_append_run rfl (.tmp 17) (.tmp 27) 69 69 rfl _ _ rfl rfl r2 ?_)
    all_goals exact ⟨rfl, rfl⟩
  go_wp2_with fail
  go_loopw [6, 7] (fun kv ivv w' => ∃ i : Nat, ivv = .int .i64 (i : Int) ∧ i ≤ d.kn ∧ Hid (LyI m t op2 s2 H S n y nv (.slice sa n sc) Z W0 w i kv w')) (fun _ ivv _ => d.kn - (RowKit.intOf ivv).toNat)
  case atStart => exact ⟨0, rfl, Nat.zero_le _, HI0⟩
  case round =>
    clear x0 x1 x2 x3 x4 x5 x6 x7 x8 z0 z1 z2 z3 z4 z5 z6 z7 z8 c0 c01 c02 c1 q0 q1 r1 r2 HSA HS1 HS2 HS3 HI0
    obtain ⟨i, rfl, hi, hinv⟩ := hrel
    have bx := HBX.out i _ wr hinv.out
    by_cases hlt : i < d.kn
    · have hii : (i : Int) < d.kn := by omega
      obtain ⟨⟨ks, kc, rfl⟩, gk, ok, hka, ⟨a0, a1, a2, a3, a4, a5, a6, a7, a8⟩, kC⟩ := HKID.out i _ wr hinv.out hlt
      rw [hka] at bx
      clear HKID HFIN HBX hinv hka
      generalize t [i] = dk at *
      go_wp2_with fail
      go_fit kC
      rintro e w5 ⟨id, rfl, g7, c7, w7, r7, HN⟩
      clear kC
      go_wp2_with (at_builtin; refine wpList_append_run rfl (.tmp 38) (.tmp 46) 57 57 rfl _ _ rfl rfl r7 ?_)
      exact ⟨⟨i + 1, by go_num, by omega, HN⟩, by simp [RowKit.intOf]; omega⟩
    · have hii : ¬ (i : Int) < d.kn := by omega
      obtain rfl : i = d.kn := by omega
      obtain ⟨ks, kc0, rfl, gr2, cr2, N2, e0, e1, e2, ⟨v9, e3⟩, e4, HP⟩ := HFIN.out _ wr hinv.out
      have HP' : Hid _ := HP
      have e1I : (y.N : Int) < N2 := by omega
      have e2I : (N2 : Int) ≤ 8194 := by omega
      clear HKID HFIN HBX hinv HP
      go_wp2
      go_ret
      exact ⟨rfl, HP'.out⟩
end Go.Proofs.Ytbciclnffokjjaa
