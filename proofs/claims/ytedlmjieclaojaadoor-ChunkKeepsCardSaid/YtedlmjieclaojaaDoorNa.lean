/- ChunkNames: the law's walk. -/
import Derived.Test.YtedlmjieclaojaaDoorFd
import Derived.Test.YtedlmjieclaojaaDoorEa
namespace Go.Proofs.YtedlmjieclaojaaDoor
open Go.RowKit

/-- One sample behind a row that has room for it; the row alone is written to. -/
theorem append_fitK (w : World) (S g q C : Nat) (l : List Smp) (x : Smp) (hq : q + 1 ≤ C) (o : w.ownsRow S 38 3 (.slice (some ⟨g, 0, none⟩) q C) q (smc l)) :
    ∃ w', (Builtin.append_ #[22, 22] 22 #[.slice (some ⟨g, 0, none⟩) q C, .slice (some ⟨w.heap.size, 0, none⟩) 1 1]).run Tryd.prog (w.alloc (smX x)) = .ok (.slice (some ⟨g, 0, none⟩) (q + 1) C) w' ∧
      w'.ownsRow S 38 3 (.slice (some ⟨g, 0, none⟩) (q + 1) C) (q + 1) (smc (l ++ [x])) ∧ Kp (fun k => k = g) w w' := by
  obtain ⟨i0, hi, hz0, hz1, hz2⟩ := info_parts info38
  have o0 := o.alloc (smX x)
  obtain ⟨w', r, o', g'⟩ := run_append_fits (P := Tryd.prog) (w.alloc (smX x)) S 22 22 38 i0 3 Tryd.underlying22 hi hz1 g q C (smc l) o0 ⟨w.heap.size, 0, none⟩ 1 1 (c3 x) (by rfl)
    (fun j u hj => by
      rw [Go.WideShapes.add_plain, Nat.zero_add]
      unfold World.cell?
      rw [show (w.alloc (smX x)).heap[w.heap.size]? = some (smX x) from heap_alloc_new w _]
      simpa [c3] using hj) (by intro u hu; simp [c3] at hu; rcases hu with rfl | rfl | rfl <;> rfl) hq
  refine ⟨w', r, ?_, ?_⟩
  · rw [smc_snoc]; exact o'
  · exact ((Kp.refl _ w).alloc _).grown g' (fun k hk _ => (Option.some.inj hk).symm)
/-- The samples of the times 0 to i - 1. -/
def rl (i : Nat) : List Smp := (List.range i).map fun (j : Nat) => ⟨(j : Int), 0, false⟩
theorem rl_succ (i : Nat) : rl (i + 1) = rl i ++ [⟨(i : Int), 0, false⟩] := by simp [rl, List.range_succ]
theorem rl_len (i : Nat) : (rl i).length = i := by simp [rl]
theorem rl_tm (i : Nat) (h : 0 < (rl i).length) : (fin t0 (rl i)).tm < (i : Int) := by
  rw [rl_len] at h
  obtain ⟨j, rfl⟩ : ∃ j, i = j + 1 := ⟨i - 1, by omega⟩
  rw [rl_succ, fin_tm]
  show (j : Int) < _
  omega
theorem rl_rs : ∀ i, rsB (rl i) = true
  | 0 => rfl
  | i + 1 => by
    rw [rl_succ, rsB_snoc, rl_rs i]
    by_cases h : 0 < (rl i).length
    · have := rl_tm i h
      simp [this]
    · have : (rl i).length = 0 := by omega
      simp [this]
theorem rl_sok (i : Nat) (h : i ≤ 100001) : ∀ x ∈ rl i, Sok x := by
  intro x hx
  obtain ⟨j, hj, rfl⟩ := List.mem_map.1 hx
  have := List.mem_range.1 hj
  unfold Sok
  exact ⟨by show _ ≤ (j : Int); omega, by show (j : Int) ≤ _; omega, by show (0 : Nat) < _; decide⟩
/-- What the times' list is, for the walk. -/
structure Rls (L : Nat → List Smp) : Prop where
  z : L 0 = []
  s : ∀ i : Nat, L (i + 1) = L i ++ [⟨(i : Int), 0, false⟩]
  n : ∀ i, (L i).length = i
  t : ∀ i : Nat, 0 < (L i).length → (fin t0 (L i)).tm < (i : Int)
  r : ∀ i, rsB (L i) = true
  k : ∀ i, i ≤ 100001 → ∀ x ∈ L i, Sok x
  g : ∀ i j : Nat, j < i → (L i)[j]? = some ⟨(j : Int), 0, false⟩
theorem rls : Rls rl := ⟨rfl, rl_succ, rl_len, rl_tm, rl_rs, rl_sok, fun i j h => by simp [rl, h]⟩
theorem row_cells {w : World} {S G n C : Nat} {l : List Smp} {j : Nat} {x : Smp} (o : w.ownsRow S 38 3 (.slice (some ⟨G, 0, none⟩) n C) n (smc l)) (h : l[j]? = some x) :
    w.cell? ⟨G, j * 3, none⟩ = some (.int .i64 x.t) ∧ w.cell? ⟨G, j * 3 + 1, none⟩ = some (.float .f64 x.v) ∧ w.cell? ⟨G, j * 3 + 2, none⟩ = some (.bool x.s) := by
  obtain ⟨h1, h2, h3⟩ := smc_get l j x h
  have k1 := o.cells (g := G) rfl _ _ h1
  have k2 := o.cells (g := G) rfl _ _ h2
  have k3 := o.cells (g := G) rfl _ _ h3
  rw [Go.WideShapes.add_plain, Nat.zero_add] at k1 k2 k3
  exact ⟨k1, k2, k3⟩
theorem row_blk {w : World} {S e s n c G o : Nat} {xs : List Value} (h : w.ownsRow S e s (.slice (some ⟨G, o, none⟩) n c) n xs) : S ≤ G := by
  rcases h.2 with ⟨h, _⟩ | ⟨g, cap, cur, e, hg, _⟩
  · cases h
  · cases e; exact hg
theorem make_s (w : World) (n : Nat) (hn : n * 24 ≤ 140737488355328) : ∃ w', (Instr.makeSlice 22 (.int .i64 0) (.int .i64 (n : Nat))).run Tryd.prog w = .ok (.slice (some ⟨w.heap.size, 0, none⟩) 0 n) w' ∧ w'.ownsRow w.heap.size 38 3 (.slice (some ⟨w.heap.size, 0, none⟩) 0 n) 0 (smc []) ∧ Below w.heap.size w w' ∧ w.heap.size < w'.heap.size := by
  obtain ⟨i0, hi, hz0, hz1, hz2⟩ := info_parts info38
  obtain ⟨w2, r2, o2, g2⟩ := run_make_own (P := Tryd.prog) w w.heap.size 22 38 i0 _ 3 Tryd.underlying22 hi hz0 hz1 .i64 .i64 n (by rw [hz2]; omega) (by unfold maxLen; omega) (Nat.le_refl _)
  refine ⟨w2, r2, o2, (Below.refl _ _).grown g2 (Nat.le_refl _) (fun k hk => by cases hk), ?_⟩
  rcases o2.2 with ⟨h, _⟩ | ⟨g, cap, cur, e, hg, hh, _⟩
  · cases h
  · cases e
    exact (Array.getElem?_eq_some_iff.1 hh).1

set_option maxHeartbeats 4000000 in
set_option maxRecDepth 100000 in
theorem names_walk (w : World) (hs : Scl w) (ht : Tab w) : Calls Tryd.prog 5 #[] w fun e w' => e = .returned (.bool true) ∧ Below w.heap.size w w' := by
  have k1 := alive_any w hs ht
  have HS : Hid (Scl w) := hs
  have HT : Hid (Tab w) := ht
  obtain ⟨L, HL⟩ : ∃ L, Hid (Rls L) := ⟨rl, rls⟩
  clear hs ht
  go_enter Tryd.func5, Tryd.ntmps5
  go_wp2_with fail
  go_fit k1
  rintro e w1 ⟨rfl, b1⟩
  have HB1 : Hid (Below w.heap.size w w1) := b1
  obtain ⟨w2, r2, o2, b2, hB2⟩ := make_s w1 100001 (by decide)
  have r2' : (Instr.makeSlice 22 (.int .i64 0) (.int .i64 100001)).run Tryd.prog w1 = .ok (.slice (some ⟨w1.heap.size, 0, none⟩) 0 100001) w2 := r2
  have HB2 : Hid (Below w.heap.size w w2) := b1.trans (b2.mono b1.size)
  have k2 := new_any w2 (by have := HT.out.1; have := HB2.out.size; omega)
  have HO2 : Hid (w2.ownsRow w1.heap.size 38 3 (.slice (some ⟨w1.heap.size, 0, none⟩) 0 100001) 0 (smc [])) := o2
  obtain ⟨B, hB⟩ : ∃ B, B = w1.heap.size := ⟨_, rfl⟩
  have HBB : Hid (B = w1.heap.size) := hB
  rw [← hB] at r2' HO2 hB2
  clear k1 b1 r2 o2 b2 hB
  go_wp2_with fail
  go_fit k2
  rintro e w3 ⟨rfl, v3, h3, b3⟩
  obtain ⟨PB, hPB⟩ : ∃ PB, PB = w2.heap.size := ⟨_, rfl⟩
  rw [← hPB] at h3 b3 hB2 ⊢
  have HPB : Hid (PB = w2.heap.size) := hPB
  have HB3 : Hid (Below w.heap.size w w3) := HB2.out.trans (b3.mono (by rw [hPB]; exact HB2.out.size))
  have HBP : Hid (B < PB) := hB2
  have HO3 : Hid (w3.ownsRow B 38 3 (.slice (some ⟨B, 0, none⟩) 0 100001) 0 (smc (L 0))) := by
    rw [HL.out.z]
    exact Kp.row (M := fun _ => False) (Kp.of (by rw [← hPB]; exact b3)) HO2.out (fun _ _ => id)
  have HH3 : Hid (∃ v, Hd PB w3 PB v (L 0)) := ⟨v3, by rw [HL.out.z]; exact h3⟩
  have HWB : Hid (w.heap.size ≤ B) := by rw [HBB.out]; exact HB1.out.size
  clear k2 b3 h3 r2' hPB HO2 HB2 hB2 HB1 HBB
  go_wp2_with fail
  go_loopw [1, 3] (fun sv iv w' => ∃ i : Nat, iv = .int .i64 (i : Nat) ∧ i ≤ 100000 ∧ sv = .slice (some ⟨B, 0, none⟩) i 100001 ∧ Hid (w'.ownsRow B 38 3 (.slice (some ⟨B, 0, none⟩) i 100001) i (smc (L i))) ∧ Hid (∃ v, Hd PB w' PB v (L i)) ∧ Hid (Below w.heap.size w w')) (fun _ iv _ => 100000 - (RowKit.intOf iv).toNat)
  case atStart => exact ⟨0, rfl, Nat.zero_le _, rfl, HO3, HH3, HB3⟩
  case round =>
    obtain ⟨i, rfl, hi, rfl, ho, hh, hbw⟩ := hrel
    clear HO3 HH3 HB3
    obtain ⟨v, hv⟩ := hh.out
    have HNB : Hid (¬ PB = B ∧ ∀ g, v.ownBlock = some g → ¬ g = B) := ⟨by have := HBP.out; omega, fun g hg => by have := (hv.pk.stm.base g hg).1; have := HBP.out; omega⟩
    by_cases hlt : i < 100000
    · have hii : (i : Int) < 100000 := by omega
      have hcap : (i : Int) < ((i + 1 : Nat) : Int) := by omega
      obtain ⟨w5, r5, o5, q5⟩ := append_fitK wr B B i 100001 (L i) ⟨(i : Int), 0, false⟩ (by omega) ho.out
      rw [← HL.out.s i] at o5
      have b5 : Below w.heap.size w w5 := hbw.out.trans (q5.below hbw.out.size (fun k hk e => by have := HWB.out; omega))
      have h5 : Hd PB w5 PB v (L i) := hv.kp q5 HNB.out.1 HNB.out.2
      obtain ⟨z0, z1, z2⟩ := row_cells o5 (HL.out.g (i + 1) i (by omega))
      have k6 := add_ok PB PB v (L i) ⟨(i : Int), 0, false⟩ w5 h5 (HS.out.below b5) (HT.out.below b5) (by unfold Sok; exact ⟨by show _ ≤ (i : Int); omega, by show (i : Int) ≤ _; omega, by show (0 : Nat) < _; decide⟩) (by rw [HL.out.n]; exact hlt) (HL.out.t i)
      rw [← HL.out.s i] at k6
      have HO5 : Hid (w5.ownsRow B 38 3 (.slice (some ⟨B, 0, none⟩) (i + 1) 100001) (i + 1) (smc (L (i + 1)))) := o5
      have HB5 : Hid (Below w.heap.size w w5) := b5
      have HH5 : Hid (Hd PB w5 PB v (L i)) := h5
      clear o5 b5 h5 q5 hv hh ho hbw
      dsimp only at z0 z1 z2
      go_wp2_with (at_builtin; refine wpList_append_run rfl (.tmp 20) (.tmp 23) 22 22 rfl _ _ rfl rfl r5 ?_)
      go_fit k6
      rintro e w6 ⟨rfl, v6, h6, s6, q6⟩
      have HB6 : Hid (Below w.heap.size w w6) := HB5.out.trans (q6.below HB5.out.size (by
        have := HWB.out
        have := HBP.out
        rintro k hk (e | e)
        · omega
        · have := (HH5.out.pk.stm.base k e).1; omega))
      have HO6 : Hid (w6.ownsRow B 38 3 (.slice (some ⟨B, 0, none⟩) (i + 1) 100001) (i + 1) (smc (L (i + 1)))) := q6.row HO5.out (fun k hk e => by
        have e' : B = k := Option.some.inj hk
        subst e'
        rcases e with e | e
        · exact HNB.out.1 e.symm
        · exact HNB.out.2 _ e rfl)
      have HH6 : Hid (∃ v, Hd PB w6 PB v (L (i + 1))) := ⟨v6, h6⟩
      clear k6 h6 s6 q6 HO5 HB5 HH5 z0 z1 z2
      go_wp2
      exact ⟨⟨i + 1, by go_num, by omega, rfl, HO6, HH6, HB6⟩, by simp [RowKit.intOf]; omega⟩
    · obtain rfl : i = 100000 := by omega
      have k4 := pack_any (some ⟨B, 0, none⟩) 100001 (L 100000) wr (Sm.of_row (c := 100001) (S := B) (by rw [HL.out.n]; exact ho.out)) (HL.out.k _ (by decide)) (HS.out.below hbw.out) (HT.out.below hbw.out) (by rw [HL.out.n]; decide)
      obtain ⟨e1, e2⟩ := pkE_good (L 100000) (by rw [HL.out.n]; decide) (HL.out.r _)
      have hup := unp_pk (L 100000) (HL.out.k _ (by decide)) e1
      have HU : Hid (upE (pk (frm (L 100000))) = 0 ∧ (upL (pk (frm (L 100000)))).length = 100000 ∧ By (pk (frm (L 100000)))) := ⟨by unfold upE; rw [hup]; rfl, by unfold upL; rw [hup]; show ((L 100000).map nrm).length = _; rw [List.length_map, HL.out.n], pk_by _ (bin_frm _)⟩
      unfold PkR at k4
      rw [e1, e2, HL.out.n] at k4
      have HPK : Hid (∀ W V, Hd PB W PB V (L 100000) → Calls Tryd.prog 21 #[.pointer (some ⟨PB, 0, none⟩)] W fun e w' => ∃ g c, e = .returned (.slice (some ⟨g, 0, none⟩) (pk (frm (L 100000))).length c) ∧ w'.ownsRow W.heap.size 5 1 (.slice (some ⟨g, 0, none⟩) (pk (frm (L 100000))).length c) (pk (frm (L 100000))).length (bc (pk (frm (L 100000)))) ∧ Below W.heap.size W w') := fun W V h => bytes_any PB PB V _ W h
      have HHR : Hid (Hd PB wr PB v (L 100000)) := hv
      clear e1 e2 hup hv hh
      generalize pk (frm (L 100000)) = pb at *
      go_wp2_with fail
      go_fit k4
      rintro e w5 ⟨v5, rfl, o5, b5⟩
      obtain ⟨a5, c5, rfl⟩ := row_form o5
      have HB5 : Hid (Below w.heap.size w w5) := hbw.out.trans (b5.mono hbw.out.size)
      have HI5 : Hid (Im w5 a5 pb) := Im.of_row o5
      have HA5 : Hid (∀ g o, a5 = some ⟨g, o, none⟩ → ¬ g = B) := fun g o e => by
        subst e
        have := row_blk o5
        have := HBP.out
        have := HHR.out.pk.stm.lt
        omega
      have k6 := count_any a5 c5 pb w5 HI5.out HU.out.2.2 (HS.out.below HB5.out) (HT.out.below HB5.out) (row_cap o5)
      rw [HU.out.1, HU.out.2.1] at k6
      have HO5 : Hid (w5.ownsRow B 38 3 (.slice (some ⟨B, 0, none⟩) 100000 100001) 100000 (smc (L 100000))) := Kp.row (M := fun _ => False) (Kp.of b5) ho.out (fun _ _ => id)
      have HH5 : Hid (Hd PB w5 PB v (L 100000)) := HHR.out.below b5
      clear k4 o5 b5 ho hbw HHR
      go_wp2_with fail
      go_fit k6
      rintro e w6 ⟨rfl, b6⟩
      have HB6 : Hid (Below w.heap.size w w6) := HB5.out.trans (b6.mono HB5.out.size)
      have hI6 := HI5.out.below b6
      have hH6 := HH5.out.below b6
      have hO6 : w6.ownsRow B 38 3 (.slice (some ⟨B, 0, none⟩) 100000 100001) 100000 (smc (L 100000)) := Kp.row (M := fun _ => False) (Kp.of b6) HO5.out (fun _ _ => id)
      obtain ⟨w7, r7, o7, q7⟩ := append_fitK w6 B B 100000 100001 (L 100000) ⟨((100000 : Nat) : Int), 0, false⟩ (by decide) hO6
      rw [← HL.out.s 100000] at o7
      have b7 : Below w.heap.size w w7 := HB6.out.trans (q7.below HB6.out.size (fun k hk e => by have := HWB.out; omega))
      have HI7 : Hid (Im w7 a5 pb) := hI6.kp q7 HA5.out
      have HH7 : Hid (Hd PB w7 PB v (L 100000)) := hH6.kp q7 HNB.out.1 HNB.out.2
      have HB7 : Hid (Below w.heap.size w w7) := b7
      have HO7 : Hid (w7.ownsRow B 38 3 (.slice (some ⟨B, 0, none⟩) 100001 100001) 100001 (smc (L 100001))) := o7
      have k8 := pack_any (some ⟨B, 0, none⟩) 100001 (L 100001) w7 (Sm.of_row (c := 100001) (S := B) (by rw [HL.out.n]; exact o7)) (HL.out.k _ (by decide)) (HS.out.below b7) (HT.out.below b7) (by rw [HL.out.n]; decide)
      obtain ⟨e1, e2⟩ := pkE_long (L 100001) (by rw [HL.out.n]; decide)
      unfold PkR at k8
      rw [e1, e2, HL.out.n] at k8
      have r7' : (Builtin.append_ #[22, 22] 22 #[.slice (some ⟨B, 0, none⟩) 100000 100001, .slice (some ⟨w6.heap.size, 0, none⟩) 1 1]).run Tryd.prog (w6.alloc (.cells #[.int .i64 100000, .float .f64 0, .bool false] 38)) = .ok (.slice (some ⟨B, 0, none⟩) 100001 100001) w7 := r7
      clear k6 b6 hI6 hH6 hO6 o7 q7 b7 e1 e2 r7 HI5 HH5 HO5 HB5 HB6
      go_wp2_with (at_builtin; refine wpList_append_run rfl (.tmp 42) (.tmp 44) 22 22 rfl _ _ rfl rfl r7' ?_)
      go_fit k8
      rintro e w8 ⟨v8, rfl, o8, b8⟩
      obtain ⟨a8, c8, rfl⟩ := row_form o8
      have HB8 : Hid (Below w.heap.size w w8) := HB7.out.trans (b8.mono HB7.out.size)
      have hH8 := HH7.out.below b8
      have hO8 : w8.ownsRow B 38 3 (.slice (some ⟨B, 0, none⟩) 100001 100001) 100001 (smc (L 100001)) := Kp.row (M := fun _ => False) (Kp.of b8) HO7.out (fun _ _ => id)
      obtain ⟨x0, x1, x2⟩ := row_cells hO8 (HL.out.g 100001 100000 (by decide))
      have y0 : w8.cell? ⟨B, 300000, none⟩ = some (.int .i64 100000) := x0
      have y1 : w8.cell? ⟨B, 300001, none⟩ = some (.float .f64 0) := x1
      have y2 : w8.cell? ⟨B, 300002, none⟩ = some (.bool false) := x2
      have k9 := add_long PB PB v (L 100000) ⟨100000, 0, false⟩ w8 hH8 (HL.out.n _)
      have HO8 : Hid _ := hO8
      have HH8 : Hid _ := hH8
      have HI8 : Hid (Im w8 a5 pb) := HI7.out.below b8
      clear k8 o8 b8 hH8 hO8 x0 x1 x2 HB7 HI7 HH7 HO7 r7'
      go_wp2_with fail
      go_fit k9
      rintro e w9 ⟨rfl, b9⟩
      have HB9 : Hid (Below w.heap.size w w9) := HB8.out.trans (b9.mono HB8.out.size)
      have hH9 := HH8.out.below b9
      have hO9 : w9.ownsRow B 38 3 (.slice (some ⟨B, 0, none⟩) 100001 100001) 100001 (smc (L 100001)) := Kp.row (M := fun _ => False) (Kp.of b9) HO8.out (fun _ _ => id)
      obtain ⟨x0, x1, x2⟩ := row_cells hO9 (HL.out.g 100001 0 (by decide))
      have y0' : w9.cell? ⟨B, 0, none⟩ = some (.int .i64 0) := x0
      have y1' : w9.cell? ⟨B, 1, none⟩ = some (.float .f64 0) := x1
      have y2' : w9.cell? ⟨B, 2, none⟩ = some (.bool false) := x2
      have k10 := add_long PB PB v (L 100000) ⟨0, 0, false⟩ w9 hH9 (HL.out.n _)
      have HH9 : Hid _ := hH9
      have HI9 : Hid (Im w9 a5 pb) := HI8.out.below b9
      clear k9 b9 hH9 hO9 x0 x1 x2 HB8 HI8 HH8 HO8 y0 y1 y2
      go_wp2_with fail
      go_fit k10
      rintro e w10 ⟨rfl, b10⟩
      have HB10 : Hid (Below w.heap.size w w10) := HB9.out.trans (b10.mono HB9.out.size)
      have hH10 := HH9.out.below b10
      have HI10 : Hid (Im w10 a5 pb) := HI9.out.below b10
      have k11 := len_any PB PB v (L 100000) w10 hH10
      rw [HL.out.n] at k11
      have k12 := HPK.out w10 v hH10
      clear k10 b10 hH10 HB9 HI9 HH9 y0' y1' y2'
      go_wp2_with fail
      go_fit k11
      rintro e w11 ⟨rfl, rfl⟩
      clear k11
      go_wp2_with fail
      go_fit k12
      rintro e w12 ⟨g12, c12, rfl, o12, b12⟩
      have HB12 : Hid (Below w.heap.size w w12) := HB10.out.trans (b12.mono HB10.out.size)
      have k13 := same_any (some ⟨g12, 0, none⟩) a5 c12 c5 pb pb w12 (Im.of_row o12) (HI10.out.below b12) HU.out.2.2 HU.out.2.2
      rw [decide_eq_true rfl] at k13
      clear k12 o12 b12 HB10 HI10
      go_wp2_with fail
      go_fit k13
      rintro e w13 ⟨rfl, rfl⟩
      clear k13
      go_wp2
      go_ret
      exact ⟨rfl, HB12.out⟩
end Go.Proofs.YtedlmjieclaojaaDoor
