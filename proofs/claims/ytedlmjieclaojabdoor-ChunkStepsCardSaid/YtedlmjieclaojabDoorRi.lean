/- The reference: the row of a list. -/
import Derived.Test.YtedlmjieclaojabDoorRh
namespace Go.Proofs.YtedlmjieclaojabDoor
open Go.RowKit

/-- What is so between the rounds. -/
structure Rr (F : Nat) (w W : World) (n : Nat) (v lv dv : Value) (l : List Smp) (i : Nat) : Prop where
  rn : Rn w.heap.size F w W v (fin t0 (l.take i)).fr (fin t0 (l.take i)).to (nb n 17 ++ bod t0 (l.take i))
  lv : lv = .int .u64 ((fin t0 (l.take i)).vl : Nat)
  dv : dv = .int .i64 (fin t0 (l.take i)).st
theorem tmb_zero (r : Trl) (t : Int) (h : r.n = 0) : tmb r t = nb (w64 t) 64 := if_pos h
theorem tmb_more (r : Trl) (t : Int) (h : r.n ≠ 0) : tmb r t = chg (s64 (s64 (t - r.tm) - r.st)) := if_neg h
theorem tmb_len (r : Trl) (t : Int) : (tmb r t).length ≤ 100 := by
  by_cases h : r.n = 0
  · rw [tmb_zero _ _ h, nb_len]; decide
  · rw [tmb_more _ _ h]
    unfold chg
    generalize s64 (s64 (t - r.tm) - r.st) = e
    have := scW_le (wayOf e)
    have := way_le e
    rw [List.length_append, nb_len, wy_len]
    split <;> omega
theorem vlb_stale (r : Trl) (x : Smp) (h : x.s = true) : vlb r x = nb 7 3 := by
  unfold vlb
  rw [if_pos h]
  decide +kernel
theorem vlb_val (r : Trl) (x : Smp) (h : x.s = false) : vlb r x = vlu (cb x.v ^^^ r.vl) r.fr r.to := by
  unfold vlb
  rw [if_neg (by rw [h]; decide)]
theorem take_next {l : List Smp} {i : Nat} {x : Smp} (h : l[i]? = some x) : l.take (i + 1) = l.take i ++ [x] := by rw [List.take_add_one, h]; rfl
/-- A round's end, of a stale sample. -/
theorem Rr.stale {F : Nat} {w W : World} {n : Nat} {v : Value} {l : List Smp} {i : Nat} {x : Smp} (hx : l[i]? = some x) (hs : x.s = true) (st' : Int) (hst : st' = if (fin t0 (l.take i)).n = 0 then (fin t0 (l.take i)).st else s64 (x.t - (fin t0 (l.take i)).tm))
    (h : Rn w.heap.size F w W v (fin t0 (l.take i)).fr (fin t0 (l.take i)).to ((nb n 17 ++ bod t0 (l.take i)) ++ tmb (fin t0 (l.take i)) x.t ++ nb 7 3)) :
    Rr F w W n v (.int .u64 ((fin t0 (l.take i)).vl : Nat)) (.int .i64 st') l (i + 1) := by
  have e : bod t0 (l.take (i + 1)) = bod t0 (l.take i) ++ (tmb (fin t0 (l.take i)) x.t ++ nb 7 3) := by
    rw [take_next hx, bod_snoc]
    unfold smb
    rw [vlb_stale _ x hs]
  have f : fin t0 (l.take (i + 1)) = nxt (fin t0 (l.take i)) x := by rw [take_next hx, fin_snoc]
  refine ⟨?_, ?_, ?_⟩
  · rw [e, f]
    unfold nxt
    simp only [hs, if_true]
    rw [← List.append_assoc, ← List.append_assoc]
    exact h
  · rw [f]; unfold nxt; simp only [hs, if_true]
  · rw [f, hst]; rfl
/-- A round's end, of a value. -/
theorem Rr.value {F : Nat} {w W : World} {n : Nat} {v : Value} {l : List Smp} {i : Nat} {x : Smp} (hx : l[i]? = some x) (hs : x.s = false) (st' : Int) (hst : st' = if (fin t0 (l.take i)).n = 0 then (fin t0 (l.take i)).st else s64 (x.t - (fin t0 (l.take i)).tm))
    (h : Rn w.heap.size F w W v (vfr (cb x.v ^^^ (fin t0 (l.take i)).vl) (fin t0 (l.take i)).fr (fin t0 (l.take i)).to) (vto (cb x.v ^^^ (fin t0 (l.take i)).vl) (fin t0 (l.take i)).fr (fin t0 (l.take i)).to) ((nb n 17 ++ bod t0 (l.take i)) ++ tmb (fin t0 (l.take i)) x.t ++ vlu (cb x.v ^^^ (fin t0 (l.take i)).vl) (fin t0 (l.take i)).fr (fin t0 (l.take i)).to)) :
    Rr F w W n v (.int .u64 (cb x.v : Nat)) (.int .i64 st') l (i + 1) := by
  have e : bod t0 (l.take (i + 1)) = bod t0 (l.take i) ++ (tmb (fin t0 (l.take i)) x.t ++ vlu (cb x.v ^^^ (fin t0 (l.take i)).vl) (fin t0 (l.take i)).fr (fin t0 (l.take i)).to) := by
    rw [take_next hx, bod_snoc]
    unfold smb
    rw [vlb_val _ x hs]
  have f : fin t0 (l.take (i + 1)) = nxt (fin t0 (l.take i)) x := by rw [take_next hx, fin_snoc]
  refine ⟨?_, ?_, ?_⟩
  · rw [e, f]
    unfold nxt
    simp only [hs, Bool.false_eq_true, if_false]
    rw [← List.append_assoc, ← List.append_assoc]
    exact h
  · rw [f]; unfold nxt; simp only [hs, Bool.false_eq_true, if_false]
  · rw [f, hst]; rfl
set_option maxHeartbeats 8000000 in
set_option maxRecDepth 100000 in
theorem row_any (a : Option Addr) (c : Nat) (l : List Smp) (w : World) (hm : Sm w a l) (hok : ∀ x ∈ l, Sok x) (hn : l.length ≤ 100000) :
    Calls Tryd.prog 25 #[.slice a l.length c] w fun e w' => ∃ v', e = .returned v' ∧ Rw w.heap.size w' v' (frm l) ∧ Below w.heap.size w w' := by
  obtain ⟨w1, r1, hR1, b1⟩ := make_b w (100 + l.length * 20) (by omega)
  have k2 := number_any w.heap.size _ [] l.length 17 w1 hR1 (by omega) (by decide) (by decide)
  have HM : Hid (Sm w a l) := hm
  have HOK : Hid (∀ x ∈ l, Sok x) := hok
  have HFR : Hid (frm l = nb l.length 17 ++ bod t0 l) := rfl
  have HLN : Hid (∀ i, (nb l.length 17 ++ bod t0 (l.take i)).length ≤ 17000000) := fun i => frm_len l hok hn i _
  have HR1 : Hid (Rw w.heap.size w1 (.slice (some ⟨w.heap.size, 0, none⟩) 0 (100 + l.length * 20)) []) := hR1
  have HB1 : Hid (Below w.heap.size w w1) := b1
  obtain ⟨n, hnn⟩ : ∃ n, n = l.length := ⟨_, rfl⟩
  have HN : Hid (n = l.length) := hnn
  have HGT : Hid (∀ i, Gt (fin t0 (l.take i))) := fun i => gt0.fin (fun x hx => hok x (List.mem_of_mem_take hx))
  have HNN : Hid (∀ i, i ≤ n → (fin t0 (l.take i)).n = i) := fun i hi => by rw [fin_len, List.length_take]; have := HN.out; omega
  rw [← hnn] at r1 k2 hn HFR HLN HR1 ⊢
  have q1 : IntKind.i64.wrap ((n : Int) * 20) = (n : Int) * 20 := by rw [IntKind.wrap_i64]; omega
  have q2 : IntKind.i64.wrap (100 + (n : Int) * 20) = ((100 + n * 20 : Nat) : Int) := by rw [IntKind.wrap_i64]; omega
  have q3 : IntKind.u64.wrap (n : Int) = (n : Int) := by rw [IntKind.wrap_u64]; omega
  have q4 : (100 : Int) + (n : Int) * 20 = ((100 + n * 20 : Nat) : Int) := by omega
  have q5 : IntKind.i64.wrap ((100 + n * 20 : Nat) : Int) = ((100 + n * 20 : Nat) : Int) := by rw [IntKind.wrap_i64]; omega
  generalize 100 + n * 20 = cp at *
  clear hm hok hnn hR1 b1
  go_enter Tryd.func25, Tryd.ntmps25
  go_wp2_with fail
  go_fit k2
  rintro e w2 ⟨v2, rfl, r2, s2, p2⟩
  have hB2 : Below w.heap.size w w2 := HB1.out.trans (p2.below HB1.out.size (fun k hk e => by have := (HR1.out.base k e).1; omega))
  have hF : (w2.alloc (.cells #[.bool false, .int .i64 0, .int .i64 0] 78)).heap[w2.heap.size]? = some (.cells #[.bool false, .int .i64 0, .int .i64 0] 78) := heap_alloc_new w2 _
  have hba : Below w2.heap.size w2 (w2.alloc (.cells #[.bool false, .int .i64 0, .int .i64 0] 78)) := (Below.refl _ _).alloc (Nat.le_refl _) _
  have hRr : Rr w2.heap.size w (w2.alloc (.cells #[.bool false, .int .i64 0, .int .i64 0] 78)) n v2 (.int .u64 0) (.int .i64 0) l 0 := by
    refine ⟨⟨?_, by simp [fin, t0, isF], by simp [fin, t0], by simp [fin, t0, rF], fun i => by simp, fun e => ?_, hB2.size, hB2.trans (hba.mono hB2.size), rfl⟩, rfl, rfl⟩
    · have := r2.below hba
      rw [List.nil_append] at this
      simpa [bod] using this
    · have := (r2.base _ e).2; omega
  have HRr : Hid _ := hRr
  obtain ⟨F, hF'⟩ : ∃ F, F = w2.heap.size := ⟨_, rfl⟩
  have HF : Hid (F = w2.heap.size) := hF'
  rw [← hF'] at HRr
  obtain ⟨W0, hW0⟩ : ∃ W0, W0 = w2.alloc (.cells #[.bool false, .int .i64 0, .int .i64 0] 78) := ⟨_, rfl⟩
  have HW0 : Hid (W0 = w2.alloc (.cells #[.bool false, .int .i64 0, .int .i64 0] 78)) := hW0
  rw [← hW0] at HRr
  clear k2 r1 r2 s2 p2 hB2 hF hba hRr hF' hW0 q1 q2 q3 q4 q5
  go_upto_region 3 with fail
  rw [← HW0.out, ← HF.out]
  clear HW0 HF HR1 HB1
  go_wp2_with fail
  go_loopw [3, 5, 6, 7] (fun rv lv dv iv w' => ∃ i : Nat, i ≤ n ∧ iv = .int .i64 (i : Nat) ∧ Hid (Rr F w w' n rv lv dv l i)) (fun _ _ _ iv _ => n - (RowKit.intOf iv).toNat)
  case atStart => exact ⟨0, Nat.zero_le _, rfl, HRr⟩
  case round =>
    obtain ⟨i, hi, rfl, hrr⟩ := hrel
    clear HRr
    by_cases hlt : i < n
    · have hii : (i : Int) < (n : Int) := by omega
      have hpos : (0 : Int) < (n : Int) := by omega
      have hN := HN.out
      obtain ⟨x, hx⟩ : ∃ x, l[i]? = some x := ⟨l[i]'(by omega), List.getElem?_eq_getElem _⟩
      obtain ⟨g, o, rfl, hg, hcs⟩ : ∃ g o, a = some ⟨g, o, none⟩ ∧ g < w.heap.size ∧ _ := by
        rcases HM.out with h | h
        · rw [h] at hN; simp at hN; omega
        · exact h
      obtain ⟨x0, x1, x2⟩ := hcs i x hx
      have hsx : Sok x := HOK.out x (List.mem_of_getElem? hx)
      obtain ⟨hrn, e5, e6⟩ := hrr.out
      have hgt := HGT.out i
      have hni := HNN.out i hi
      have hln := HLN.out i
      have HST : Hid (x.s = true → ∀ W v st', (st' = if (fin t0 (l.take i)).n = 0 then (fin t0 (l.take i)).st else s64 (x.t - (fin t0 (l.take i)).tm)) → Rn w.heap.size F w W v (fin t0 (l.take i)).fr (fin t0 (l.take i)).to ((nb n 17 ++ bod t0 (l.take i)) ++ tmb (fin t0 (l.take i)) x.t ++ nb 7 3) → Rr F w W n v (.int .u64 ((fin t0 (l.take i)).vl : Nat)) (.int .i64 st') l (i + 1)) := fun hs W v st' h1 h2 => Rr.stale hx hs st' h1 h2
      have HVA : Hid (x.s = false → ∀ W v st', (st' = if (fin t0 (l.take i)).n = 0 then (fin t0 (l.take i)).st else s64 (x.t - (fin t0 (l.take i)).tm)) → Rn w.heap.size F w W v (vfr (cb x.v ^^^ (fin t0 (l.take i)).vl) (fin t0 (l.take i)).fr (fin t0 (l.take i)).to) (vto (cb x.v ^^^ (fin t0 (l.take i)).vl) (fin t0 (l.take i)).fr (fin t0 (l.take i)).to) ((nb n 17 ++ bod t0 (l.take i)) ++ tmb (fin t0 (l.take i)) x.t ++ vlu (cb x.v ^^^ (fin t0 (l.take i)).vl) (fin t0 (l.take i)).fr (fin t0 (l.take i)).to) → Rr F w W n v (.int .u64 (cb x.v : Nat)) (.int .i64 st') l (i + 1)) := fun hs W v st' h1 h2 => Rr.value hx hs st' h1 h2
      have HTM : Hid (∀ (j : Nat) y, i = j + 1 → l[j]? = some y → (fin t0 (l.take i)).tm = y.t) := fun j y hj hy => by rw [hj, take_next hy, fin_tm]
      have HCS : Hid (∀ (j : Nat) y, l[j]? = some y → w.cell? ⟨g, o + j * 3, none⟩ = some (.int .i64 y.t)) := fun j y h => (hcs j y h).1
      generalize fin t0 (l.take i) = r at *
      generalize nb n 17 ++ bod t0 (l.take i) = Lw at *
      obtain ⟨rn, tm, st, vl, fr, to⟩ := r
      dsimp only at hrn e5 e6 hni HST HVA HTM
      subst e5 e6 hni
      obtain ⟨T, vv, s⟩ := x
      dsimp only at x0 x1 x2 HST HVA
      clear hcs hx hrr hN
      have z0 := (hrn.bl.cell (p := ⟨g, o + rn * 3, none⟩) hg).trans x0
      have hT1 := hsx.1
      have hT2 := hsx.2.1
      have hv2 := hsx.2.2
      dsimp only at hT1 hT2 hv2
      have hst1 := hgt.st.1
      have hst2 := hgt.st.2
      have hvl := hgt.vl
      have hfr := hgt.fr
      dsimp only at hst1 hst2 hvl hfr
      have HV2 : Hid (vv < 18446744073709551616 ∧ vl < 18446744073709551616 ∧ ((fr = 0 ∧ to = 0) ∨ (fr < to ∧ to ≤ 64))) := ⟨hv2, hvl, hfr⟩
      have HX12 : Hid (w.cell? ⟨g, o + rn * 3 + 1, none⟩ = some (.float .f64 vv) ∧ w.cell? ⟨g, o + rn * 3 + 2, none⟩ = some (.bool s) ∧ g < w.heap.size) := ⟨x1, x2, hg⟩
      have HLW : Hid (Lw.length ≤ 17000000) := hln
      have HTB : Hid ((tmb ⟨rn, tm, st, vl, fr, to⟩ T).length ≤ 100) := tmb_len _ _
      clear hsx hgt hv2 hvl hfr x1 x2 hln
      by_cases hi0 : rn = 0
      case' pos =>
        have c0 : ((rn : Int) == 0) = true := by rw [hi0]; rfl
        have y0 : wr.cell? ⟨g, o, none⟩ = some (.int .i64 T) := by rw [hi0] at z0; simpa using z0
        have wT : IntKind.u64.wrap T = (w64 T : Nat) := wrap_w64 T
        have k5 := number_any w.heap.size u3 Lw (w64 T) 64 wr hrn.rw (w64_lt T) (by decide) (by have := HLW.out; omega)
        rw [← tmb_zero ⟨rn, tm, st, vl, fr, to⟩ T hi0] at k5
        obtain ⟨AT, hAT⟩ : ∃ AT : Int, AT = (w64 T : Nat) := ⟨_, rfl⟩
        have a0 : 0 ≤ AT := by omega
        have a1 : AT ≤ 18446744073709551615 := by have := w64_lt T; omega
        rw [← hAT] at wT k5
        have HRN : Hid (Rn w.heap.size F w wr u3 fr to Lw) := hrn
        have HSTE : Hid (st = if rn = 0 then st else s64 (T - tm)) := by show _ = _; rw [if_pos hi0]
        have H0 : Hid (rn = 0) := hi0
        clear hAT hrn z0 x0 hi0
        go_wp2_with fail
        go_fit k5
        rintro e W hq
        obtain ⟨v5, rfl, hR5⟩ := HRN.out.step hq
        have HR5 : Hid (Rn w.heap.size F w W v5 fr to (Lw ++ tmb ⟨rn, tm, st, vl, fr, to⟩ T)) := hR5
        clear k5 hq hR5 HRN y0 wT a0 a1
        go_upto_region 10 with fail
        generalize hE1 : st = E1
        rw [hE1] at HSTE
        rw [← hE1] at HSTE
        have HSE : Hid (E1 = if rn = 0 then st else s64 (T - tm)) := by show _ = _; rw [← hE1]; exact HSTE.out
        clear hE1 HSTE c0
      case' neg =>
        have c0 : ((rn : Int) == 0) = false := by simp; omega
        obtain ⟨j, hj⟩ : ∃ j, rn = j + 1 := ⟨rn - 1, by omega⟩
        obtain ⟨y, hy⟩ : ∃ y, l[j]? = some y := ⟨l[j]'(by have := HN.out; omega), List.getElem?_eq_getElem _⟩
        have htm : tm = y.t := HTM.out j y hj hy
        have z1 := (hrn.bl.cell (p := ⟨g, o + j * 3, none⟩) hg).trans (HCS.out j y hy)
        rw [← htm] at z1
        have q1 : IntKind.i64.wrap ((rn : Int) - 1) = (j : Nat) := by rw [IntKind.wrap_i64]; omega
        have q2 : (rn : Int) - 1 = (j : Nat) := by omega
        have q3 : (j : Int) < (n : Int) := by omega
        have q4 : IntKind.i64.wrap (j : Int) = (j : Nat) := by rw [IntKind.wrap_i64]; omega
        have q6 : (0 : Int) ≤ (j : Int) := by omega
        have q7 : (0 : Int) ≤ (rn : Int) := by omega
        obtain ⟨E1, hE1⟩ : ∃ E1, E1 = s64 (T - tm) := ⟨_, rfl⟩
        obtain ⟨E, hE⟩ : ∃ E, E = s64 (E1 - st) := ⟨_, rfl⟩
        have bE1 := s64_bd (T - tm)
        have bE := s64_bd (E1 - st)
        rw [← hE1] at bE1
        rw [← hE] at bE
        have p1 : IntKind.i64.wrap (T - tm) = E1 := by rw [hE1, IntKind.wrap_i64]; unfold s64; omega
        have p2 : IntKind.i64.wrap (E1 - st) = E := by rw [hE, IntKind.wrap_i64]; unfold s64; omega
        have HTE : Hid (tmb ⟨rn, tm, st, vl, fr, to⟩ T = chg E) := by show _ = _; rw [tmb_more _ _ hi0, hE, hE1]
        have HSE : Hid (E1 = if rn = 0 then st else s64 (T - tm)) := by show _ = _; rw [if_neg hi0]; exact hE1
        have HRN : Hid (Rn w.heap.size F w wr u3 fr to Lw) := hrn
        have HJ : Hid (rn = j + 1) := hj
        have H0 : Hid (¬ rn = 0) := hi0
        have K8 : Hid (∀ V, Below wr.heap.size wr V → Calls Tryd.prog 40 #[u3, .int .i64 E] V fun e w' => ∃ v', e = .returned v' ∧ (w'.cell? ⟨g, o + rn * 3, none⟩ = some (.int .i64 T) ∧ w'.cell? ⟨g, o + j * 3, none⟩ = some (.int .i64 tm)) ∧ Hid (Rn w.heap.size F w w' v' fr to (Lw ++ tmb ⟨rn, tm, st, vl, fr, to⟩ T))) := fun V hV => by
          have hrV := HRN.out.below hV
          refine (time_any w.heap.size u3 Lw E V hrV.rw bE.1 bE.2 (by have := HLW.out; omega)).mono ?_
          rintro e w' hq
          obtain ⟨v', rfl, h'⟩ := hrV.step hq
          rw [← HTE.out] at h'
          exact ⟨v', rfl, ⟨(h'.bl.cell (p := ⟨g, o + rn * 3, none⟩) hg).trans x0, (h'.bl.cell (p := ⟨g, o + j * 3, none⟩) hg).trans (by rw [htm]; exact HCS.out j y hy)⟩, h'⟩
        have HS0 : Hid (∀ V, Below wr.heap.size wr V → V.cell? ⟨g, o + rn * 3, none⟩ = some (.int .i64 T) ∧ V.cell? ⟨g, o + j * 3, none⟩ = some (.int .i64 tm)) := fun V hV => ⟨bcell2 hV z0, bcell2 hV z1⟩
        have bD : Below wr.heap.size wr wr.drew := (Below.refl _ _).drew
        clear hrn x0 hi0 hj hy htm hE1 hE bE1 bE z0 z1 HTM HCS
        go_wp2_with fail
        go_region_held3 (fun w' => w'.cell? ⟨g, o + rn * 3, none⟩ = some (.int .i64 T) ∧ w'.cell? ⟨g, o + j * 3, none⟩ = some (.int .i64 tm)) (first | assumption | exact HS0.out _ (by assumption) | exact HS0.out _ (Below.refl _ _)) (first | (go_at_call 40; go_fit (K8.out _ (by first | assumption | exact Below.refl _ _)); rintro z w5 ⟨v5, rfl, q5, b5⟩))
        clear K8 HS0 bD
        obtain ⟨m0, m1⟩ := q5
        go_wp2_with fail
        go_big_quiet (fail)
        have HR5 : Hid (Rn w.heap.size F w (w5.drewN nq) v5 fr to (Lw ++ tmb ⟨rn, tm, st, vl, fr, to⟩ T)) := b5.out.below (bdrew (Below.refl _ _) nq)
        clear b5 m0 m1
        generalize w5.drewN nq = W at *
        go_upto_region 10 with fail
        clear p1 p2 q1 q2 q3 q4 c0
      all_goals
        obtain ⟨a1, a2, a3⟩ := HX12.out
        have z1 := (HR5.out.bl.cell (p := ⟨g, o + rn * 3 + 1, none⟩) a3).trans a1
        have z2 := (HR5.out.bl.cell (p := ⟨g, o + rn * 3 + 2, none⟩) a3).trans a2
        clear a1 a2 a3 HX12
        cases s with
        | true =>
          have k7 := number_any w.heap.size v5 (Lw ++ tmb ⟨rn, tm, st, vl, fr, to⟩ T) 7 3 W HR5.out.rw (by decide) (by decide) (by rw [List.length_append]; have := HLW.out; have := HTB.out; omega)
          have HST2 := HST.out rfl
          have HE : Hid (∀ W v, Rn w.heap.size F w W v fr to ((Lw ++ tmb ⟨rn, tm, st, vl, fr, to⟩ T) ++ nb 7 3) → Rr F w W n v (.int .u64 (vl : Nat)) (.int .i64 E1) l (rn + 1)) := fun W v h => HST2 W v E1 HSE.out h
          clear HST HVA HST2 z1 HSE
          go_wp2_with fail
          go_fit k7
          rintro z w7 hq
          obtain ⟨v7, rfl, hR7⟩ := HR5.out.step hq
          have HR : Hid (Rr F w w7 n v7 (.int .u64 (vl : Nat)) (.int .i64 E1) l (rn + 1)) := HE.out _ _ hR7
          clear k7 hq hR7 HE HR5 z2
          go_wp2
          exact ⟨⟨rn + 1, by omega, by go_num, HR⟩, by simp [RowKit.intOf]; omega⟩
        | false =>
          obtain ⟨hv2, hvl, hfr⟩ := HV2.out
          have k12 := rbits_any vv hv2 W
          have hcl := cb_lt vv hv2
          have k13 := value_any w.heap.size v5 (Lw ++ tmb ⟨rn, tm, st, vl, fr, to⟩ T) (cb vv ^^^ vl) fr to W HR5.out.rw (by rw [List.length_append]; have := HLW.out; have := HTB.out; omega) (xor_lt hcl hvl) hfr
          have hxo := xor_u64 (cb vv) vl hcl hvl
          have HVA2 := HVA.out rfl
          have HE : Hid (∀ W v, Rn w.heap.size F w W v (vfr (cb vv ^^^ vl) fr to) (vto (cb vv ^^^ vl) fr to) ((Lw ++ tmb ⟨rn, tm, st, vl, fr, to⟩ T) ++ vlu (cb vv ^^^ vl) fr to) → Rr F w W n v (.int .u64 (cb vv : Nat)) (.int .i64 E1) l (rn + 1)) := fun W v h => HVA2 W v E1 HSE.out h
          have g0 := HR5.out.f0
          have g1 := HR5.out.f1
          have g2 := HR5.out.f2
          clear HST HVA HVA2 HSE hv2 hfr
          generalize cb vv ^^^ vl = xv at *
          obtain ⟨CB, hCB⟩ : ∃ CB : Int, CB = (cb vv : Nat) := ⟨_, rfl⟩
          obtain ⟨VL, hVL⟩ : ∃ VL : Int, VL = (vl : Nat) := ⟨_, rfl⟩
          obtain ⟨XV, hXV⟩ : ∃ XV : Int, XV = (xv : Nat) := ⟨_, rfl⟩
          rw [← hCB] at k12 hxo HE
          rw [← hVL] at hxo ⊢
          rw [← hXV] at hxo k13
          have HC1 : Hid (CB = (cb vv : Nat) ∧ VL = (vl : Nat) ∧ XV = (xv : Nat)) := ⟨hCB, hVL, hXV⟩
          clear hCB hVL hXV hcl hvl
          go_wp2_with fail
          go_fit k12
          rintro z w6 ⟨rfl, rfl⟩
          clear k12 z1 z2
          go_wp2_with fail
          go_fit k13
          rintro z w7 hq
          obtain ⟨v7, rfl, ⟨u0, u1, u2, f0, f1, f2⟩, fz, hR7⟩ := HR5.out.val hq
          have HR : Hid (Rr F w (st3 w7 F (isF (vto xv fr to)) (vfr xv fr to : Nat) (rF (vto xv fr to) : Nat)) n v7 (.int .u64 CB) (.int .i64 E1) l (rn + 1)) := HE.out _ _ hR7
          unfold st3 at HR
          clear k13 hq hR7 HE HR5 g0 g1 g2
          go_wp2
          exact ⟨⟨rn + 1, by omega, by go_num, HR⟩, by simp [RowKit.intOf]; omega⟩
    · have hii : ¬ (i : Int) < (n : Int) := by omega
      have htk : l.take i = l := List.take_of_length_le (by have := HN.out; omega)
      have HR : Hid (Rw w.heap.size wr u3 (frm l) ∧ Below w.heap.size w wr) := by
        have h := hrr.out.rn
        rw [htk, ← HFR.out] at h
        exact ⟨h.rw, h.bl⟩
      clear hrr htk
      go_wp2
      go_ret
      exact ⟨_, rfl, HR.out⟩
end Go.Proofs.YtedlmjieclaojabDoor
