/- A bundle of texts. -/
import Derived.Test.YtbciclnffokjjaaGreatDoorBt10
/- Trees: length, Size. -/
namespace Go.Proofs.YtbciclnffokjjaaGreatDoor
open Go.RowKit

theorem ret_int {k : IntKind} {a b : Int} (h : a = b) : Ending.returned (.int k a) = .returned (.int k b) := by rw [h]
theorem mul_bd {a b c d : Int} (h0 : 0 ≤ a) (h1 : a ≤ c) (h2 : 0 ≤ b) (h3 : b ≤ d) : 0 ≤ a * b ∧ a * b ≤ c * d := ⟨Int.mul_nonneg h0 h2, Int.mul_le_mul h1 h3 h2 (by omega)⟩

set_option maxHeartbeats 1000000 in
set_option maxRecDepth 100000 in
theorem repeatLength_any (d : Nd) (n : Int) (w : World) (hk : d.kind = 6) (hn : ndB d = true) (h0 : 0 ≤ n) (h1 : n ≤ 10001) :
    Calls Tryz.prog 67 #[ndV d, .int .i64 n] w fun e w' => e = .returned (.int .i64 (lenK d n)) ∧ Below w.heap.size w w' := by
  have hr := ndB_rep hn hk
  have HE : Hid (lenK d n = if d.mx = -1 then d.mn * n + n + 2 else d.mn * n + (d.mx - d.mn) * (n + 1)) := by unfold Hid lenK; rw [if_neg (by omega), if_neg (by omega), if_neg (by omega), if_pos hk]
  have HB : Hid (∀ o, Below w.heap.size w (w.alloc o)) := fun o => (Below.refl _ w).alloc (Nat.le_refl _) o
  clear hk hn
  obtain ⟨kind, r, ra, rn, rc, rf, mn, mx, lz, cp, nm, ka, kn, kc⟩ := d
  dsimp only at *
  obtain ⟨hr0, hr1, hr2, hr3⟩ := hr
  have m1 := mul_bd hr1 hr2 h0 h1
  obtain ⟨m1a, m1b⟩ := m1
  by_cases hm : mx = -1
  · have tm : (mx == -1) = true := by simpa using hm
    have HE' : Hid (lenK _ n = _) := HE.out.trans (if_pos hm)
    clear HE hm hr3 hr0
    go_enter Tryz.func67, Tryz.ntmps67
    go_wp2
    go_ret
    exact ⟨ret_int HE'.out.symm, HB.out _⟩
  · have tm : (mx == -1) = false := by simpa using hm
    have hx : 0 ≤ mx - mn ∧ mx - mn ≤ 1000 := by omega
    obtain ⟨x0, x1⟩ := hx
    have m2 := mul_bd x0 x1 (show 0 ≤ n + 1 by omega) (show n + 1 ≤ 10002 by omega)
    obtain ⟨m2a, m2b⟩ := m2
    have HE' : Hid (lenK _ n = _) := HE.out.trans (if_neg hm)
    have y0 : 0 ≤ mx := by omega
    have y1 : mx ≤ 1000 := by omega
    clear HE hm hr3 hr0
    go_enter Tryz.func67, Tryz.ntmps67
    go_wp2
    go_ret
    exact ⟨ret_int HE'.out.symm, HB.out _⟩

def LenOk (m : Nat) : Prop := ∀ (t : Tr) (w : World), WF m t → Tat w.heap.size w t → Calls Tryz.prog 49 #[ndV (t [])] w fun e w' => e = .returned (.int .i64 (lenF m t)) ∧ Below w.heap.size w w'
theorem lenF_succ (m : Nat) (t : Tr) : lenF (m + 1) t = min (lenK (t []) (sumN (fun j => lenF m (kid t j)) (t []).kn)) 10001 := rfl

set_option maxHeartbeats 4000000 in
set_option maxRecDepth 100000 in
theorem length_step (m : Nat) (hIH : LenOk m) : LenOk (m + 1) := by
  intro t w hw ht
  obtain ⟨⟨hnd, _⟩, hkn, hkids⟩ := hw
  have hb : Below w.heap.size w (w.alloc (ndX (t []))) := (Below.refl _ w).alloc (Nat.le_refl _) _
  have hc := ndX_cells (w := w) (t []) (Below.refl _ _)
  have HF : Hid (∀ j, j < (t []).kn → 0 ≤ lenF m (kid t j) ∧ lenF m (kid t j) ≤ 10001) := fun j hj => lenF_bd m _ (hkids j hj)
  have HE : Hid (lenF (m + 1) t = _) := lenF_succ m t
  have IH : Hid (LenOk m) := hIH
  have HKD : Hid (∀ j, j < (t []).kn → WF m (kid t j)) := hkids
  have HND : Hid (ndB (t []) = true) := hnd
  obtain ⟨W, hW⟩ : ∃ W, W = w.alloc (ndX (t [])) := ⟨_, rfl⟩
  have HW : Hid (W = w.alloc (ndX (t []))) := hW
  rw [← hW] at hb hc
  have HB : Hid (Below w.heap.size w W) := hb
  have HT : Hid (Tat w.heap.size W t) := ht.below hb
  have HSZ : Hid (w.heap.size ≤ W.heap.size) := hb.size
  have HC : Hid (Cs W w.heap.size 0 (t [])) := hc
  obtain ⟨G, hG⟩ : ∃ G, G = w.heap.size := ⟨_, rfl⟩
  have HG : Hid (G = w.heap.size) := hG
  have HGL : Hid (G < W.heap.size) := by rw [hG]; exact World.block_lt_of_cell? W _ hc.c0
  rw [← hG] at HC HT HB HSZ
  obtain ⟨d, hd⟩ : ∃ d, t [] = d := ⟨_, rfl⟩
  have HD : Hid (t [] = d) := hd
  rw [hd] at HC HW HF HND HE hkn HKD
  rw [hd]
  have e8 := HC.out.c8
  simp only [Nat.zero_add] at e8
  have hknI : (d.kn : Int) ≤ 8194 := by omega
  clear hnd hkids hb hc hW ht hIH hd hG
  obtain ⟨F, hF⟩ : ∃ F : Nat → Int, F = fun j => lenF m (kid t j) := ⟨_, rfl⟩
  have HFJ : Hid (∀ j, lenF m (kid t j) = F j) := fun j => by rw [hF]
  rw [← hF] at HE
  have HFB : Hid (∀ i, i ≤ d.kn → 0 ≤ sumN F i ∧ sumN F i ≤ 100000000) := fun i hi => by
    have := sumN_bd (f := F) (b := 10001) (by omega) i (fun j hj => by rw [← HFJ.out]; exact HF.out j (by omega))
    have h2 : (i : Int) * 10001 ≤ 8194 * 10001 := Int.mul_le_mul_of_nonneg_right (by omega) (by omega)
    omega
  clear hF
  go_enter Tryz.func49, Tryz.ntmps49
  go_upto_region 1 with fail
  rw [← HW.out, ← HG.out]
  go_wp2_with fail
  go_loopw [3, 9] (fun nv ivv w' => ∃ i : Nat, ivv = .int .i64 (i : Int) ∧ i ≤ d.kn ∧ nv = .int .i64 (sumN F i) ∧ Hid (Below W.heap.size W w')) (fun _ ivv _ => d.kn - (RowKit.intOf ivv).toNat)
  case atStart => exact ⟨0, rfl, by omega, rfl, Below.refl _ _⟩
  case round =>
    obtain ⟨i, rfl, hi, rfl, hbw⟩ := hrel
    have sb := HFB.out i hi
    obtain ⟨sb0, sb1⟩ := sb
    by_cases hlt : i < d.kn
    · have hii : (i : Int) < d.kn := by omega
      have htr := HT.out.below (hbw.out.mono HSZ.out)
      have hlt' : i < (t []).kn := by rw [HD.out]; exact hlt
      obtain ⟨g1, o1, hka, hg1, hcs⟩ := htr.kids.at i hlt'
      rw [HD.out] at hka
      have hal : Below wr.heap.size wr (wr.alloc (ndX (t [i]))) := (Below.refl _ wr).alloc (Nat.le_refl _) _
      have hz : G ≤ wr.heap.size := Nat.le_trans HSZ.out hbw.out.size
      have kN := IH.out (kid t i) (wr.alloc (ndX (t [i]))) (HKD.out i hlt) (((htr.kid i hlt').below (hal.mono hz)).mono (Nat.le_trans hz hal.size))
      change Calls Tryz.prog 49 #[ndV (t [i])] (wr.alloc (ndX (t [i]))) _ at kN
      have fb := HF.out i hlt
      rw [HFJ.out] at kN fb
      obtain ⟨fb0, fb1⟩ := fb
      have HSS : Hid (sumN F (i + 1) = sumN F i + F i) := rfl
      have HR : Hid (∀ w2, Below (wr.alloc (ndX (t [i]))).heap.size (wr.alloc (ndX (t [i]))) w2 → Below W.heap.size W w2) := fun w2 b => hbw.out.trans ((hal.trans (b.mono hal.size)).mono hbw.out.size)
      obtain ⟨p0, p1, p2, p3, p4, p5, p6, p7, p8⟩ := hcs
      rw [hka] at *
      generalize t [i] = dk at *
      generalize F i = X at *
      generalize sumN F i = Y at *
      clear htr hal hlt' hka
      go_wp2_with fail
      go_fit kN
      rintro e w5 ⟨rfl, b5⟩
      have B5 : Hid _ := HR.out _ b5
      clear b5
      go_wp2
      exact ⟨⟨i + 1, by go_num, by omega, by rw [HSS.out], B5.out⟩, by simp [RowKit.intOf]; omega⟩
    · have hii : ¬ (i : Int) < d.kn := by omega
      obtain rfl : i = d.kn := by omega
      have hcs := HC.out.kp (M := fun _ => False) (Kp.of hbw.out) id
      obtain ⟨f0, f1, f2, f3, f4, f5, f6, f7, f8⟩ := hcs
      simp only [Nat.zero_add] at f0 f1 f2 f3 f4 f5 f6 f7 f8
      have HBW : Hid (Below w.heap.size w wr) := by rw [← HG.out]; exact HB.out.trans (hbw.out.mono HSZ.out)
      have HY0 : Hid (sumN F d.kn = sumN F d.kn) := rfl
      generalize hY : sumN F d.kn = Y at *
      have HY : Hid (sumN F d.kn = Y) := hY
      have kb := ndB_kind HND.out
      clear hY HY0 e8 hlt hii hi
      by_cases h1 : d.kind = 1
      · have t1 : (d.kind == 1) = true := by simpa using h1
        have HL : Hid (lenK d Y = Y) := by unfold Hid lenK; rw [if_pos (.inl h1)]
        clear h1 kb
        go_wp2
        all_goals go_ret
        all_goals exact ⟨ret_int (by rw [HE.out, HL.out]; omega), HBW.out⟩
      have t1 : (d.kind == 1) = false := by simpa using h1
      by_cases h4 : d.kind = 4
      · have t4 : (d.kind == 4) = true := by simpa using h4
        have HL : Hid (lenK d Y = Y) := by unfold Hid lenK; rw [if_pos (.inr h4)]
        clear h1 h4 kb
        go_wp2
        all_goals go_ret
        all_goals exact ⟨ret_int (by rw [HE.out, HL.out]; omega), HBW.out⟩
      have t4 : (d.kind == 4) = false := by simpa using h4
      by_cases h5 : d.kind = 5
      · have t5 : (d.kind == 5) = true := by simpa using h5
        have HL : Hid (lenK d Y = Y + 2 * ((d.kn : Int) - 1)) := by unfold Hid lenK; rw [if_neg (by omega), if_pos h5]
        have h2 := ndB_row HND.out (.inr h5)
        have h2' : 2 ≤ (d.kn : Int) := by omega
        clear h1 h4 h5 kb h2
        go_wp2
        all_goals go_ret
        all_goals exact ⟨ret_int (by rw [HE.out, HL.out]; omega), HBW.out⟩
      have t5 : (d.kind == 5) = false := by simpa using h5
      by_cases h7 : d.kind = 7
      · have t7 : (d.kind == 7) = true := by simpa using h7
        have HL : Hid (lenK d Y = Y + 2) := by unfold Hid lenK; rw [if_neg (by omega), if_neg h5, if_pos h7]
        clear h1 h4 h5 h7 kb
        go_wp2
        all_goals go_ret
        all_goals exact ⟨ret_int (by rw [HE.out, HL.out]; omega), HBW.out⟩
      have t7 : (d.kind == 7) = false := by simpa using h7
      by_cases h6 : d.kind = 6
      · have t6 : (d.kind == 6) = true := by simpa using h6
        have hY1 : Y ≤ 10001 := by
          have h61 := (ndB_rep HND.out h6).1
          rw [← HY.out, h61, sumN_one, ← HFJ.out]
          exact (HF.out 0 (by omega)).2
        have kR := repeatLength_any d Y wr h6 HND.out sb0 hY1
        clear h1 h4 h5 h7 h6 kb
        go_wp2_with fail
        go_fit kR
        rintro e w6 ⟨rfl, b6⟩
        have HBW : Hid (Below w.heap.size w w6) := HBW.out.trans (b6.mono HBW.out.size)
        clear b6
        generalize lenK d Y = Z at *
        go_wp2
        all_goals go_ret
        all_goals exact ⟨ret_int (by rw [HE.out]; omega), HBW.out⟩
      have t6 : (d.kind == 6) = false := by simpa using h6
      have HL : Hid (lenK d Y = 1) := by unfold Hid lenK; rw [if_neg (by omega), if_neg h5, if_neg h7, if_neg h6]
      clear h1 h4 h5 h7 h6 kb
      go_wp2
      all_goals go_ret
      all_goals exact ⟨ret_int (by rw [HE.out, HL.out]; omega), HBW.out⟩
theorem length_any : ∀ m, LenOk m
  | 0 => fun _ _ h => by cases h
  | m + 1 => length_step m (length_any m)

/-- How many instructions a tree's program has; 0: it isn't valid. -/
def sizF (t : Tr) : Int := if okT t = true then min (lenF 8195 t + 1) 10001 else 0
set_option maxHeartbeats 1000000 in
set_option maxRecDepth 100000 in
theorem size_any (t : Tr) (w : World) (ht : Tat w.heap.size w t) : Calls Tryz.prog 24 #[ndV (t [])] w fun e w' => e = .returned (.int .i64 (sizF t)) ∧ Below w.heap.size w w' := by
  have hb : Below w.heap.size w (w.alloc (ndX (t []))) := (Below.refl _ w).alloc (Nat.le_refl _) _
  have ht1 : Tat (w.alloc (ndX (t []))).heap.size (w.alloc (ndX (t []))) t := (ht.below hb).mono hb.size
  have kV := valid_any t _ ht1
  have HB : Hid _ := hb
  have hc := ndX_cells (w := w) (t []) (Below.refl _ _)
  cases ho : okT t
  · rw [ho] at kV
    have HE : Hid (sizF t = 0) := by unfold Hid sizF; rw [ho]; rfl
    clear ht ht1 ho hb hc
    generalize t [] = d at *
    go_enter Tryz.func24, Tryz.ntmps24
    go_wp2_with fail
    go_fit kV
    rintro e w1 ⟨rfl, b1⟩
    have B1 : Hid _ := HB.out.trans (b1.mono HB.out.size)
    clear b1
    go_wp2
    go_ret
    exact ⟨ret_int HE.out.symm, B1.out⟩
  · rw [ho] at kV
    have hwf := WF_ok ho
    have hl := lenF_bd 8195 t hwf
    have HE : Hid (sizF t = min (lenF 8195 t + 1) 10001) := by unfold Hid sizF; rw [ho]; rfl
    have HL : Hid (∀ w1, Below (w.alloc (ndX (t []))).heap.size (w.alloc (ndX (t []))) w1 → Calls Tryz.prog 49 #[ndV (t [])] w1 fun e w' => e = .returned (.int .i64 (lenF 8195 t)) ∧ Below w1.heap.size w1 w') := fun w1 b => length_any 8195 t w1 hwf ((ht1.below b).mono b.size)
    have HC : Hid (∀ w1, Below (w.alloc (ndX (t []))).heap.size (w.alloc (ndX (t []))) w1 → Cs w1 w.heap.size 0 (t [])) := fun w1 b => ndX_cells (t []) b
    obtain ⟨hl0, hl1⟩ := hl
    generalize lenF 8195 t = L at *
    clear ht ht1 ho hb hc hwf
    generalize t [] = d at *
    go_enter Tryz.func24, Tryz.ntmps24
    go_wp2_with fail
    go_fit kV
    rintro e w1 ⟨rfl, b1⟩
    have B1 : Hid _ := HB.out.trans (b1.mono HB.out.size)
    have kL := HL.out w1 b1
    obtain ⟨f0, f1, f2, f3, f4, f5, f6, f7, f8⟩ := HC.out w1 b1
    simp only [Nat.zero_add] at f0 f1 f2 f3 f4 f5 f6 f7 f8
    clear b1 kV
    go_wp2_with fail
    go_fit kL
    rintro e w2 ⟨rfl, b2⟩
    have B2 : Hid _ := B1.out.trans (b2.mono B1.out.size)
    clear b2 f0 f1 f2 f3 f4 f5 f6 f7 f8
    go_wp2
    all_goals go_ret
    all_goals exact ⟨ret_int (by rw [HE.out]; omega), B2.out⟩
end Go.Proofs.YtbciclnffokjjaaGreatDoor
/- Trees: what Words and Prefix lean on. -/
namespace Go.Proofs.YtbciclnffokjjaaGreatDoor
open Go.RowKit

theorem sumN_mem {L : Nat → Int} : ∀ {n : Nat}, (∀ j, j < n → 0 ≤ L j) → ∀ j, j < n → L j ≤ sumN L n
  | 0, _, j, hj => by omega
  | n + 1, h, j, hj => by
    have h0 : 0 ≤ sumN L n := by
      have key : ∀ m, m ≤ n → 0 ≤ sumN L m := by
        intro m
        induction m with
        | zero => intro _; exact Int.le_refl _
        | succ m ih => intro hm; unfold sumN; have := ih (by omega); have := h m (by omega); omega
      exact key n (Nat.le_refl _)
    unfold sumN
    by_cases e : j = n
    · subst e; omega
    · have := sumN_mem (n := n) (fun j hj => h j (by omega)) j (by omega)
      have := h n (by omega)
      omega
theorem sizF_ok {t : Tr} (h0 : ¬ sizF t = 0) (h1 : sizF t ≤ 10000) : okT t = true ∧ lenF 8195 t ≤ 9999 ∧ sizF t = lenF 8195 t + 1 := by
  unfold sizF at *
  by_cases h : okT t = true
  · rw [if_pos h] at *
    exact ⟨h, by omega, by omega⟩
  · rw [if_neg h] at h0
    exact absurd rfl h0
def rsL (d : Nd) : List Rg := (List.range d.rn).map d.rf
theorem rsL_len (d : Nd) : (rsL d).length = d.rn := by simp [rsL]
def inR (r : Int) (rs : List Rg) : Prop := ∃ x ∈ rs, x.1 ≤ r ∧ r ≤ x.2
theorem size_len (a : ByteArray) : a.data.toList.length = a.size := by rw [Array.length_toList]; rfl
end Go.Proofs.YtbciclnffokjjaaGreatDoor
