/- A bundle of texts. -/
import Derived.Test.YtajaadagejhllaaGreatDoorBs06
import Derived.Test.YtajaadagejhllaaGreatDoorBs28
import Derived.Test.YtajaadagejhllaaGreatDoorBs27
/- The reference's validity: name. -/
namespace Go.Proofs.YtajaadagejhllaaGreatDoor
open Go.RowKit

/-- A Count in the block B, its names in a row of its own. -/
structure Cn (S : Nat) (w : World) (B : Nat) (v : Value) (k c n : Nat) (f : Nat → ByteArray) : Prop where
  c0 : w.cell? ⟨B, 0, none⟩ = some (.int .i64 (k : Int))
  c1 : w.cell? ⟨B, 1, none⟩ = some (.int .i64 (c : Int))
  c2 : w.cell? ⟨B, 2, none⟩ = some v
  fz : ∀ o, w.frozen? ⟨B, o, none⟩ = false
  row : w.ownsRow S 9 1 v n (sc f n)
  gb : v.ownBlock ≠ some B
  SB : S ≤ B
namespace Cn
variable {S B : Nat} {w w' : World} {v : Value} {k c n : Nat} {f : Nat → ByteArray}
theorem lt (h : Cn S w B v k c n f) : B < w.heap.size := World.block_lt_of_cell? w _ h.c0
theorem kp {M : Nat → Prop} (h : Cn S w B v k c n f) (q : Kp M w w') (hB : ¬ M B) (hg : ∀ g, v.ownBlock = some g → ¬ M g) : Cn S w' B v k c n f :=
  ⟨q.cell h.c0 hB, q.cell h.c1 hB, q.cell h.c2 hB, fun o => by rw [World.frozen?_of_block (w := w) (q.block B h.lt hB)]; exact h.fz o, q.row h.row hg, h.gb, h.SB⟩
theorem below (h : Cn S w B v k c n f) (q : Below w.heap.size w w') : Cn S w' B v k c n f := h.kp (M := fun _ => False) (Kp.of q) id (fun _ _ => id)
theorem form (h : Cn S w B v k c n f) : ∃ a cc, v = .slice a n cc ∧ Sml w a f n := by
  rcases h.row.2 with ⟨e, e2⟩ | ⟨g, cc, cur, e, _, hg, _⟩
  · exact ⟨none, 0, by rw [e, e2], .inl e2⟩
  · refine ⟨_, cc, e, ?_⟩
    have := h.row
    rw [e] at this
    exact Sml.of_row this (Array.getElem?_eq_some_iff.1 hg).1
theorem base (h : Cn S w B v k c n f) : ∀ i, Mv B v i → S ≤ i ∧ i < w.heap.size := by
  intro i hi
  rcases hi with rfl | hi
  · exact ⟨h.SB, h.lt⟩
  · exact h.row.lt i hi
theorem low (h : Cn S w B v k c n f) (hS : S ≤ w.heap.size) (q : Kp (Mv B v) w w') : Below S w w' := q.below hS (fun i hi e => by have := (h.base i e).1; omega)
/-- A number is written. -/
theorem put0 (h : Cn S w B v k c n f) (x : Nat) : Cn S (w.setCell ⟨B, 0, none⟩ (.int .i64 (x : Int))) B v x c n f ∧ Kp (Mv B v) w (w.setCell ⟨B, 0, none⟩ (.int .i64 (x : Int))) := by
  have kb : Kp (· = B) w (w.setCell ⟨B, 0, none⟩ (.int .i64 (x : Int))) := (Kp.refl (· = B) w).setCell (p := ⟨B, 0, none⟩) rfl _
  refine ⟨⟨World.cell?_setCell_same _ _ _ h.c0, ?_, ?_, fun o => by rw [World.frozen?_setCell]; exact h.fz o, kb.row h.row (fun g e e2 => h.gb (by rw [← (show g = B from e2)]; exact e)), h.gb, h.SB⟩, kb.mono (fun i _ e => .inl e)⟩
  · rw [World.cell?_setCell_other _ _ _ _ (by simp)]; exact h.c1
  · rw [World.cell?_setCell_other _ _ _ _ (by simp)]; exact h.c2
theorem put1 (h : Cn S w B v k c n f) (x : Nat) : Cn S (w.setCell ⟨B, 1, none⟩ (.int .i64 (x : Int))) B v k x n f ∧ Kp (Mv B v) w (w.setCell ⟨B, 1, none⟩ (.int .i64 (x : Int))) := by
  have kb : Kp (· = B) w (w.setCell ⟨B, 1, none⟩ (.int .i64 (x : Int))) := (Kp.refl (· = B) w).setCell (p := ⟨B, 1, none⟩) rfl _
  refine ⟨⟨?_, World.cell?_setCell_same _ _ _ h.c1, ?_, fun o => by rw [World.frozen?_setCell]; exact h.fz o, kb.row h.row (fun g e e2 => h.gb (by rw [← (show g = B from e2)]; exact e)), h.gb, h.SB⟩, kb.mono (fun i _ e => .inl e)⟩
  · rw [World.cell?_setCell_other _ _ _ _ (by simp)]; exact h.c0
  · rw [World.cell?_setCell_other _ _ _ _ (by simp)]; exact h.c2
/-- One name more. -/
theorem push (h : Cn S w B v k c n f) (x : ByteArray) (hS : S ≤ w.heap.size) (hn : n ≤ 1000) :
    ∃ g cc w1, (Builtin.append_ #[36, 36] 36 #[v, .slice (some ⟨w.heap.size, 0, none⟩) 1 1]).run Tryz.prog (w.alloc (tX x)) = .ok (.slice (some ⟨g, 0, none⟩) (n + 1) cc) w1 ∧ (w1.cell? ⟨B, 2, none⟩ = some v ∧ w1.frozen? ⟨B, 2, none⟩ = false) ∧ Cn S (w1.setCell ⟨B, 2, none⟩ (.slice (some ⟨g, 0, none⟩) (n + 1) cc)) B (.slice (some ⟨g, 0, none⟩) (n + 1) cc) k c (n + 1) (up f n x) ∧ Sub w v (.slice (some ⟨g, 0, none⟩) (n + 1) cc) ∧ Kp (Mv B v) w (w1.setCell ⟨B, 2, none⟩ (.slice (some ⟨g, 0, none⟩) (n + 1) cc)) := by
  obtain ⟨g, cc, w1, r, o, q, hg⟩ := append_t w S v n f x hS (by omega) h.row
  have hgB : g ≠ B := fun e => by
    rcases hg with e1 | e1
    · rw [e] at e1; exact h.gb e1
    · have := h.lt; omega
  have hb : ∀ {y : Prop}, (v.ownBlock = some B → y) := fun e => absurd e h.gb
  have k0 := q.cell h.c0 (fun e => hb e)
  have k1 := q.cell h.c1 (fun e => hb e)
  have k2 := q.cell h.c2 (fun e => hb e)
  have kf : ∀ o, w1.frozen? ⟨B, o, none⟩ = false := fun o => by rw [World.frozen?_of_block (w := w) (q.block B h.lt (fun e => hb e))]; exact h.fz o
  have kb : Kp (· = B) w1 (w1.setCell ⟨B, 2, none⟩ (.slice (some ⟨g, 0, none⟩) (n + 1) cc)) := (Kp.refl (· = B) w1).setCell (p := ⟨B, 2, none⟩) rfl _
  refine ⟨g, cc, w1, r, ⟨k2, kf 2⟩, ⟨?_, ?_, World.cell?_setCell_same _ _ _ k2, fun o => by rw [World.frozen?_setCell]; exact kf o, kb.row o (fun i e e2 => hgB ((Option.some.inj e).trans e2)), fun e => hgB (Option.some.inj e), h.SB⟩, fun i e hl => ?_, (q.mono (fun i _ e => .inr e)).trans (kb.mono (fun i _ e => .inl e))⟩
  · rw [World.cell?_setCell_other _ _ _ _ (by simp)]; exact k0
  · rw [World.cell?_setCell_other _ _ _ _ (by simp)]; exact k1
  · have e1 : g = i := Option.some.inj e
    rcases hg with h1 | h1
    · rw [← e1]; exact h1
    · omega
end Cn
/-- May a group have this name? -/
def nameB (f : Nat → ByteArray) (n : Nat) (x : ByteArray) : Bool := nmB x && !(!x.toList.isEmpty && hasB f x n)
theorem get!_at (s : ByteArray) (k : Nat) (h : k < s.size) : s.get! k = s[k]'h := by
  unfold ByteArray.get!
  show s.data[k]! = s.data[k]'h
  exact getElem!_pos s.data k h
theorem bw_in {s : ByteArray} {i : Nat} (h : i < s.size) : bwF s (s.size - i) i = (wdB ((s.get! i).toNat : Int) && bwF s (s.size - (i + 1)) (i + 1)) := by
  rw [show s.size - i = (s.size - (i + 1)) + 1 by omega]
  show (if i < s.size then _ else _) = _
  rw [if_pos h]
def NmP (S B : Nat) (v : Value) (k c n : Nat) (f : Nat → ByteArray) (x : ByteArray) (w : World) (e : Ending) (w' : World) : Prop :=
  (nameB f n x = false ∧ e = .returned (.bool false) ∧ w' = w) ∨ (nameB f n x = true ∧ e = .returned (.bool true) ∧ (∃ v', Cn S w' B v' k c (n + 1) (up f n x) ∧ Sub w v v') ∧ Kp (Mv B v) w w')

set_option maxHeartbeats 2000000 in
set_option maxRecDepth 100000 in
theorem name_any (S B : Nat) (v : Value) (k c n : Nat) (f : Nat → ByteArray) (x : ByteArray) (w : World) (hv : Cn S w B v k c n f) (hS : S ≤ w.heap.size) (hn : n ≤ 1000) (hx : x.size ≤ 140737488351232) :
    Calls Tryz.prog 57 #[.pointer (some ⟨B, 0, none⟩), .string x] w (NmP S B v k c n f x w) := by
  obtain ⟨g, cc, w1, r1, ⟨q2, q3⟩, hC, hsub, hkp⟩ := hv.push x hS hn
  obtain ⟨a, vc, rfl, hm⟩ := hv.form
  have c2 := hv.c2
  have HM : Hid (Sml w a f n) := hm
  have HNO : Hid (∀ e, nameB f n x = false → e = .returned (.bool false) → NmP S B (.slice a n vc) k c n f x w e w) := fun e h1 h2 => .inl ⟨h1, h2, rfl⟩
  have HYES : Hid (∀ e, nameB f n x = true → e = .returned (.bool true) → NmP S B (.slice a n vc) k c n f x w e (w1.setCell ⟨B, 2, none⟩ (.slice (some ⟨g, 0, none⟩) (n + 1) cc))) := fun e h1 h2 => .inr ⟨h1, h2, ⟨_, hC, hsub⟩, hkp⟩
  have HNB : Hid (nmB x = bwF x x.size 0) := nmF_bw x x.size 0
  have hnI : (n : Int) ≤ 1000 := by omega
  have hxI : (x.size : Int) ≤ 140737488351232 := by omega
  clear hv hC hsub hkp hm
  go_enter Tryz.func57, Tryz.ntmps57
  go_wp2_with fail
  go_loopw [5] (fun ivv w' => ∃ i : Nat, ivv = .int .i64 (i : Int) ∧ i ≤ x.size ∧ Hid (bwF x x.size 0 = bwF x (x.size - i) i) ∧ w' = w) (fun ivv _ => x.size - (RowKit.intOf ivv).toNat)
  case atStart => exact ⟨0, rfl, Nat.zero_le _, rfl, rfl⟩
  case round =>
    obtain ⟨i, rfl, hi, HI, hw⟩ := hrel
    subst hw
    by_cases hlt : i < x.size
    · have hii : (i : Int) < x.size := by omega
      have HBI := bw_in hlt
      have hE : wrap32 ((x[i]'hlt).toNat : Int) = ((x.get! i).toNat : Int) := by
        rw [get!_at x i hlt]
        have : (x[i]'hlt).toNat < 256 := UInt8.toNat_lt _
        unfold wrap32
        omega
      have kW := rWord_any (wrap32 ((x[i]'hlt).toNat : Int)) wr
      rw [show wdB (wrap32 ((x[i]'hlt).toNat : Int)) = wdB ((x.get! i).toNat : Int) by rw [hE]] at kW
      clear hE
      generalize hbb : wdB ((x.get! i).toNat : Int) = bb at HBI kW
      have HB2 : Hid (bwF x (x.size - i) i = (bb && bwF x (x.size - (i + 1)) (i + 1))) := HBI
      clear hbb HBI r1 q2 q3 c2
      cases bb
      · have HF : Hid (nameB f n x = false) := by unfold Hid nameB; rw [HNB.out, HI.out, HB2.out]; simp
        clear HYES HNB HI HB2 HM
        go_wp2_with fail
        go_fit kW
        rintro e w2 ⟨rfl, rfl⟩
        go_wp2
        go_ret
        exact HNO.out _ HF.out rfl
      · have HI2 : Hid (bwF x x.size 0 = bwF x (x.size - (i + 1)) (i + 1)) := by unfold Hid; rw [HI.out, HB2.out]; simp
        clear HYES HNO HNB HI HB2 HM
        go_wp2_with fail
        go_fit kW
        rintro e w2 ⟨rfl, rfl⟩
        go_wp2
        exact ⟨⟨i + 1, by go_num, by omega, HI2, trivial⟩, by simp [RowKit.intOf]; omega⟩
    · have hii : ¬ (i : Int) < x.size := by omega
      have HNT : Hid (nmB x = true) := by
        unfold Hid
        rw [HNB.out, HI.out, show x.size - i = 0 by omega]
        rfl
      clear HNB HI
      go_wp2_with fail
      generalize wr = W at *
      go_loopw [6] (fun ivv w' => ∃ j : Nat, ivv = .int .i64 (j : Int) ∧ j ≤ n ∧ Hid (x.toList.isEmpty = false → hasB f x j = false) ∧ w' = W) (fun ivv _ => n - (RowKit.intOf ivv).toNat)
      case atStart => exact ⟨0, rfl, Nat.zero_le _, fun _ => rfl, rfl⟩
      case round =>
        obtain ⟨j, rfl, hj, HJ, hw⟩ := hrel
        subst hw
        by_cases hjl : j < n
        · have hjj : (j : Int) < n := by omega
          obtain ⟨gn, on, ea, _, hcell⟩ := HM.out.at j hjl
          subst ea
          have HHS : Hid (hasB f x (j + 1) = (hasB f x j || decide (x = f j))) := rfl
          have HYS : Hid (x = f j → hasB f x n = true) := fun e => hasB_yes e hjl
          have hte := toList_eq (f j) x
          clear r1 q2 q3 HM
          generalize f j = y at *
          cases hemp : x.toList.isEmpty
          · cases hbb : (y.toList == x.toList)
            · have HJ2 : Hid (x.toList.isEmpty = false → hasB f x (j + 1) = false) := fun h => by
                rw [HHS.out, HJ.out h, decide_eq_false (fun e => by rw [hbb, e] at hte; simp at hte)]
                rfl
              have HJ3 : Hid (hasB f x (j + 1) = false) := HJ2.out hemp
              clear HHS HYS HJ HYES HNO hte HNT HJ2
              go_wp2
              exact ⟨⟨j + 1, by go_num, by omega, fun _ => HJ3.out, trivial⟩, by simp [RowKit.intOf]; omega⟩
            · have HF : Hid (nameB f n x = false) := by
                have e : y = x := by rw [hbb] at hte; simpa using hte.symm
                unfold Hid nameB
                rw [HYS.out e.symm, hemp]
                simp
              clear HHS HYS HJ HYES hte HNT
              go_wp2
              go_ret
              exact HNO.out _ HF.out rfl
          · clear HHS HYS HJ HYES HNO hte HNT
            go_wp2
            exact ⟨⟨j + 1, by go_num, by omega, (fun h => by cases h), trivial⟩, by simp [RowKit.intOf]; omega⟩
        · have hjN : n = j := by omega
          subst hjN
          have hjj : ¬ (n : Int) < n := by omega
          have HT : Hid (nameB f n x = true) := by
            unfold Hid nameB
            rw [HNT.out]
            cases hemp : x.toList.isEmpty
            · rw [HJ.out hemp]; rfl
            · rfl
          clear HM HNO HNT HJ
          go_wp2_with (at_builtin; refine wpList_append_run rfl (.tmp 45) (.tmp 47) 36 36 rfl _ _ rfl rfl r1 ?_)
          go_ret
          exact HYES.out _ HT.out rfl
end Go.Proofs.YtajaadagejhllaaGreatDoor
/- The reference's validity: nodes, as mathematics. -/
namespace Go.Proofs.YtajaadagejhllaaGreatDoor
open Go.RowKit

theorem nd_bare {d : Nd} (h : ndB d = true) : bareB d = true ∧ 1 ≤ d.kind ∧ d.kind ≤ 13 := by
  obtain ⟨kind, r, ra, rn, rc, rf, mn, mx, lz, cp, nm, ka, kn, kc⟩ := d
  unfold ndB kdB stB at h
  unfold bareB
  dsimp only at *
  simp only [Bool.and_eq_true, Bool.not_eq_true', Bool.or_eq_false_iff, Bool.and_eq_false_imp] at h
  obtain ⟨⟨⟨⟨h1, h2⟩, h3⟩, h4⟩, h5⟩ := h
  by_cases e2 : kind = 2
  · subst e2
    simp_all
  by_cases e3 : kind = 3
  · subst e3
    simp_all
  by_cases e4 : kind = 4
  · subst e4
    simp_all
  by_cases e5 : kind = 5
  · subst e5
    simp_all
  by_cases e6 : kind = 6
  · subst e6
    simp_all
  by_cases e7 : kind = 7
  · subst e7
    simp_all
  rw [if_neg e2, if_neg e3, if_neg (by omega), if_neg e6, if_neg e7] at h5
  by_cases e1 : kind = 1 ∨ 8 ≤ kind ∧ kind ≤ 13
  · rw [if_pos e1] at h5
    simp_all
    omega
  · rw [if_neg e1] at h5; cases h5
theorem nd_of {d : Nd} (hb : bareB d = true) (h1 : 1 ≤ d.kind) (h13 : d.kind ≤ 13) : ndB d = (if d.kind = 2 then ruB d.r else if d.kind = 3 then setB d.rf d.rn else if d.kind = 4 ∨ d.kind = 5 then decide (2 ≤ (d.kn : Int)) else if d.kind = 6 then ((d.kn : Int) == 1) && tiB d.mn d.mx else if d.kind = 7 then ((d.kn : Int) == 1) && nmB d.nm else true) ∧ (¬ (d.kind = 4 ∨ d.kind = 5 ∨ d.kind = 6 ∨ d.kind = 7) → d.kn = 0) := by
  obtain ⟨kind, r, ra, rn, rc, rf, mn, mx, lz, cp, nm, ka, kn, kc⟩ := d
  unfold ndB kdB stB
  unfold bareB at hb
  dsimp only at *
  by_cases e2 : kind = 2
  · subst e2
    simp_all
  by_cases e3 : kind = 3
  · subst e3
    simp_all
  by_cases e4 : kind = 4
  · subst e4
    simp_all
  by_cases e5 : kind = 5
  · subst e5
    simp_all
  by_cases e6 : kind = 6
  · subst e6
    simp_all
  by_cases e7 : kind = 7
  · subst e7
    simp_all
  rw [if_neg e2, if_neg e3, if_neg (by omega), if_neg e6, if_neg e7, if_pos (by omega), if_neg e2, if_neg e3, if_neg (by omega), if_neg e6, if_neg e7]
  simp_all
end Go.Proofs.YtajaadagejhllaaGreatDoor
