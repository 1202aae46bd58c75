/- goesWell. -/
import Derived.Test.YtnpgkiidpeaapaaDoorPl
import Derived.Test.YtnpgkiidpeaapaaDoorNext
import Derived.WalkMore
import Derived.Deep.RegionHeld3
namespace Go.Proofs.YtnpgkiidpeaapaaDoor
open Go.RowKit

theorem nxtZ_nat (s : ByteArray) (a : Nat) : nxtZ s (a : Int) = nxt s a := by unfold nxtZ; rw [if_pos (by omega), Int.toNat_natCast]
set_option maxHeartbeats 4000000 in
set_option maxRecDepth 100000 in
theorem goes_any (k : Cx) (W0 w : World) (sl0 : Nat → Int) (f : Fix k W0) (G : Gs k W0 w (fun _ => false) [] sl0) :
    Calls Tryd.prog 29 #[.pointer (some ⟨k.b, 0, none⟩), .int .i64 (k.st.toNat : Int), .int .i64 0] w (GW k W0 sl0) := by
  have hsn := f.esn
  have hgr := f.grn
  have hst0 := f.st0
  have hstn := f.stn
  have hsz : (k.s.size : Int) ≤ 2097152 := by have := f.hs; omega
  have F : Hid (Fix k W0) := f
  have hn1 : (k.n : Int) ≤ 10000 := by have := f.hn; omega
  obtain ⟨ig, io, hia⟩ : ∃ g o, k.ia = some ⟨g, o, none⟩ := by
    obtain ⟨g, o, e, _⟩ := f.ins.at k.st.toNat (by omega)
    exact ⟨g, o, e⟩
  have HIA : Hid (k.ia = some ⟨ig, io, none⟩) := hia
  obtain ⟨g0, IV0⟩ := Iv.start f sl0
  have kP := G.push (Sum.inl k.s0) ⟨by show k.st.toNat < k.n; omega, Nat.zero_le _⟩ (by simp)
  have kP' : Calls Tryd.prog 33 #[.pointer (some ⟨k.b, 5, none⟩), .agg #[.int .i64 (k.st.toNat : Int), .int .i64 0]] w fun r w' => r = .returned (.tuple #[]) ∧ Gs k W0 w' (fun _ => false) [Sum.inl k.s0] sl0 := kP
  have HI : Hid (Iv k sl0 [Sum.inl k.s0] (fun _ => false) sl0 g0) := IV0
  clear kP G f hia IV0
  generalize hk0 : k.st.toNat = k0 at *
  have HK0 : Hid (k.st.toNat = k0) := hk0
  clear hk0
  go_enter Tryd.func29, Tryd.ntmps29
  go_wp2
  go_step3
  go_wp2_with fail
  go_fit kP'
  rintro e w1 ⟨rfl, G1⟩
  have HG1 : Hid (Gs k W0 w1 (fun _ => false) [Sum.inl k.s0] sl0) := G1
  clear G1 kP'
  go_wp2
  go_step3
  go_wp2
  go_loopg [] g0 (fun g wr => ∃ tr st sl, Hid (Gs k W0 wr tr st sl) ∧ Hid (Iv k sl0 st tr sl g))
  case atStart => exact ⟨_, _, _, HG1, HI⟩
  case round =>
    obtain ⟨tr, st, sl, hG, hI⟩ := hrel
    clear HG1 HI
    obtain ⟨go, rfl⟩ : ∃ go, go = gk := ⟨_, rfl⟩
    have kE := hG.out.empty (by have := hI.out.len; omega)
    match st with
    | [] =>
      rw [show decide (([] : List Fr).length = 0) = true from rfl] at kE
      go_wp2_with fail
      go_fit kE
      rintro e w2 ⟨rfl, G2⟩
      go_wp2
      rw [Exit.noGoto_ret]
      go_ret
      exact G2.lost hI.out.none
    | Sum.inr (i, v) :: st =>
      rw [show decide ((Sum.inr (i, v) :: st : List Fr).length = 0) = false from rfl] at kE
      go_wp2_with fail
      go_fit kE
      rintro e w2 ⟨rfl, G2⟩
      have kO : Calls Tryd.prog 35 #[.pointer (some ⟨k.b, 5, none⟩)] w2 fun r w' => r = .returned (.agg #[.int .i64 (-(i : Int)), .int .i64 v]) ∧ okF k.n k.L k.sn (Sum.inr (i, v)) ∧ Gs k W0 w' tr st sl := G2.pop
      clear kE G2
      go_wp2_with fail
      go_fit kO
      rintro e w3 ⟨rfl, hok, G3⟩
      obtain ⟨hi2, his⟩ : 2 ≤ i ∧ i < k.sn := hok
      have G4 : Gs k W0 (w3.alloc (.cells #[.int .i64 (-(i : Int)), .int .i64 v] 88)).drew tr st sl := G3.below (((Below.refl _ _).alloc (Nat.le_refl _) _).drew)
      obtain ⟨_, _, c2⟩ := G4.cells
      obtain ⟨G5, s1, s2⟩ := G4.slot i his v
      have c2' : (w3.alloc (.cells #[.int .i64 (-(i : Int)), .int .i64 v] 88)).cell? ⟨k.b, 2, none⟩ = some (.slice (some ⟨k.sb, 0, none⟩) k.sn k.sp) := c2
      have s1' : (w3.alloc (.cells #[.int .i64 (-(i : Int)), .int .i64 v] 88)).cell? ⟨k.sb, i, none⟩ = some (.int .i64 (sl i)) := s1
      have s2' : (w3.alloc (.cells #[.int .i64 (-(i : Int)), .int .i64 v] 88)).frozen? ⟨k.sb, i, none⟩ = false := s2
      have hneg : -(i : Int) < 0 := by omega
      have hii : (i : Int) < (k.sn : Int) := by omega
      have hi1 : (i : Int) ≤ 1000 := by omega
      have hnn : IntKind.i64.wrap (- -(i : Int)) = (i : Int) := by rw [Int.neg_neg]; exact wrI _ (by omega)
      have hnn2 : wrap64 (- -(i : Int)) = (i : Int) := by rw [Int.neg_neg]; unfold wrap64; omega
      obtain ⟨g', hg', IV⟩ := hI.out.back
      have HG5 : Hid _ := G5
      have HIV : Hid _ := IV
      clear kO G3 G4 G5 IV hI hG c2 s1 s2
      go_wp2_with fail
      go_region
      go_wp2
      go_roundg g'
      case measure => exact hg'
      case rel => exact ⟨_, _, _, HG5, HIV⟩
    | Sum.inl (p1, p2) :: st =>
      rw [show decide ((Sum.inl (p1, p2) :: st : List Fr).length = 0) = false from rfl] at kE
      go_wp2_with fail
      go_fit kE
      rintro e w2 ⟨rfl, G2⟩
      have kO : Calls Tryd.prog 35 #[.pointer (some ⟨k.b, 5, none⟩)] w2 fun r w' => r = .returned (.agg #[.int .i64 (p1 : Int), .int .i64 (p2 : Int)]) ∧ okF k.n k.L k.sn (Sum.inl (p1, p2)) ∧ Gs k W0 w' tr st sl := G2.pop
      clear kE G2
      go_wp2_with fail
      go_fit kO
      rintro e w3 ⟨rfl, hok, G3⟩
      obtain ⟨hp1, hp2⟩ : p1 < k.n ∧ p2 ≤ k.L := hok
      have G4 : Gs k W0 (w3.alloc (.cells #[.int .i64 (p1 : Int), .int .i64 (p2 : Int)] 88)).drew tr st sl := G3.below (((Below.refl _ _).alloc (Nat.le_refl _) _).drew)
      have hnneg : ¬ (p1 : Int) < 0 := by omega
      have HG4 : Hid _ := G4
      clear kO G3 G4 hG
      go_wp2_with fail
      go_region
      go_wp2
      go_loopg [1, 2] go (fun h s1 s2 wx => ∃ (p1 p2 : Nat) (tr : Pt → Bool) (st : List Fr) (sl : Nat → Int), s1 = .int .i64 (p1 : Int) ∧ s2 = .int .i64 (p2 : Int) ∧ p1 < k.n ∧ p2 ≤ k.s.size ∧ h ≤ go ∧ Hid (Gs k W0 wx tr st sl) ∧ Hid (Iv k sl0 (Sum.inl (p1, p2) :: st) tr sl h))
      case atStart => exact ⟨p1, p2, _, _, _, rfl, rfl, hp1, hp2, Nat.le_refl _, HG4, hI⟩
      case round =>
        clear HG4 hI
        obtain ⟨q1, q2, tr, st, sl, rfl, rfl, hq1, hq2, hgo, hG, hI⟩ := hrel
        have kN := Gs.isNew (p := (q1, q2)) F.out hG.out hq1 hq2
        have hqi : (q1 : Int) < (k.n : Int) := by omega
        have hqa : (q2 : Int) ≤ (k.s.size : Int) := by omega
        cases hsn2 : (k.J q1 && tr (q1, q2)) with
        | true =>
          have kN' : Calls Tryd.prog 36 #[.pointer (some ⟨k.b, 0, none⟩), .int .i64 (q1 : Int), .int .i64 (q2 : Int)] wr fun r w' => r = .returned (.bool false) ∧ Gs k W0 w' (mark tr (q1, q2)) st sl := by rw [show false = !(k.J q1 && tr (q1, q2)) by rw [hsn2]; rfl]; exact kN
          obtain ⟨g', hg', IV⟩ := hI.out.seen hsn2
          have HIV : Hid _ := IV
          clear kN IV hI hG hsn2
          go_wp2_with fail
          go_fit kN'
          rintro e w4 ⟨rfl, G4⟩
          have HG4 : Hid _ := G4
          clear kN' G4
          go_wp2
          go_roundg g'
          case measure => omega
          case rel => exact ⟨_, _, _, HG4, HIV⟩
        | false =>
          have kN' : Calls Tryd.prog 36 #[.pointer (some ⟨k.b, 0, none⟩), .int .i64 (q1 : Int), .int .i64 (q2 : Int)] wr fun r w' => r = .returned (.bool true) ∧ Gs k W0 w' (mark tr (q1, q2)) st sl := by rw [show true = !(k.J q1 && tr (q1, q2)) by rw [hsn2]; rfl]; exact kN
          have hS := F.out.sin q1 hq1
          clear kN hG
          go_wp2_with fail
          go_fit kN'
          rintro e w4 ⟨rfl, G4⟩
          obtain ⟨i0, i1, i2, i3, i4, i5, hR, hRn⟩ := G4.inst F.out HIA.out q1 hq1
          obtain ⟨c0, c1, _⟩ := G4.cells
          have HS : Hid (SIn (k.x q1) k.n k.gr) := hS
          have HSN : Hid ((k.J q1 && tr (q1, q2)) = false) := hsn2
          have HR : Hid (Rml w4 (k.x q1).ra (k.x q1).rf (k.x q1).rn) := hR
          have HG4 : Hid (Gs k W0 w4 (mark tr (q1, q2)) st sl) := G4
          have hop := hS.op1
          clear kN' hS hsn2 hR G4
          obtain ⟨op, hope⟩ : ∃ op, op = (k.x q1).op := ⟨_, rfl⟩
          have HOP : Hid (op = (k.x q1).op) := hope
          rw [← hope] at i1 hop
          clear hope
          rcases (show op = 1 ∨ op = 11 ∨ op = 2 ∨ op = 3 ∨ op = 4 ∨ (5 ≤ op ∧ op ≤ 10) by omega) with rfl | rfl | rfl | rfl | rfl | ho
          · by_cases he : q2 = k.s.size
            · have HW : Hid _ := hI.out.won HSN.out (win_at hq1 HOP.out.symm he)
              have he' : (q2 : Int) = (k.s.size : Int) := by omega
              have he2 : ((q2 : Int) == (k.s.size : Int)) = true := by rw [beq_iff_eq]; exact he'
              have HHE : Hid (q2 = k.s.size) := he
              clear he he' hI
              go_wp2
              rw [Exit.noGoto_ret]
              go_ret
              exact HG4.out.won HW.out
            · obtain ⟨g', hg', IV⟩ := hI.out.on F.out HSN.out (win_not (fun e => he e.2)) hq1 hq2
              rw [(aft_end (p := (q1, q2)) (st := st) (sl := sl) (Or.inl HOP.out.symm)).1, (aft_end (p := (q1, q2)) (st := st) (sl := sl) (Or.inl HOP.out.symm)).2] at IV
              have HIV : Hid _ := IV
              have he2 : ((q2 : Int) == (k.s.size : Int)) = false := beq_eq_false_iff_ne.2 (by omega)
              have he3 : ¬ (q2 : Int) = (k.s.size : Int) := by omega
              clear IV hI he
              go_wp2
              go_roundg g'
              case measure => omega
              case rel => exact ⟨_, _, _, HG4, HIV⟩
          · obtain ⟨g', hg', IV⟩ := hI.out.on F.out HSN.out (win_not (fun e => by have h3 := HOP.out; have h4 : (k.x q1).op = 1 := e.1; omega)) hq1 hq2
            rw [(aft_end (p := (q1, q2)) (st := st) (sl := sl) (Or.inr HOP.out.symm)).1, (aft_end (p := (q1, q2)) (st := st) (sl := sl) (Or.inr HOP.out.symm)).2] at IV
            have HIV : Hid _ := IV
            clear IV hI
            go_wp2
            go_roundg g'
            case measure => omega
            case rel => exact ⟨_, _, _, HG4, HIV⟩
          · -- a rune
            have hout := HS.out.out (by have := HOP.out; omega) (by have := HOP.out; omega)
            have hrg := HS.out.rgs HOP.out.symm
            have htb := (HG4.out.fix F.out).tabs
            have kX := next_any k.s (q2 : Int) w4 (by unfold maxLen; omega) htb
            rw [nxtZ_nat] at kX
            obtain ⟨g', hg', IV⟩ := hI.out.on F.out HSN.out (win_not (fun e => by have h3 := HOP.out; have h4 : (k.x q1).op = 1 := e.1; omega)) hq1 hq2
            rw [(aft_rune (p := (q1, q2)) (st := st) (sl := sl) hq1 HOP.out.symm).1, (aft_rune (p := (q1, q2)) (st := st) (sl := sl) hq1 HOP.out.symm).2] at IV
            have hpos := nxt_pos k.s q2
            have hto := rnB_to (k.x q1) k.s q2
            have hrn := hold_rn (k.x q1) k.s q2 hrg
            obtain ⟨R, hR⟩ : ∃ R, R = (nxt k.s q2).1 := ⟨_, rfl⟩
            obtain ⟨D, hD⟩ : ∃ D, D = (nxt k.s q2).2 := ⟨_, rfl⟩
            obtain ⟨O, hO⟩ : ∃ O : Nat, (k.x q1).out = (O : Int) := ⟨(k.x q1).out.toNat, by omega⟩
            have IV' : Iv k sl0 (if rnB (k.x q1) k.s q2 = true then Sum.inl (O, q2 + D.toNat) :: st else st) (mark tr (q1, q2)) sl g' := by
              have := IV
              rw [show ((q1, q2) : Pt).1 = q1 from rfl, show ((q1, q2) : Pt).2 = q2 from rfl, hO, Int.toNat_natCast, ← hD] at this
              exact this
            rw [← hR, ← hD] at kX
            rw [← hR] at hrn
            rw [← hD] at hpos hto
            rw [hO] at i2 hout
            have hOn : O < k.n := by omega
            have HIV : Hid (Iv k sl0 (if rnB (k.x q1) k.s q2 = true then Sum.inl (O, q2 + D.toNat) :: st else st) (mark tr (q1, q2)) sl g') := IV'
            have HTO : Hid (rnB (k.x q1) k.s q2 = true → 0 < D ∧ q2 + D.toNat ≤ k.s.size) := hto
            have HHL : Hid (∀ w5, Below w4.heap.size w4 w5 → Calls Tryd.prog 38 #[.slice (k.x q1).ra (k.x q1).rn (k.x q1).rc, .int .i32 R] w5 fun e w' => e = .returned (.bool (rnB (k.x q1) k.s q2)) ∧ Below w5.heap.size w5 w') := fun w5 hb => by
              have := holds_any (k.x q1).ra (k.x q1).rn (k.x q1).rc (k.x q1).rf R w5 (HR.out.below hb) (by omega) hrg
              rw [hrn] at this
              exact this
            clear IV IV' hI hR hD hrg htb hrn hto hO HS hRn
            cases hrb : rnB (k.x q1) k.s q2 with
            | false =>
              rw [hrb] at HIV HHL
              clear HTO
              go_wp2_with fail
              go_fit kX
              rintro e w5 ⟨rfl, b5⟩
              have j5 := bcell2 b5 i5
              have kH := HHL.out w5 b5
              have G5 : Hid (Gs k W0 w5 (mark tr (q1, q2)) st sl) := HG4.out.below b5
              clear kX HG4 HHL
              go_wp2_with fail
              go_fit kH
              rintro e w6 ⟨rfl, b6⟩
              have G6 : Hid _ := G5.out.below b6
              clear kH G5
              go_wp2
              go_roundg g'
              case measure => omega
              case rel => exact ⟨_, _, _, G6, HIV⟩
            | true =>
              rw [hrb] at HIV HHL HTO
              obtain ⟨hD0, hDs⟩ := HTO.out rfl
              have hDi : (q2 : Int) + D ≤ (k.s.size : Int) := by omega
              clear HTO
              go_wp2_with fail
              go_fit kX
              rintro e w5 ⟨rfl, b5⟩
              have j5 := bcell2 b5 i5
              have kH := HHL.out w5 b5
              have G5 : Hid (Gs k W0 w5 (mark tr (q1, q2)) st sl) := HG4.out.below b5
              clear kX HG4 HHL
              go_wp2_with fail
              go_fit kH
              rintro e w6 ⟨rfl, b6⟩
              have G6 : Hid _ := G5.out.below b6
              have j2 := bcell2 b6 (bcell2 b5 i2)
              clear kH G5
              go_wp2
              go_roundg g'
              case measure => omega
              case rel => exact ⟨O, q2 + D.toNat, _, _, _, rfl, by rw [show (q2 : Int) + D = ((q2 + D.toNat : Nat) : Int) by omega], hOn, hDs, by omega, G6, HIV⟩
          · -- a split
            have hout := HS.out.out (by have := HOP.out; omega) (by have := HOP.out; omega)
            have halt := HS.out.alt HOP.out.symm
            obtain ⟨g', hg', IV⟩ := hI.out.on F.out HSN.out (win_not (fun e => by have h3 := HOP.out; have h4 : (k.x q1).op = 1 := e.1; omega)) hq1 hq2
            rw [(aft_split (p := (q1, q2)) (st := st) (sl := sl) hq1 HOP.out.symm).1, (aft_split (p := (q1, q2)) (st := st) (sl := sl) hq1 HOP.out.symm).2] at IV
            obtain ⟨O, hO⟩ : ∃ O : Nat, (k.x q1).out = (O : Int) := ⟨(k.x q1).out.toNat, by omega⟩
            obtain ⟨A, hA⟩ : ∃ A : Nat, (k.x q1).alt = (A : Int) := ⟨(k.x q1).alt.toNat, by omega⟩
            have IV' : Iv k sl0 (Sum.inl (O, q2) :: Sum.inl (A, q2) :: st) (mark tr (q1, q2)) sl g' := by
              have := IV
              rw [show ((q1, q2) : Pt).1 = q1 from rfl, show ((q1, q2) : Pt).2 = q2 from rfl, hO, hA, Int.toNat_natCast, Int.toNat_natCast] at this
              exact this
            rw [hO] at i2 hout
            rw [hA] at i3 halt
            have hOn : O < k.n := by omega
            have kP : Calls Tryd.prog 33 #[.pointer (some ⟨k.b, 5, none⟩), .agg #[.int .i64 (A : Int), .int .i64 (q2 : Int)]] w4.drew fun r w' => r = .returned (.tuple #[]) ∧ Gs k W0 w' (mark tr (q1, q2)) (Sum.inl (A, q2) :: st) sl := (HG4.out.below (Below.refl _ _).drew).push (Sum.inl (A, q2)) ⟨by show A < k.n; omega, hq2⟩ (IV'.less (st' := st) (by simp; omega))
            have HIV : Hid _ := IV'
            have HJ : Hid (∀ w5 tr' st' sl', Gs k W0 w5 tr' st' sl' → w5.cell? ⟨ig, io + q1 * 5 + 1, none⟩ = some (.int .i64 (O : Int)) ∧ w5.cell? ⟨ig, io + q1 * 5 + 2, none⟩ = some (.int .i64 (A : Int))) := fun w5 tr' st' sl' g5 => by
              obtain ⟨_, _, a1, a2, _⟩ := g5.inst F.out HIA.out q1 hq1
              rw [hO] at a1
              rw [hA] at a2
              exact ⟨a1, a2⟩
            clear IV IV' hI hO hA HS hRn HG4 HR
            go_wp2_with fail
            go_region_held3 (fun w' => w'.cell? ⟨ig, io + q1 * 5 + 2, none⟩ = some (.int .i64 (A : Int))) (first | go_keep | exact (HJ.out _ _ _ _ g5).2) ((go_at_call 33; go_fit kP; rintro e w5 ⟨rfl, g5⟩))
            have j2 := (HJ.out _ _ _ _ g5).1
            have G5 : Hid _ := g5
            clear g5 kP
            go_wp2
            go_roundg g'
            case measure => omega
            case rel => exact ⟨O, q2, _, _, _, rfl, rfl, hOn, hq2, by omega, G5, HIV⟩
          · -- a note
            have hout := HS.out.out (by have := HOP.out; omega) (by have := HOP.out; omega)
            have harg := HS.out.arg HOP.out.symm
            obtain ⟨g', hg', IV⟩ := hI.out.on F.out HSN.out (win_not (fun e => by have h3 := HOP.out; have h4 : (k.x q1).op = 1 := e.1; omega)) hq1 hq2
            rw [(aft_save (p := (q1, q2)) (st := st) (sl := sl) hq1 HOP.out.symm).1, (aft_save (p := (q1, q2)) (st := st) (sl := sl) hq1 HOP.out.symm).2] at IV
            obtain ⟨O, hO⟩ : ∃ O : Nat, (k.x q1).out = (O : Int) := ⟨(k.x q1).out.toNat, by omega⟩
            obtain ⟨A, hA⟩ : ∃ A : Nat, (k.x q1).arg = (A : Int) := ⟨(k.x q1).arg.toNat, by omega⟩
            have IV' : Iv k sl0 (Sum.inl (O, q2) :: Sum.inr (A, sl A) :: st) (mark tr (q1, q2)) (upd sl A (q2 : Int)) g' := by
              have := IV
              rw [show ((q1, q2) : Pt).1 = q1 from rfl, show ((q1, q2) : Pt).2 = q2 from rfl, hO, hA, Int.toNat_natCast, Int.toNat_natCast] at this
              exact this
            rw [hO] at i2 hout
            rw [hA] at i4 harg
            have hOn : O < k.n := by omega
            have kP := Gs.save HG4.out A q2 (by omega) (by omega) (by omega) (IV'.less (st' := st) (by simp; omega))
            have HIV : Hid _ := IV'
            have HJ : Hid (∀ w5 tr' st' sl', Gs k W0 w5 tr' st' sl' → w5.cell? ⟨ig, io + q1 * 5 + 1, none⟩ = some (.int .i64 (O : Int))) := fun w5 tr' st' sl' g5 => by
              obtain ⟨_, _, a1, _⟩ := g5.inst F.out HIA.out q1 hq1
              rw [hO] at a1
              exact a1
            clear IV IV' hI hO hA HS hRn HG4 HR
            go_wp2_with fail
            go_fit kP
            rintro e w5 ⟨rfl, g5⟩
            have j2 := HJ.out _ _ _ _ g5
            have G5 : Hid _ := g5
            clear g5 kP
            go_wp2
            go_roundg g'
            case measure => omega
            case rel => exact ⟨O, q2, _, _, _, rfl, rfl, hOn, hq2, by omega, G5, HIV⟩
          · -- a look about
            have hout := HS.out.out (by have := HOP.out; omega) (by have := HOP.out; omega)
            have hop5 : 5 ≤ (k.x q1).op ∧ (k.x q1).op ≤ 10 := by have := HOP.out; omega
            obtain ⟨g', hg', IV⟩ := hI.out.on F.out HSN.out (win_not (fun e => by have h3 := HOP.out; have h4 : (k.x q1).op = 1 := e.1; omega)) hq1 hq2
            rw [(aft_look (p := (q1, q2)) (st := st) (sl := sl) hq1 hop5).1, (aft_look (p := (q1, q2)) (st := st) (sl := sl) hq1 hop5).2] at IV
            obtain ⟨O, hO⟩ : ∃ O : Nat, (k.x q1).out = (O : Int) := ⟨(k.x q1).out.toNat, by omega⟩
            have kL := place_any w4 ig (io + q1 * 5) op (k.x q1).arg k.s q2 (by omega) hq2 i1 i4 ho
            have IV' : Iv k sl0 (if stB op (k.x q1).arg k.s q2 = true then Sum.inl (O, q2) :: st else st) (mark tr (q1, q2)) sl g' := by
              have := IV
              rw [show ((q1, q2) : Pt).1 = q1 from rfl, show ((q1, q2) : Pt).2 = q2 from rfl, hO, Int.toNat_natCast, ← HOP.out] at this
              exact this
            rw [hO] at i2 hout
            have hOn : O < k.n := by omega
            have HIV : Hid _ := IV'
            have b1 : (op == 1) = false := beq_eq_false_iff_ne.2 (by omega)
            have b2 : (op == 2) = false := beq_eq_false_iff_ne.2 (by omega)
            have b3 : (op == 3) = false := beq_eq_false_iff_ne.2 (by omega)
            have b4 : (op == 4) = false := beq_eq_false_iff_ne.2 (by omega)
            have b11 : (op == 11) = false := beq_eq_false_iff_ne.2 (by omega)
            have d1 : ¬ op = 1 := by omega
            have d2 : ¬ op = 2 := by omega
            have d3 : ¬ op = 3 := by omega
            have d4 : ¬ op = 4 := by omega
            have d11 : ¬ op = 11 := by omega
            clear IV IV' hI hO HS hRn HR
            cases hrb : stB op (k.x q1).arg k.s q2 with
            | false =>
              rw [hrb] at kL
              have HIV2 : Hid (Iv k sl0 st (mark tr (q1, q2)) sl g') := by
                have := HIV.out
                rw [hrb] at this
                exact this
              clear HIV hrb
              go_wp2_with fail
              go_fit kL
              rintro e w5 ⟨rfl, b5⟩
              have G5 : Hid _ := HG4.out.below b5
              clear kL HG4
              go_wp2
              go_roundg g'
              case measure => omega
              case rel => exact ⟨_, _, _, G5, HIV2⟩
            | true =>
              rw [hrb] at kL
              have HIV2 : Hid (Iv k sl0 (Sum.inl (O, q2) :: st) (mark tr (q1, q2)) sl g') := by
                have := HIV.out
                rw [hrb] at this
                exact this
              clear HIV hrb
              go_wp2_with fail
              go_fit kL
              rintro e w5 ⟨rfl, b5⟩
              have G5 : Hid _ := HG4.out.below b5
              have j2 := bcell2 b5 i2
              clear kL HG4
              go_wp2
              go_roundg g'
              case measure => omega
              case rel => exact ⟨O, q2, _, _, _, rfl, rfl, hOn, hq2, by omega, G5, HIV2⟩
end Go.Proofs.YtnpgkiidpeaapaaDoor
