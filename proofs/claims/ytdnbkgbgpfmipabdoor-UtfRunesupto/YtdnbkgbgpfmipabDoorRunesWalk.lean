/- UtfRunes: the walk of the law. -/
import Derived.Test.YtdnbkgbgpfmipabDoorRunesE
namespace Go.Proofs.YtdnbkgbgpfmipabDoor
open Go.RowKit Go.Lib

theorem tx_const : tx [97, 233] = (⟨#[97, 195, 169]⟩, 0) := by
  unfold tx
  rw [if_pos (by decide)]
  rfl
theorem own_base {w : World} {B B' : Nat} {v : Value} {xs : List Int} (h : Own B w v xs) (hB : B' ≤ B) : Own B' w v xs := by
  refine ⟨h.1, ?_⟩
  rcases h.2 with h0 | ⟨g, cap, cur, hv, hb, r⟩
  · exact .inl h0
  · exact .inr ⟨g, cap, cur, hv, Nat.le_trans hB hb, r⟩
theorem own_below {w w' : World} {B : Nat} {v : Value} {xs : List Int} (h : Own B w v xs) (hb : Below w.heap.size w w') : Own B w' v xs := ownsR_below h hb
theorem rl_len (s : ByteArray) : (rl s).length ≤ s.size := by
  unfold rl
  split
  · exact rns_len s s.size 0
  · simp

/-- Texts that came in. -/
def StrsIn (w : World) (a : Option Addr) (S : Nat → ByteArray) (len : Nat) : Prop := ∀ j, j < len → ∃ b off, a = some ⟨b, off, none⟩ ∧ b < w.heap.size ∧ w.cell? ⟨b, off + j, none⟩ = some (.string (S j)) ∧ (S j).size ≤ 1048575
/-- Lists that came in. -/
def LstsIn (w : World) (a : Option Addr) (A : Nat → Option Addr) (C : Nat → Nat) (X : Nat → List Int) (len : Nat) : Prop := ∀ j, j < len → ∃ b off, a = some ⟨b, off, none⟩ ∧ b < w.heap.size ∧ w.cell? ⟨b, off + j, none⟩ = some (.slice (A j) (X j).length (C j)) ∧ ListIn w (A j) (X j)

set_option maxHeartbeats 8000000 in
set_option maxRecDepth 100000 in
theorem runes_walk (a0 a1 : Option Addr) (n0 c0 n1 c1 : Nat) (S : Nat → ByteArray) (A : Nat → Option Addr) (C : Nat → Nat) (X : Nat → List Int) (w : World) (hn0 : n0 ≤ 1048576) (hn1 : n1 ≤ 1048576) (hT : Lib.Utf8Tabs 1 2 w) (h0 : StrsIn w a0 S n0) (h1 : LstsIn w a1 A C X n1) :
    Calls Tryd.prog 5 #[.slice a0 n0 c0, .slice a1 n1 c1] w fun e w' => e = .returned (.bool true) ∧ Below w.heap.size w w' := by
  have hsz := tabs_size hT
  have HT : Hid (Lib.Utf8Tabs 1 2 w) := hT
  have H0 : Hid (StrsIn w a0 S n0) := h0
  have H1 : Hid (LstsIn w a1 A C X n1) := h1
  have kt := text_any w.heap.size 0 2 [97, 233] (w.alloc (.cells #[.int .i32 97, .int .i32 233] 21)) (by decide) (fun j hj => by
    unfold World.cell?
    rw [show (w.alloc (.cells #[.int .i32 97, .int .i32 233] 21)).heap[w.heap.size]? = some (.cells #[.int .i32 97, .int .i32 233] 21) from heap_alloc_new w _]
    match j, hj with
    | 0, _ => rfl
    | 1, _ => rfl)
  rw [tx_const] at kt
  have hB1 : Below w.heap.size w (w.alloc (.cells #[.int .i32 97, .int .i32 233] 21)) := (Below.refl _ _).alloc (Nat.le_refl _) _
  clear hT h0 h1
  have hn0i : (n0 : Int) ≤ 1048576 := by omega
  have hn1i : (n1 : Int) ≤ 1048576 := by omega
  go_enter Tryd.func5, Tryd.ntmps5
  go_wp2_with fail
  go_fit kt
  clear kt
  rintro e w0 ⟨rfl, rfl⟩
  go_wp2_with fail
  go_loopw [36] (fun t W => ∃ j : Nat, t = .int .i64 (j : Int) ∧ j ≤ n0 ∧ Below w.heap.size w W) (fun t _ => n0 - (RowKit.intOf t).toNat)
  case atStart => exact ⟨0, rfl, by omega, hB1⟩
  case round =>
    obtain ⟨j, rfl, hj, hbw⟩ := hrel
    clear hB1
    by_cases hlt : j < n0
    · obtain ⟨b, off, rfl, hb, hcell, hsS⟩ := H0.out j hlt
      have d0 : wr.cell? ⟨b, off + j, none⟩ = some (.string (S j)) := (hbw.cell (p := ⟨b, off + j, none⟩) hb).trans hcell
      have hji : (j : Int) < n0 := by omega
      clear hcell
      generalize S j = s at *
      have HSS : Hid (s.size ≤ 1048575) := hsS
      have hxs : ((⟨#[120]⟩ : ByteArray) ++ s).size ≤ 1048576 := by
        have h1 : (⟨#[120]⟩ : ByteArray).size = 1 := rfl
        simp only [ByteArray.size_append]
        omega
      have hsi : (s.size : Int) ≤ 1048575 := by omega
      have hT0 := tabs_below HT.out hsz hbw
      have hszw : 2 < wr.heap.size := tabs_size hT0
      have HT0 : Hid (Lib.Utf8Tabs 1 2 wr) := hT0
      have krr := fun w' => rrunes_any s w' (by omega)
      have kru := fun w' hb => runes_any s w' (by omega) (tabs_below HT0.out hszw hb)
      have krx := fun w' hb => runes_any (⟨#[120]⟩ ++ s) w' (by omega) (tabs_below HT0.out hszw hb)
      have krrx := fun w' => rrunes_any (⟨#[120]⟩ ++ s) w' hxs
      have hl0 : (rl s).length ≤ 1048577 := by have := rl_len s; omega
      have hl1 : (rl (⟨#[120]⟩ ++ s)).length ≤ 1048577 := by have := rl_len (⟨#[120]⟩ ++ s); omega
      clear hT0
      generalize rl (⟨#[120]⟩ ++ s) = xc at *
      generalize re (⟨#[120]⟩ ++ s) = ec at *
      generalize rl s = xa at *
      generalize re s = ea at *
      go_wp2_with fail
      go_fit (krr _)
      clear krr
      rintro e w1 ⟨vw, rfl, ow, b1⟩
      go_wp2_with fail
      go_fit (kru w1 b1)
      rintro e w2 ⟨va, rfl, oa, b2⟩
      have B2 := b1.trans (b2.mono b1.size)
      go_wp2_with fail
      go_fit (kru w2 B2)
      rintro e w3 ⟨vb, rfl, ob, b3⟩
      have B3 := B2.trans (b3.mono B2.size)
      go_wp2_with fail
      go_fit (krx w3 B3)
      rintro e w4 ⟨vc, rfl, oc, b4⟩
      have B4 := B3.trans (b4.mono B3.size)
      go_wp2_with fail
      go_fit (kru w4 B4)
      rintro e w5 ⟨vd, rfl, od, b5⟩
      have B5 := B4.trans (b5.mono B4.size)
      go_wp2_with fail
      go_fit (krrx w5)
      rintro e w6 ⟨vx, rfl, ox, b6⟩
      have B6 := B5.trans (b6.mono B5.size)
      clear kru krx krrx d0
      have ow' : Own wr.heap.size w1 vw xa := ow
      have oa' : Own w1.heap.size w2 va xa := oa
      have ob' : Own w2.heap.size w3 vb xa := ob
      have oc' : Own w3.heap.size w4 vc xc := oc
      have od' : Own w4.heap.size w5 vd xa := od
      have ox' : Own w5.heap.size w6 vx xc := ox
      have la := fun g (e : va.ownBlock = some g) => oa'.blk g e
      have lb := fun g (e : vb.ownBlock = some g) => ob'.blk g e
      have lc := fun g (e : vc.ownBlock = some g) => oc'.blk g e
      have ld := fun g (e : vd.ownBlock = some g) => od'.blk g e
      have ow6 := own_below (own_below (own_below (own_below (own_below ow' b2) b3) b4) b5) b6
      have oa6 := own_below (own_below (own_below (own_below oa' b3) b4) b5) b6
      have ob6 := own_below (own_below (own_below ob' b4) b5) b6
      have oc6 := own_below (own_below oc' b5) b6
      have od6 := own_below od' b6
      have HR : Hid (∀ w', Below w6.heap.size w6 w' → Own wr.heap.size w' vw xa ∧ Own w1.heap.size w' va xa ∧ Own w2.heap.size w' vb xa ∧ Own w3.heap.size w' vc xc ∧ Own w4.heap.size w' vd xa ∧ Own w5.heap.size w' vx xc) := fun w' hb => ⟨own_below ow6 hb, own_below oa6 hb, own_below ob6 hb, own_below oc6 hb, own_below od6 hb, own_below ox' hb⟩
      have HAP : Hid (∀ w', Below w6.heap.size w6 w' → Calls Tryd.prog 18 #[.slice (some ⟨w'.heap.size, 0, none⟩) 4 4] (w'.alloc (.cells #[va, vb, vc, vd] 22)) fun e w'' => e = .returned (.bool true) ∧ Below wr.heap.size (w'.alloc (.cells #[va, vb, vc, vd] 22)) w'') := fun w' hb => by
        obtain ⟨_, pa, pb, pc, pd, _⟩ := HR.out w' hb
        have z1 := b1.size
        have z2 := b2.size
        have z3 := b3.size
        have z4 := b4.size
        have z6 := B6.size
        have z7 := hb.size
        exact apart_four wr.heap.size w2.heap.size w3.heap.size w4.heap.size va vb vc vd xa xa xc xa w' (by omega) ⟨by omega, by omega, by omega⟩ hl0 hl0 hl1 hl0 (own_base pa (by omega)) (own_base pb (by omega)) (own_base pc (by omega)) (own_base pd (by omega))
          (fun g e => (la g e).2) (fun g e => lb g e) (fun g e => lc g e) (fun g e => (ld g e).1)
      obtain ⟨aa, ca, rfl⟩ := oa'.rd.len
      obtain ⟨ab, cb, rfl⟩ := ob'.rd.len
      obtain ⟨ac, cc, rfl⟩ := oc'.rd.len
      obtain ⟨ad, cd, rfl⟩ := od'.rd.len
      have KS : Hid (∀ w' v1 v2 xs, xs.length ≤ 1048577 → (∃ B1, Own B1 w' v1 xs) → (∃ B2, Own B2 w' v2 xs) → Calls Tryd.prog 17 #[v1, v2] w' fun e w'' => e = .returned (.bool true) ∧ Below w'.heap.size w' w'') := fun w' v1 v2 xs hx ⟨B1, p1⟩ ⟨B2, p2⟩ => same_owned B1 B2 v1 v2 xs w' p1 p2 (by unfold maxLen; omega)
      clear ow oa ob oc od ox ow' oa' ob' oc' od' ox' ow6 oa6 ob6 oc6 od6 la lb lc ld
      have q6 := HR.out w6 (Below.refl _ _)
      have s1 := KS.out w6 _ _ _ hl0 ⟨_, q6.2.1⟩ ⟨_, q6.1⟩
      clear q6
      go_wp2_with (first | (go_at_call 16; go_fit (num_any _ _); rintro e w' ⟨rfl, rfl⟩) | fail)
      go_fit s1
      clear s1
      rintro e w7 ⟨rfl, b7⟩
      have q7 := HR.out w7 b7
      have s2 := KS.out w7 _ _ _ hl0 ⟨_, q7.2.2.1⟩ ⟨_, q7.1⟩
      clear q7
      go_wp2_with fail
      go_fit s2
      clear s2
      rintro e w8 ⟨rfl, b8⟩
      have B8 := b7.trans (b8.mono b7.size)
      have q8 := HR.out w8 B8
      have s3 := KS.out w8 _ _ _ hl1 ⟨_, q8.2.2.2.1⟩ ⟨_, q8.2.2.2.2.2⟩
      clear q8
      go_wp2_with fail
      go_fit s3
      clear s3
      rintro e w9 ⟨rfl, b9⟩
      have B9 := B8.trans (b9.mono B8.size)
      have q9 := HR.out w9 B9
      have s4 := KS.out w9 _ _ _ hl0 ⟨_, q9.2.2.2.2.1⟩ ⟨_, q9.1⟩
      clear q9
      go_wp2_with fail
      go_fit s4
      clear s4
      rintro e w10 ⟨rfl, b10⟩
      have B10 := B9.trans (b10.mono B9.size)
      have kap := HAP.out w10 B10
      clear HAP KS HR
      go_wp2_with fail
      go_fit kap
      clear kap
      rintro e w11 ⟨rfl, b11⟩
      have BX : Below wr.heap.size wr w11 := ((B6.trans (B10.mono B6.size)).alloc (Nat.le_trans B6.size B10.size) _).trans b11
      go_wp2
      exact ⟨⟨j + 1, by go_num, by omega, hbw.trans (BX.mono hbw.size)⟩, by simp [RowKit.intOf]; omega⟩
    · have hji : ¬ (j : Int) < n0 := by omega
      go_wp2_with fail
      go_loopw [128] (fun t W => ∃ i : Nat, t = .int .i64 (i : Int) ∧ i ≤ n1 ∧ Below w.heap.size w W) (fun t _ => n1 - (RowKit.intOf t).toNat)
      case atStart => exact ⟨0, rfl, by omega, hbw⟩
      case round =>
        obtain ⟨i, rfl, hi, hbi⟩ := hrel
        by_cases hil : i < n1
        · obtain ⟨b, off, rfl, hb, hcell, hin⟩ := H1.out i hil
          have d0 := (hbi.cell (p := ⟨b, off + i, none⟩) hb).trans hcell
          have kt := texts1_in (A i) (C i) (X i) _ (hin.below hbi)
          have hii : (i : Int) < n1 := by omega
          clear hcell hin
          generalize (X i).length = m at *
          generalize A i = ai at *
          generalize C i = ci at *
          go_wp2_with fail
          go_fit kt
          clear kt
          rintro e w12 ⟨rfl, b12⟩
          go_wp2
          exact ⟨⟨i + 1, by go_num, by omega, hbi.trans (b12.mono hbi.size)⟩, by simp [RowKit.intOf]; omega⟩
        · have hii : ¬ (i : Int) < n1 := by omega
          go_wp2
          go_ret
          exact ⟨rfl, hbi⟩
end Go.Proofs.YtdnbkgbgpfmipabDoor
