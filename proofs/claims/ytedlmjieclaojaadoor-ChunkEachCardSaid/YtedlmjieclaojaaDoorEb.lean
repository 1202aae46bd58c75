/- ChunkGrows: the law's walk. -/
import Derived.Test.YtedlmjieclaojaaDoorEa
namespace Go.Proofs.YtedlmjieclaojaaDoor
open Go.RowKit

set_option maxHeartbeats 1000000 in
theorem bit_any (a : Option Addr) (c : Nat) (xs : List Int) (i : Nat) (w : World) (hi : Im w a xs) (hx : By xs) (hl : i < 8 * xs.length) (hs : xs.length ≤ 100000000) :
    Calls Tryd.prog 12 #[.slice a xs.length c, .int .i64 (i : Nat)] w fun e w' => e = .returned (.int .u8 ((bt 8 xs i : Nat) : Int)) ∧ w' = w := by
  obtain ⟨g, o, rfl, hg, hat⟩ : ∃ g o, a = some ⟨g, o, none⟩ ∧ g < w.heap.size ∧ At w g o xs := by
    rcases hi with h | h
    · rw [h] at hl; simp at hl
    · exact h
  have hj : i / 8 < xs.length := by omega
  have x0 := hat (i / 8) hj
  have hby := hx (i / 8) hj
  have hE : bt 8 xs i = (xs.getD (i / 8) 0).toNat / 2 ^ (7 - i % 8) % 2 := by unfold bt; rfl
  have hm8 := Nat.mod_lt i (show 0 < 8 by decide)
  have hd : (i : Int) / 8 = ((i / 8 : Nat) : Int) := by omega
  have hm : (i : Int) % 8 = ((i % 8 : Nat) : Int) := by omega
  have hd' : (i : Int).tdiv 8 = ((i / 8 : Nat) : Int) := by rw [Int.tdiv_eq_ediv_of_nonneg (by omega)]; exact hd
  have hm' : (i : Int).tmod 8 = ((i % 8 : Nat) : Int) := by rw [Int.tmod_eq_emod_of_nonneg (by omega)]; exact hm
  have hxn : ((xs.getD (i / 8) 0).toNat : Int) = xs.getD (i / 8) 0 := Int.toNat_of_nonneg hby.1
  have hbit : bits BinOp.and IntKind.u8 (xs.getD (i / 8) 0 / 2 ^ (7 - i % 8)) 1 = ((bt 8 xs i : Nat) : Int) := by
    have h1 : xs.getD (i / 8) 0 / 2 ^ (7 - i % 8) = (((xs.getD (i / 8) 0).toNat / 2 ^ (7 - i % 8) : Nat) : Int) := by
      rw [← hxn]; simp
    have h2 : (xs.getD (i / 8) 0).toNat / 2 ^ (7 - i % 8) ≤ (xs.getD (i / 8) 0).toNat := Nat.div_le_self _ _
    have h9 : (xs.getD (i / 8) 0).toNat / 2 ^ (7 - i % 8) ≤ 255 := by have := hby.2; omega
    have h3 := bits_mask .u8 8 (by decide) wraps_u8s 1 (by decide) (((xs.getD (i / 8) 0).toNat / 2 ^ (7 - i % 8) : Nat) : Int) (Int.natCast_nonneg _) (by
      generalize (xs.getD (i / 8) 0).toNat / 2 ^ (7 - i % 8) = Y at h9 ⊢
      omega)
    rw [h1, hE]
    have h4 : ((2 : Int) ^ 1 - 1) = 1 := by decide
    rw [h4] at h3
    rw [h3]
    omega
  generalize i / 8 = j at *
  generalize i % 8 = m at *
  generalize xs.getD j 0 = X at *
  generalize bt 8 xs i = b at *
  have hji : (j : Int) < (xs.length : Int) := by omega
  clear hE hi hx hat hxn
  go_enter Tryd.func12, Tryd.ntmps12
  go_wp2
  go_ret
  exact ⟨by rw [← hbit]; rfl, rfl⟩

/-- The bits that stay. -/
theorem grow_bit (l : List Smp) (x : Smp) (i : Nat) (h1 : 17 ≤ i) (h2 : i + 7 < 8 * (pk (frm l)).length) : bt 8 (pk (frm l)) i = bt 8 (pk (frm (l ++ [x]))) i := by
  have ha : (frm l).length ≤ 8 * ((frm l).length + 7) / 8 * 8 := by omega
  have hl1 : i < (frm l).length := by rw [pk_len] at h2; omega
  have hb : i < (frm (l ++ [x])).length := by
    unfold frm at *
    rw [bod_snoc]
    simp only [List.length_append, nb_len] at *
    omega
  have e1 : bt 8 (pk (frm l)) i = fb (frm l) i := by
    have := (pk_bt (frm l) (bin_frm l)).2 i hl1
    rwa [Nat.zero_add] at this
  have e2 : bt 8 (pk (frm (l ++ [x]))) i = fb (frm (l ++ [x])) i := by
    have := (pk_bt (frm (l ++ [x])) (bin_frm _)).2 i hb
    rwa [Nat.zero_add] at this
  rw [e1, e2]
  unfold frm at hl1 ⊢
  rw [bod_snoc, fb_right' _ _ _ (by rw [nb_len]; omega), fb_right' _ _ _ (by rw [nb_len]; omega), nb_len, nb_len]
  simp only [List.length_append, nb_len] at hl1
  rw [fb_left _ _ _ (by omega)]
theorem grow_len (l : List Smp) (x : Smp) (hl : ∀ y ∈ l, Sok y) (hx : Sok x) : 8 * (pk (frm l)).length + 2 ≤ 8 * (pk (frm (l ++ [x]))).length + 7 ∧ (pk (frm l)).length ≤ (pk (frm (l ++ [x]))).length ∧ 3 ≤ (pk (frm l)).length := by
  have h := (smb_len (fin t0 l) x (gt0.fin hl) hx).1
  have e : (frm (l ++ [x])).length = (frm l).length + (smb (fin t0 l) x).length := by
    unfold frm
    rw [bod_snoc]
    simp only [List.length_append, nb_len]
    omega
  have e2 : 17 ≤ (frm l).length := by unfold frm; rw [List.length_append, nb_len]; omega
  rw [pk_len, pk_len, e]
  omega
theorem pk_small (l : List Smp) (hl : ∀ y ∈ l, Sok y) (hn : l.length ≤ 100000) : (pk (frm l)).length ≤ 100000000 := by
  have := bod_len l t0 gt0 hl
  rw [pk_len]
  unfold frm
  rw [List.length_append, nb_len]
  omega
theorem pkE_ok (l : List Smp) (h : rsB l = true) (hn : l.length ≤ 100000) : pkE l = 0 ∧ pkB l = pk (frm l) := by
  have e : pkE l = 0 := by unfold pkE; rw [if_neg (by omega), if_pos h]
  exact ⟨e, by unfold pkB; rw [if_pos e]⟩
set_option maxHeartbeats 4000000 in
set_option maxRecDepth 100000 in
theorem grows_walk (a : Option Addr) (c : Nat) (l : List Smp) (w : World) (hm : Sm w a l) (hok : ∀ x ∈ l, Sok x) (hs : Scl w) (ht : Tab w) (hl : l.length * 24 ≤ 140737488355328) :
    Calls Tryd.prog 3 #[.slice a l.length c] w fun e w' => e = .returned (.bool true) ∧ Below w.heap.size w w' := by
  have k1 := alive_any w hs ht
  obtain ⟨hrs, hsk⟩ := srt_ok l hok
  have HM : Hid (Sm w a l) := hm
  have HS : Hid (Scl w) := hs
  have HT : Hid (Tab w) := ht
  have K2 : Hid (∀ w1, Below w.heap.size w w1 → _) := fun w1 h1 => sorted_any a c l w1 (HM.out.below h1) hl
  clear hm hs ht hok
  generalize srt l = sl at *
  go_enter Tryd.func3, Tryd.ntmps3
  go_wp2_with fail
  go_fit k1
  rintro e w1 ⟨rfl, b1⟩
  have k2 := K2.out w1 b1
  have HB1 : Hid (Below w.heap.size w w1) := b1
  clear k1 K2 b1
  go_wp2_with fail
  go_fit k2
  rintro e w2 ⟨G, C, rfl, o2, b2⟩
  have hb2 : Below w.heap.size w w2 := HB1.out.trans (b2.mono HB1.out.size)
  have HB2 : Hid (Below w.heap.size w w2) := hb2
  clear k2 HB1 hb2 b2
  rcases List.eq_nil_or_concat sl with rfl | ⟨sl', x, hsl⟩
  · go_wp2
    go_ret
    exact ⟨rfl, HB2.out⟩
  · rw [List.concat_eq_append] at hsl
    have hlen : sl.length = sl'.length + 1 := by rw [hsl]; simp
    have hne : ¬ (sl.length : Int) = 0 := by omega
    by_cases hbig : 100000 < sl.length
    · have hbi : (100000 : Int) < (sl.length : Int) := by omega
      clear o2
      generalize sl.length = m at *
      go_wp2
      go_ret
      exact ⟨rfl, HB2.out⟩
    · have hbi : ¬ (100000 : Int) < (sl.length : Int) := by omega
      have hcap := row_cap o2
      have hSm2 : Sm w2 (some ⟨G, 0, none⟩) sl := Sm.of_row o2
      have hsk' : ∀ y ∈ sl', Sok y := fun y hy => hsk y (by rw [hsl]; exact List.mem_append_left _ hy)
      have hxk : Sok x := hsk x (by rw [hsl]; simp)
      have hrs' : rsB sl' = true := by
        have := rsB_take sl sl'.length hrs
        rw [hsl, List.take_left] at this
        exact this
      have hSm' : Sm w2 (some ⟨G, 0, none⟩) sl' := by
        rcases hSm2 with h | ⟨g, o, e, hg, h⟩
        · rw [h] at hlen; simp at hlen
        · exact .inr ⟨g, o, e, hg, fun j y hj => h j y (by
            have hjl : j < sl'.length := (List.getElem?_eq_some_iff.1 hj).1
            rw [hsl, List.getElem?_append_left hjl]; exact hj)⟩
      obtain ⟨eA, eB⟩ := pkE_ok sl' hrs' (by omega)
      obtain ⟨eA2, eB2⟩ := pkE_ok sl hrs (by omega)
      have k3 := pack_any (some ⟨G, 0, none⟩) C sl' w2 hSm' hsk' (HS.out.below HB2.out) (HT.out.below HB2.out) (by omega)
      unfold PkR at k3
      rw [eA, eB] at k3
      have K4 : Hid (∀ w3, Below w2.heap.size w2 w3 → _) := fun w3 h3 => pack_any (some ⟨G, 0, none⟩) C sl w3 (hSm2.below h3) hsk (HS.out.below (HB2.out.trans (h3.mono HB2.out.size))) (HT.out.below (HB2.out.trans (h3.mono HB2.out.size))) (by omega)
      unfold PkR at K4
      rw [eA2, eB2] at K4
      have HG := grow_len sl' x hsk' hxk
      rw [← hsl] at HG
      have HGB : Hid (∀ i, 17 ≤ i → i + 7 < 8 * (pk (frm sl')).length → bt 8 (pk (frm sl')) i = bt 8 (pk (frm sl)) i) := fun i h1 h2 => by rw [hsl]; exact grow_bit sl' x i h1 h2
      have hp1 := pk_small sl' hsk' (by omega)
      have hp2 := pk_small sl hsk (by omega)
      have by1 := pk_by (frm sl') (bin_frm _)
      have by2 := pk_by (frm sl) (bin_frm _)
      generalize pk (frm sl') = pa at *
      generalize pk (frm sl) = pb at *
      clear hsl hrs hsk o2 hSm2 hsk' hxk hrs' hSm' eA eB eA2 eB2
      generalize sl'.length = m' at *
      generalize sl.length = m at *
      subst hlen
      have n1 : ((m' : Int) + 1 == 0) = false := by simp; omega
      have n2 : decide ((m' : Int) + 1 > 100000) = false := by simp; omega
      have n3 : (m' : Int) ≤ (C : Int) := by omega
      have n4 : (m' : Int) ≤ 100000 := by omega
      have HHG : Hid (8 * pa.length + 2 ≤ 8 * pb.length + 7 ∧ pa.length ≤ pb.length ∧ 3 ≤ pa.length) := HG
      have HP : Hid (pa.length ≤ 100000000 ∧ pb.length ≤ 100000000) := ⟨hp1, hp2⟩
      have HY : Hid (By pa ∧ By pb) := ⟨by1, by2⟩
      clear HG hp1 hp2 by1 by2 hne hbig hbi hcap hl
      go_wp2_with fail
      go_fit k3
      rintro e w3 ⟨v3, rfl, o3, b3⟩
      obtain ⟨a3, c3', rfl⟩ := row_form o3
      have k4 := K4.out w3 b3
      have HO3 : Hid _ := o3
      have HB3 : Hid (Below w.heap.size w w3) := HB2.out.trans (b3.mono HB2.out.size)
      clear k3 K4 o3 b3 HB2
      go_wp2_with fail
      go_fit k4
      rintro e w4 ⟨v4, rfl, o4, b4⟩
      obtain ⟨a4, c4', rfl⟩ := row_form o4
      have HI3 : Hid (Im w4 a3 pa) := (Im.of_row HO3.out).below b4
      have HI4 : Hid (Im w4 a4 pb) := Im.of_row o4
      have HB4 : Hid (Below w.heap.size w w4) := HB3.out.trans (b4.mono HB3.out.size)
      have HY1 : Hid (By pa) := HY.out.1
      have HY2 : Hid (By pb) := HY.out.2
      obtain ⟨hp1, hp2⟩ := HP.out
      have HG := HHG.out
      have g1 : ¬ (pb.length : Int) < (pa.length : Int) := by omega
      have g2 : ¬ (pa.length : Int) < 3 := by omega
      have g5 : decide (pb.length < pa.length) = false := by simp; omega
      have g6 : decide (pa.length < 3) = false := by simp; omega
      have g3 : (pa.length : Int) ≤ 100000000 := by omega
      have g4 : (pb.length : Int) ≤ 100000000 := by omega
      have HGG : Hid (8 * pa.length + 2 ≤ 8 * pb.length + 7 ∧ pa.length ≤ pb.length) := ⟨HG.1, HG.2.1⟩
      clear k4 o4 b4 HO3 HB3 HG HHG HP HY
      have HP1 : Hid (pa.length ≤ 100000000) := hp1
      have HP2 : Hid (pb.length ≤ 100000000) := hp2
      clear hp1 hp2
      go_wp2_with fail
      go_loopw [8] (fun iv w' => ∃ i : Nat, iv = .int .i64 (i : Nat) ∧ Hid (Below w4.heap.size w4 w') ∧ 17 ≤ i ∧ i ≤ 8 * pa.length + 17) (fun iv _ => 8 * pa.length + 17 - (RowKit.intOf iv).toNat)
      case atStart => exact ⟨17, rfl, Below.refl _ _, Nat.le_refl _, by omega⟩
      case round =>
        obtain ⟨i, rfl, hw4, hi1, hi2⟩ := hrel
        have HBE : Hid (Below w4.heap.size w4 wr) := hw4.out
        by_cases hlt : i + 7 < 8 * pa.length
        · have hli : (i : Int) < 8 * (pa.length : Int) - 7 := by omega
          have k5 := bit_any a3 c3' pa i wr (HI3.out.below HBE.out) HY1.out (by omega) HP1.out
          have k6 := bit_any a4 c4' pb i wr (HI4.out.below HBE.out) HY2.out (by have := HGG.out; omega) HP2.out
          rw [← HGB.out i hi1 hlt] at k6
          generalize bt 8 pa i = bb at *
          go_wp2_with fail
          go_fit k5
          rintro e w5 ⟨rfl, rfl⟩
          go_wp2_with fail
          go_fit k6
          rintro e w5 ⟨rfl, rfl⟩
          clear k5 k6
          go_wp2
          exact ⟨⟨i + 1, by go_num, HBE, by omega, by omega⟩, by simp [RowKit.intOf]; omega⟩
        · have hli : ¬ (i : Int) < 8 * (pa.length : Int) - 7 := by omega
          have hfin : (8 * (pa.length : Int) - 7 + 2) ≤ 8 * (pb.length : Int) := by have := HGG.out.1; omega
          go_wp2
          go_ret
          exact ⟨by simp, HB4.out.trans (HBE.out.mono HB4.out.size)⟩
end Go.Proofs.YtedlmjieclaojaaDoor
