/- A bundle of texts. -/
import Derived.Test.YtmjenemjbpimcaaBk17
/- A row of floats sorted in place: two sorted rows merged. -/
namespace Go.Proofs.Ytmjenemjbpimcaa
open Go.RowKit

/-- The merge of shorter rows, known. -/
def Ih (S g c n len : Nat) : Prop := ∀ (a m b : Nat) (f : Nat → Nat) (w : World), b - a < len → a < m → m < b → b ≤ n → Rf w S g c n f → Srt ky f a m → Srt ky f m b → Calls Try.prog 98 #[.slice (some ⟨g, 0, none⟩) n c, .int .i64 (a : Int), .int .i64 (m : Int), .int .i64 (b : Int), cv67] w (Mg S g c n a b f w)
theorem cut_find (f : Nat → Nat) (a m b mid nn lo hi s e : Nat) (h1 : Srt ky f a m) (h2 : Srt ky f m b) (hnn : nn = mid + m) (hc : (mid < m ∧ lo + b = nn ∧ hi = mid) ∨ (m ≤ mid ∧ lo = a ∧ hi = m)) (ha : a ≤ s) (hm : s ≤ m) (he : s + e = nn) (hme : m ≤ e) (heb : e ≤ b) (hlo : lo ≤ s)
    (hk : (s = lo ∨ ky (f (s - 1)) ≤ ky (f (nn - 1 - (s - 1)))) ∧ (s = hi ∨ ky (f (nn - 1 - s)) < ky (f s))) : Cut ky f a s m e b := by
  refine cut_of f a m b s e h1 h2 ha hm hme heb ?_ ?_
  · rcases hk.1 with h | h
    · rcases hc with hc | hc
      · exact .inr (.inl (by omega))
      · exact .inl (by omega)
    · by_cases hs : s = lo
      · rcases hc with hc | hc
        · exact .inr (.inl (by omega))
        · exact .inl (by omega)
      · rw [show nn - 1 - (s - 1) = e by omega] at h
        exact .inr (.inr h)
  · rcases hk.2 with h | h
    · rcases hc with hc | hc
      · exact .inr (.inl (by omega))
      · exact .inl (by omega)
    · rw [show nn - 1 - s = e - 1 by omega] at h
      exact .inr (.inr h)

set_option maxHeartbeats 4000000 in
set_option maxRecDepth 100000 in
theorem sym3l_any (S g c n a m b mid : Nat) (f : Nat → Nat) (w : World) (h : Rf w S g c n f) (ham : a + 1 < m) (hmb : m + 1 < b) (hbn : b ≤ n) (hn : n ≤ 4611686018427387904) (h1 : Srt ky f a m) (h2 : Srt ky f m b) (hmid : mid = (a + b) / 2) (hgt : mid < m) (ih : Ih S g c n (b - a)) :
    Calls Try.prog 98 #[.slice (some ⟨g, 0, none⟩) n c, .int .i64 (a : Int), .int .i64 (m : Int), .int .i64 (b : Int), cv67] w (Mg S g c n a b f w) := by
  have H0 : Hid (Rf w S g c n f) := h
  have H1 : Hid (Srt ky f a m ∧ Srt ky f m b) := ⟨h1, h2⟩
  have IH : Hid (Ih S g c n (b - a)) := ih
  have hno1 : ((m : Int) - (a : Int) == 1) = false := beq_eq_false_iff_ne.2 (by omega)
  have hno2 : ((b : Int) - (m : Int) == 1) = false := beq_eq_false_iff_ne.2 (by omega)
  have hmi : ((a : Int) + (b : Int)) / 2 = (mid : Int) := by omega
  have hm1 : mid * 2 ≤ a + b := by omega
  have hm2 : a + b < mid * 2 + 2 := by omega
  obtain ⟨nn, hnn⟩ : ∃ nn : Nat, nn = mid + m := ⟨_, rfl⟩
  have hni : (mid : Int) + (m : Int) = (nn : Int) := by omega
  obtain ⟨pp, hpp⟩ : ∃ pp : Nat, pp = nn - 1 := ⟨_, rfl⟩
  have hpi : (nn : Int) - 1 = (pp : Int) := by omega
  have HN : Hid (nn = mid + m ∧ pp + 1 = nn) := ⟨hnn, by omega⟩
  have HPP : Hid (nn - 1 = pp) := by show _ = _; omega
  obtain ⟨lo, hlo⟩ : ∃ lo : Nat, lo + b = nn := ⟨nn - b, by omega⟩
  have hli : (nn : Int) - (b : Int) = (lo : Int) := by omega
  obtain ⟨hi, hhi⟩ : ∃ hi : Nat, hi = mid := ⟨_, rfl⟩
  have HC : Hid ((mid < m ∧ lo + b = nn ∧ hi = mid) ∨ (m ≤ mid ∧ lo = a ∧ hi = m)) := .inl ⟨hgt, hlo, hhi⟩
  have HHI : Hid (hi = mid) := hhi
  have hgi : (mid : Int) < (m : Int) := by omega
  have hl1 : a ≤ lo := by omega
  have hl2 : lo ≤ hi := by omega
  have hl3 : hi ≤ m := by omega
  clear h h1 h2 ih hmid hnn hpp hlo hhi
  go_enter Try.func98, Try.ntmps98
  go_wp2
  go_loopw [20, 21] (fun sv rv w' => ∃ (s r : Nat), sv = .int .i64 (s : Int) ∧ rv = .int .i64 (r : Int) ∧ lo ≤ s ∧ s ≤ r ∧ r ≤ hi ∧ Hid ((s = lo ∨ ky (f (s - 1)) ≤ ky (f (nn - 1 - (s - 1)))) ∧ (r = hi ∨ ky (f (nn - 1 - r)) < ky (f r))) ∧ Hid (Rf w' S g c n f) ∧ Below S w w') (fun sv rv _ => (RowKit.intOf rv).toNat - (RowKit.intOf sv).toNat)
  case atStart => exact ⟨lo, hi, rfl, by rw [HHI.out], by omega, by omega, by omega, ⟨.inl rfl, .inl rfl⟩, H0, Below.refl _ _⟩
  case round =>
    obtain ⟨s, r, rfl, rfl, hs1, hsr, hr1, hk, o, hbel⟩ := hrel
    by_cases hlt : s < r
    · have hii : (s : Int) < r := by omega
      obtain ⟨hh, hhe⟩ : ∃ hh : Nat, hh = (s + r) / 2 := ⟨_, rfl⟩
      have hh1 : s ≤ hh ∧ hh < r := by omega
      have hhi : ((s : Int) + (r : Int)) / 2 = (hh : Int) := by omega
      obtain ⟨hh1, hh2⟩ := hh1
      clear hhe
      have hr5 : m + hh ≤ pp ∧ pp < b + hh := by
        have := HN.out
        rcases HC.out with h | h <;> omega
      obtain ⟨dd, hdd⟩ : ∃ dd : Nat, dd = pp - hh := ⟨_, rfl⟩
      have hdi : (pp : Int) - (hh : Int) = (dd : Int) := by omega
      have HD : Hid (nn - 1 - hh = dd) := by show _ = _; rw [HPP.out, hdd]
      have hdn : dd < n ∧ hh < n := by omega
      obtain ⟨hdn, hhn⟩ := hdn
      clear hdd
      have c1 := o.out.cell dd hdn
      have c2 := o.out.cell hh hhn
      have kO := order_any (f dd) (f hh)
      by_cases hcm : ky (f dd) < ky (f hh)
      · rw [cmS_neg _ _ hcm] at kO
        have K2 : Hid ((s = lo ∨ ky (f (s - 1)) ≤ ky (f (nn - 1 - (s - 1)))) ∧ (hh = hi ∨ ky (f (nn - 1 - hh)) < ky (f hh))) := ⟨hk.out.1, .inr (by rw [HD.out]; exact hcm)⟩
        clear hcm
        go_wp2_with fail
        go_quiet (exact Calls.quiet_of_same (kO _))
        have O2 : Hid (Rf (wr.drewN nq) S g c n f) := o
        have B2 := below_drewN hbel nq
        clear o hbel c1 c2
        generalize wr.drewN nq = W2 at *
        go_wp2
        exact ⟨⟨s, hh, rfl, rfl, by omega, by omega, by omega, K2, O2, B2⟩, by simp [RowKit.intOf]; omega⟩
      · obtain ⟨cc, hcc, hc0⟩ := cmS_pos _ _ hcm
        rw [hcc] at kO
        have hnl : decide (cc < 0) = false := decide_eq_false (by omega)
        have K2 : Hid ((hh + 1 = lo ∨ ky (f (hh + 1 - 1)) ≤ ky (f (nn - 1 - (hh + 1 - 1)))) ∧ (r = hi ∨ ky (f (nn - 1 - r)) < ky (f r))) := ⟨.inr (by rw [Nat.add_sub_cancel, HD.out]; omega), hk.out.2⟩
        clear hcm hcc
        go_wp2_with fail
        go_quiet (exact Calls.quiet_of_same (kO _))
        have O2 : Hid (Rf (wr.drewN nq) S g c n f) := o
        have B2 := below_drewN hbel nq
        clear o hbel c1 c2
        generalize wr.drewN nq = W2 at *
        go_wp2
        exact ⟨⟨hh + 1, r, by go_num, rfl, by omega, by omega, by omega, K2, O2, B2⟩, by simp [RowKit.intOf]; omega⟩
    · have hii : ¬ (s : Int) < r := by omega
      obtain rfl : s = r := by omega
      have hse : s ≤ m ∧ m + s ≤ nn ∧ nn ≤ b + s := by
        have := HN.out
        rcases HC.out with h | h <;> omega
      obtain ⟨e, hse1⟩ : ∃ e : Nat, s + e = nn := ⟨nn - s, by omega⟩
      have hei : (nn : Int) - (s : Int) = (e : Int) := by omega
      have q1 : a ≤ s := by omega
      have q2 : s ≤ m := by omega
      have q3 : m ≤ e := by omega
      have q4 : e ≤ b := by omega
      have q5 : s + (e - m) = mid := by have := HN.out; omega
      have hcut := cut_find f a m b mid nn lo hi s e H1.out.1 H1.out.2 HN.out.1 HC.out q1 q2 hse1 q3 q4 hs1 hk.out
      have HM := merge_ok f a s m e b H1.out.1 H1.out.2 q1 q2 q3 q4 hcut
      rw [q5] at HM
      obtain ⟨ma, mb, mc, md, mx, ms⟩ := HM
      have MA : Hid _ := ma
      have MB : Hid _ := mb
      have MC : Hid _ := mc
      have MD : Hid _ := md
      have MX : Hid _ := mx
      have MS : Hid _ := ms
      have HSE : Hid (s + e = nn) := hse1
      have HQ5 : Hid (s + (e - m) = mid) := q5
      have HNN : Hid (nn = mid + m) := HN.out.1
      have q6 : s + e = mid + m := by have := HN.out; omega
      have HQ6 : Hid (s + e = mid + m) := q6
      clear hcut ma mb mc md mx ms hk hse1 q5 hse
      have OG : Hid (s = m ∨ m = e → Rf wr S g c n (rot f s m e)) := fun hem => by rw [rot_empty f s m e hem q2 q3]; exact o.out
      obtain ⟨G, hG⟩ : ∃ G, rot f s m e = G := ⟨_, rfl⟩
      have KR : Hid (s < m → m < e → Calls Try.prog 102 #[.slice (some ⟨g, 0, none⟩) n c, .int .i64 (s : Int), .int .i64 (m : Int), .int .i64 (e : Int), cv67] wr fun r w' => r = .returned (.tuple #[]) ∧ Rf w' S g c n G ∧ Below S wr w') := fun h1 h2 => by
        rw [← hG]
        exact rotate_any S g c n s m e f cv67 wr o.out h1 h2 (by omega) hn
      rw [hG] at MA MB MC MD MX MS OG
      clear hG
      clear q6
      by_cases hA : s < m
      · by_cases hA' : m < e
        · have hb1 : s < mid ∧ mid < e := by have := HQ6.out; omega
          obtain ⟨hb1, hb2'⟩ := hb1
          have hA1 : (s : Int) < m := by omega
          have hA2 : (m : Int) < e := by omega
          have kR := KR.out hA hA'
          go_wp2_with fail
          go_fit kR
          rintro r w2 ⟨rfl, ho, hb2⟩
          have O2 : Hid (Rf w2 S g c n G) := ho
          have B2 := hbel.trans hb2
          clear ho hb2 hbel o kR
          by_cases hB : a < s
          · have hB1 : (a : Int) < s := by omega
            have hB2 : (s : Int) < mid := by omega
            have kB := IH.out a s mid G w2 (by omega) (by omega) (by omega) (by omega) (Hid.out O2) MA.out MB.out
            go_wp2_with fail
            go_fit kB
            rintro r w3 ⟨rfl, ⟨g1, ho3, st3, so3⟩, hb3⟩
            have O3 : Hid (Rf w3 S g c n g1) := ho3
            have ST : Hid _ := st3
            have SO : Hid _ := so3
            have B3 := B2.trans hb3
            clear ho3 st3 so3 hb3 B2 O2 kB
            by_cases hC : e < b
            · have SA : Hid (Srt ky g1 mid e) := Srt.same (f := G) MC.out fun j h1 h2 => ST.out.1 j (by omega)
              have SB : Hid (Srt ky g1 e b) := Srt.same (f := G) MD.out fun j h1 h2 => ST.out.1 j (by omega)
              have hC1 : (mid : Int) < e := by omega
              have hC2 : (e : Int) < b := by omega
              have kC := IH.out mid e b g1 w3 (by omega) (by omega) (by omega) (by omega) (Hid.out O3) SA.out SB.out
              go_wp2_with fail
              go_fit kC
              rintro r w4 ⟨rfl, ⟨g2, ho4, st4, so4⟩, hb4⟩
              obtain ⟨z1, z2⟩ := merge_end G g1 g2 a mid b (by omega) (by omega) MX.out ST.out SO.out st4 so4
              have FIN : Hid (Rf w4 S g c n g2 ∧ Stb ky f g2 a b ∧ Srt ky g2 a b) := ⟨ho4, Stb.trans (g := G) MS.out z2, z1⟩
              have B4 := B3.trans hb4
              clear ho4 st4 so4 hb4 z1 z2
              go_wp2
              go_end0
              exact ⟨rfl, ⟨_, FIN.out.1, FIN.out.2.1, FIN.out.2.2⟩, B4⟩
            · have SA : Hid (Srt ky g1 mid e) := Srt.same (f := G) MC.out fun j h1 h2 => ST.out.1 j (by omega)
              have SB : Hid (Srt ky g1 e b) := Srt.same (f := G) MD.out fun j h1 h2 => ST.out.1 j (by omega)
              have hC1 : (mid : Int) < e := by omega
              have hC2 : ¬ (e : Int) < b := by omega
              have SE : Srt ky g1 mid b := by
                have := SA.out
                rw [show e = b by omega] at this
                exact this
              obtain ⟨z1, z2⟩ := merge_end G g1 g1 a mid b (by omega) (by omega) MX.out ST.out SO.out (Stb.refl _ _ _) SE
              have FIN : Hid (Rf w3 S g c n g1 ∧ Stb ky f g1 a b ∧ Srt ky g1 a b) := ⟨Hid.out O3, Stb.trans (g := G) MS.out z2, z1⟩
              clear SE z1 z2
              go_wp2
              go_end0
              exact ⟨rfl, ⟨_, FIN.out.1, FIN.out.2.1, FIN.out.2.2⟩, B3⟩
          · have hB1 : ¬ (a : Int) < s := by omega
            have O3 : Hid (Rf w2 S g c n G) := O2
            have ST : Hid (Stb ky G G a mid) := Stb.refl _ _ _
            have SO : Hid (Srt ky G a mid) := by
              have := MB.out
              rw [show s = a by omega] at this
              exact this
            have B3 := B2
            by_cases hC : e < b
            · have SA : Hid (Srt ky G mid e) := Srt.same (f := G) MC.out fun j h1 h2 => ST.out.1 j (by omega)
              have SB : Hid (Srt ky G e b) := Srt.same (f := G) MD.out fun j h1 h2 => ST.out.1 j (by omega)
              have hC1 : (mid : Int) < e := by omega
              have hC2 : (e : Int) < b := by omega
              have kC := IH.out mid e b G w2 (by omega) (by omega) (by omega) (by omega) (Hid.out O3) SA.out SB.out
              go_wp2_with fail
              go_fit kC
              rintro r w4 ⟨rfl, ⟨g2, ho4, st4, so4⟩, hb4⟩
              obtain ⟨z1, z2⟩ := merge_end G G g2 a mid b (by omega) (by omega) MX.out ST.out SO.out st4 so4
              have FIN : Hid (Rf w4 S g c n g2 ∧ Stb ky f g2 a b ∧ Srt ky g2 a b) := ⟨ho4, Stb.trans (g := G) MS.out z2, z1⟩
              have B4 := B3.trans hb4
              clear ho4 st4 so4 hb4 z1 z2
              go_wp2
              go_end0
              exact ⟨rfl, ⟨_, FIN.out.1, FIN.out.2.1, FIN.out.2.2⟩, B4⟩
            · have SA : Hid (Srt ky G mid e) := Srt.same (f := G) MC.out fun j h1 h2 => ST.out.1 j (by omega)
              have SB : Hid (Srt ky G e b) := Srt.same (f := G) MD.out fun j h1 h2 => ST.out.1 j (by omega)
              have hC1 : (mid : Int) < e := by omega
              have hC2 : ¬ (e : Int) < b := by omega
              have SE : Srt ky G mid b := by
                have := SA.out
                rw [show e = b by omega] at this
                exact this
              obtain ⟨z1, z2⟩ := merge_end G G G a mid b (by omega) (by omega) MX.out ST.out SO.out (Stb.refl _ _ _) SE
              have FIN : Hid (Rf w2 S g c n G ∧ Stb ky f G a b ∧ Srt ky G a b) := ⟨Hid.out O3, Stb.trans (g := G) MS.out z2, z1⟩
              clear SE z1 z2
              go_wp2
              go_end0
              exact ⟨rfl, ⟨_, FIN.out.1, FIN.out.2.1, FIN.out.2.2⟩, B3⟩
        · have hA : m = e := by omega
          have hb1 : s = mid := by have := HQ6.out; omega
          have hb2 : mid < e := by omega
          have HB1 : Hid (s = mid) := hb1
          have hA1 : (s : Int) < m := by omega
          have hA2 : ¬ (m : Int) < e := by omega
          have O2 := OG.out (.inr hA)
          have B2 := hbel
          have HA : Hid (m = e) := hA
          have hB1 : (a : Int) < s := by omega
          have hB2 : ¬ (s : Int) < mid := by omega
          have O3 : Hid (Rf wr S g c n G) := O2
          have ST : Hid (Stb ky G G a mid) := Stb.refl _ _ _
          have SO : Hid (Srt ky G a mid) := by
            have := MA.out
            rw [show s = mid by omega] at this
            exact this
          have B3 := B2
          have SA : Hid (Srt ky G mid e) := Srt.same (f := G) MC.out fun j h1 h2 => ST.out.1 j (by omega)
          have SB : Hid (Srt ky G e b) := Srt.same (f := G) MD.out fun j h1 h2 => ST.out.1 j (by omega)
          have hC1 : (mid : Int) < e := by omega
          have hC2 : (e : Int) < b := by omega
          have kC := IH.out mid e b G wr (by omega) (by omega) (by omega) (by omega) (Hid.out O3) SA.out SB.out
          clear hA hb1
          go_wp2_with fail
          go_fit kC
          rintro r w4 ⟨rfl, ⟨g2, ho4, st4, so4⟩, hb4⟩
          obtain ⟨z1, z2⟩ := merge_end G G g2 a mid b (by omega) (by omega) MX.out ST.out SO.out st4 so4
          have FIN : Hid (Rf w4 S g c n g2 ∧ Stb ky f g2 a b ∧ Srt ky g2 a b) := ⟨ho4, Stb.trans (g := G) MS.out z2, z1⟩
          have B4 := B3.trans hb4
          clear ho4 st4 so4 hb4 z1 z2
          go_wp2
          go_end0
          exact ⟨rfl, ⟨_, FIN.out.1, FIN.out.2.1, FIN.out.2.2⟩, B4⟩
      · exfalso
        have := HHI.out
        omega

set_option maxHeartbeats 4000000 in
set_option maxRecDepth 100000 in
theorem sym3r_any (S g c n a m b mid : Nat) (f : Nat → Nat) (w : World) (h : Rf w S g c n f) (ham : a + 1 < m) (hmb : m + 1 < b) (hbn : b ≤ n) (hn : n ≤ 4611686018427387904) (h1 : Srt ky f a m) (h2 : Srt ky f m b) (hmid : mid = (a + b) / 2) (hgt : ¬ mid < m) (ih : Ih S g c n (b - a)) :
    Calls Try.prog 98 #[.slice (some ⟨g, 0, none⟩) n c, .int .i64 (a : Int), .int .i64 (m : Int), .int .i64 (b : Int), cv67] w (Mg S g c n a b f w) := by
  have H0 : Hid (Rf w S g c n f) := h
  have H1 : Hid (Srt ky f a m ∧ Srt ky f m b) := ⟨h1, h2⟩
  have IH : Hid (Ih S g c n (b - a)) := ih
  have hno1 : ((m : Int) - (a : Int) == 1) = false := beq_eq_false_iff_ne.2 (by omega)
  have hno2 : ((b : Int) - (m : Int) == 1) = false := beq_eq_false_iff_ne.2 (by omega)
  have hmi : ((a : Int) + (b : Int)) / 2 = (mid : Int) := by omega
  have hm1 : mid * 2 ≤ a + b := by omega
  have hm2 : a + b < mid * 2 + 2 := by omega
  obtain ⟨nn, hnn⟩ : ∃ nn : Nat, nn = mid + m := ⟨_, rfl⟩
  have hni : (mid : Int) + (m : Int) = (nn : Int) := by omega
  obtain ⟨pp, hpp⟩ : ∃ pp : Nat, pp = nn - 1 := ⟨_, rfl⟩
  have hpi : (nn : Int) - 1 = (pp : Int) := by omega
  have HN : Hid (nn = mid + m ∧ pp + 1 = nn) := ⟨hnn, by omega⟩
  have HPP : Hid (nn - 1 = pp) := by show _ = _; omega
  obtain ⟨lo, hlo⟩ : ∃ lo : Nat, lo = a := ⟨_, rfl⟩
  obtain ⟨hi, hhi⟩ : ∃ hi : Nat, hi = m := ⟨_, rfl⟩
  have HC : Hid ((mid < m ∧ lo + b = nn ∧ hi = mid) ∨ (m ≤ mid ∧ lo = a ∧ hi = m)) := .inr ⟨by omega, hlo, hhi⟩
  have HHI : Hid (hi = m) := hhi
  have HLO : Hid (lo = a) := hlo
  have hgi : ¬ (mid : Int) < (m : Int) := by omega
  have hl1 : a ≤ lo := by omega
  have hl2 : lo ≤ hi := by omega
  have hl3 : hi ≤ m := by omega
  clear h h1 h2 ih hmid hnn hpp hlo hhi
  go_enter Try.func98, Try.ntmps98
  go_wp2
  go_loopw [20, 21] (fun sv rv w' => ∃ (s r : Nat), sv = .int .i64 (s : Int) ∧ rv = .int .i64 (r : Int) ∧ lo ≤ s ∧ s ≤ r ∧ r ≤ hi ∧ Hid ((s = lo ∨ ky (f (s - 1)) ≤ ky (f (nn - 1 - (s - 1)))) ∧ (r = hi ∨ ky (f (nn - 1 - r)) < ky (f r))) ∧ Hid (Rf w' S g c n f) ∧ Below S w w') (fun sv rv _ => (RowKit.intOf rv).toNat - (RowKit.intOf sv).toNat)
  case atStart => exact ⟨lo, hi, by rw [HLO.out], by rw [HHI.out], by omega, by omega, by omega, ⟨.inl rfl, .inl rfl⟩, H0, Below.refl _ _⟩
  case round =>
    obtain ⟨s, r, rfl, rfl, hs1, hsr, hr1, hk, o, hbel⟩ := hrel
    by_cases hlt : s < r
    · have hii : (s : Int) < r := by omega
      obtain ⟨hh, hhe⟩ : ∃ hh : Nat, hh = (s + r) / 2 := ⟨_, rfl⟩
      have hh1 : s ≤ hh ∧ hh < r := by omega
      have hhi : ((s : Int) + (r : Int)) / 2 = (hh : Int) := by omega
      obtain ⟨hh1, hh2⟩ := hh1
      clear hhe
      have hr5 : m + hh ≤ pp ∧ pp < b + hh := by
        have := HN.out
        rcases HC.out with h | h <;> omega
      obtain ⟨dd, hdd⟩ : ∃ dd : Nat, dd = pp - hh := ⟨_, rfl⟩
      have hdi : (pp : Int) - (hh : Int) = (dd : Int) := by omega
      have HD : Hid (nn - 1 - hh = dd) := by show _ = _; rw [HPP.out, hdd]
      have hdn : dd < n ∧ hh < n := by omega
      obtain ⟨hdn, hhn⟩ := hdn
      clear hdd
      have c1 := o.out.cell dd hdn
      have c2 := o.out.cell hh hhn
      have kO := order_any (f dd) (f hh)
      by_cases hcm : ky (f dd) < ky (f hh)
      · rw [cmS_neg _ _ hcm] at kO
        have K2 : Hid ((s = lo ∨ ky (f (s - 1)) ≤ ky (f (nn - 1 - (s - 1)))) ∧ (hh = hi ∨ ky (f (nn - 1 - hh)) < ky (f hh))) := ⟨hk.out.1, .inr (by rw [HD.out]; exact hcm)⟩
        clear hcm
        go_wp2_with fail
        go_quiet (exact Calls.quiet_of_same (kO _))
        have O2 : Hid (Rf (wr.drewN nq) S g c n f) := o
        have B2 := below_drewN hbel nq
        clear o hbel c1 c2
        generalize wr.drewN nq = W2 at *
        go_wp2
        exact ⟨⟨s, hh, rfl, rfl, by omega, by omega, by omega, K2, O2, B2⟩, by simp [RowKit.intOf]; omega⟩
      · obtain ⟨cc, hcc, hc0⟩ := cmS_pos _ _ hcm
        rw [hcc] at kO
        have hnl : decide (cc < 0) = false := decide_eq_false (by omega)
        have K2 : Hid ((hh + 1 = lo ∨ ky (f (hh + 1 - 1)) ≤ ky (f (nn - 1 - (hh + 1 - 1)))) ∧ (r = hi ∨ ky (f (nn - 1 - r)) < ky (f r))) := ⟨.inr (by rw [Nat.add_sub_cancel, HD.out]; omega), hk.out.2⟩
        clear hcm hcc
        go_wp2_with fail
        go_quiet (exact Calls.quiet_of_same (kO _))
        have O2 : Hid (Rf (wr.drewN nq) S g c n f) := o
        have B2 := below_drewN hbel nq
        clear o hbel c1 c2
        generalize wr.drewN nq = W2 at *
        go_wp2
        exact ⟨⟨hh + 1, r, by go_num, rfl, by omega, by omega, by omega, K2, O2, B2⟩, by simp [RowKit.intOf]; omega⟩
    · have hii : ¬ (s : Int) < r := by omega
      obtain rfl : s = r := by omega
      have hse : s ≤ m ∧ m + s ≤ nn ∧ nn ≤ b + s := by
        have := HN.out
        rcases HC.out with h | h <;> omega
      obtain ⟨e, hse1⟩ : ∃ e : Nat, s + e = nn := ⟨nn - s, by omega⟩
      have hei : (nn : Int) - (s : Int) = (e : Int) := by omega
      have q1 : a ≤ s := by omega
      have q2 : s ≤ m := by omega
      have q3 : m ≤ e := by omega
      have q4 : e ≤ b := by omega
      have q5 : s + (e - m) = mid := by have := HN.out; omega
      have hcut := cut_find f a m b mid nn lo hi s e H1.out.1 H1.out.2 HN.out.1 HC.out q1 q2 hse1 q3 q4 hs1 hk.out
      have HM := merge_ok f a s m e b H1.out.1 H1.out.2 q1 q2 q3 q4 hcut
      rw [q5] at HM
      obtain ⟨ma, mb, mc, md, mx, ms⟩ := HM
      have MA : Hid _ := ma
      have MB : Hid _ := mb
      have MC : Hid _ := mc
      have MD : Hid _ := md
      have MX : Hid _ := mx
      have MS : Hid _ := ms
      have HSE : Hid (s + e = nn) := hse1
      have HQ5 : Hid (s + (e - m) = mid) := q5
      have HNN : Hid (nn = mid + m) := HN.out.1
      have q6 : s + e = mid + m := by have := HN.out; omega
      have HQ6 : Hid (s + e = mid + m) := q6
      clear hcut ma mb mc md mx ms hk hse1 q5 hse
      have OG : Hid (s = m ∨ m = e → Rf wr S g c n (rot f s m e)) := fun hem => by rw [rot_empty f s m e hem q2 q3]; exact o.out
      obtain ⟨G, hG⟩ : ∃ G, rot f s m e = G := ⟨_, rfl⟩
      have KR : Hid (s < m → m < e → Calls Try.prog 102 #[.slice (some ⟨g, 0, none⟩) n c, .int .i64 (s : Int), .int .i64 (m : Int), .int .i64 (e : Int), cv67] wr fun r w' => r = .returned (.tuple #[]) ∧ Rf w' S g c n G ∧ Below S wr w') := fun h1 h2 => by
        rw [← hG]
        exact rotate_any S g c n s m e f cv67 wr o.out h1 h2 (by omega) hn
      rw [hG] at MA MB MC MD MX MS OG
      clear hG
      clear q6
      by_cases hA : s < m
      · by_cases hA' : m < e
        · have hb1 : s < mid ∧ mid < e := by have := HQ6.out; omega
          obtain ⟨hb1, hb2'⟩ := hb1
          have hA1 : (s : Int) < m := by omega
          have hA2 : (m : Int) < e := by omega
          have kR := KR.out hA hA'
          go_wp2_with fail
          go_fit kR
          rintro r w2 ⟨rfl, ho, hb2⟩
          have O2 : Hid (Rf w2 S g c n G) := ho
          have B2 := hbel.trans hb2
          clear ho hb2 hbel o kR
          by_cases hB : a < s
          · have hB1 : (a : Int) < s := by omega
            have hB2 : (s : Int) < mid := by omega
            have kB := IH.out a s mid G w2 (by omega) (by omega) (by omega) (by omega) (Hid.out O2) MA.out MB.out
            go_wp2_with fail
            go_fit kB
            rintro r w3 ⟨rfl, ⟨g1, ho3, st3, so3⟩, hb3⟩
            have O3 : Hid (Rf w3 S g c n g1) := ho3
            have ST : Hid _ := st3
            have SO : Hid _ := so3
            have B3 := B2.trans hb3
            clear ho3 st3 so3 hb3 B2 O2 kB
            by_cases hC : e < b
            · have SA : Hid (Srt ky g1 mid e) := Srt.same (f := G) MC.out fun j h1 h2 => ST.out.1 j (by omega)
              have SB : Hid (Srt ky g1 e b) := Srt.same (f := G) MD.out fun j h1 h2 => ST.out.1 j (by omega)
              have hC1 : (mid : Int) < e := by omega
              have hC2 : (e : Int) < b := by omega
              have kC := IH.out mid e b g1 w3 (by omega) (by omega) (by omega) (by omega) (Hid.out O3) SA.out SB.out
              go_wp2_with fail
              go_fit kC
              rintro r w4 ⟨rfl, ⟨g2, ho4, st4, so4⟩, hb4⟩
              obtain ⟨z1, z2⟩ := merge_end G g1 g2 a mid b (by omega) (by omega) MX.out ST.out SO.out st4 so4
              have FIN : Hid (Rf w4 S g c n g2 ∧ Stb ky f g2 a b ∧ Srt ky g2 a b) := ⟨ho4, Stb.trans (g := G) MS.out z2, z1⟩
              have B4 := B3.trans hb4
              clear ho4 st4 so4 hb4 z1 z2
              go_wp2
              go_end0
              exact ⟨rfl, ⟨_, FIN.out.1, FIN.out.2.1, FIN.out.2.2⟩, B4⟩
            · have SA : Hid (Srt ky g1 mid e) := Srt.same (f := G) MC.out fun j h1 h2 => ST.out.1 j (by omega)
              have SB : Hid (Srt ky g1 e b) := Srt.same (f := G) MD.out fun j h1 h2 => ST.out.1 j (by omega)
              have hC1 : (mid : Int) < e := by omega
              have hC2 : ¬ (e : Int) < b := by omega
              have SE : Srt ky g1 mid b := by
                have := SA.out
                rw [show e = b by omega] at this
                exact this
              obtain ⟨z1, z2⟩ := merge_end G g1 g1 a mid b (by omega) (by omega) MX.out ST.out SO.out (Stb.refl _ _ _) SE
              have FIN : Hid (Rf w3 S g c n g1 ∧ Stb ky f g1 a b ∧ Srt ky g1 a b) := ⟨Hid.out O3, Stb.trans (g := G) MS.out z2, z1⟩
              clear SE z1 z2
              go_wp2
              go_end0
              exact ⟨rfl, ⟨_, FIN.out.1, FIN.out.2.1, FIN.out.2.2⟩, B3⟩
          · have hB1 : ¬ (a : Int) < s := by omega
            have O3 : Hid (Rf w2 S g c n G) := O2
            have ST : Hid (Stb ky G G a mid) := Stb.refl _ _ _
            have SO : Hid (Srt ky G a mid) := by
              have := MB.out
              rw [show s = a by omega] at this
              exact this
            have B3 := B2
            by_cases hC : e < b
            · have SA : Hid (Srt ky G mid e) := Srt.same (f := G) MC.out fun j h1 h2 => ST.out.1 j (by omega)
              have SB : Hid (Srt ky G e b) := Srt.same (f := G) MD.out fun j h1 h2 => ST.out.1 j (by omega)
              have hC1 : (mid : Int) < e := by omega
              have hC2 : (e : Int) < b := by omega
              have kC := IH.out mid e b G w2 (by omega) (by omega) (by omega) (by omega) (Hid.out O3) SA.out SB.out
              go_wp2_with fail
              go_fit kC
              rintro r w4 ⟨rfl, ⟨g2, ho4, st4, so4⟩, hb4⟩
              obtain ⟨z1, z2⟩ := merge_end G G g2 a mid b (by omega) (by omega) MX.out ST.out SO.out st4 so4
              have FIN : Hid (Rf w4 S g c n g2 ∧ Stb ky f g2 a b ∧ Srt ky g2 a b) := ⟨ho4, Stb.trans (g := G) MS.out z2, z1⟩
              have B4 := B3.trans hb4
              clear ho4 st4 so4 hb4 z1 z2
              go_wp2
              go_end0
              exact ⟨rfl, ⟨_, FIN.out.1, FIN.out.2.1, FIN.out.2.2⟩, B4⟩
            · have SA : Hid (Srt ky G mid e) := Srt.same (f := G) MC.out fun j h1 h2 => ST.out.1 j (by omega)
              have SB : Hid (Srt ky G e b) := Srt.same (f := G) MD.out fun j h1 h2 => ST.out.1 j (by omega)
              have hC1 : (mid : Int) < e := by omega
              have hC2 : ¬ (e : Int) < b := by omega
              have SE : Srt ky G mid b := by
                have := SA.out
                rw [show e = b by omega] at this
                exact this
              obtain ⟨z1, z2⟩ := merge_end G G G a mid b (by omega) (by omega) MX.out ST.out SO.out (Stb.refl _ _ _) SE
              have FIN : Hid (Rf w2 S g c n G ∧ Stb ky f G a b ∧ Srt ky G a b) := ⟨Hid.out O3, Stb.trans (g := G) MS.out z2, z1⟩
              clear SE z1 z2
              go_wp2
              go_end0
              exact ⟨rfl, ⟨_, FIN.out.1, FIN.out.2.1, FIN.out.2.2⟩, B3⟩
        · have hA : m = e := by omega
          have hb1 : s = mid := by have := HQ6.out; omega
          have hb2 : mid < e := by omega
          have HB1 : Hid (s = mid) := hb1
          have hA1 : (s : Int) < m := by omega
          have hA2 : ¬ (m : Int) < e := by omega
          have O2 := OG.out (.inr hA)
          have B2 := hbel
          have HA : Hid (m = e) := hA
          have hB1 : (a : Int) < s := by omega
          have hB2 : ¬ (s : Int) < mid := by omega
          have O3 : Hid (Rf wr S g c n G) := O2
          have ST : Hid (Stb ky G G a mid) := Stb.refl _ _ _
          have SO : Hid (Srt ky G a mid) := by
            have := MA.out
            rw [show s = mid by omega] at this
            exact this
          have B3 := B2
          have SA : Hid (Srt ky G mid e) := Srt.same (f := G) MC.out fun j h1 h2 => ST.out.1 j (by omega)
          have SB : Hid (Srt ky G e b) := Srt.same (f := G) MD.out fun j h1 h2 => ST.out.1 j (by omega)
          have hC1 : (mid : Int) < e := by omega
          have hC2 : (e : Int) < b := by omega
          have kC := IH.out mid e b G wr (by omega) (by omega) (by omega) (by omega) (Hid.out O3) SA.out SB.out
          clear hA hb1
          go_wp2_with fail
          go_fit kC
          rintro r w4 ⟨rfl, ⟨g2, ho4, st4, so4⟩, hb4⟩
          obtain ⟨z1, z2⟩ := merge_end G G g2 a mid b (by omega) (by omega) MX.out ST.out SO.out st4 so4
          have FIN : Hid (Rf w4 S g c n g2 ∧ Stb ky f g2 a b ∧ Srt ky g2 a b) := ⟨ho4, Stb.trans (g := G) MS.out z2, z1⟩
          have B4 := B3.trans hb4
          clear ho4 st4 so4 hb4 z1 z2
          go_wp2
          go_end0
          exact ⟨rfl, ⟨_, FIN.out.1, FIN.out.2.1, FIN.out.2.2⟩, B4⟩
      · have hA : s = m := by omega
        have hb1 : e = mid := by have := HQ6.out; omega
        have hA1 : ¬ (s : Int) < m := by omega
        have O2 := OG.out (.inl hA)
        have B2 := hbel
        by_cases hB : s < mid
        · have hB1 : (a : Int) < s := by omega
          have hB2 : (s : Int) < mid := by omega
          have kB := IH.out a s mid G wr (by omega) (by omega) (by omega) (by omega) (Hid.out O2) MA.out MB.out
          have HA : Hid (s = m ∧ e = mid) := ⟨hA, hb1⟩
          clear hA hb1
          go_wp2_with fail
          go_fit kB
          rintro r w3 ⟨rfl, ⟨g1, ho3, st3, so3⟩, hb3⟩
          have O3 : Hid (Rf w3 S g c n g1) := ho3
          have ST : Hid _ := st3
          have SO : Hid _ := so3
          have B3 := B2.trans hb3
          clear ho3 st3 so3 hb3 B2 O2 kB
          obtain ⟨hA, hb1⟩ := HA.out
          have SA : Hid (Srt ky g1 mid e) := Srt.same (f := G) MC.out fun j h1 h2 => ST.out.1 j (by omega)
          have SB : Hid (Srt ky g1 e b) := Srt.same (f := G) MD.out fun j h1 h2 => ST.out.1 j (by omega)
          have hC1 : ¬ (mid : Int) < e := by omega
          have SE : Srt ky g1 mid b := by
            have := SB.out
            rw [show e = mid by omega] at this
            exact this
          obtain ⟨z1, z2⟩ := merge_end G g1 g1 a mid b (by omega) (by omega) MX.out ST.out SO.out (Stb.refl _ _ _) SE
          have FIN : Hid (Rf w3 S g c n g1 ∧ Stb ky f g1 a b ∧ Srt ky g1 a b) := ⟨Hid.out O3, Stb.trans (g := G) MS.out z2, z1⟩
          clear SE z1 z2
          clear hA hb1
          go_wp2
          go_end0
          exact ⟨rfl, ⟨_, FIN.out.1, FIN.out.2.1, FIN.out.2.2⟩, B3⟩
        · have hB1 : (a : Int) < s := by omega
          have hB2 : ¬ (s : Int) < mid := by omega
          have O3 : Hid (Rf wr S g c n G) := O2
          have ST : Hid (Stb ky G G a mid) := Stb.refl _ _ _
          have SO : Hid (Srt ky G a mid) := by
            have := MA.out
            rw [show s = mid by omega] at this
            exact this
          have B3 := B2
          have SA : Hid (Srt ky G mid e) := Srt.same (f := G) MC.out fun j h1 h2 => ST.out.1 j (by omega)
          have SB : Hid (Srt ky G e b) := Srt.same (f := G) MD.out fun j h1 h2 => ST.out.1 j (by omega)
          have hC1 : ¬ (mid : Int) < e := by omega
          have SE : Srt ky G mid b := by
            have := SB.out
            rw [show e = mid by omega] at this
            exact this
          obtain ⟨z1, z2⟩ := merge_end G G G a mid b (by omega) (by omega) MX.out ST.out SO.out (Stb.refl _ _ _) SE
          have FIN : Hid (Rf wr S g c n G ∧ Stb ky f G a b ∧ Srt ky G a b) := ⟨Hid.out O3, Stb.trans (g := G) MS.out z2, z1⟩
          clear SE z1 z2
          clear hA hb1
          go_wp2
          go_end0
          exact ⟨rfl, ⟨_, FIN.out.1, FIN.out.2.1, FIN.out.2.2⟩, B3⟩
end Go.Proofs.Ytmjenemjbpimcaa
