/- A row of floats sorted in place: the whole. -/
import Derived.Test.YtfjfpplemgjcmabTc
namespace Go.Proofs.Ytfjfpplemgjcmab
open Go.RowKit

theorem sym_any (S g c n : Nat) (hn : n ≤ 2305843009213693952) : ∀ len, Ih S g c n len := by
  intro len
  induction len with
  | zero => intro a m b f w h; omega
  | succ len ih =>
    intro a m b f w hl ham hmb hbn h h1 h2
    by_cases e1 : m = a + 1
    · subst e1
      exact sym1_any S g c n a b f w h hmb hbn (by omega) h2
    · by_cases e2 : b = m + 1
      · subst e2
        exact sym2_any S g c n a m f w h (by omega) hbn (by omega) h1
      · have ih2 : Ih S g c n (b - a) := fun a' m' b' f' w' hl' => ih a' m' b' f' w' (by omega)
        by_cases hgt : (a + b) / 2 < m
        · exact sym3l_any S g c n a m b _ f w h (by omega) (by omega) hbn (by omega) h1 h2 rfl hgt ih2
        · exact sym3r_any S g c n a m b _ f w h (by omega) (by omega) hbn (by omega) h1 h2 rfl hgt ih2

/-- Blocks of s things from a place on, sorted. -/
def Blf (f : Nat → Nat) (s A n : Nat) : Prop := ∀ q i j, q * s ≤ i → i < j → j < (q + 1) * s → j < n → A ≤ i → ky (f i) ≤ ky (f j)
theorem two_mul' (Q s : Nat) : Q * (2 * s) = 2 * Q * s := by rw [← Nat.mul_assoc, Nat.mul_comm Q 2]
theorem Blf.left {f : Nat → Nat} {s A n Q : Nat} (h : Blf f s A n) (hA : A = Q * (2 * s)) (b : Nat) (hb : b ≤ A + s) (hn : b ≤ n) : Srt ky f A b := fun i j h1 h2 h3 => h (2 * Q) i j (by rw [two_mul'] at hA; omega) h2 (by rw [Nat.add_mul, Nat.one_mul, ← two_mul', ← hA]; omega) (by omega) h1
theorem Blf.right {f : Nat → Nat} {s A n Q : Nat} (h : Blf f s A n) (hA : A = Q * (2 * s)) (b : Nat) (hb : b ≤ A + 2 * s) (hn : b ≤ n) : Srt ky f (A + s) b := fun i j h1 h2 h3 => h (2 * Q + 1) i j (by rw [Nat.add_mul, Nat.one_mul, ← two_mul', ← hA]; omega) h2 (by rw [Nat.add_mul, Nat.add_mul, Nat.one_mul, ← two_mul', ← hA]; omega) (by omega) (by omega)

set_option maxHeartbeats 4000000 in
set_option maxRecDepth 100000 in
theorem stable_any (S g c n : Nat) (f : Nat → Nat) (w : World) (h : Rf w S g c n f) (hn : n ≤ 2305843009213693952) :
    Calls Try.prog 104 #[.slice (some ⟨g, 0, none⟩) n c, .int .i64 (n : Int), cv67] w (Mg S g c n 0 n f w) := by
  have H0 : Hid (Rf w S g c n f) := h
  have KI : Hid (∀ a b f' w', a ≤ b → b ≤ n → Rf w' S g c n f' → Calls Try.prog 115 #[.slice (some ⟨g, 0, none⟩) n c, .int .i64 (a : Int), .int .i64 (b : Int), cv67] w' (Mg S g c n a b f' w')) := fun a b f' w' h1 h2 h3 => insSort_any S g c n a b f' w' h3 h1 h2 (by omega)
  have KM : Hid (∀ (a m b : Nat) (f' : Nat → Nat) (w' : World), a < m → m < b → b ≤ n → Rf w' S g c n f' → Srt ky f' a m → Srt ky f' m b → Calls Try.prog 116 #[.slice (some ⟨g, 0, none⟩) n c, .int .i64 (a : Int), .int .i64 (m : Int), .int .i64 (b : Int), cv67] w' (Mg S g c n a b f' w')) := fun a m b f' w' h1 h2 h3 h4 h5 h6 => sym_any S g c n hn (b - a + 1) a m b f' w' (by omega) h1 h2 h3 h4 h5 h6
  clear h
  go_enter Try.func104, Try.ntmps104
  go_wp2
  go_loopw [7, 8] (fun av bv w' => ∃ (A B : Nat) (f1 : Nat → Nat), av = .int .i64 (A : Int) ∧ bv = .int .i64 (B : Int) ∧ A ≤ n ∧ A + 20 = B ∧ Hid (∃ Q, A = Q * 20) ∧ Hid (Rf w' S g c n f1) ∧ Hid (Stb ky f f1 0 n) ∧ Hid (Blk ky f1 20 A) ∧ Below S w w') (fun av _ _ => n - (RowKit.intOf av).toNat)
  case atStart => exact ⟨0, 20, f, rfl, rfl, by omega, rfl, ⟨0, rfl⟩, H0, Stb.refl _ _ _, Blk.zero _ _, Below.refl _ _⟩
  case round =>
    obtain ⟨A, B, f1, rfl, rfl, hA, hAB, hQ, o, st, bl, hbel⟩ := hrel
    by_cases hle : B ≤ n
    · have hli : (B : Int) ≤ (n : Int) := by omega
      have k1 := KI.out A B f1 wr (by omega) hle o.out
      go_wp2_with fail
      go_fit k1
      rintro r w2 ⟨rfl, ⟨f2, ho, hst, hso⟩, hb2⟩
      have O2 : Hid (Rf w2 S g c n f2) := ho
      have ST2 : Hid (Stb ky f f2 0 n) := Stb.trans (g := f1) st.out (Stb.wide hst (by omega) (by omega) hle)
      have QB : Hid (∃ Q, B = Q * 20) := by
        obtain ⟨Q, hQ⟩ := hQ.out
        exact ⟨Q + 1, by omega⟩
      have BL2 : Hid (Blk ky f2 20 B) := by
        obtain ⟨Q, hQ⟩ := hQ.out
        have b1 := bl.out
        rw [hQ] at b1 hso
        exact Blk.next b1 (fun j hj => hst.1 j (.inl (by omega))) hso
      have B2 := hbel.trans hb2
      clear ho hst hso hb2 k1 o hbel
      go_wp2
      refine ⟨⟨B, B + 20, f2, rfl, by congr 1, by omega, rfl, QB, O2, ST2, BL2, B2⟩, by simp [RowKit.intOf]; omega⟩
    · have hli : ¬ (B : Int) ≤ (n : Int) := by omega
      have k1 := KI.out A n f1 wr hA (Nat.le_refl _) o.out
      go_wp2_with fail
      go_fit k1
      rintro r w2 ⟨rfl, ⟨f2, ho, hst, hso⟩, hb2⟩
      have O2 : Hid (Rf w2 S g c n f2) := ho
      have ST2 : Hid (Stb ky f f2 0 n) := Stb.trans (g := f1) st.out (Stb.wide hst (by omega) (by omega) (Nat.le_refl _))
      have BL2 : Hid (Blk ky f2 20 n) := by
        obtain ⟨Q, hQ⟩ := hQ.out
        have b1 := bl.out
        rw [hQ] at b1 hso
        exact Blk.next b1 (fun j hj => hst.1 j (.inl (by omega))) hso
      have B2 := hbel.trans hb2
      clear ho hst hso hb2 k1 o hbel bl st hQ
      go_wp2
      go_loopw [6, 7, 8] (fun sv _ _ w' => ∃ (s : Nat) (f1 : Nat → Nat), sv = .int .i64 (s : Int) ∧ 20 ≤ s ∧ s ≤ 2 * n + 20 ∧ Hid (Rf w' S g c n f1) ∧ Hid (Stb ky f f1 0 n) ∧ Hid (Blk ky f1 s n) ∧ Below S w w') (fun sv _ _ _ => 2 * n + 40 - (RowKit.intOf sv).toNat)
      case atStart => exact ⟨20, f2, rfl, by omega, by omega, O2, ST2, BL2, B2⟩
      case round =>
        obtain ⟨s, f3, rfl, hs1, hs2, o3, st3, bl3, hbel3⟩ := hrel
        by_cases hsn : s < n
        · have hsi : (s : Int) < (n : Int) := by omega
          obtain ⟨T, hT⟩ : ∃ T : Nat, T = 2 * s := ⟨_, rfl⟩
          have hTi : (2 : Int) * (s : Int) = (T : Int) := by omega
          have hTj : (s : Int) * (2 : Int) = (T : Int) := by omega
          have HT : Hid (T = 2 * s) := hT
          have ht1 : s < T := by omega
          have ht2 : T ≤ 2 * n := by omega
          have ht3 : T = s + s := by omega
          have HT3 : Hid (T = s + s) := ht3
          have F3 : Hid (Blf f3 s 0 n) := fun q i j h1 h2 h3 h4 _ => bl3.out q i j h1 h2 h3 h4
          clear hT ht3
          go_wp2
          go_loopw [7, 8] (fun av bv w' => ∃ (A B : Nat) (f1 : Nat → Nat), av = .int .i64 (A : Int) ∧ bv = .int .i64 (B : Int) ∧ A ≤ n ∧ A + T = B ∧ Hid (∃ Q, A = Q * T) ∧ Hid (Rf w' S g c n f1) ∧ Hid (Stb ky f f1 0 n) ∧ Hid (Blk ky f1 T A ∧ Blf f1 s A n) ∧ Below S w w') (fun av _ _ => n - (RowKit.intOf av).toNat)
          case atStart => exact ⟨0, T, f3, rfl, rfl, by omega, by omega, ⟨0, (Nat.zero_mul _).symm⟩, o3, st3, ⟨Blk.zero _ _, F3.out⟩, hbel3⟩
          case round =>
            obtain ⟨A, B, f4, rfl, rfl, hA, hAB, hQ, o4, st4, bl4, hbel4⟩ := hrel
            obtain ⟨M, hM⟩ : ∃ M : Nat, M = A + s := ⟨_, rfl⟩
            have hMi : (A : Int) + (s : Int) = (M : Int) := by omega
            have hm1 : A < M := by omega
            have hm2 : M < B := by omega
            have HM : Hid (A + s = M) := hM.symm
            clear hM
            have SL : Hid (∀ b, b ≤ M → b ≤ n → Srt ky f4 A b) := fun b h1 h2 => by
              obtain ⟨Q, hQ⟩ := hQ.out
              rw [HT.out] at hQ
              exact Blf.left bl4.out.2 hQ b (by rw [HM.out]; exact h1) h2
            have SR : Hid (∀ b, b ≤ B → b ≤ n → Srt ky f4 M b) := fun b h1 h2 => by
              obtain ⟨Q, hQ⟩ := hQ.out
              rw [HT.out] at hQ
              have := Blf.right bl4.out.2 hQ b (by rw [← HT.out]; omega) h2
              rw [HM.out] at this
              exact this
            by_cases hle : B ≤ n
            · have hli : (B : Int) ≤ (n : Int) := by omega
              have k1 := KM.out A M B f4 wr hm1 hm2 hle o4.out (SL.out M (Nat.le_refl _) (by omega)) (SR.out B (Nat.le_refl _) hle)
              obtain ⟨C, hC⟩ : ∃ C : Nat, B + T = C := ⟨_, rfl⟩
              have hBT : (B : Int) + (T : Int) = (C : Int) := by omega
              have hCb : C ≤ 6917529027641081856 := by omega
              have HCC : Hid (B + T = C) := hC
              clear hC
              go_wp2_with fail
              go_fit k1
              rintro r w5 ⟨rfl, ⟨f5, ho, hst, hso⟩, hb5⟩
              have O5 : Hid (Rf w5 S g c n f5) := ho
              have ST5 : Hid (Stb ky f f5 0 n) := Stb.trans (g := f4) st4.out (Stb.wide hst (by omega) (by omega) hle)
              have QB : Hid (∃ Q, B = Q * T) := by
                obtain ⟨Q, hQ⟩ := hQ.out
                exact ⟨Q + 1, by rw [Nat.add_mul, Nat.one_mul, ← hQ]; omega⟩
              have BL5 : Hid (Blk ky f5 T B ∧ Blf f5 s B n) := by
                obtain ⟨Q, hQ⟩ := hQ.out
                refine ⟨?_, fun q i j h1 h2 h3 h4 h5 => ?_⟩
                · have b1 := bl4.out.1
                  rw [hQ] at b1 hso
                  exact Blk.next b1 (fun j hj => hst.1 j (.inl (by omega))) hso
                · rw [hst.1 i (by omega), hst.1 j (by omega)]
                  exact bl4.out.2 q i j h1 h2 h3 h4 (by omega)
              have B5 := hbel4.trans hb5
              clear ho hst hso hb5 k1 o4 hbel4 bl4 st4 SL SR
              go_wp2
              refine ⟨⟨B, C, f5, rfl, rfl, by omega, HCC.out, QB, O5, ST5, BL5, B5⟩, by simp [RowKit.intOf]; omega⟩
            · have hli : ¬ (B : Int) ≤ (n : Int) := by omega
              by_cases hMn : M < n
              · have hmi : (M : Int) < (n : Int) := by omega
                have k1 := KM.out A M n f4 wr hm1 hMn (Nat.le_refl _) o4.out (SL.out M (Nat.le_refl _) (by omega)) (SR.out n (by omega) (Nat.le_refl _))
                go_wp2_with fail
                go_fit k1
                rintro r w5 ⟨rfl, ⟨f5, ho, hst, hso⟩, hb5⟩
                have O5 : Hid (Rf w5 S g c n f5) := ho
                have ST5 : Hid (Stb ky f f5 0 n) := Stb.trans (g := f4) st4.out (Stb.wide hst (by omega) (by omega) (Nat.le_refl _))
                have BL5 : Hid (Blk ky f5 T n) := by
                  obtain ⟨Q, hQ⟩ := hQ.out
                  have b1 := bl4.out.1
                  rw [hQ] at b1 hso
                  exact Blk.next b1 (fun j hj => hst.1 j (.inl (by omega))) hso
                have B5 := hbel4.trans hb5
                clear ho hst hso hb5 k1 o4 hbel4 bl4 st4 SL SR
                go_wp2
                refine ⟨⟨T, f5, rfl, by omega, by omega, O5, ST5, BL5, B5⟩, by simp [RowKit.intOf]; omega⟩
              · have hmi : ¬ (M : Int) < (n : Int) := by omega
                have BL5 : Hid (Blk ky f4 T n) := by
                  obtain ⟨Q, hQ⟩ := hQ.out
                  have b1 := bl4.out.1
                  have b2 := SL.out n (by omega) (Nat.le_refl _)
                  rw [hQ] at b1 b2
                  exact Blk.next b1 (fun j hj => rfl) b2
                clear bl4 SL SR
                go_wp2
                refine ⟨⟨T, f4, rfl, by omega, by omega, o4, st4, BL5, hbel4⟩, by simp [RowKit.intOf]; omega⟩
        · have hsi : ¬ (s : Int) < (n : Int) := by omega
          have FIN : Hid (Srt ky f3 0 n) := Blk.all bl3.out (by omega)
          go_wp2
          go_end0
          exact ⟨rfl, ⟨_, o3.out, st3.out, FIN.out⟩, hbel3⟩
set_option maxHeartbeats 400000 in
theorem sortStable_any (S g c n : Nat) (f : Nat → Nat) (w : World) (h : Rf w S g c n f) (hn : n ≤ 2305843009213693952) :
    Calls Try.prog 66 #[.slice (some ⟨g, 0, none⟩) n c, cv67] w (Mg S g c n 0 n f w) := by
  have k1 := stable_any S g c n f w h hn
  clear h
  go_enter Try.func66, Try.ntmps66
  go_wp2_with fail
  go_fit k1
  rintro r w2 ⟨rfl, h2, hb2⟩
  have H2 : Hid _ := h2
  clear h2
  go_wp2
  go_end0
  exact ⟨rfl, H2.out, hb2⟩
end Go.Proofs.Ytfjfpplemgjcmab
