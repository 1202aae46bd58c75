/- A bundle of texts. -/
import Derived.Test.YtmjenemjbpimcaaBk18
import Derived.Lib.SliceRun
import Derived.Test.YtmjenemjbpimcaaBk14
import Derived.Deep.CutRange
import Derived.Deep.RegionHeld3
/- A row of floats sorted in place: the whole. -/
namespace Go.Proofs.Ytmjenemjbpimcaa
open Go.RowKit

theorem sym_any (S g c n : Nat) (hn : n ≤ 2305843009213693952) : ∀ len, Ih S g c n len := by
  intro len
  induction len with
  | zero => intro a m b f w h; omega
  | succ len ih =>
    intro a m b f w hl ham hmb hbn h h1 h2
    by_cases e1 : m = a + 1
    · subst e1
      exact sym1_any S g c n a b f w h hmb hbn (by omega) h2
    · by_cases e2 : b = m + 1
      · subst e2
        exact sym2_any S g c n a m f w h (by omega) hbn (by omega) h1
      · have ih2 : Ih S g c n (b - a) := fun a' m' b' f' w' hl' => ih a' m' b' f' w' (by omega)
        by_cases hgt : (a + b) / 2 < m
        · exact sym3l_any S g c n a m b _ f w h (by omega) (by omega) hbn (by omega) h1 h2 rfl hgt ih2
        · exact sym3r_any S g c n a m b _ f w h (by omega) (by omega) hbn (by omega) h1 h2 rfl hgt ih2

/-- Blocks of s things from a place on, sorted. -/
def Blf (f : Nat → Nat) (s A n : Nat) : Prop := ∀ q i j, q * s ≤ i → i < j → j < (q + 1) * s → j < n → A ≤ i → ky (f i) ≤ ky (f j)
theorem two_mul' (Q s : Nat) : Q * (2 * s) = 2 * Q * s := by rw [← Nat.mul_assoc, Nat.mul_comm Q 2]
theorem Blf.left {f : Nat → Nat} {s A n Q : Nat} (h : Blf f s A n) (hA : A = Q * (2 * s)) (b : Nat) (hb : b ≤ A + s) (hn : b ≤ n) : Srt ky f A b := fun i j h1 h2 h3 => h (2 * Q) i j (by rw [two_mul'] at hA; omega) h2 (by rw [Nat.add_mul, Nat.one_mul, ← two_mul', ← hA]; omega) (by omega) h1
theorem Blf.right {f : Nat → Nat} {s A n Q : Nat} (h : Blf f s A n) (hA : A = Q * (2 * s)) (b : Nat) (hb : b ≤ A + 2 * s) (hn : b ≤ n) : Srt ky f (A + s) b := fun i j h1 h2 h3 => h (2 * Q + 1) i j (by rw [Nat.add_mul, Nat.one_mul, ← two_mul', ← hA]; omega) h2 (by rw [Nat.add_mul, Nat.add_mul, Nat.one_mul, ← two_mul', ← hA]; omega) (by omega) (by omega)

set_option maxHeartbeats 4000000 in
set_option maxRecDepth 100000 in
theorem stable_any (S g c n : Nat) (f : Nat → Nat) (w : World) (h : Rf w S g c n f) (hn : n ≤ 2305843009213693952) :
    Calls Try.prog 90 #[.slice (some ⟨g, 0, none⟩) n c, .int .i64 (n : Int), cv67] w (Mg S g c n 0 n f w) := by
  have H0 : Hid (Rf w S g c n f) := h
  have KI : Hid (∀ a b f' w', a ≤ b → b ≤ n → Rf w' S g c n f' → Calls Try.prog 97 #[.slice (some ⟨g, 0, none⟩) n c, .int .i64 (a : Int), .int .i64 (b : Int), cv67] w' (Mg S g c n a b f' w')) := fun a b f' w' h1 h2 h3 => insSort_any S g c n a b f' w' h3 h1 h2 (by omega)
  have KM : Hid (∀ (a m b : Nat) (f' : Nat → Nat) (w' : World), a < m → m < b → b ≤ n → Rf w' S g c n f' → Srt ky f' a m → Srt ky f' m b → Calls Try.prog 98 #[.slice (some ⟨g, 0, none⟩) n c, .int .i64 (a : Int), .int .i64 (m : Int), .int .i64 (b : Int), cv67] w' (Mg S g c n a b f' w')) := fun a m b f' w' h1 h2 h3 h4 h5 h6 => sym_any S g c n hn (b - a + 1) a m b f' w' (by omega) h1 h2 h3 h4 h5 h6
  clear h
  go_enter Try.func90, Try.ntmps90
  go_wp2
  go_loopw [7, 8] (fun av bv w' => ∃ (A B : Nat) (f1 : Nat → Nat), av = .int .i64 (A : Int) ∧ bv = .int .i64 (B : Int) ∧ A ≤ n ∧ A + 20 = B ∧ Hid (∃ Q, A = Q * 20) ∧ Hid (Rf w' S g c n f1) ∧ Hid (Stb ky f f1 0 n) ∧ Hid (Blk ky f1 20 A) ∧ Below S w w') (fun av _ _ => n - (RowKit.intOf av).toNat)
  case atStart => exact ⟨0, 20, f, rfl, rfl, by omega, rfl, ⟨0, rfl⟩, H0, Stb.refl _ _ _, Blk.zero _ _, Below.refl _ _⟩
  case round =>
    obtain ⟨A, B, f1, rfl, rfl, hA, hAB, hQ, o, st, bl, hbel⟩ := hrel
    by_cases hle : B ≤ n
    · have hli : (B : Int) ≤ (n : Int) := by omega
      have k1 := KI.out A B f1 wr (by omega) hle o.out
      go_wp2_with fail
      go_fit k1
      rintro r w2 ⟨rfl, ⟨f2, ho, hst, hso⟩, hb2⟩
      have O2 : Hid (Rf w2 S g c n f2) := ho
      have ST2 : Hid (Stb ky f f2 0 n) := Stb.trans (g := f1) st.out (Stb.wide hst (by omega) (by omega) hle)
      have QB : Hid (∃ Q, B = Q * 20) := by
        obtain ⟨Q, hQ⟩ := hQ.out
        exact ⟨Q + 1, by omega⟩
      have BL2 : Hid (Blk ky f2 20 B) := by
        obtain ⟨Q, hQ⟩ := hQ.out
        have b1 := bl.out
        rw [hQ] at b1 hso
        exact Blk.next b1 (fun j hj => hst.1 j (.inl (by omega))) hso
      have B2 := hbel.trans hb2
      clear ho hst hso hb2 k1 o hbel
      go_wp2
      refine ⟨⟨B, B + 20, f2, rfl, by congr 1, by omega, rfl, QB, O2, ST2, BL2, B2⟩, by simp [RowKit.intOf]; omega⟩
    · have hli : ¬ (B : Int) ≤ (n : Int) := by omega
      have k1 := KI.out A n f1 wr hA (Nat.le_refl _) o.out
      go_wp2_with fail
      go_fit k1
      rintro r w2 ⟨rfl, ⟨f2, ho, hst, hso⟩, hb2⟩
      have O2 : Hid (Rf w2 S g c n f2) := ho
      have ST2 : Hid (Stb ky f f2 0 n) := Stb.trans (g := f1) st.out (Stb.wide hst (by omega) (by omega) (Nat.le_refl _))
      have BL2 : Hid (Blk ky f2 20 n) := by
        obtain ⟨Q, hQ⟩ := hQ.out
        have b1 := bl.out
        rw [hQ] at b1 hso
        exact Blk.next b1 (fun j hj => hst.1 j (.inl (by omega))) hso
      have B2 := hbel.trans hb2
      clear ho hst hso hb2 k1 o hbel bl st hQ
      go_wp2
      go_loopw [6, 7, 8] (fun sv _ _ w' => ∃ (s : Nat) (f1 : Nat → Nat), sv = .int .i64 (s : Int) ∧ 20 ≤ s ∧ s ≤ 2 * n + 20 ∧ Hid (Rf w' S g c n f1) ∧ Hid (Stb ky f f1 0 n) ∧ Hid (Blk ky f1 s n) ∧ Below S w w') (fun sv _ _ _ => 2 * n + 40 - (RowKit.intOf sv).toNat)
      case atStart => exact ⟨20, f2, rfl, by omega, by omega, O2, ST2, BL2, B2⟩
      case round =>
        obtain ⟨s, f3, rfl, hs1, hs2, o3, st3, bl3, hbel3⟩ := hrel
        by_cases hsn : s < n
        · have hsi : (s : Int) < (n : Int) := by omega
          obtain ⟨T, hT⟩ : ∃ T : Nat, T = 2 * s := ⟨_, rfl⟩
          have hTi : (2 : Int) * (s : Int) = (T : Int) := by omega
          have hTj : (s : Int) * (2 : Int) = (T : Int) := by omega
          have HT : Hid (T = 2 * s) := hT
          have ht1 : s < T := by omega
          have ht2 : T ≤ 2 * n := by omega
          have ht3 : T = s + s := by omega
          have HT3 : Hid (T = s + s) := ht3
          have F3 : Hid (Blf f3 s 0 n) := fun q i j h1 h2 h3 h4 _ => bl3.out q i j h1 h2 h3 h4
          clear hT ht3
          go_wp2
          go_loopw [7, 8] (fun av bv w' => ∃ (A B : Nat) (f1 : Nat → Nat), av = .int .i64 (A : Int) ∧ bv = .int .i64 (B : Int) ∧ A ≤ n ∧ A + T = B ∧ Hid (∃ Q, A = Q * T) ∧ Hid (Rf w' S g c n f1) ∧ Hid (Stb ky f f1 0 n) ∧ Hid (Blk ky f1 T A ∧ Blf f1 s A n) ∧ Below S w w') (fun av _ _ => n - (RowKit.intOf av).toNat)
          case atStart => exact ⟨0, T, f3, rfl, rfl, by omega, by omega, ⟨0, (Nat.zero_mul _).symm⟩, o3, st3, ⟨Blk.zero _ _, F3.out⟩, hbel3⟩
          case round =>
            obtain ⟨A, B, f4, rfl, rfl, hA, hAB, hQ, o4, st4, bl4, hbel4⟩ := hrel
            obtain ⟨M, hM⟩ : ∃ M : Nat, M = A + s := ⟨_, rfl⟩
            have hMi : (A : Int) + (s : Int) = (M : Int) := by omega
            have hm1 : A < M := by omega
            have hm2 : M < B := by omega
            have HM : Hid (A + s = M) := hM.symm
            clear hM
            have SL : Hid (∀ b, b ≤ M → b ≤ n → Srt ky f4 A b) := fun b h1 h2 => by
              obtain ⟨Q, hQ⟩ := hQ.out
              rw [HT.out] at hQ
              exact Blf.left bl4.out.2 hQ b (by rw [HM.out]; exact h1) h2
            have SR : Hid (∀ b, b ≤ B → b ≤ n → Srt ky f4 M b) := fun b h1 h2 => by
              obtain ⟨Q, hQ⟩ := hQ.out
              rw [HT.out] at hQ
              have := Blf.right bl4.out.2 hQ b (by rw [← HT.out]; omega) h2
              rw [HM.out] at this
              exact this
            by_cases hle : B ≤ n
            · have hli : (B : Int) ≤ (n : Int) := by omega
              have k1 := KM.out A M B f4 wr hm1 hm2 hle o4.out (SL.out M (Nat.le_refl _) (by omega)) (SR.out B (Nat.le_refl _) hle)
              obtain ⟨C, hC⟩ : ∃ C : Nat, B + T = C := ⟨_, rfl⟩
              have hBT : (B : Int) + (T : Int) = (C : Int) := by omega
              have hCb : C ≤ 6917529027641081856 := by omega
              have HCC : Hid (B + T = C) := hC
              clear hC
              go_wp2_with fail
              go_fit k1
              rintro r w5 ⟨rfl, ⟨f5, ho, hst, hso⟩, hb5⟩
              have O5 : Hid (Rf w5 S g c n f5) := ho
              have ST5 : Hid (Stb ky f f5 0 n) := Stb.trans (g := f4) st4.out (Stb.wide hst (by omega) (by omega) hle)
              have QB : Hid (∃ Q, B = Q * T) := by
                obtain ⟨Q, hQ⟩ := hQ.out
                exact ⟨Q + 1, by rw [Nat.add_mul, Nat.one_mul, ← hQ]; omega⟩
              have BL5 : Hid (Blk ky f5 T B ∧ Blf f5 s B n) := by
                obtain ⟨Q, hQ⟩ := hQ.out
                refine ⟨?_, fun q i j h1 h2 h3 h4 h5 => ?_⟩
                · have b1 := bl4.out.1
                  rw [hQ] at b1 hso
                  exact Blk.next b1 (fun j hj => hst.1 j (.inl (by omega))) hso
                · rw [hst.1 i (by omega), hst.1 j (by omega)]
                  exact bl4.out.2 q i j h1 h2 h3 h4 (by omega)
              have B5 := hbel4.trans hb5
              clear ho hst hso hb5 k1 o4 hbel4 bl4 st4 SL SR
              go_wp2
              refine ⟨⟨B, C, f5, rfl, rfl, by omega, HCC.out, QB, O5, ST5, BL5, B5⟩, by simp [RowKit.intOf]; omega⟩
            · have hli : ¬ (B : Int) ≤ (n : Int) := by omega
              by_cases hMn : M < n
              · have hmi : (M : Int) < (n : Int) := by omega
                have k1 := KM.out A M n f4 wr hm1 hMn (Nat.le_refl _) o4.out (SL.out M (Nat.le_refl _) (by omega)) (SR.out n (by omega) (Nat.le_refl _))
                go_wp2_with fail
                go_fit k1
                rintro r w5 ⟨rfl, ⟨f5, ho, hst, hso⟩, hb5⟩
                have O5 : Hid (Rf w5 S g c n f5) := ho
                have ST5 : Hid (Stb ky f f5 0 n) := Stb.trans (g := f4) st4.out (Stb.wide hst (by omega) (by omega) (Nat.le_refl _))
                have BL5 : Hid (Blk ky f5 T n) := by
                  obtain ⟨Q, hQ⟩ := hQ.out
                  have b1 := bl4.out.1
                  rw [hQ] at b1 hso
                  exact Blk.next b1 (fun j hj => hst.1 j (.inl (by omega))) hso
                have B5 := hbel4.trans hb5
                clear ho hst hso hb5 k1 o4 hbel4 bl4 st4 SL SR
                go_wp2
                refine ⟨⟨T, f5, rfl, by omega, by omega, O5, ST5, BL5, B5⟩, by simp [RowKit.intOf]; omega⟩
              · have hmi : ¬ (M : Int) < (n : Int) := by omega
                have BL5 : Hid (Blk ky f4 T n) := by
                  obtain ⟨Q, hQ⟩ := hQ.out
                  have b1 := bl4.out.1
                  have b2 := SL.out n (by omega) (Nat.le_refl _)
                  rw [hQ] at b1 b2
                  exact Blk.next b1 (fun j hj => rfl) b2
                clear bl4 SL SR
                go_wp2
                refine ⟨⟨T, f4, rfl, by omega, by omega, o4, st4, BL5, hbel4⟩, by simp [RowKit.intOf]; omega⟩
        · have hsi : ¬ (s : Int) < (n : Int) := by omega
          have FIN : Hid (Srt ky f3 0 n) := Blk.all bl3.out (by omega)
          go_wp2
          go_end0
          exact ⟨rfl, ⟨_, o3.out, st3.out, FIN.out⟩, hbel3⟩
set_option maxHeartbeats 400000 in
theorem sortStable_any (S g c n : Nat) (f : Nat → Nat) (w : World) (h : Rf w S g c n f) (hn : n ≤ 2305843009213693952) :
    Calls Try.prog 79 #[.slice (some ⟨g, 0, none⟩) n c, cv67] w (Mg S g c n 0 n f w) := by
  have k1 := stable_any S g c n f w h hn
  clear h
  go_enter Try.func79, Try.ntmps79
  go_wp2_with fail
  go_fit k1
  rintro r w2 ⟨rfl, h2, hb2⟩
  have H2 : Hid _ := h2
  clear h2
  go_wp2
  go_end0
  exact ⟨rfl, H2.out, hb2⟩
end Go.Proofs.Ytmjenemjbpimcaa
/- A list of floats copied. -/
namespace Go.Proofs.Ytmjenemjbpimcaa
open Go.RowKit

theorem copy_all (w : World) (g o c : Nat) (xs : List Nat) (hg : g < w.heap.size) (hat : FAt w g o xs) (hn : xs.length * 8 ≤ 140737488355328) :
    ∃ v' w', (Builtin.append_ #[32, 32] 32 #[.slice (some ⟨w.heap.size, 0, none⟩) 0 0, .slice (some ⟨g, o, none⟩) xs.length c]).run Try.prog (w.alloc (.cells #[] 25)) = .ok v' w' ∧ Fr w' w.heap.size v' xs ∧ Below w.heap.size w w' := by
  obtain ⟨i0, hi, hz0, hz1, hz2⟩ := info_parts info23
  have o0 : (w.alloc (.cells #[] 25)).ownsRow w.heap.size 25 1 (.slice (some ⟨w.heap.size, 0, none⟩) 0 0) 0 [] := World.ownsRow_made w #[] 0 (Nat.le_refl _) (Nat.zero_le _) rfl
  have hb : Below w.heap.size w (w.alloc (.cells #[] 25)) := (Below.refl _ w).alloc (Nat.le_refl _) _
  obtain ⟨v', w', r, o', gr, _⟩ := run_append_own (P := Try.prog) (w.alloc (.cells #[] 25)) w.heap.size 32 32 25 i0 (.float .f64 0) 1 8 Try.underlying32 hi hz0 hz1 hz2 rfl (by decide) _ 0 [] o0 ⟨g, o, none⟩ xs.length c (fc xs) (by simp [fc])
    (fun j u hj => by
      rw [Go.WideShapes.add_plain]
      have hj2 : j < xs.length := by
        have := (List.getElem?_eq_some_iff.1 hj).1
        rw [fc_len] at this
        exact this
      rw [hb.cell (p := ⟨g, o + j, none⟩) hg, hat j hj2]
      simp [fc, hj2] at hj
      rw [← hj]
      simp [List.getD, hj2]) (by intro u hu; simp [fc] at hu; obtain ⟨x, _, rfl⟩ := hu; rfl) (by unfold maxLen; omega) (by omega) (by simp)
  refine ⟨v', w', r, ?_, hb.grown gr (by simp) (fun k hk => by simp [Value.ownBlock] at hk; omega)⟩
  unfold Fr
  simpa using o'

set_option maxHeartbeats 1000000 in
set_option maxRecDepth 100000 in
theorem clone_any (g o c : Nat) (xs : List Nat) (w : World) (hg : g < w.heap.size) (hat : FAt w g o xs) (hn : xs.length * 8 ≤ 140737488355328) :
    Calls Try.prog 78 #[.slice (some ⟨g, o, none⟩) xs.length c] w fun r w' => ∃ v, r = .returned v ∧ Fr w' w.heap.size v xs ∧ Below w.heap.size w w' := by
  obtain ⟨v', w1, r1, o1, b1⟩ := copy_all w g o c xs hg hat hn
  have O1 : Hid (Fr w1 w.heap.size v' xs) := o1
  have q35 : ∀ (w : World) (a : Option Addr) (n c n' c' : Nat), (binOp .eql 32 (.slice a n c) (.slice none n' c')).run Try.prog w = .ok (.bool a.isNone) w := fun w a n c n' c' => Lib.run_eql_slice_nil w _ _ a n c n' c' Try.underlying32
  clear hat o1
  go_enter Try.func78, Try.ntmps78
  go_wp2_with (at_builtin; refine wpList_append_run rfl _ _ 32 32 rfl _ _ rfl rfl r1 ?_)
  go_wp2
  go_ret
  exact ⟨_, rfl, O1.out, b1⟩

/-- The row behind a value of one's own that isn't empty. -/
theorem Fr.rf {w : World} {S : Nat} {v : Value} {ys : List Nat} (h : Fr w S v ys) (h0 : ys ≠ []) : ∃ g c, v = .slice (some ⟨g, 0, none⟩) ys.length c ∧ Rf w S g c ys.length (fun j => ys.getD j 0) := by
  have e : seg (fun j => ys.getD j 0) 0 ys.length = ys := by
    refine List.ext_getElem (seg_length _ _ _) fun j h1 h2 => ?_
    rw [seg_length] at h1
    have := seg_getD (fun j => ys.getD j 0) j ys.length 0 h1
    rw [Nat.zero_add] at this
    simp only [List.getD_eq_getElem?_getD, List.getElem?_eq_getElem h1, Option.getD_some] at this
    rw [← this]
    rw [List.getElem?_eq_getElem (by rw [seg_length]; exact h1)]
    rfl
  rcases h.2 with ⟨_, hl⟩ | ⟨g, c, cur, hv, hr⟩
  · exact absurd (List.eq_nil_of_length_eq_zero hl) h0
  · refine ⟨g, c, hv, ?_⟩
    unfold Rf
    rw [e, ← hv]
    exact h
end Go.Proofs.Ytmjenemjbpimcaa
/- The reference's order of floats. -/
namespace Go.Proofs.Ytmjenemjbpimcaa
open Go.RowKit Ieee

/-- The reference's bits: all NaN as one. -/
def nb (x : Nat) : Nat := if nanB x = true then 9221120237041090561 else x
theorem nan_iff (x : Nat) : nanB x = true ↔ 0x7ff0000000000000 < x % 2 ^ 63 := by
  rw [nanB_eq]
  exact decide_eq_true_iff
end Go.Proofs.Ytmjenemjbpimcaa
/- The reference's sorted list. -/
namespace Go.Proofs.Ytmjenemjbpimcaa
open Go.RowKit

/-- A sorted list of one's own. -/
def So (w : World) (xs : List Nat) (r : Ending) (w' : World) : Prop := ∃ v ys, r = .returned v ∧ Fr w' w.heap.size v ys ∧ Sim ky xs ys ∧ Up ky ys ∧ Wd ys ∧ ys.length = xs.length ∧ Below w.heap.size w w'
theorem FAt.take {w : World} {g o : Nat} {xs : List Nat} (h : FAt w g o xs) (k : Nat) : FAt w g o (xs.take k) := fun j hj => by
  have hj2 : j < xs.length ∧ j < k := by simp at hj; omega
  rw [h j hj2.1]
  simp [List.getD, hj2.2]
theorem FAt.drop {w : World} {g o : Nat} {xs : List Nat} (h : FAt w g o xs) (k : Nat) : FAt w g (o + k) (xs.drop k) := fun j hj => by
  have hj2 : k + j < xs.length := by simp at hj; omega
  rw [Nat.add_assoc, h (k + j) hj2]
  simp [List.getD, List.getElem?_drop]

theorem Fr.low {w : World} {S S' : Nat} {v : Value} {ys : List Nat} (h : Fr w S v ys) (hs : S' ≤ S) : Fr w S' v ys := by
  refine ⟨h.1, ?_⟩
  rcases h.2 with h0 | ⟨g, cap, cur, hv, hB, r⟩
  · exact .inl h0
  · exact .inr ⟨g, cap, cur, hv, Nat.le_trans hs hB, r⟩
def slen : Value → Nat
  | .slice _ n _ => n
  | _ => 0
/-- The merging: what has come and what is left. -/
def Ms (xs out ra rb : List Nat) (L : Nat) : Prop := Sim ky xs (out ++ (ra ++ rb)) ∧ Up ky out ∧ Up ky ra ∧ Up ky rb ∧ (∀ x ∈ out, ∀ y ∈ ra ++ rb, ky x ≤ ky y) ∧ Wd out ∧ Wd ra ∧ Wd rb ∧ out.length + ra.length + rb.length = L
theorem Wd.app {xs ys : List Nat} (h1 : Wd xs) (h2 : Wd ys) : Wd (xs ++ ys) := fun j hj => by
  by_cases h : j < xs.length
  · have := h1 j h
    simpa [List.getD, List.getElem?_append, h] using this
  · have := h2 (j - xs.length) (by simp at hj; omega)
    simpa [List.getD, List.getElem?_append, h] using this
theorem Wd.tail {x : Nat} {xs : List Nat} (h : Wd (x :: xs)) : Wd xs := fun j hj => by
  have := h (j + 1) (by simp; omega)
  simpa using this
theorem Wd.head {x : Nat} {xs : List Nat} (h : Wd (x :: xs)) : x < 18446744073709551616 := h 0 (by simp)
theorem Wd.one {x : Nat} (h : x < 18446744073709551616) : Wd [x] := fun j hj => by
  have e : j = 0 := by simp at hj; omega
  subst e
  exact h
theorem up_push {out : List Nat} {x : Nat} (h : Up ky out) (h2 : ∀ z ∈ out, ky z ≤ ky x) : Up ky (out ++ [x]) :=
  List.pairwise_append.2 ⟨h, List.pairwise_singleton _ _, fun a ha b hb => by rw [List.mem_singleton.1 hb]; exact h2 a ha⟩
theorem Ms.left {xs out ra rb : List Nat} {x L : Nat} (h : Ms xs out (x :: ra) rb L) (hx : ∀ y ∈ rb, ky x ≤ ky y) : Ms xs (out ++ [x]) ra rb L := by
  obtain ⟨h1, h2, h3, h4, h5, h6, h7, h8, h9⟩ := h
  refine ⟨by simpa using h1, up_push h2 fun z hz => h5 z hz x (by simp), (List.pairwise_cons.1 h3).2, h4, fun z hz y hy => ?_, h6.app (Wd.one h7.head), h7.tail, h8, by simp at h9 ⊢; omega⟩
  rcases List.mem_append.1 hz with hz | hz
  · exact h5 z hz y (by rcases List.mem_append.1 hy with h | h <;> simp [h])
  · rw [List.mem_singleton.1 hz]
    rcases List.mem_append.1 hy with h | h
    · exact (List.pairwise_cons.1 h3).1 y h
    · exact hx y h
theorem Ms.right {xs out ra rb : List Nat} {y L : Nat} (h : Ms xs out ra (y :: rb) L) (hx : ∀ x ∈ ra, ky y < ky x) : Ms xs (out ++ [y]) ra rb L := by
  obtain ⟨h1, h2, h3, h4, h5, h6, h7, h8, h9⟩ := h
  refine ⟨?_, up_push h2 fun z hz => h5 z hz y (by simp), h3, (List.pairwise_cons.1 h4).2, fun z hz u hu => ?_, h6.app (Wd.one h8.head), h7, h8.tail, by simp at h9 ⊢; omega⟩
  · have e : Sim ky (out ++ (ra ++ y :: rb)) (out ++ [y] ++ (ra ++ rb)) := by
      have hs : Sim ky (ra ++ [y]) ([y] ++ ra) := Sim.swap _ _ fun a ha b hb => by
        rw [List.mem_singleton.1 hb]
        have := hx a ha
        omega
      have := (Sim.refl (k := ky) out).append (hs.append (Sim.refl rb))
      simpa using this
    exact h1.trans e
  · rcases List.mem_append.1 hz with hz | hz
    · exact h5 z hz u (by rcases List.mem_append.1 hu with h | h <;> simp [h])
    · rw [List.mem_singleton.1 hz]
      rcases List.mem_append.1 hu with h | h
      · exact Int.le_of_lt (hx u h)
      · exact (List.pairwise_cons.1 h4).1 u h
theorem Fm.tail {w : World} {g o : Nat} {x : Nat} {xs : List Nat} (hg : g < w.heap.size) (h : FAt w g o (x :: xs)) : Fm w (some ⟨g, o + 1, none⟩) xs := .inr ⟨g, o + 1, rfl, hg, fun j hj => by
  have := h (j + 1) (by simp; omega)
  rw [Nat.add_assoc, Nat.add_comm 1 j]
  simpa using this⟩
theorem FAt.head {w : World} {g o : Nat} {x : Nat} {xs : List Nat} (h : FAt w g o (x :: xs)) : w.cell? ⟨g, o, none⟩ = some (.float .f64 x) := by
  have := h 0 (by simp)
  simpa using this

end Go.Proofs.Ytmjenemjbpimcaa
/- A part of a whole number: rank, floor, rest. -/
namespace Go.Proofs.Ytmjenemjbpimcaa
open Ieee

/-- A number that isn't below 0 and at most N, by its units. -/
def Nn (x N : Nat) : Prop := ∃ s m i, Ieee.double.read x = .number s m i ∧ (s = true → m = 0) ∧ m * 2 ^ (i + 1074).toNat ≤ N * U
theorem Nn.num {x N : Nat} (h : Nn x N) : nanB x = false := by
  obtain ⟨s, m, i, hr, _⟩ := h
  unfold nanB
  rw [hr]; rfl
theorem uv_one : uv 4607182418800017408 = U := by
  have h := read_uv 4607182418800017408 _ _ _ rdOne
  rw [show 4607182418800017408 % 2 ^ 63 = 4607182418800017408 by decide] at h
  rw [← h, ← Nat.pow_add, U_eq, show 52 + ((-52 : Int) + 1074).toNat = 1074 by decide]
theorem part_nn (q : Nat) (hn : nanB q = false) (h0 : 0 ≤ ky q) (h1 : ky q ≤ 4607182418800017408) : Nn q 1 := by
  have hk : ky q = sv (sgn q) (q % 2 ^ 63) := if_neg (by rw [hn]; decide)
  rw [hk] at h0 h1
  have hm : q % 2 ^ 63 ≤ 4607182418800017408 := by
    unfold sv at h0 h1
    cases hs : sgn q <;> rw [hs] at h0 h1 <;> simp at h0 h1 <;> omega
  obtain ⟨s, m, i, hr⟩ := read_fin q (by omega)
  have hs := (read_sign q).1 s m i hr
  have hu := read_uv q s m i hr
  refine ⟨s, m, i, hr, fun hst => ?_, ?_⟩
  · rw [← hs.1, hst] at h0
    unfold sv at h0
    rw [if_pos rfl] at h0
    have hz : q % 2 ^ 63 = 0 := by omega
    rw [hz] at hu
    have h00 : uv 0 = 0 := rfl
    rw [h00] at hu
    rcases Nat.mul_eq_zero.1 hu with h | h
    · exact h
    · exact absurd h (Nat.ne_of_gt (Nat.two_pow_pos _))
  · rw [hu, Nat.one_mul, ← uv_one]
    exact uv_mono _ _ hm
theorem iw_nn (N : Nat) (hN : N ≤ 9007199254740992) : ∃ m i, Ieee.double.read (iw (N : Int)) = .number false m i ∧ m * 2 ^ (i + 1074).toNat = N * U := by
  obtain ⟨m, i, hr, hu, _⟩ := iw_read (N : Int) (by omega) (by omega)
  rw [show decide ((N : Int) < 0) = false from decide_eq_false (by omega)] at hr hu
  refine ⟨m, i, hr, ?_⟩
  unfold un at hu
  rw [signed_eq, if_neg (by decide), Int.one_mul, ← U_eq, ← Int.natCast_mul] at hu
  exact Int.ofNat.inj hu
/-- The rank. -/
theorem rank_nn (q N : Nat) (hq : Nn q 1) (hN : N < 2 ^ 53) : ∃ y, floatBits .mul .f64 q (iw (N : Int)) = some y ∧ Nn y N := by
  obtain ⟨s, m, i, hr, hs, hb⟩ := hq
  obtain ⟨mc, ic, hc, hcu⟩ := iw_nn N (by omega)
  have e : floatBits .mul .f64 q (iw (N : Int)) = ((Ieee.double.read q).product (Ieee.double.read (iw (N : Int)))).map Ieee.double.write := rfl
  rw [e, hr, hc]
  refine ⟨Ieee.double.nearest (s ^^ false) (m * mc) (i + ic), rfl, ?_⟩
  rw [Bool.xor_false]
  by_cases hz : m * mc = 0
  · rw [hz, nearest_zero]
    exact ⟨s, 0, -1074, read_zero s, fun _ => rfl, by rw [Nat.zero_mul]; exact Nat.zero_le _⟩
  · have hsf : s = false := by
      cases s
      · rfl
      · exact absurd (by rw [hs rfl, Nat.zero_mul]) hz
    subst hsf
    have hi := (read_place q _ m i hr).1
    have hic := (read_place _ _ mc ic hc).1
    have hN0 : N ≠ 0 := fun h => hz (by
      rw [h, Nat.zero_mul] at hcu
      rcases Nat.mul_eq_zero.1 hcu with h | h
      · rw [h, Nat.mul_zero]
      · exact absurd h (Nat.ne_of_gt (Nat.two_pow_pos _)))
    obtain ⟨t, m2, i2, hr2, hb2⟩ := near_bd false (m * mc) (i + ic) N hN0 hN (by omega) (by
      have e1 : (i + ic + 2148).toNat = (i + 1074).toNat + (ic + 1074).toNat := by omega
      rw [e1, Nat.pow_add, Nat.mul_mul_mul_comm, hcu]
      have := Nat.mul_le_mul_right (N * U) hb
      rw [Nat.one_mul] at this
      refine Nat.le_trans this ?_
      rw [Nat.mul_comm U, Nat.mul_assoc]
      exact Nat.le_refl _)
    refine ⟨t, m2, i2, hr2, fun ht => ?_, hb2⟩
    exfalso
    have := ((read_sign _).1 t m2 i2 hr2).1
    rw [ht] at this
    rw [nearest_rung _ _ _ hz, word_pos] at this
    have hle : rung (m * mc) (i + ic) ≤ 0x7ff0000000000000 := by rw [rung_eq]; exact Nat.min_le_right _ _
    unfold sgn at this
    rw [Nat.div_eq_of_lt (by omega)] at this
    cases this
/-- The floor of a number that isn't below 0. -/
theorem floor_nn (z N : Nat) (hz : Nn z N) (hN : N < 2 ^ 53) : ∃ K : Nat, floatToIntVal .f64 (flr z) .i64 = some (K : Int) ∧ K ≤ N ∧ ∃ s m i, Ieee.double.read (flr z) = .number s m i := by
  obtain ⟨s, m, i, hr, hs, hb⟩ := hz
  have hi := (read_place z s m i hr).1
  obtain ⟨c, hc⟩ : ∃ c, Toward.down.cut s (m <<< i.toNat) (-i).toNat = c := ⟨_, rfl⟩
  have hcN : c ≤ N ∧ (s = true → c = 0) := by
    have h0 : s = true → c = 0 := fun h => by
      rw [← hc, hs h, Nat.zero_shiftLeft, down_form]
      simp
    refine ⟨?_, h0⟩
    cases s
    · have h1 : c ≤ m <<< i.toNat / 2 ^ (-i).toNat := by
        rw [← hc, down_form]
        simp only [Bool.false_and, Bool.toNat_false, Nat.add_zero]
        generalize m <<< i.toNat = n
        generalize (-i).toNat = d
        by_cases h : d ≤ n.log2 + 2
        · rw [Nat.min_eq_left h, Nat.shiftLeft_eq, Nat.one_mul]
          exact Nat.le_refl _
        · have e : (1 : Nat) <<< min d (n.log2 + 2) = 2 ^ (n.log2 + 2) := by rw [Nat.min_eq_right (by omega), Nat.shiftLeft_eq, Nat.one_mul]
          have h1 := Nat.lt_log2_self (n := n)
          have h2 : 2 ^ (n.log2 + 1) ≤ 2 ^ (n.log2 + 2) := pow_le _ _ (by omega)
          rw [e, Nat.div_eq_of_lt (show n < 2 ^ (n.log2 + 2) by omega)]
          exact Nat.zero_le _
      refine Nat.le_trans h1 ?_
      refine Nat.div_le_of_le_mul ?_
      rw [Nat.shiftLeft_eq]
      have hp : 0 < 2 ^ (min i 0 + 1074).toNat := Nat.two_pow_pos _
      refine Nat.le_of_mul_le_mul_right ?_ hp
      have e1 : m * 2 ^ i.toNat * 2 ^ (min i 0 + 1074).toNat = m * 2 ^ (i + 1074).toNat := by
        rw [Nat.mul_assoc, ← Nat.pow_add]
        congr 2
        omega
      have e2 : 2 ^ (-i).toNat * N * 2 ^ (min i 0 + 1074).toNat = N * U := by
        rw [Nat.mul_comm (2 ^ (-i).toNat) N, Nat.mul_assoc, ← Nat.pow_add, U_eq]
        congr 2
        omega
      rw [e1, e2]
      exact hb
    · rw [h0 rfl]; exact Nat.zero_le _
  have hf : flr z = Ieee.double.nearest s c 0 := by
    unfold flr
    rw [hr]
    show Ieee.double.nearest s (Toward.down.cut s (m <<< i.toNat) (-i).toNat) 0 = _
    rw [hc]
  have key : (FloatKind.f64.decode (flr z)).toInt .zero = some (Ieee.signed s c 0) ∧ ∃ s m i, Ieee.double.read (flr z) = .number s m i := by
    show (Ieee.double.read (flr z)).toInt .zero = _ ∧ _
    rw [hf]
    by_cases h0 : c = 0
    · subst h0
      rw [nearest_zero, read_zero]
      exact ⟨rfl, _, _, _, rfl⟩
    · obtain ⟨k, hk, hr2, _⟩ := read_near s c 0 h0 (by omega) (by decide) (by
        have := (Nat.log2_lt h0).2 (show c < 2 ^ 53 by omega)
        omega)
      rw [hr2]
      refine ⟨?_, _, _, _, rfl⟩
      simp only [Datum.toInt, Datum.integral]
      rw [show ((0 : Int) - (k : Int)).toNat = 0 by omega, show (-((0 : Int) - (k : Int))).toNat = k by omega, Nat.shiftLeft_zero, zero_exact]
  refine ⟨c, ?_, hcN.1, key.2⟩
  have hv : Ieee.signed s c 0 = (c : Int) := by
    rw [signed_eq]
    cases s
    · simp
    · rw [hcN.2 rfl]; rfl
  unfold floatToIntVal
  rw [key.1, hv]
  have hx : IntKind.i64.min = -9223372036854775808 := by decide
  have hy : IntKind.i64.max = 9223372036854775807 := by decide
  simp only [hx, hy]
  exact if_pos (by omega)
/-- All of it. -/
theorem quant_parts (q N : Nat) (hn : nanB q = false) (h0 : 0 ≤ ky q) (h1 : ky q ≤ 4607182418800017408) (hN : N < 2 ^ 53) :
    ∃ y z K, floatBits .mul .f64 q (iw (N : Int)) = some y ∧ nanB y = false ∧ floatToIntVal .f64 (flr y) .i64 = some ((K : Nat) : Int) ∧ K ≤ N ∧ floatBits .sub .f64 y (flr y) = some z := by
  obtain ⟨y, e1, ny⟩ := rank_nn q N (part_nn q hn h0 h1) hN
  obtain ⟨K, e2, hK, s, m, i, hr⟩ := floor_nn y N ny hN
  have hy := ny.num
  obtain ⟨s1, m1, i1, hr1, _⟩ := ny
  exact ⟨y, _, K, e1, hy, e2, hK, sub_fin _ _ _ _ _ _ _ _ hr1 hr⟩
end Go.Proofs.Ytmjenemjbpimcaa
