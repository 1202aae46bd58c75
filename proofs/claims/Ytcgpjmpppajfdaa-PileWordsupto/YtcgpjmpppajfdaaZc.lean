
/- PileWords: the law's walk. -/
import Derived.Test.YtcgpjmpppajfdaaZb
import Derived.Deep.RegionWith
import Derived.Deep.DeepFit
namespace Go.Proofs.Ytcgpjmpppajfdaa.Ws
open Go.RowKit

abbrev bb : ByteArray := ⟨#[98, 98]⟩
abbrev b1 : ByteArray := ⟨#[97]⟩
abbrev x2 : Nat → ByteArray := fun j => if j = 0 then bb else b1
theorem srt2 : srt x2 2 = [b1, bb] := by kernel_rfl
theorem two_in (w : World) : Iml (w.alloc (.cells #[.string bb, .string b1] 9)) (some ⟨w.heap.size, 0, none⟩) x2 2 := by
  refine .inr ⟨w.heap.size, 0, rfl, by simp, fun j hj => ?_⟩
  unfold World.cell?
  rw [show (w.alloc (.cells #[.string bb, .string b1] 9)).heap[w.heap.size]? = some (.cells #[.string bb, .string b1] 9) from heap_alloc_new w _]
  have : j = 0 ∨ j = 1 := by omega
  rcases this with rfl | rfl <;> rfl
theorem sorted_w (a : Option Addr) (c n : Nat) (xs : Nat → ByteArray) (w : World) (hf : Iml w a xs n) (hl : n ≤ 1048576) :
    Calls Try.prog 21 #[.slice a n c, lvK] w fun r w' => ∃ a' c', r = .returned (.slice a' n c') ∧ Iml w' a' (lk (srt xs n)) n ∧ n ≤ c' ∧ (a' = none → c' = 0) ∧ Below w.heap.size w w' := by
  refine (sorted_any AW lvK lvK fW (new_some 22 fW) aheadK a c n xs w hf (by omega)).mono ?_
  rintro r w' ⟨v, rfl, ir, b⟩
  have ir' : Ir w' w.heap.size v n (lk (srt xs n)) := ir
  obtain ⟨a', c', rfl, im, hc⟩ := ir'.iml
  refine ⟨a', c', rfl, im, hc, fun e => ?_, b⟩
  rcases ir'.2 with ⟨e1, _⟩ | ⟨g, cap, cur, hv, _⟩
  · cases e1; rfl
  · cases hv; cases e
theorem best_w (a : Option Addr) (c n : Nat) (xs : Nat → ByteArray) (kk : Int) (w : World) (hf : Iml w a xs n) (hl : n ≤ 1048576) :
    Calls Try.prog 25 #[.slice a n c, .int .i64 kk, lvK] w fun r w' => ∃ a' c', r = .returned (.slice a' ((srt xs n).take kk.toNat).length c') ∧ Iml w' a' (lk ((srt xs n).take kk.toNat)) ((srt xs n).take kk.toNat).length ∧ Below w.heap.size w w' := by
  refine (best_any AW KW lvK lvK fW (new_some 22 fW) (order_some 22) aheadK isK a c n xs kk w (srt xs n) rfl hf (by omega)).mono ?_
  rintro r w' ⟨v, rfl, ir, b⟩
  obtain ⟨a', c', rfl, im, hc⟩ := ir.iml
  exact ⟨a', c', rfl, im, b⟩
theorem of_w (a : Option Addr) (c n m : Nat) (xs : Nat → ByteArray) (w : World) (hf : Iml w a xs n) (hl : n ≤ 1048576) (L : List ByteArray) (hL : ofL m xs n = L) :
    Calls Try.prog 24 #[.slice a n c, .int .i64 (m : Int)] w fun r w' => ∃ a' c', r = .returned (.slice a' L.length c') ∧ Iml w' a' (lk L) L.length ∧ Below w.heap.size w w' := by
  refine (ofLength_any a c n m xs w hf (by omega)).mono ?_
  rintro r w' ⟨v, rfl, ir, b⟩
  rw [hL] at ir
  obtain ⟨a', c', rfl, im, hc⟩ := ir.iml
  exact ⟨a', c', rfl, im, b⟩
theorem ofL_srt (m : Nat) (xs : Nat → ByteArray) (n : Nat) : ofL m (lk (srt xs n)) n = ofL m xs n := by
  unfold ofL
  have := il_lk (srt xs n)
  rw [srt_len] at this
  rw [this]
  exact srt_of xs n m
theorem Iml.take {w : World} {a : Option Addr} {f : Nat → ByteArray} {n k : Nat} (h : Iml w a f n) (hk : k ≤ n) : Iml w a f k := by
  rcases h with h | ⟨g, o, rfl, hg, hat⟩
  · exact .inl (by omega)
  · exact .inr ⟨g, o, rfl, hg, fun j hj => hat j (by omega)⟩
theorem Iml.congr {w : World} {a : Option Addr} {f g : Nat → ByteArray} {n : Nat} (h : Iml w a f n) (e : ∀ j, j < n → f j = g j) : Iml w a g n := by
  rcases h with h | ⟨b, o, rfl, hb, hat⟩
  · exact .inl h
  · exact .inr ⟨b, o, rfl, hb, fun j hj => by rw [← e j hj]; exact hat j hj⟩
theorem best_w2 (a : Option Addr) (c n : Nat) (xs : Nat → ByteArray) (kk : Int) (w : World) (hf : Iml w a xs n) (hl : n ≤ 1048576) (kn : Nat) (h : kn = min kk.toNat n) :
    Calls Try.prog 25 #[.slice a n c, .int .i64 kk, lvK] w fun r w' => ∃ a' c', r = .returned (.slice a' kn c') ∧ Iml w' a' (lk (srt xs n)) kn ∧ Below w.heap.size w w' := by
  refine (best_w a c n xs kk w hf hl).mono ?_
  rintro r w' ⟨a', c', rfl, im, b⟩
  have e : ((srt xs n).take kk.toNat).length = kn := by rw [List.length_take, srt_len, h]
  rw [e] at im ⊢
  refine ⟨a', c', rfl, im.congr fun j hj => ?_, b⟩
  unfold lk
  simp only [List.getD]
  rw [List.getElem?_take_of_lt (by omega)]
theorem things_srt (a : Option Addr) (c : Nat) (xs : Nat → ByteArray) (n : Nat) : Li.things (a, n, c, lk (srt xs n)) = srt xs n := by
  have := il_lk (srt xs n)
  rw [srt_len] at this
  exact this
theorem merge_w (xs : Nat → ByteArray) (m k : Nat) (a4 a5 : Option Addr) (c4 c5 : Nat) (W : World) (im4 : Iml W a4 (lk (srt xs m)) m) (h4 : m ≤ c4) (im5 : Iml W a5 (lk (srt (fun j => xs (m + j)) k)) k) (h5 : k ≤ c5) (hb : m + k ≤ 1048576) :
    Calls Try.prog 27 #[lvK, .slice (some ⟨W.heap.size, 0, none⟩) 3 3] (W.alloc (.cells #[.slice a4 m c4, .slice none 0 0, .slice a5 k c5] 41)) fun r w' => ∃ a' c', r = .returned (.slice a' (m + k) c') ∧ Iml w' a' (lk (srt xs (m + k))) (m + k) ∧ Below W.heap.size W w' := by
  obtain ⟨q, hq⟩ : ∃ q : Nat → Li.Ls, q = fun i => if i = 0 then (a4, m, c4, lk (srt xs m)) else if i = 1 then (none, 0, 0, fun _ => ⟨#[]⟩) else (a5, k, c5, lk (srt (fun j => xs (m + j)) k)) := ⟨_, rfl⟩
  have q0 : q 0 = (a4, m, c4, lk (srt xs m)) := by rw [hq]; rfl
  have q1 : q 1 = (none, 0, 0, fun _ => ⟨#[]⟩) := by rw [hq]; rfl
  have q2 : q 2 = (a5, k, c5, lk (srt (fun j => xs (m + j)) k)) := by rw [hq]; rfl
  have bA : Below W.heap.size W (W.alloc (.cells #[.slice a4 m c4, .slice none 0 0, .slice a5 k c5] 41)) := (Below.refl _ W).alloc (Nat.le_refl _) _
  have hL : Li.Lml (W.alloc (.cells #[.slice a4 m c4, .slice none 0 0, .slice a5 k c5] 41)) (some ⟨W.heap.size, 0, none⟩) q 3 := by
    refine .inr ⟨W.heap.size, 0, rfl, by simp, fun j hj => ?_⟩
    have hc : (W.alloc (.cells #[.slice a4 m c4, .slice none 0 0, .slice a5 k c5] 41)).heap[W.heap.size]? = some (.cells #[.slice a4 m c4, .slice none 0 0, .slice a5 k c5] 41) := heap_alloc_new W _
    have : j = 0 ∨ j = 1 ∨ j = 2 := by omega
    rcases this with rfl | rfl | rfl
    · rw [q0]
      exact ⟨by unfold World.cell?; rw [hc]; rfl, im4.below bA, h4⟩
    · rw [q1]
      exact ⟨by unfold World.cell?; rw [hc]; rfl, .inl rfl, Nat.le_refl _⟩
    · rw [q2]
      exact ⟨by unfold World.cell?; rw [hc]; rfl, im5.below bA, h5⟩
  have Q0 : Li.QL q 0 = srt xs m := by unfold Li.QL; rw [q0]; exact things_srt _ _ _ _
  have Q1 : Li.QL q 1 = [] := by unfold Li.QL; rw [q1]; rfl
  have Q2 : Li.QL q 2 = srt (fun j => xs (m + j)) k := by unfold Li.QL; rw [q2]; exact things_srt _ _ _ _
  have hT : Li.tot (Li.QL q) 3 = m + k := by
    show 0 + (Li.QL q 0).length + (Li.QL q 1).length + (Li.QL q 2).length = m + k
    rw [Q0, Q1, Q2, srt_len, srt_len]
    simp
  refine (Li.merge_K (some ⟨W.heap.size, 0, none⟩) 3 3 q _ hL (by omega) (by omega)).mono ?_
  rintro r w' ⟨v, rfl, ir, b⟩
  rw [hT, srt_cut xs m k _ Q0 Q1 Q2] at ir
  obtain ⟨a', c', rfl, im, _⟩ := ir.iml
  exact ⟨a', c', rfl, im, bA.trans (b.mono bA.size)⟩
theorem Iml.drop {w : World} {g o n m : Nat} {f : Nat → ByteArray} (h : Iml w (some ⟨g, o, none⟩) f n) (hm : m ≤ n) : Iml w (some ⟨g, o + m, none⟩) (fun j => f (m + j)) (n - m) := by
  rcases h with h | ⟨g', o', e, hg, hat⟩
  · exact .inl (by omega)
  · cases e
    exact .inr ⟨g, o + m, rfl, hg, fun j hj => by rw [Nat.add_assoc]; exact hat (m + j) (by omega)⟩
set_option maxHeartbeats 4000000 in
set_option maxRecDepth 100000 in
theorem words_walk (a : Option Addr) (n c : Nat) (xs : Nat → ByteArray) (kk cut : Int) (w : World) (hI : Iml w a xs n) (hc : n ≤ c) (ha : 0 < c → ∃ g o, a = some ⟨g, o, none⟩) (hn : n + 1 ≤ 1048576) (k1 : -9223372036854775808 ≤ kk) (k2 : kk ≤ 9223372036854775807) (q1 : -9223372036854775808 ≤ cut) (q2 : cut ≤ 9223372036854775807) :
    Calls Try.prog 5 #[.slice a n c, .int .i64 kk, .int .i64 cut] w fun e w' => e = .returned (.bool true) ∧ Below w.heap.size w w' := by
  have b0 : Below w.heap.size w (w.alloc (.cells #[.string bb, .string b1] 9)) := (Below.refl _ w).alloc (Nat.le_refl _) _
  have kT := sorted_w (some ⟨w.heap.size, 0, none⟩) 2 2 x2 _ (two_in w) (by omega)
  rw [srt2] at kT
  have HI : Hid (Iml w a xs n) := hI
  have HB0 : Hid (Below w.heap.size w (w.alloc (.cells #[.string bb, .string b1] 9))) := b0
  have HK : Hid ((-9223372036854775808 ≤ kk ∧ kk ≤ 9223372036854775807) ∧ -9223372036854775808 ≤ cut ∧ cut ≤ 9223372036854775807) := ⟨⟨k1, k2⟩, q1, q2⟩
  have HC : Hid (n ≤ c ∧ (0 < c → ∃ g o, a = some ⟨g, o, none⟩)) := ⟨hc, ha⟩
  clear hI b0 k1 k2 q1 q2 hc ha
  go_enter Try.func5, Try.ntmps5
  go_wp2_with fail
  go_fit kT
  rintro r w1 ⟨a1, c1, rfl, im1, hc1, hx1, b1'⟩
  obtain ⟨g1, o1, rfl, e1⟩ := im1.at 0 (by omega)
  rw [Nat.add_zero] at e1
  obtain ⟨z, hz⟩ : ∃ z, lk [b1, bb] 0 = z := ⟨_, rfl⟩
  rw [hz] at e1
  have hz2 : (z.toList == [97]) = true := by rw [← hz]; kernel_rfl
  have hb1 : Below w.heap.size w w1 := HB0.out.trans (b1'.mono HB0.out.size)
  have kS := sorted_w a c n xs w1 (HI.out.below hb1) (by omega)
  have HB1 : Hid (Below w.heap.size w w1) := hb1
  clear im1 b1' hb1 kT HB0 hx1 hz
  go_wp2_with fail
  go_fit kS
  rintro r w2 ⟨a2, c2, rfl, im2, hc2, ha2, b2⟩
  have hb2 : Below w.heap.size w w2 := HB1.out.trans (b2.mono HB1.out.size)
  have IM2 : Hid (Iml w2 a2 (lk (srt xs n)) n) := im2
  have HC2 : Hid (n ≤ c2 ∧ (a2 = none → c2 = 0)) := ⟨hc2, ha2⟩
  have HB2 : Hid (Below w.heap.size w w2) := hb2
  have HLE : Hid (∀ j, j + 1 < n → (lk (srt xs n) j).size ≤ (lk (srt xs n) (j + 1)).size) := srt_le xs n
  have HOF : Hid (∀ m, ofL m (lk (srt xs n)) n = ofL m xs n) := fun m => ofL_srt m xs n
  clear im2 hc2 ha2 b2 hb2 kS e1 hz2
  go_wp2
  go_loopw [34] (fun ivv w' => ∃ i : Nat, ivv = .int .i64 (i : Int) ∧ i ≤ n ∧ Hid (Below w2.heap.size w2 w')) (fun ivv _ => n - (RowKit.intOf ivv).toNat)
  case atStart => exact ⟨0, rfl, by omega, Below.refl _ _⟩
  case round =>
    obtain ⟨i, rfl, hi, hb⟩ := hrel
    by_cases hlt : i < n
    · have hii : (i : Int) < n := by omega
      have HIN : Hid (i + 1 ≤ n) := hlt
      obtain ⟨g2, o2, rfl, x0⟩ := IM2.out.at i hlt
      have e0 := (Kp.of (M := fun _ => False) hb.out).cell x0 id
      have hbw : Below w.heap.size w wr := HB2.out.trans (hb.out.mono HB2.out.size)
      obtain ⟨x, hx⟩ : ∃ x, lk (srt xs n) i = x := ⟨_, rfl⟩
      rw [hx] at e0
      obtain ⟨L, hL⟩ : ∃ L, L = ofL x.size xs n := ⟨_, rfl⟩
      have kO1 := of_w (some ⟨g2, o2, none⟩) c2 n x.size _ wr (IM2.out.below hb.out) (by omega) L (by rw [hL]; exact HOF.out x.size)
      have kO2 := fun W (hW : Below wr.heap.size wr W) => of_w a c n x.size xs W (HI.out.below (hbw.trans (hW.mono hbw.size))) (by omega) L hL.symm
      have HLL : Hid (L.length ≤ 1152921504606846976) := by
        have := ofL_le x.size xs n
        rw [← hL] at this
        show _ ≤ _
        omega
      have HX : Hid (lk (srt xs n) i = x) := hx
      have HB : Hid (Below w2.heap.size w2 wr) := hb
      have HW : Hid (w2.heap.size ≤ wr.heap.size) := hb.out.size
      clear hx x0 hb hbw hL
      rcases Nat.eq_zero_or_pos i with hz | hz
      · subst hz
        have e0' : wr.cell? ⟨g2, o2, none⟩ = some (.string x) := e0
        clear e0
        go_wp2_with fail
        go_fit kO1
        rintro r w3 ⟨a3, c3, rfl, im3, b3⟩
        have k2' := kO2 w3 b3
        clear kO1 kO2
        go_wp2_with fail
        go_fit k2'
        rintro r w4 ⟨a4, c4, rfl, im4, b4⟩
        have kE := same_true a3 a4 c3 c4 L.length (lk L) w4 (im3.below b4) im4 HLL.out
        have HB4 : Hid (Below w2.heap.size w2 w4) := HB.out.trans ((b3.mono HW.out).trans (b4.mono (Nat.le_trans HW.out b3.size)))
        have HW4 : Hid (w2.heap.size ≤ w4.heap.size) := Nat.le_trans (Nat.le_trans HW.out b3.size) b4.size
        clear im3 im4 b3 b4 k2'
        go_wp2_with fail
        go_fit kE
        rintro r w5 ⟨rfl, b5⟩
        have HB5 : Hid (Below w2.heap.size w2 w5) := HB4.out.trans (b5.mono HW4.out)
        clear b5 kE
        go_wp2
        exact ⟨⟨1, by go_num, HIN.out, HB5⟩, by simp [RowKit.intOf]; omega⟩
      · obtain ⟨j, hij⟩ : ∃ j, j + 1 = i := ⟨i - 1, by omega⟩
        obtain ⟨g2', o2', hg, y0⟩ := IM2.out.at j (by omega)
        cases hg
        have f0 := (Kp.of (M := fun _ => False) HB.out).cell y0 id
        obtain ⟨y, hy⟩ : ∃ y, lk (srt xs n) j = y := ⟨_, rfl⟩
        rw [hy] at f0
        have hle : y.size ≤ x.size := by rw [← hy, ← HX.out, ← hij]; exact HLE.out j (by omega)
        have hji : (i : Int) - 1 = (j : Int) := by omega
        have hj0 : (0 : Int) < (i : Int) := by omega
        have hjn : (j : Int) < n := by omega
        have hjz : ((i : Int) == 0) = false := by simp; omega
        clear y0 hy HX hij
        by_cases hs : y.size < x.size
        · have hg1 : ¬ (x.size : Int) < (y.size : Int) := by omega
          have hg2 : (y.size : Int) < (x.size : Int) := by omega
          clear hle
          go_wp2_with fail
          go_fit kO1
          rintro r w3 ⟨a3, c3, rfl, im3, b3⟩
          have k2' := kO2 w3 b3
          clear kO1 kO2
          go_wp2_with fail
          go_fit k2'
          rintro r w4 ⟨a4, c4, rfl, im4, b4⟩
          have kE := same_true a3 a4 c3 c4 L.length (lk L) w4 (im3.below b4) im4 HLL.out
          have HB4 : Hid (Below w2.heap.size w2 w4) := HB.out.trans ((b3.mono HW.out).trans (b4.mono (Nat.le_trans HW.out b3.size)))
          have HW4 : Hid (w2.heap.size ≤ w4.heap.size) := Nat.le_trans (Nat.le_trans HW.out b3.size) b4.size
          clear im3 im4 b3 b4 k2'
          go_wp2_with fail
          go_fit kE
          rintro r w5 ⟨rfl, b5⟩
          have HB5 : Hid (Below w2.heap.size w2 w5) := HB4.out.trans (b5.mono HW4.out)
          clear b5 kE
          go_wp2
          exact ⟨⟨i + 1, by go_num, HIN.out, HB5⟩, by simp [RowKit.intOf]; omega⟩
        · have hse : y.size = x.size := by omega
          have hg1 : ¬ (x.size : Int) < (y.size : Int) := by omega
          have hg2 : ¬ (y.size : Int) < (x.size : Int) := by omega
          clear hle hse kO1 kO2
          go_wp2
          exact ⟨⟨i + 1, by go_num, HIN.out, HB⟩, by simp [RowKit.intOf]; omega⟩
    · have hii : ¬ (i : Int) < n := by omega
      have hbw : Below w.heap.size w wr := HB2.out.trans (hb.out.mono HB2.out.size)
      obtain ⟨kn, hkn⟩ : ∃ kn, kn = min kk.toNat n := ⟨_, rfl⟩
      have hbd : Below wr.heap.size wr wr.drew := (Below.refl _ wr).drew
      have kB := best_w2 a c n xs kk wr.drew ((HI.out.below hbw).below hbd) (by omega) kn hkn
      have hkc : (kn : Int) ≤ c2 := by have := HC2.out.1; omega
      have kE := fun a3 c3 W (hW : Iml W a3 (lk (srt xs n)) kn) (hb3 : Below wr.heap.size wr W) => same_true a3 a2 c3 c2 kn (lk (srt xs n)) W hW (((IM2.out.below hb.out).below hb3).take (by omega)) (by omega)
      have HBW : Hid (Below w.heap.size w wr) := hbw
      have HBD : Hid (Below wr.heap.size wr wr.drew) := hbd
      have hcase : (kk < 0 ∧ kn = 0) ∨ (¬ kk < 0 ∧ (n : Int) < kk ∧ kn = n) ∨ (kk = (kn : Int) ∧ kn ≤ n) := by omega
      have HKN : Hid (kn = min kk.toNat n) := hkn
      have HI0 : Hid (Iml wr a2 (lk (srt xs n)) n) := IM2.out.below hb.out
      clear hb hbw hbd hkn
      rcases hcase with ⟨h1, hk⟩ | ⟨h1, h2, hk⟩ | ⟨hk, h2⟩
      · subst hk
        have h2 : ¬ (n : Int) < 0 := by omega
        go_wp2_with fail
        go_region_with (first | (go_at_call 25; go_fit kB; rintro r w3 ⟨a3, c3, rfl, im3, b3⟩; have kE3 := kE a3 c3 w3 im3 (HBD.out.trans (b3.mono HBD.out.size)); have HB3 : Hid (Below w.heap.size w w3) := HBW.out.trans ((HBD.out.trans (b3.mono HBD.out.size)).mono HBW.out.size); have HI3 : Hid (Iml w3 a2 (lk (srt xs n)) n) := HI0.out.below (HBD.out.trans (b3.mono HBD.out.size)); clear im3 b3 kB) | (go_at_call 23; go_fit kE3; rintro r w4 ⟨rfl, b4⟩; have HB4 : Hid (Below w.heap.size w w4) := HB3.out.trans (b4.mono HB3.out.size); have HI4 : Hid (Iml w4 a2 (lk (srt xs n)) n) := HI3.out.below b4; clear b4 kE3))
        have kP := place_any cut (n + 1) w4 HK.out.2.1 HK.out.2.2 (by omega) hn
        have hml := plc_lt cut (n + 1) (by omega)
        generalize plc cut (n + 1) = m at *
        rw [show ((n + 1 : Nat) : Int) = (n : Int) + 1 from rfl] at kP
        go_wp2_with fail
        go_fit kP
        rintro r w5 ⟨rfl, rfl⟩
        have hcc := HC.out.1
        have kS1 := sorted_w a c m xs w5.drew ((HI.out.below (HB4.out.drew)).take (by omega)) (by omega)
        have HD : Hid (Below w.heap.size w w5.drew) := HB4.out.drew
        have HI5 : Hid (Iml w5.drew a2 (lk (srt xs n)) n) := HI4.out.below (Below.refl _ w5).drew
        have hmn : m + (n - m) = n := by omega
        have hmn' : m ≤ n := by omega
        clear kP HB4 HI4
        by_cases hmc : m < c
        · obtain ⟨g, o, hao⟩ : ∃ g o, a = some ⟨g, o, none⟩ := HC.out.2 (by omega)
          have kS2 := fun W (hW : Below w.heap.size w W) => sorted_w (some ⟨g, o + m, none⟩) (c - m) (n - m) (fun j => xs (m + j)) W (Iml.drop (hao ▸ HI.out.below hW) hmn') (by omega)
          subst hao
          go_wp2_with fail
          go_region_with (first | (go_at_call 21; first | (go_fit kS1; rintro r w6 ⟨a6, c6, rfl, im6, h6, _, b6⟩; have B6 : Hid (Below w.heap.size w w6) := HD.out.trans (b6.mono HD.out.size); have I6 : Hid (Iml w6 a2 (lk (srt xs n)) n) := HI5.out.below b6; have kS2' := kS2 w6 B6.out; have IM6 : Hid (Iml w6 a6 (lk (srt xs m)) m ∧ m ≤ c6) := ⟨im6, h6⟩; clear im6 h6 b6 kS1 kS2) | (go_fit kS2'; rintro r w7 ⟨a7, c7, rfl, im7, h7, _, b7⟩; have B7 : Hid (Below w.heap.size w w7) := B6.out.trans (b7.mono B6.out.size); have I7 : Hid (Iml w7 a2 (lk (srt xs n)) n) := I6.out.below b7; have kM := merge_w xs m (n - m) a6 a7 c6 c7 w7 (IM6.out.1.below b7) IM6.out.2 im7 h7 (by omega); rw [hmn] at kM; clear im7 h7 b7 kS2')) | (go_at_call 27; go_fit kM; rintro r w8 ⟨a8, c8, rfl, im8, b8⟩; have B8 : Hid (Below w.heap.size w w8) := B7.out.trans (b8.mono B7.out.size); have kE8 := same_true a8 a2 c8 c2 n (lk (srt xs n)) w8 im8 (I7.out.below b8) (by omega); clear im8 b8 kM))
          all_goals go_wp2_with fail
          all_goals go_fit kE8
          all_goals rintro r w9 ⟨rfl, b9⟩
          all_goals have B9 : Hid (Below w.heap.size w w9) := B8.out.trans (b9.mono B8.out.size)
          all_goals clear b9 kE8
          all_goals go_wp2
          all_goals go_ret
          all_goals exact ⟨rfl, B9.out⟩
        · have hmc' : c = n := by omega
          have hnm : m = n := by omega
          subst hmc' hnm
          have kS2 := fun W (_ : Below w.heap.size w W) => sorted_w a 0 0 (fun j => xs (m + j)) W (.inl rfl) (by omega)
          go_wp2_with fail
          go_region_with (first | (go_at_call 21; first | (go_fit kS1; rintro r w6 ⟨a6, c6, rfl, im6, h6, _, b6⟩; have B6 : Hid (Below w.heap.size w w6) := HD.out.trans (b6.mono HD.out.size); have I6 : Hid (Iml w6 a2 (lk (srt xs m)) m) := HI5.out.below b6; have kS2' := kS2 w6 B6.out; have IM6 : Hid (Iml w6 a6 (lk (srt xs m)) m ∧ m ≤ c6) := ⟨im6, h6⟩; clear im6 h6 b6 kS1 kS2) | (go_fit kS2'; rintro r w7 ⟨a7, c7, rfl, im7, h7, _, b7⟩; have B7 : Hid (Below w.heap.size w w7) := B6.out.trans (b7.mono B6.out.size); have I7 : Hid (Iml w7 a2 (lk (srt xs m)) m) := I6.out.below b7; have kM := merge_w xs m 0 a6 a7 c6 c7 w7 (IM6.out.1.below b7) IM6.out.2 im7 h7 (by omega); rw [Nat.add_zero] at kM; clear im7 h7 b7 kS2')) | (go_at_call 27; go_fit kM; rintro r w8 ⟨a8, c8, rfl, im8, b8⟩; have B8 : Hid (Below w.heap.size w w8) := B7.out.trans (b8.mono B7.out.size); have kE8 := same_true a8 a2 c8 c2 m (lk (srt xs m)) w8 im8 (I7.out.below b8) (by omega); clear im8 b8 kM))
          all_goals go_wp2_with fail
          all_goals go_fit kE8
          all_goals rintro r w9 ⟨rfl, b9⟩
          all_goals have B9 : Hid (Below w.heap.size w w9) := B8.out.trans (b9.mono B8.out.size)
          all_goals clear b9 kE8
          all_goals go_wp2
          all_goals go_ret
          all_goals exact ⟨rfl, B9.out⟩
      · have hk' := hk.symm
        subst hk'
        go_wp2_with fail
        go_region_with (first | (go_at_call 25; go_fit kB; rintro r w3 ⟨a3, c3, rfl, im3, b3⟩; have kE3 := kE a3 c3 w3 im3 (HBD.out.trans (b3.mono HBD.out.size)); have HB3 : Hid (Below w.heap.size w w3) := HBW.out.trans ((HBD.out.trans (b3.mono HBD.out.size)).mono HBW.out.size); have HI3 : Hid (Iml w3 a2 (lk (srt xs n)) n) := HI0.out.below (HBD.out.trans (b3.mono HBD.out.size)); clear im3 b3 kB) | (go_at_call 23; go_fit kE3; rintro r w4 ⟨rfl, b4⟩; have HB4 : Hid (Below w.heap.size w w4) := HB3.out.trans (b4.mono HB3.out.size); have HI4 : Hid (Iml w4 a2 (lk (srt xs n)) n) := HI3.out.below b4; clear b4 kE3))
        have kP := place_any cut (n + 1) w4 HK.out.2.1 HK.out.2.2 (by omega) hn
        have hml := plc_lt cut (n + 1) (by omega)
        generalize plc cut (n + 1) = m at *
        rw [show ((n + 1 : Nat) : Int) = (n : Int) + 1 from rfl] at kP
        go_wp2_with fail
        go_fit kP
        rintro r w5 ⟨rfl, rfl⟩
        have hcc := HC.out.1
        have kS1 := sorted_w a c m xs w5.drew ((HI.out.below (HB4.out.drew)).take (by omega)) (by omega)
        have HD : Hid (Below w.heap.size w w5.drew) := HB4.out.drew
        have HI5 : Hid (Iml w5.drew a2 (lk (srt xs n)) n) := HI4.out.below (Below.refl _ w5).drew
        have hmn : m + (n - m) = n := by omega
        have hmn' : m ≤ n := by omega
        clear kP HB4 HI4
        by_cases hmc : m < c
        · obtain ⟨g, o, hao⟩ : ∃ g o, a = some ⟨g, o, none⟩ := HC.out.2 (by omega)
          have kS2 := fun W (hW : Below w.heap.size w W) => sorted_w (some ⟨g, o + m, none⟩) (c - m) (n - m) (fun j => xs (m + j)) W (Iml.drop (hao ▸ HI.out.below hW) hmn') (by omega)
          subst hao
          go_wp2_with fail
          go_region_with (first | (go_at_call 21; first | (go_fit kS1; rintro r w6 ⟨a6, c6, rfl, im6, h6, _, b6⟩; have B6 : Hid (Below w.heap.size w w6) := HD.out.trans (b6.mono HD.out.size); have I6 : Hid (Iml w6 a2 (lk (srt xs n)) n) := HI5.out.below b6; have kS2' := kS2 w6 B6.out; have IM6 : Hid (Iml w6 a6 (lk (srt xs m)) m ∧ m ≤ c6) := ⟨im6, h6⟩; clear im6 h6 b6 kS1 kS2) | (go_fit kS2'; rintro r w7 ⟨a7, c7, rfl, im7, h7, _, b7⟩; have B7 : Hid (Below w.heap.size w w7) := B6.out.trans (b7.mono B6.out.size); have I7 : Hid (Iml w7 a2 (lk (srt xs n)) n) := I6.out.below b7; have kM := merge_w xs m (n - m) a6 a7 c6 c7 w7 (IM6.out.1.below b7) IM6.out.2 im7 h7 (by omega); rw [hmn] at kM; clear im7 h7 b7 kS2')) | (go_at_call 27; go_fit kM; rintro r w8 ⟨a8, c8, rfl, im8, b8⟩; have B8 : Hid (Below w.heap.size w w8) := B7.out.trans (b8.mono B7.out.size); have kE8 := same_true a8 a2 c8 c2 n (lk (srt xs n)) w8 im8 (I7.out.below b8) (by omega); clear im8 b8 kM))
          all_goals go_wp2_with fail
          all_goals go_fit kE8
          all_goals rintro r w9 ⟨rfl, b9⟩
          all_goals have B9 : Hid (Below w.heap.size w w9) := B8.out.trans (b9.mono B8.out.size)
          all_goals clear b9 kE8
          all_goals go_wp2
          all_goals go_ret
          all_goals exact ⟨rfl, B9.out⟩
        · have hmc' : c = n := by omega
          have hnm : m = n := by omega
          subst hmc' hnm
          have kS2 := fun W (_ : Below w.heap.size w W) => sorted_w a 0 0 (fun j => xs (m + j)) W (.inl rfl) (by omega)
          go_wp2_with fail
          go_region_with (first | (go_at_call 21; first | (go_fit kS1; rintro r w6 ⟨a6, c6, rfl, im6, h6, _, b6⟩; have B6 : Hid (Below w.heap.size w w6) := HD.out.trans (b6.mono HD.out.size); have I6 : Hid (Iml w6 a2 (lk (srt xs m)) m) := HI5.out.below b6; have kS2' := kS2 w6 B6.out; have IM6 : Hid (Iml w6 a6 (lk (srt xs m)) m ∧ m ≤ c6) := ⟨im6, h6⟩; clear im6 h6 b6 kS1 kS2) | (go_fit kS2'; rintro r w7 ⟨a7, c7, rfl, im7, h7, _, b7⟩; have B7 : Hid (Below w.heap.size w w7) := B6.out.trans (b7.mono B6.out.size); have I7 : Hid (Iml w7 a2 (lk (srt xs m)) m) := I6.out.below b7; have kM := merge_w xs m 0 a6 a7 c6 c7 w7 (IM6.out.1.below b7) IM6.out.2 im7 h7 (by omega); rw [Nat.add_zero] at kM; clear im7 h7 b7 kS2')) | (go_at_call 27; go_fit kM; rintro r w8 ⟨a8, c8, rfl, im8, b8⟩; have B8 : Hid (Below w.heap.size w w8) := B7.out.trans (b8.mono B7.out.size); have kE8 := same_true a8 a2 c8 c2 m (lk (srt xs m)) w8 im8 (I7.out.below b8) (by omega); clear im8 b8 kM))
          all_goals go_wp2_with fail
          all_goals go_fit kE8
          all_goals rintro r w9 ⟨rfl, b9⟩
          all_goals have B9 : Hid (Below w.heap.size w w9) := B8.out.trans (b9.mono B8.out.size)
          all_goals clear b9 kE8
          all_goals go_wp2
          all_goals go_ret
          all_goals exact ⟨rfl, B9.out⟩
      · subst hk
        have h1 : ¬ (kn : Int) < 0 := by omega
        have h2' : ¬ (n : Int) < (kn : Int) := by omega
        go_wp2_with fail
        go_region_with (first | (go_at_call 25; go_fit kB; rintro r w3 ⟨a3, c3, rfl, im3, b3⟩; have kE3 := kE a3 c3 w3 im3 (HBD.out.trans (b3.mono HBD.out.size)); have HB3 : Hid (Below w.heap.size w w3) := HBW.out.trans ((HBD.out.trans (b3.mono HBD.out.size)).mono HBW.out.size); have HI3 : Hid (Iml w3 a2 (lk (srt xs n)) n) := HI0.out.below (HBD.out.trans (b3.mono HBD.out.size)); clear im3 b3 kB) | (go_at_call 23; go_fit kE3; rintro r w4 ⟨rfl, b4⟩; have HB4 : Hid (Below w.heap.size w w4) := HB3.out.trans (b4.mono HB3.out.size); have HI4 : Hid (Iml w4 a2 (lk (srt xs n)) n) := HI3.out.below b4; clear b4 kE3))
        have kP := place_any cut (n + 1) w4 HK.out.2.1 HK.out.2.2 (by omega) hn
        have hml := plc_lt cut (n + 1) (by omega)
        generalize plc cut (n + 1) = m at *
        rw [show ((n + 1 : Nat) : Int) = (n : Int) + 1 from rfl] at kP
        go_wp2_with fail
        go_fit kP
        rintro r w5 ⟨rfl, rfl⟩
        have hcc := HC.out.1
        have kS1 := sorted_w a c m xs w5.drew ((HI.out.below (HB4.out.drew)).take (by omega)) (by omega)
        have HD : Hid (Below w.heap.size w w5.drew) := HB4.out.drew
        have HI5 : Hid (Iml w5.drew a2 (lk (srt xs n)) n) := HI4.out.below (Below.refl _ w5).drew
        have hmn : m + (n - m) = n := by omega
        have hmn' : m ≤ n := by omega
        clear kP HB4 HI4
        by_cases hmc : m < c
        · obtain ⟨g, o, hao⟩ : ∃ g o, a = some ⟨g, o, none⟩ := HC.out.2 (by omega)
          have kS2 := fun W (hW : Below w.heap.size w W) => sorted_w (some ⟨g, o + m, none⟩) (c - m) (n - m) (fun j => xs (m + j)) W (Iml.drop (hao ▸ HI.out.below hW) hmn') (by omega)
          subst hao
          go_wp2_with fail
          go_region_with (first | (go_at_call 21; first | (go_fit kS1; rintro r w6 ⟨a6, c6, rfl, im6, h6, _, b6⟩; have B6 : Hid (Below w.heap.size w w6) := HD.out.trans (b6.mono HD.out.size); have I6 : Hid (Iml w6 a2 (lk (srt xs n)) n) := HI5.out.below b6; have kS2' := kS2 w6 B6.out; have IM6 : Hid (Iml w6 a6 (lk (srt xs m)) m ∧ m ≤ c6) := ⟨im6, h6⟩; clear im6 h6 b6 kS1 kS2) | (go_fit kS2'; rintro r w7 ⟨a7, c7, rfl, im7, h7, _, b7⟩; have B7 : Hid (Below w.heap.size w w7) := B6.out.trans (b7.mono B6.out.size); have I7 : Hid (Iml w7 a2 (lk (srt xs n)) n) := I6.out.below b7; have kM := merge_w xs m (n - m) a6 a7 c6 c7 w7 (IM6.out.1.below b7) IM6.out.2 im7 h7 (by omega); rw [hmn] at kM; clear im7 h7 b7 kS2')) | (go_at_call 27; go_fit kM; rintro r w8 ⟨a8, c8, rfl, im8, b8⟩; have B8 : Hid (Below w.heap.size w w8) := B7.out.trans (b8.mono B7.out.size); have kE8 := same_true a8 a2 c8 c2 n (lk (srt xs n)) w8 im8 (I7.out.below b8) (by omega); clear im8 b8 kM))
          all_goals go_wp2_with fail
          all_goals go_fit kE8
          all_goals rintro r w9 ⟨rfl, b9⟩
          all_goals have B9 : Hid (Below w.heap.size w w9) := B8.out.trans (b9.mono B8.out.size)
          all_goals clear b9 kE8
          all_goals go_wp2
          all_goals go_ret
          all_goals exact ⟨rfl, B9.out⟩
        · have hmc' : c = n := by omega
          have hnm : m = n := by omega
          subst hmc' hnm
          have kS2 := fun W (_ : Below w.heap.size w W) => sorted_w a 0 0 (fun j => xs (m + j)) W (.inl rfl) (by omega)
          go_wp2_with fail
          go_region_with (first | (go_at_call 21; first | (go_fit kS1; rintro r w6 ⟨a6, c6, rfl, im6, h6, _, b6⟩; have B6 : Hid (Below w.heap.size w w6) := HD.out.trans (b6.mono HD.out.size); have I6 : Hid (Iml w6 a2 (lk (srt xs m)) m) := HI5.out.below b6; have kS2' := kS2 w6 B6.out; have IM6 : Hid (Iml w6 a6 (lk (srt xs m)) m ∧ m ≤ c6) := ⟨im6, h6⟩; clear im6 h6 b6 kS1 kS2) | (go_fit kS2'; rintro r w7 ⟨a7, c7, rfl, im7, h7, _, b7⟩; have B7 : Hid (Below w.heap.size w w7) := B6.out.trans (b7.mono B6.out.size); have I7 : Hid (Iml w7 a2 (lk (srt xs m)) m) := I6.out.below b7; have kM := merge_w xs m 0 a6 a7 c6 c7 w7 (IM6.out.1.below b7) IM6.out.2 im7 h7 (by omega); rw [Nat.add_zero] at kM; clear im7 h7 b7 kS2')) | (go_at_call 27; go_fit kM; rintro r w8 ⟨a8, c8, rfl, im8, b8⟩; have B8 : Hid (Below w.heap.size w w8) := B7.out.trans (b8.mono B7.out.size); have kE8 := same_true a8 a2 c8 c2 m (lk (srt xs m)) w8 im8 (I7.out.below b8) (by omega); clear im8 b8 kM))
          all_goals go_wp2_with fail
          all_goals go_fit kE8
          all_goals rintro r w9 ⟨rfl, b9⟩
          all_goals have B9 : Hid (Below w.heap.size w w9) := B8.out.trans (b9.mono B8.out.size)
          all_goals clear b9 kE8
          all_goals go_wp2
          all_goals go_ret
          all_goals exact ⟨rfl, B9.out⟩
end Go.Proofs.Ytcgpjmpppajfdaa.Ws
