/- IndexLists: the law's walk. -/
import Derived.Test.YtnjhffbegaegnaaMj
namespace Go.Proofs.Ytnjhffbegaegnaa
open Go.RowKit Go.Lib Go.Shelf Go.Sort

theorem app2_len (xs : List Int) (s t : Int) (n : Nat) (h : n = xs.length) : (xs ++ [s, t]).length = n + 2 := by rw [h]; simp
theorem set_len (zs : List Int) (i : Nat) (x : Int) (n : Nat) (h : zs.length = n) : (zs.set i x).length = n := by rw [List.length_set]; exact h
set_option maxHeartbeats 16000000 in
set_option maxRecDepth 100000 in
theorem lists_walk (a b : Option Addr) (c d : Nat) (xs ys : List Int) (w : World) (hx : Zm w a xs) (hy : Zm w b ys) (hc : xs.length ≤ c) (hd : ys.length ≤ d) (hl : xs.length ≤ 1048576) (hl2 : ys.length ≤ 1048576) :
    Calls Try.prog 3 #[.slice a xs.length c, .slice b ys.length d] w fun e w' => e = .returned (.bool true) ∧ Below w.heap.size w w' := by
  obtain ⟨G, hG⟩ : ∃ G, G = w.heap.size := ⟨_, rfl⟩
  have HG : Hid (G = w.heap.size) := hG
  have VA : Hid (Vw w (.slice a xs.length c) xs) := ⟨a, c, rfl, hc, hx⟩
  have VB : Hid (Vw w (.slice b ys.length d) ys) := ⟨b, d, rfl, hd, hy⟩
  have HX : Hid (Zm w a xs) := hx
  have HY : Hid (Zm w b ys) := hy
  have HL : Hid (xs.length ≤ 1048576 ∧ ys.length ≤ 1048576) := ⟨hl, hl2⟩
  have AL : Hid ((anL xs ys).length ≤ 2097152 ∧ (orL xs ys).length ≤ 2097152 ∧ (wiL xs ys).length ≤ 2097152) := by
    have h1 := an_len xs ys
    have h2 := or_len xs ys
    have h3 := wi_len xs ys
    exact ⟨by omega, by omega, by omega⟩
  obtain ⟨n, hn⟩ : ∃ n, n = xs.length := ⟨_, rfl⟩
  obtain ⟨m, hm⟩ : ∃ m, m = ys.length := ⟨_, rfl⟩
  rw [← hn, ← hm, ← hG]
  rw [← hn] at VA
  rw [← hm] at VB
  have HN : Hid (n = xs.length) := hn
  have HM : Hid (m = ys.length) := hm
  have hni : (n : Int) ≤ 1048576 := by omega
  have hmi : (m : Int) ≤ 1048576 := by omega
  have bA : Below G w (w.alloc (.cells #[.int .i64 3, .int .i64 1, .int .i64 3] 3)) := (Below.refl _ _).alloc (by omega) _
  have bB : Below G w ((w.alloc (.cells #[.int .i64 3, .int .i64 1, .int .i64 3] 3)).alloc (.cells #[.int .i64 3, .int .i64 2, .int .i64 1] 3)) := bA.alloc (by rw [hG]; exact bA.size) _
  have k0 := and_v (w := (w.alloc (.cells #[.int .i64 3, .int .i64 1, .int .i64 3] 3)).alloc (.cells #[.int .i64 3, .int .i64 2, .int .i64 1] 3)) ((Vw.lit w [3, 1, 3]).below ((Below.refl _ _).alloc (Nat.le_refl _) _)) (Vw.lit (w.alloc (.cells #[.int .i64 3, .int .i64 1, .int .i64 3] 3)) [3, 2, 1]) (by simp) (by simp)
  rw [an_ex] at k0
  have BB : Hid (Below G w ((w.alloc (.cells #[.int .i64 3, .int .i64 1, .int .i64 3] 3)).alloc (.cells #[.int .i64 3, .int .i64 2, .int .i64 1] 3))) := bB
  clear bA bB hx hy hc hd hl hl2 hn hm hG
  simp only [List.length_cons, List.length_nil, World.size_alloc, Nat.zero_add, Nat.reduceAdd] at k0
  go_enter Try.func3, Try.ntmps3
  go_wp2_with fail
  go_fit k0
  rintro e w1 ⟨v0, rfl, z0, b0⟩
  have B1 : Hid (Below G w w1) := BB.out.trans (b0.mono (by rw [HG.out]; exact BB.out.size))
  have V0 : Vw (w1.alloc (.cells #[.int .i64 1, .int .i64 3] 3)) v0 [1, 3] := (Zr.vw z0).below ((Below.refl _ _).alloc (Nat.le_refl _) _)
  have k1 := same_v V0 (Vw.lit w1 [1, 3]) (by simp) rfl
  have BC : Hid (Below G w (w1.alloc (.cells #[.int .i64 1, .int .i64 3] 3))) := B1.out.alloc (by rw [HG.out]; exact B1.out.size) _
  clear k0 z0 b0 V0 BB
  simp only [List.length_cons, List.length_nil, World.size_alloc, Nat.zero_add, Nat.reduceAdd] at k1
  go_wp2_with fail
  go_fit k1
  rintro e w2 ⟨rfl, b2⟩
  have B2 : Hid (Below G w w2) := BC.out.trans (b2.mono (by rw [HG.out]; simpa using BC.out.size))
  have SZ : Hid (∀ w', Below G w w' → G ≤ w'.heap.size) := fun w' h => by rw [HG.out]; exact h.size
  have UP : Hid (∀ w', Below G w w' → Below w.heap.size w w') := fun w' h => by rw [← HG.out]; exact h
  clear b2 k1 BC B1
  have k2 := rand_v (VA.out.below (UP.out _ B2.out)) (VB.out.below (UP.out _ B2.out)) (by have := HL.out; omega) (by have := HL.out; omega)
  go_wp2_with fail
  go_fit k2
  rintro e w3 ⟨vp, rfl, zp, b3⟩
  have B3 : Hid (Below G w w3) := B2.out.trans (b3.mono (SZ.out _ B2.out))
  have P3 : Hid (Rw w3 G w3.heap.size vp (anL xs ys)) := Rw.mk' (Zr.mono zp (SZ.out _ B2.out))
  have k3 := ror_v (VA.out.below (UP.out _ B3.out)) (VB.out.below (UP.out _ B3.out)) (by have := HL.out; omega) (by have := HL.out; omega)
  clear zp b3 k2
  go_wp2_with fail
  go_fit k3
  rintro e w4 ⟨vq, rfl, zq, b4⟩
  have B4 : Hid (Below G w w4) := B3.out.trans (b4.mono (SZ.out _ B3.out))
  have P4 : Hid (Rw w4 G w4.heap.size vp (anL xs ys)) := ⟨(P3.out.below b4).row, fun g h => ⟨(P3.out.top g h).1, Nat.lt_of_lt_of_le (P3.out.top g h).2 b4.size⟩⟩
  have Q4 : Hid (Rw w4 G w4.heap.size vq (orL xs ys)) := Rw.mk' (Zr.mono zq (SZ.out _ B3.out))
  have k4 := rwithout_v (VA.out.below (UP.out _ B4.out)) (VB.out.below (UP.out _ B4.out)) (by have := HL.out; omega) (by have := HL.out; omega)
  clear zq b4 k3 P3
  go_wp2_with fail
  go_fit k4
  rintro e w5 ⟨vr, rfl, zr, b5⟩
  have B5 : Hid (Below G w w5) := B4.out.trans (b5.mono (SZ.out _ B4.out))
  have P5 : Hid (Rw w5 G w5.heap.size vp (anL xs ys)) := ⟨(P4.out.below b5).row, fun g h => ⟨(P4.out.top g h).1, Nat.lt_of_lt_of_le (P4.out.top g h).2 b5.size⟩⟩
  have Q5 : Hid (Rw w5 G w5.heap.size vq (orL xs ys)) := ⟨(Q4.out.below b5).row, fun g h => ⟨(Q4.out.top g h).1, Nat.lt_of_lt_of_le (Q4.out.top g h).2 b5.size⟩⟩
  have R5 : Hid (Rw w5 G w5.heap.size vr (wiL xs ys)) := Rw.mk' (Zr.mono zr (SZ.out _ B4.out))
  clear zr b5 k4 P4 Q4
  obtain ⟨u1, w6, gx, cx, w7, r1, r2, zx, hcx, hgx1, hgx2, b7⟩ := room_run w5 a c xs 77 78 (HX.out.below (UP.out _ B5.out)) (by have := HL.out; omega)
  have B7 : Hid (Below G w w7) := B5.out.trans (b7.mono (SZ.out _ B5.out))
  have P7 : Hid (Rw w7 G w5.heap.size vp (anL xs ys)) := P5.out.below b7
  have Q7 : Hid (Rw w7 G w5.heap.size vq (orL xs ys)) := Q5.out.below b7
  have R7 : Hid (Rw w7 G w5.heap.size vr (wiL xs ys)) := R5.out.below b7
  obtain ⟨u2, w8, gy, cy, w9, r3, r4, zy, hcy, hgy1, hgy2, b9⟩ := room_run w7 b d ys 79 80 (HY.out.below (UP.out _ B7.out)) (by have := HL.out; omega)
  have B9 : Hid (Below G w w9) := B7.out.trans (b9.mono (SZ.out _ B7.out))
  have P9 : Hid (Rw w9 G w5.heap.size vp (anL xs ys)) := P7.out.below b9
  have Q9 : Hid (Rw w9 G w5.heap.size vq (orL xs ys)) := Q7.out.below b9
  have R9 : Hid (Rw w9 G w5.heap.size vr (wiL xs ys)) := R7.out.below b9
  have ZX : Hid (Zr w9 w5.heap.size (.slice (some ⟨gx, 0, none⟩) (n + 2) cx) (xs ++ [77, 78])) := by
    show Zr _ _ _ _
    rw [HN.out]
    exact Zr.below zx b9
  have ZY : Hid (Zr w9 w7.heap.size (.slice (some ⟨gy, 0, none⟩) (m + 2) cy) (ys ++ [79, 80])) := by
    show Zr _ _ _ _
    rw [HM.out]
    exact zy
  rw [← HN.out] at r1 r2 hcx
  rw [← HM.out] at r3 r4 hcy
  have S57 : Hid (w5.heap.size ≤ w7.heap.size ∧ w7.heap.size ≤ w9.heap.size ∧ G ≤ w5.heap.size) := ⟨b7.size, b9.size, SZ.out _ B5.out⟩
  have GX : Hid (w5.heap.size ≤ gx ∧ gx < w7.heap.size) := ⟨hgx1, hgx2⟩
  have GY : Hid (w7.heap.size ≤ gy ∧ gy < w9.heap.size) := ⟨hgy1, hgy2⟩
  have hcxi : (n : Int) + 2 ≤ cx := by omega
  have hcyi : (m : Int) + 2 ≤ cy := by omega
  have hcx2 : (n : Int) ≤ cx := by omega
  have hcy2 : (m : Int) ≤ cy := by omega
  clear zx zy b7 b9 P5 Q5 R5 P7 Q7 R7 B5 B7 B4 B3 B2 hgx1 hgx2 hgy1 hgy2 hcx hcy
  go_wp2_with (first | (at_builtin; refine Ytnjhffbegaegnaa.wpList_append_run rfl (.tmp 34) (.tmp 35) 22 22 rfl _ _ rfl rfl r1 ?_) | (at_builtin; refine Ytnjhffbegaegnaa.wpList_append_run rfl (.tmp 36) (.tmp 37) 22 22 rfl _ _ rfl rfl r2 ?_) | (at_builtin; refine Ytnjhffbegaegnaa.wpList_append_run rfl (.tmp 39) (.tmp 40) 22 22 rfl _ _ rfl rfl r3 ?_) | (at_builtin; refine Ytnjhffbegaegnaa.wpList_append_run rfl (.tmp 41) (.tmp 42) 22 22 rfl _ _ rfl rfl r4 ?_))
  go_big_quiet (fail)
  have B10 : Hid (Below G w (w9.drewN nq)) := bdrew B9.out nq
  have P10 : Hid (Rw (w9.drewN nq) G w5.heap.size vp (anL xs ys)) := ⟨P9.out.row, P9.out.top⟩
  have Q10 : Hid (Rw (w9.drewN nq) G w5.heap.size vq (orL xs ys)) := ⟨Q9.out.row, Q9.out.top⟩
  have R10 : Hid (Rw (w9.drewN nq) G w5.heap.size vr (wiL xs ys)) := ⟨R9.out.row, R9.out.top⟩
  have ZX1 : Hid (Zr (w9.drewN nq) w5.heap.size (.slice (some ⟨gx, 0, none⟩) (n + 2) cx) (xs ++ [77, 78])) := Zr.drew ZX.out nq
  have ZY1 : Hid (Zr (w9.drewN nq) w7.heap.size (.slice (some ⟨gy, 0, none⟩) (m + 2) cy) (ys ++ [79, 80])) := Zr.drew ZY.out nq
  have S910 : Hid (w9.heap.size = (w9.drewN nq).heap.size) := (rfl : w9.heap.size = (w9.drewN nq).heap.size)
  generalize w9.drewN nq = w10 at *
  have HCX : Hid (n + 2 ≤ cx ∧ m + 2 ≤ cy) := ⟨by omega, by omega⟩
  have VX : Hid (Vw w10 (.slice (some ⟨gx, 0, none⟩) n cx) xs) := by
    have h := ZX1.out
    have h2 := HCX.out.1
    rw [HN.out] at h h2
    show Vw _ _ _
    rw [HN.out]
    exact Zr.head h h2
  have VY : Hid (Vw w10 (.slice (some ⟨gy, 0, none⟩) m cy) ys) := by
    have h := ZY1.out
    have h2 := HCX.out.2
    rw [HM.out] at h h2
    show Vw _ _ _
    rw [HM.out]
    exact Zr.head h h2
  clear P9 Q9 R9 ZX ZY B9 r1 r2 r3 r4
  have k5 := and_v VX.out VY.out (by have := HL.out; omega) (by have := HL.out; omega)
  go_wp2_with fail
  go_fit k5
  rintro e w11 ⟨va, rfl, za, b11⟩
  have C11 : Hid (Below w10.heap.size w10 w11) := b11
  have A11 : Hid (Rw w11 w10.heap.size w11.heap.size va (anL xs ys)) := Rw.mk' za
  have k6 := or_v (VX.out.below C11.out) (VY.out.below C11.out) (by have := HL.out; omega) (by have := HL.out; omega)
  clear za b11 k5
  go_wp2_with fail
  go_fit k6
  rintro e w12 ⟨vo, rfl, zo, b12⟩
  have C12 : Hid (Below w10.heap.size w10 w12) := C11.out.trans (b12.mono C11.out.size)
  have S12 : Hid (w11.heap.size ≤ w12.heap.size) := b12.size
  have A12 : Hid (Rw w12 w10.heap.size w11.heap.size va (anL xs ys)) := A11.out.below b12
  have O12 : Hid (Rw w12 w11.heap.size w12.heap.size vo (orL xs ys)) := Rw.mk' zo
  have k7 := without_v (VX.out.below C12.out) (VY.out.below C12.out) (by have := HL.out; omega) (by have := HL.out; omega)
  clear zo b12 k6 A11
  go_wp2_with fail
  go_fit k7
  rintro e w13 ⟨vl, rfl, zl, b13⟩
  have C13 : Hid (Below w10.heap.size w10 w13) := C12.out.trans (b13.mono C12.out.size)
  have A13 : Hid (Rw w13 w10.heap.size w11.heap.size va (anL xs ys)) := A12.out.below b13
  have O13 : Hid (Rw w13 w11.heap.size w12.heap.size vo (orL xs ys)) := O12.out.below b13
  have L13 : Hid (Rw w13 w12.heap.size w13.heap.size vl (wiL xs ys)) := Rw.mk' zl
  have P13 : Hid (Rw w13 G w5.heap.size vp (anL xs ys)) := P10.out.below C13.out
  have Q13 : Hid (Rw w13 G w5.heap.size vq (orL xs ys)) := Q10.out.below C13.out
  have R13 : Hid (Rw w13 G w5.heap.size vr (wiL xs ys)) := R10.out.below C13.out
  have X13 : Hid (Zr w13 w5.heap.size (.slice (some ⟨gx, 0, none⟩) (n + 2) cx) (xs ++ [77, 78])) := Zr.below ZX1.out C13.out
  have Y13 : Hid (Zr w13 w7.heap.size (.slice (some ⟨gy, 0, none⟩) (m + 2) cy) (ys ++ [79, 80])) := Zr.below ZY1.out C13.out
  have VX3 : Hid (Vw w13 (.slice (some ⟨gx, 0, none⟩) n cx) xs) := VX.out.below C13.out
  have VY3 : Hid (Vw w13 (.slice (some ⟨gy, 0, none⟩) m cy) ys) := VY.out.below C13.out
  have B13 : Hid (Below G w w13) := B10.out.trans (C13.out.mono (SZ.out _ B10.out))
  have SS : Hid (w9.heap.size ≤ w10.heap.size ∧ w10.heap.size ≤ w11.heap.size ∧ w11.heap.size ≤ w12.heap.size ∧ w12.heap.size ≤ w13.heap.size) := ⟨Nat.le_of_eq S910.out, C11.out.size, S12.out, b13.size⟩
  have VA3 : Hid (Vw w13 (.slice a n c) xs) := VA.out.below (UP.out _ B13.out)
  have VB3 : Hid (Vw w13 (.slice b m d) ys) := VB.out.below (UP.out _ B13.out)
  clear zl b13 k7 A12 O12 P10 Q10 R10 ZX1 ZY1 C11 C12 C13 B10 S910 VX VY S12
  have SM : Hid (∀ wk u v l, Below w13.heap.size w13 wk → Vw w13 u l → Vw w13 v l → l.length ≤ 4194304 → Calls Try.prog 4 #[u, v] wk fun e w' => e = .returned (.bool true) ∧ Below w13.heap.size w13 w') := fun wk u v l hb h1 h2 hl => (same_v (h1.below hb) (h2.below hb) hl rfl).mono fun e w' h => ⟨h.1, hb.trans (h.2.mono hb.size)⟩
  have ewa0 := SM.out w13 _ _ _ (Below.refl _ _) A13.out.vw P13.out.vw (by have := AL.out.1; omega)
  go_wp2_with fail
  go_fit ewa0
  rintro e wa0 ⟨rfl, bwa0⟩
  have Dwa0 : Hid (Below w13.heap.size w13 wa0) := bwa0
  clear bwa0 ewa0
  have ewa1 := SM.out wa0 _ _ _ Dwa0.out O13.out.vw Q13.out.vw (by have := AL.out.2.1; omega)
  go_wp2_with fail
  go_fit ewa1
  rintro e wa1 ⟨rfl, bwa1⟩
  have Dwa1 : Hid (Below w13.heap.size w13 wa1) := bwa1
  clear bwa1 ewa1
  have ewa2 := SM.out wa1 _ _ _ Dwa1.out L13.out.vw R13.out.vw (by have := AL.out.2.2; omega)
  go_wp2_with fail
  go_fit ewa2
  rintro e wa2 ⟨rfl, bwa2⟩
  have Dwa2 : Hid (Below w13.heap.size w13 wa2) := bwa2
  clear bwa2 ewa2
  have ewa3 := SM.out wa2 _ _ _ Dwa2.out VX3.out VA3.out (by have := HL.out.1; omega)
  go_wp2_with fail
  go_fit ewa3
  rintro e wa3 ⟨rfl, bwa3⟩
  have Dwa3 : Hid (Below w13.heap.size w13 wa3) := bwa3
  clear bwa3 ewa3
  have ewa4 := SM.out wa3 _ _ _ Dwa3.out VY3.out VB3.out (by have := HL.out.2; omega)
  go_wp2_with fail
  go_fit ewa4
  rintro e wa4 ⟨rfl, bwa4⟩
  have Dwa4 : Hid (Below w13.heap.size w13 wa4) := bwa4
  clear bwa4 ewa4
  have E0 : Hid (Below w13.heap.size w13 wa4) := Dwa4
  have A14 : Hid (Rw wa4 w10.heap.size w11.heap.size va (anL xs ys)) := A13.out.below E0.out
  have O14 : Hid (Rw wa4 w11.heap.size w12.heap.size vo (orL xs ys)) := O13.out.below E0.out
  have L14 : Hid (Rw wa4 w12.heap.size w13.heap.size vl (wiL xs ys)) := L13.out.below E0.out
  have P14 : Hid (Rw wa4 G w5.heap.size vp (anL xs ys)) := P13.out.below E0.out
  have Q14 : Hid (Rw wa4 G w5.heap.size vq (orL xs ys)) := Q13.out.below E0.out
  have R14 : Hid (Rw wa4 G w5.heap.size vr (wiL xs ys)) := R13.out.below E0.out
  have X14 : Hid (Zr wa4 w5.heap.size (.slice (some ⟨gx, 0, none⟩) (n + 2) cx) (xs ++ [77, 78])) := Zr.below X13.out E0.out
  have Y14 : Hid (Zr wa4 w7.heap.size (.slice (some ⟨gy, 0, none⟩) (m + 2) cy) (ys ++ [79, 80])) := Zr.below Y13.out E0.out
  have B14 : Hid (Below G w wa4) := B13.out.trans (E0.out.mono (SZ.out _ B13.out))
  have S14 : Hid (w13.heap.size ≤ wa4.heap.size) := E0.out.size
  obtain ⟨c77, c78⟩ : wa4.cell? ⟨gx, n, none⟩ = some (.int .i64 77) ∧ wa4.cell? ⟨gx, n + 1, none⟩ = some (.int .i64 78) := by
    have h := X14.out
    rw [HN.out] at h ⊢
    exact Zr.tail h
  obtain ⟨c79, c80⟩ : wa4.cell? ⟨gy, m, none⟩ = some (.int .i64 79) ∧ wa4.cell? ⟨gy, m + 1, none⟩ = some (.int .i64 80) := by
    have h := Y14.out
    rw [HM.out] at h ⊢
    exact Zr.tail h
  have HLX : Hid ((xs ++ [77, 78]).length = n + 2) := app2_len xs 77 78 n HN.out
  have HLY : Hid ((ys ++ [79, 80]).length = m + 2) := app2_len ys 79 80 m HM.out
  clear A13 O13 L13 P13 Q13 R13 X13 Y13 VX3 VY3 VA3 VB3 SM B13 E0 Dwa0 Dwa1 Dwa2 Dwa3 Dwa4
  generalize wa4 = w14 at *
  go_wp2_with fail
  go_loopw [15] (fun iv w' => ∃ (i : Nat) (zs : List Int), iv = .int .i64 (i : Nat) ∧ i ≤ n ∧ Hid (zs.length = n + 2) ∧ Hid (Zr w' w5.heap.size (.slice (some ⟨gx, 0, none⟩) (n + 2) cx) zs) ∧ Hid (w14.grownBy w' (some gx))) (fun iv _ => n - (RowKit.intOf iv).toNat)
  case atStart => exact ⟨0, _, rfl, Nat.zero_le _, HLX, X14, World.grownBy.refl _ _⟩
  case round =>
    obtain ⟨i, zs, rfl, hi, hzl, hz, hgb⟩ := hrel
    by_cases hlt : i < n
    · have hii : (i : Int) < (n : Int) := by omega
      have hz2 := hz.out
      rw [← hzl.out] at hz2
      have x0 := Zr.cell hz2 i (by have := hzl.out; omega)
      have f0 := Zr.froz hz2 i
      have Z2 : Hid (Zr (wr.setCell ⟨gx, i, none⟩ (.int .i64 (-1))) w5.heap.size (.slice (some ⟨gx, 0, none⟩) (n + 2) cx) (zs.set i (-1))) := by
        have h := Zr.set hz2 i (-1)
        rw [hzl.out] at h
        exact h
      have G2 : Hid (w14.grownBy (wr.setCell ⟨gx, i, none⟩ (.int .i64 (-1))) (some gx)) := gtrans hgb.out (World.ownsRow.stored hz2 i (.int .i64 (-1))).2
      have L2 : Hid ((zs.set i (-1)).length = n + 2) := set_len zs i (-1) _ hzl.out
      generalize zs.getD i 0 = X at *
      clear hz2 hz hgb
      go_wp2
      exact ⟨⟨i + 1, zs.set i (-1), by go_num, by omega, L2, Z2, G2⟩, by simp [RowKit.intOf]; omega⟩
    · have hii : ¬ (i : Int) < (n : Int) := by omega
      obtain ⟨w15, rfl⟩ : ∃ z, z = wr := ⟨_, rfl⟩
      have GB : Hid (w14.grownBy w15 (some gx)) := hgb
      clear hzl hz hgb
      have A15 : Hid (Rw w15 w10.heap.size w11.heap.size va (anL xs ys)) := A14.out.oth GB.out (fun g e => by cases e; have h1 := SS.out; have h2 := S57.out; have h3 := GX.out; have h4 := GY.out; omega)
      have O15 : Hid (Rw w15 w11.heap.size w12.heap.size vo (orL xs ys)) := O14.out.oth GB.out (fun g e => by cases e; have h1 := SS.out; have h2 := S57.out; have h3 := GX.out; have h4 := GY.out; omega)
      have L15 : Hid (Rw w15 w12.heap.size w13.heap.size vl (wiL xs ys)) := L14.out.oth GB.out (fun g e => by cases e; have h1 := SS.out; have h2 := S57.out; have h3 := GX.out; have h4 := GY.out; omega)
      have P15 : Hid (Rw w15 G w5.heap.size vp (anL xs ys)) := P14.out.oth GB.out (fun g e => by cases e; have h1 := SS.out; have h2 := S57.out; have h3 := GX.out; have h4 := GY.out; omega)
      have Q15 : Hid (Rw w15 G w5.heap.size vq (orL xs ys)) := Q14.out.oth GB.out (fun g e => by cases e; have h1 := SS.out; have h2 := S57.out; have h3 := GX.out; have h4 := GY.out; omega)
      have R15 : Hid (Rw w15 G w5.heap.size vr (wiL xs ys)) := R14.out.oth GB.out (fun g e => by cases e; have h1 := SS.out; have h2 := S57.out; have h3 := GX.out; have h4 := GY.out; omega)
      have Y15 : Hid (Zr w15 w7.heap.size (.slice (some ⟨gy, 0, none⟩) (m + 2) cy) (ys ++ [79, 80])) := World.ownsRow.kept Y14.out GB.out (.inr (fun e => by have e2 : gy = gx := (by simpa [Value.ownBlock] using e); have h1 := SS.out; have h2 := S57.out; have h3 := GX.out; have h4 := GY.out; omega))
      have B15 : Hid (Below G w w15) := B14.out.grown GB.out (SZ.out _ B14.out) (fun k e => by cases e; have h1 := SS.out; have h2 := S57.out; have h3 := GX.out; have h4 := GY.out; omega)
      clear A14 O14 L14 P14 Q14 R14 X14 Y14 B14 GB S14 c77 c78 c79 c80
      go_wp2_with fail
      go_loopw [16] (fun iv w' => ∃ (i : Nat) (zs : List Int), iv = .int .i64 (i : Nat) ∧ i ≤ m ∧ Hid (zs.length = m + 2) ∧ Hid (Zr w' w7.heap.size (.slice (some ⟨gy, 0, none⟩) (m + 2) cy) zs) ∧ Hid (w15.grownBy w' (some gy))) (fun iv _ => m - (RowKit.intOf iv).toNat)
      case atStart => exact ⟨0, _, rfl, Nat.zero_le _, HLY, Y15, World.grownBy.refl _ _⟩
      case round =>
        obtain ⟨i, zs, rfl, hi, hzl, hz, hgb⟩ := hrel
        by_cases hlt : i < m
        · have hii : (i : Int) < (m : Int) := by omega
          have hz2 := hz.out
          rw [← hzl.out] at hz2
          have x0 := Zr.cell hz2 i (by have := hzl.out; omega)
          have f0 := Zr.froz hz2 i
          have Z2 : Hid (Zr (wr.setCell ⟨gy, i, none⟩ (.int .i64 (-2))) w7.heap.size (.slice (some ⟨gy, 0, none⟩) (m + 2) cy) (zs.set i (-2))) := by
            have h := Zr.set hz2 i (-2)
            rw [hzl.out] at h
            exact h
          have G2 : Hid (w15.grownBy (wr.setCell ⟨gy, i, none⟩ (.int .i64 (-2))) (some gy)) := gtrans hgb.out (World.ownsRow.stored hz2 i (.int .i64 (-2))).2
          have L2 : Hid ((zs.set i (-2)).length = m + 2) := set_len zs i (-2) _ hzl.out
          generalize zs.getD i 0 = X at *
          clear hz2 hz hgb
          go_wp2
          exact ⟨⟨i + 1, zs.set i (-2), by go_num, by omega, L2, Z2, G2⟩, by simp [RowKit.intOf]; omega⟩
        · have hii : ¬ (i : Int) < (m : Int) := by omega
          obtain ⟨w16, rfl⟩ : ∃ z, z = wr := ⟨_, rfl⟩
          have GB : Hid (w15.grownBy w16 (some gy)) := hgb
          clear hzl hz hgb
          have A16 : Hid (Rw w16 w10.heap.size w11.heap.size va (anL xs ys)) := A15.out.oth GB.out (fun g e => by cases e; have h1 := SS.out; have h2 := S57.out; have h3 := GX.out; have h4 := GY.out; omega)
          have O16 : Hid (Rw w16 w11.heap.size w12.heap.size vo (orL xs ys)) := O15.out.oth GB.out (fun g e => by cases e; have h1 := SS.out; have h2 := S57.out; have h3 := GX.out; have h4 := GY.out; omega)
          have L16 : Hid (Rw w16 w12.heap.size w13.heap.size vl (wiL xs ys)) := L15.out.oth GB.out (fun g e => by cases e; have h1 := SS.out; have h2 := S57.out; have h3 := GX.out; have h4 := GY.out; omega)
          have P16 : Hid (Rw w16 G w5.heap.size vp (anL xs ys)) := P15.out.oth GB.out (fun g e => by cases e; have h1 := SS.out; have h2 := S57.out; have h3 := GX.out; have h4 := GY.out; omega)
          have Q16 : Hid (Rw w16 G w5.heap.size vq (orL xs ys)) := Q15.out.oth GB.out (fun g e => by cases e; have h1 := SS.out; have h2 := S57.out; have h3 := GX.out; have h4 := GY.out; omega)
          have R16 : Hid (Rw w16 G w5.heap.size vr (wiL xs ys)) := R15.out.oth GB.out (fun g e => by cases e; have h1 := SS.out; have h2 := S57.out; have h3 := GX.out; have h4 := GY.out; omega)
          have B16 : Hid (Below G w w16) := B15.out.grown GB.out (SZ.out _ B15.out) (fun k e => by cases e; have h1 := SS.out; have h2 := S57.out; have h3 := GX.out; have h4 := GY.out; omega)
          clear A15 O15 L15 P15 Q15 R15 Y15 B15 GB
          have SM : Hid (∀ wk u v l, Below w16.heap.size w16 wk → Vw w16 u l → Vw w16 v l → l.length ≤ 4194304 → Calls Try.prog 4 #[u, v] wk fun e w' => e = .returned (.bool true) ∧ Below w16.heap.size w16 w') := fun wk u v l hb h1 h2 hl => (same_v (h1.below hb) (h2.below hb) hl rfl).mono fun e w' h => ⟨h.1, hb.trans (h.2.mono hb.size)⟩
          have ewb0 := SM.out w16 _ _ _ (Below.refl _ _) A16.out.vw P16.out.vw (by have := AL.out.1; omega)
          go_wp2_with fail
          go_fit ewb0
          rintro e wb0 ⟨rfl, bwb0⟩
          have Dwb0 : Hid (Below w16.heap.size w16 wb0) := bwb0
          clear bwb0 ewb0
          have ewb1 := SM.out wb0 _ _ _ Dwb0.out O16.out.vw Q16.out.vw (by have := AL.out.2.1; omega)
          go_wp2_with fail
          go_fit ewb1
          rintro e wb1 ⟨rfl, bwb1⟩
          have Dwb1 : Hid (Below w16.heap.size w16 wb1) := bwb1
          clear bwb1 ewb1
          have ewb2 := SM.out wb1 _ _ _ Dwb1.out L16.out.vw R16.out.vw (by have := AL.out.2.2; omega)
          go_wp2_with fail
          go_fit ewb2
          rintro e wb2 ⟨rfl, bwb2⟩
          have Dwb2 : Hid (Below w16.heap.size w16 wb2) := bwb2
          clear bwb2 ewb2
          have E0 : Hid (Below w16.heap.size w16 wb2) := Dwb2
          have A17 : Hid (Rw wb2 w10.heap.size w11.heap.size va (anL xs ys)) := A16.out.below E0.out
          have O17 : Hid (Rw wb2 w11.heap.size w12.heap.size vo (orL xs ys)) := O16.out.below E0.out
          have L17 : Hid (Rw wb2 w12.heap.size w13.heap.size vl (wiL xs ys)) := L16.out.below E0.out
          have P17 : Hid (Rw wb2 G w5.heap.size vp (anL xs ys)) := P16.out.below E0.out
          have Q17 : Hid (Rw wb2 G w5.heap.size vq (orL xs ys)) := Q16.out.below E0.out
          have R17 : Hid (Rw wb2 G w5.heap.size vr (wiL xs ys)) := R16.out.below E0.out
          have B17 : Hid (Below G w wb2) := B16.out.trans (E0.out.mono (SZ.out _ B16.out))
          clear A16 O16 L16 P16 Q16 R16 SM B16 E0 Dwb0 Dwb1 Dwb2
          generalize wb2 = w17 at *
          obtain ⟨a1, c1, ea, hca, _⟩ := A17.out.vw
          obtain ⟨a3, c3, el, hcl, _⟩ := L17.out.vw
          have KA : (anL xs ys).length ≤ 2097152 := AL.out.1
          have KL : (wiL xs ys).length ≤ 2097152 := AL.out.2.2
          obtain ⟨ka, hka⟩ : ∃ ka, ka = (anL xs ys).length := ⟨_, rfl⟩
          obtain ⟨kl, hkl⟩ : ∃ kl, kl = (wiL xs ys).length := ⟨_, rfl⟩
          rw [← hka] at ea KA
          rw [← hkl] at el KL
          subst ea
          subst el
          have HKA : Hid ((anL xs ys).length = ka) := hka.symm
          have HKL : Hid ((wiL xs ys).length = kl) := hkl.symm
          have hkai : (ka : Int) ≤ 2097152 := by omega
          have hkli : (kl : Int) ≤ 2097152 := by omega
          have RA : Hid (Zr w17 w10.heap.size (.slice a1 ka c1) (anL xs ys)) := A17.out.row
          have TA : Hid (∀ g, (Value.slice a1 ka c1).ownBlock = some g → w10.heap.size ≤ g ∧ g < w11.heap.size) := A17.out.top
          have TL : Hid (∀ g, (Value.slice a3 kl c3).ownBlock = some g → w12.heap.size ≤ g ∧ g < w13.heap.size) := L17.out.top
          clear hka hkl hca hcl KA KL A17
          go_wp2_with fail
          go_loopw [17] (fun iv w' => ∃ (i : Nat) (zs : List Int), iv = .int .i64 (i : Nat) ∧ i ≤ ka ∧ Hid (zs.length = ka) ∧ Hid (Zr w' w10.heap.size (.slice a1 ka c1) zs) ∧ Hid (w17.grownBy w' (Value.slice a1 ka c1).ownBlock)) (fun iv _ => ka - (RowKit.intOf iv).toNat)
          case atStart => exact ⟨0, _, rfl, Nat.zero_le _, HKA, RA, World.grownBy.refl _ _⟩
          case round =>
            obtain ⟨i, zs, rfl, hi, hzl, hz, hgb⟩ := hrel
            by_cases hlt : i < ka
            · have hii : (i : Int) < (ka : Int) := by omega
              have hz2 := hz.out
              obtain ⟨g, hA⟩ : ∃ g, a1 = some ⟨g, 0, none⟩ := by
                rcases hz2.2 with ⟨e, _⟩ | ⟨g, cap, cur, e, _⟩
                · simp only [Value.slice.injEq] at e
                  omega
                · simp only [Value.slice.injEq] at e
                  exact ⟨g, e.1⟩
              rw [← hzl.out, hA] at hz2
              have x0 := Zr.cell hz2 i (by have := hzl.out; omega)
              have f0 := Zr.froz hz2 i
              have Z2 : Hid (Zr (wr.setCell ⟨g, i, none⟩ (.int .i64 (-3))) w10.heap.size (.slice a1 ka c1) (zs.set i (-3))) := by
                have h := Zr.set hz2 i (-3)
                rw [hzl.out] at h
                rw [hA]
                exact h
              have G2 : Hid (w17.grownBy (wr.setCell ⟨g, i, none⟩ (.int .i64 (-3))) (Value.slice a1 ka c1).ownBlock) := by
                have h1 := hgb.out
                have h2 := (World.ownsRow.stored hz2 i (.int .i64 (-3))).2
                rw [hA] at h1 ⊢
                exact gtrans h1 h2
              have L2 : Hid ((zs.set i (-3)).length = ka) := set_len zs i (-3) _ hzl.out
              have HA : Hid (a1 = some ⟨g, 0, none⟩) := hA
              generalize zs.getD i 0 = X at *
              clear hz2 hz hgb
              subst hA
              clear HA
              go_wp2
              exact ⟨⟨i + 1, zs.set i (-3), by go_num, by omega, L2, Z2, G2⟩, by simp [RowKit.intOf]; omega⟩
            · have hii : ¬ (i : Int) < (ka : Int) := by omega
              obtain ⟨w18, rfl⟩ : ∃ z, z = wr := ⟨_, rfl⟩
              have GB : Hid (w17.grownBy w18 (Value.slice a1 ka c1).ownBlock) := hgb
              clear hzl hz hgb
              have O18 : Hid (Rw w18 w11.heap.size w12.heap.size vo (orL xs ys)) := O17.out.oth GB.out (fun g e => by have h0 := TA.out g e; have h1 := SS.out; have h2 := S57.out; have h3 := GX.out; have h4 := GY.out; omega)
              have L18 : Hid (Rw w18 w12.heap.size w13.heap.size (.slice a3 kl c3) (wiL xs ys)) := L17.out.oth GB.out (fun g e => by have h0 := TA.out g e; have h1 := SS.out; have h2 := S57.out; have h3 := GX.out; have h4 := GY.out; omega)
              have P18 : Hid (Rw w18 G w5.heap.size vp (anL xs ys)) := P17.out.oth GB.out (fun g e => by have h0 := TA.out g e; have h1 := SS.out; have h2 := S57.out; have h3 := GX.out; have h4 := GY.out; omega)
              have Q18 : Hid (Rw w18 G w5.heap.size vq (orL xs ys)) := Q17.out.oth GB.out (fun g e => by have h0 := TA.out g e; have h1 := SS.out; have h2 := S57.out; have h3 := GX.out; have h4 := GY.out; omega)
              have R18 : Hid (Rw w18 G w5.heap.size vr (wiL xs ys)) := R17.out.oth GB.out (fun g e => by have h0 := TA.out g e; have h1 := SS.out; have h2 := S57.out; have h3 := GX.out; have h4 := GY.out; omega)
              have B18 : Hid (Below G w w18) := B17.out.grown GB.out (SZ.out _ B17.out) (fun k e => by have h0 := TA.out k e; have h1 := SS.out; have h2 := S57.out; have h3 := GX.out; have h4 := GY.out; omega)
              have RL : Hid (Zr w18 w12.heap.size (.slice a3 kl c3) (wiL xs ys)) := L18.out.row
              clear O17 L17 P17 Q17 R17 B17 GB L18 RA
              go_wp2_with fail
              go_loopw [18] (fun iv w' => ∃ (i : Nat) (zs : List Int), iv = .int .i64 (i : Nat) ∧ i ≤ kl ∧ Hid (zs.length = kl) ∧ Hid (Zr w' w12.heap.size (.slice a3 kl c3) zs) ∧ Hid (w18.grownBy w' (Value.slice a3 kl c3).ownBlock)) (fun iv _ => kl - (RowKit.intOf iv).toNat)
              case atStart => exact ⟨0, _, rfl, Nat.zero_le _, HKL, RL, World.grownBy.refl _ _⟩
              case round =>
                obtain ⟨i, zs, rfl, hi, hzl, hz, hgb⟩ := hrel
                by_cases hlt : i < kl
                · have hii : (i : Int) < (kl : Int) := by omega
                  have hz2 := hz.out
                  obtain ⟨g, hA⟩ : ∃ g, a3 = some ⟨g, 0, none⟩ := by
                    rcases hz2.2 with ⟨e, _⟩ | ⟨g, cap, cur, e, _⟩
                    · simp only [Value.slice.injEq] at e
                      omega
                    · simp only [Value.slice.injEq] at e
                      exact ⟨g, e.1⟩
                  rw [← hzl.out, hA] at hz2
                  have x0 := Zr.cell hz2 i (by have := hzl.out; omega)
                  have f0 := Zr.froz hz2 i
                  have Z2 : Hid (Zr (wr.setCell ⟨g, i, none⟩ (.int .i64 (-4))) w12.heap.size (.slice a3 kl c3) (zs.set i (-4))) := by
                    have h := Zr.set hz2 i (-4)
                    rw [hzl.out] at h
                    rw [hA]
                    exact h
                  have G2 : Hid (w18.grownBy (wr.setCell ⟨g, i, none⟩ (.int .i64 (-4))) (Value.slice a3 kl c3).ownBlock) := by
                    have h1 := hgb.out
                    have h2 := (World.ownsRow.stored hz2 i (.int .i64 (-4))).2
                    rw [hA] at h1 ⊢
                    exact gtrans h1 h2
                  have L2 : Hid ((zs.set i (-4)).length = kl) := set_len zs i (-4) _ hzl.out
                  have HA : Hid (a3 = some ⟨g, 0, none⟩) := hA
                  generalize zs.getD i 0 = X at *
                  clear hz2 hz hgb
                  subst hA
                  clear HA
                  go_wp2
                  exact ⟨⟨i + 1, zs.set i (-4), by go_num, by omega, L2, Z2, G2⟩, by simp [RowKit.intOf]; omega⟩
                · have hii : ¬ (i : Int) < (kl : Int) := by omega
                  obtain ⟨w19, rfl⟩ : ∃ z, z = wr := ⟨_, rfl⟩
                  have GB : Hid (w18.grownBy w19 (Value.slice a3 kl c3).ownBlock) := hgb
                  clear hzl hz hgb
                  have O19 : Hid (Rw w19 w11.heap.size w12.heap.size vo (orL xs ys)) := O18.out.oth GB.out (fun g e => by have h0 := TL.out g e; have h1 := SS.out; have h2 := S57.out; have h3 := GX.out; have h4 := GY.out; omega)
                  have P19 : Hid (Rw w19 G w5.heap.size vp (anL xs ys)) := P18.out.oth GB.out (fun g e => by have h0 := TL.out g e; have h1 := SS.out; have h2 := S57.out; have h3 := GX.out; have h4 := GY.out; omega)
                  have Q19 : Hid (Rw w19 G w5.heap.size vq (orL xs ys)) := Q18.out.oth GB.out (fun g e => by have h0 := TL.out g e; have h1 := SS.out; have h2 := S57.out; have h3 := GX.out; have h4 := GY.out; omega)
                  have R19 : Hid (Rw w19 G w5.heap.size vr (wiL xs ys)) := R18.out.oth GB.out (fun g e => by have h0 := TL.out g e; have h1 := SS.out; have h2 := S57.out; have h3 := GX.out; have h4 := GY.out; omega)
                  have B19 : Hid (Below G w w19) := B18.out.grown GB.out (SZ.out _ B18.out) (fun k e => by have h0 := TL.out k e; have h1 := SS.out; have h2 := S57.out; have h3 := GX.out; have h4 := GY.out; omega)
                  clear O18 P18 Q18 R18 B18 GB RL
                  have ka1 := same_v O19.out.vw Q19.out.vw (by have := AL.out.2.1; omega) rfl
                  go_wp2_with fail
                  go_fit ka1
                  rintro e w20 ⟨rfl, b20⟩
                  have B20 : Hid (Below G w w20) := B19.out.trans (b20.mono (SZ.out _ B19.out))
                  have P20 : Hid (Rw w20 G w5.heap.size vp (anL xs ys)) := P19.out.below b20
                  have R20 : Hid (Rw w20 G w5.heap.size vr (wiL xs ys)) := R19.out.below b20
                  clear b20 ka1 O19 P19 Q19 R19 B19
                  have ka2 := and_v (VA.out.below (UP.out _ B20.out)) (VB.out.below (UP.out _ B20.out)) (by have := HL.out; omega) (by have := HL.out; omega)
                  go_wp2_with fail
                  go_fit ka2
                  rintro e w21 ⟨vz, rfl, zz, b21⟩
                  have B21 : Hid (Below G w w21) := B20.out.trans (b21.mono (SZ.out _ B20.out))
                  have P21 : Hid (Rw w21 G w5.heap.size vp (anL xs ys)) := P20.out.below b21
                  have R21 : Hid (Rw w21 G w5.heap.size vr (wiL xs ys)) := R20.out.below b21
                  have ka3 := same_v (Zr.vw zz) P21.out.vw (by have := AL.out.1; omega) rfl
                  clear b21 ka2 P20 R20 B20 zz
                  go_wp2_with fail
                  go_fit ka3
                  rintro e w22 ⟨rfl, b22⟩
                  have B22 : Hid (Below G w w22) := B21.out.trans (b22.mono (SZ.out _ B21.out))
                  have R22 : Hid (Rw w22 G w5.heap.size vr (wiL xs ys)) := R21.out.below b22
                  clear b22 ka3 P21 R21 B21
                  have ka4 := without_v (VA.out.below (UP.out _ B22.out)) (VB.out.below (UP.out _ B22.out)) (by have := HL.out; omega) (by have := HL.out; omega)
                  go_wp2_with fail
                  go_fit ka4
                  rintro e w23 ⟨vz, rfl, zz, b23⟩
                  have B23 : Hid (Below G w w23) := B22.out.trans (b23.mono (SZ.out _ B22.out))
                  have ka5 := same_v (Zr.vw zz) (R22.out.below b23).vw (by have := AL.out.2.2; omega) rfl
                  clear b23 ka4 R22 B22 zz
                  go_wp2_with fail
                  go_fit ka5
                  rintro e w24 ⟨rfl, b24⟩
                  have B24 : Hid (Below G w w24) := B23.out.trans (b24.mono (SZ.out _ B23.out))
                  clear b24 ka5 B23
                  go_wp2
                  go_ret
                  exact ⟨rfl, B24.out⟩
end Go.Proofs.Ytnjhffbegaegnaa
