/- A reader: next. -/
import Derived.Test.YtedlmjieclaojaaDoorDc
import Derived.Test.YtedlmjieclaojaaDoorDd
namespace Go.Proofs.YtedlmjieclaojaaDoor
open Go.RowKit

set_option maxHeartbeats 400000 in
theorem fromBits_any (n : Nat) (w : World) : Calls Tryd.prog 52 #[.int .u64 (n : Nat)] w fun r w' => r = .returned (.float .f64 n) ∧ w' = w := by
  have h3 := callFrom
  go_enter Tryd.func52, Tryd.ntmps52
  go_wp2
  go_ret
  exact ⟨by simp, rfl⟩
/-- What takeValue does. -/
def TvC : Prop := ∀ (B : Nat) (a0 : Option Addr) (xs : List Int) (s : Rs) (w : World), Rdr w B a0 xs s → By xs → Fok s.r →
    Calls Tryd.prog 51 #[.pointer (some ⟨B, 0, none⟩)] w fun e w' => e = .returned (.bool (rdS (bt 8 xs) (8 * xs.length) s)) ∧ Rdr w' B a0 xs (rdV (bt 8 xs) (8 * xs.length) s) ∧ Kp (fun k => k = B) w w'
theorem tvc : TvC := fun B a0 xs s w h hx hf => takeValue_any B a0 xs s w h hx hf
def Kx (r r' : Trl) : Prop := r'.n = r.n ∧ r'.fr = r.fr ∧ r'.to = r.to ∧ r'.vl = r.vl
theorem Fok.kx {r r' : Trl} (h : Fok r) (k : Kx r r') : Fok r' := by
  obtain ⟨_, h1, h2, h3⟩ := k
  unfold Fok
  rw [h1, h2, h3]
  exact h
theorem kx_tm (r : Trl) (x : Int) : Kx r { r with tm := x } := ⟨rfl, rfl, rfl, rfl⟩
theorem kx_two (r : Trl) (x y : Int) : Kx r { r with tm := x, st := y } := ⟨rfl, rfl, rfl, rfl⟩
theorem rdT_kx (b : Nat → Nat) (N : Nat) (s : Rs) : Kx s.r (rdT b N s).r := by
  unfold rdT
  by_cases h : s.r.n = 0
  · rw [if_pos h]; exact kx_tm _ _
  · rw [if_neg h]; exact kx_two _ _ _
theorem rdT_fok (b : Nat → Nat) (N : Nat) (s : Rs) (h : Fok s.r) : Fok (rdT b N s).r := h.kx (rdT_kx b N s)
theorem rdT_n (b : Nat → Nat) (N : Nat) (s : Rs) : (rdT b N s).r.n = s.r.n := (rdT_kx b N s).1
theorem rdFr_n (b : Nat → Nat) (N : Nat) (s : Rs) : (rdFr b N s).r.n = s.r.n := by
  unfold rdFr
  by_cases h : 64 < rdF1 b N s
  · rw [if_pos h]
  · rw [if_neg h]
theorem rdV_cases (b : Nat → Nat) (N : Nat) (s : Rs) : rdV b N s = rdW b N s ∨ rdV b N s = rdX b N (rdFr b N (rdW b N s)) ∨ rdV b N s = rdX b N (rdW b N s) := by
  unfold rdV
  by_cases h1 : (wyF b N 3 s.p).1 = 3
  · rw [if_pos h1]; exact .inl rfl
  · rw [if_neg h1]
    by_cases h2 : (wyF b N 3 s.p).1 = 0
    · rw [if_pos h2]; exact .inl rfl
    · rw [if_neg h2]
      by_cases h3 : (wyF b N 3 s.p).1 = 2
      · rw [if_pos h3]; exact .inr (.inl rfl)
      · rw [if_neg h3]; exact .inr (.inr rfl)
theorem rdX_n (b : Nat → Nat) (N : Nat) (s : Rs) : (rdX b N s).r.n = s.r.n := by unfold rdX; rfl
theorem rdW_r (b : Nat → Nat) (N : Nat) (s : Rs) : (rdW b N s).r = s.r := by unfold rdW; rfl
theorem rdV_n (b : Nat → Nat) (N : Nat) (s : Rs) : (rdV b N s).r.n = s.r.n := by
  rcases rdV_cases b N s with h | h | h
  · rw [h, rdW_r]
  · rw [h, rdX_n, rdFr_n, rdW_r]
  · rw [h, rdX_n, rdW_r]
theorem rdX_fok (b : Nat → Nat) (N : Nat) (s : Rs) (h : Fok s.r) : Fok (rdX b N s).r := by
  have h2 := xor_lt h.2 (Nat.mod_lt (tkV b N s.p (s.r.to - s.r.fr) * 2 ^ (64 - s.r.to)) (show 0 < 18446744073709551616 by decide))
  unfold rdX Fok
  exact ⟨h.1, h2⟩
theorem rdV_fok (b : Nat → Nat) (N : Nat) (s : Rs) (h : Fok s.r) : Fok (rdV b N s).r := by
  have hw : Fok (rdW b N s).r := by rw [rdW_r]; exact h
  rcases rdV_cases b N s with h | h | h
  · rw [h]; exact hw
  · rw [h]; exact rdX_fok _ _ _ (rdFr_fok _ _ _ hw)
  · rw [h]; exact rdX_fok _ _ _ hw
theorem rdN_kx (b : Nat → Nat) (N : Nat) (s : Rs) : (rdN b N s).r = { (rdV b N (rdT b N s)).r with n := (rdV b N (rdT b N s)).r.n + 1 } := by unfold rdN rdY; rfl
theorem rdN_fok (b : Nat → Nat) (N : Nat) (s : Rs) (h : Fok s.r) : Fok (rdN b N s).r := by
  have := rdV_fok b N _ (rdT_fok b N s h)
  rw [rdN_kx]
  unfold Fok at *
  exact this
theorem rdN_n (b : Nat → Nat) (N : Nat) (s : Rs) : (rdN b N s).r.n = s.r.n + 1 := by
  rw [rdN_kx]
  show (rdV b N (rdT b N s)).r.n + 1 = _
  rw [rdV_n, rdT_n]
/-- A reader where all but other blocks stays. -/
theorem Rdr.far {w w' : World} {B SB : Nat} {a0 : Option Addr} {xs : List Int} {s : Rs} (h : Rdr w B a0 xs s) (k : Kp (fun k => k = SB) w w') (hSB : B ≠ SB) (hi : Im w' a0 xs) : Rdr w' B a0 xs s := by
  obtain ⟨a, c, q0, q0'⟩ := h.src.c0
  exact ⟨⟨⟨a, c, k.cell q0 hSB, q0'⟩, k.cell h.src.c1 hSB, k.cell h.src.c2 hSB, fun i => by rw [World.frozen?_of_block (w := w) (k.block B h.src.lt hSB)]; exact h.src.fz i, h.src.le, hi, h.src.nB⟩, h.tc.kp k hSB⟩
set_option maxHeartbeats 2000000 in
set_option maxRecDepth 100000 in
theorem next_gen (hTV : TvC) (B : Nat) (a0 : Option Addr) (xs : List Int) (s : Rs) (w : World) (h : Rdr w B a0 xs s) (hx : By xs) (hs : Scl w) (hB : 1 < B) (hf : Fok s.r) (hn : s.r.n ≤ 1000000) :
    Calls Tryd.prog 39 #[.pointer (some ⟨B, 0, none⟩)] w fun e w' => e = .returned (smV (rdO (bt 8 xs) (8 * xs.length) s)) ∧ Rdr w' B a0 xs (rdN (bt 8 xs) (8 * xs.length) s) ∧ Kp (fun k => k = B) w w' := by
  have hb : Below w.heap.size w (w.alloc (.cells #[.int .i64 0, .float .f64 0, .bool false] 38)) := (Below.refl _ _).alloc (Nat.le_refl _) _
  have k1 := takeTime_any B a0 xs s _ (h.below hb) hx (hs.below hb) hB
  have HTV : Hid (∀ w, Rdr w B a0 xs (rdT (bt 8 xs) (8 * xs.length) s) → _) := fun w hr => hTV B a0 xs _ w hr hx (rdT_fok _ _ _ hf)
  have HI : Hid (Im w a0 xs) := h.src.im
  have HNB : Hid (∀ g o, a0 = some ⟨g, o, none⟩ → g ≠ B) := h.src.nB
  have hlt := h.src.lt
  have HB : Hid (Below w.heap.size w (w.alloc (.cells #[.int .i64 0, .float .f64 0, .bool false] 38))) := hb
  have z0 : (w.alloc (.cells #[.int .i64 0, .float .f64 0, .bool false] 38)).cell? ⟨w.heap.size, 0, none⟩ = some (.int .i64 0) := by simp
  have z1 : (w.alloc (.cells #[.int .i64 0, .float .f64 0, .bool false] 38)).cell? ⟨w.heap.size, 1, none⟩ = some (.float .f64 0) := by simp
  have z2 : (w.alloc (.cells #[.int .i64 0, .float .f64 0, .bool false] 38)).cell? ⟨w.heap.size, 2, none⟩ = some (.bool false) := by simp
  have zf : ∀ i, (w.alloc (.cells #[.int .i64 0, .float .f64 0, .bool false] 38)).frozen? ⟨w.heap.size, i, none⟩ = false := fun i => by simp
  have hnn : ((rdV (bt 8 xs) (8 * xs.length) (rdT (bt 8 xs) (8 * xs.length) s)).r.n : Int) ≤ 1000000 := by rw [rdV_n, rdT_n]; omega
  have HD : Hid (rdN (bt 8 xs) (8 * xs.length) s = { rdV (bt 8 xs) (8 * xs.length) (rdT (bt 8 xs) (8 * xs.length) s) with r := { (rdV (bt 8 xs) (8 * xs.length) (rdT (bt 8 xs) (8 * xs.length) s)).r with n := (rdV (bt 8 xs) (8 * xs.length) (rdT (bt 8 xs) (8 * xs.length) s)).r.n + 1 } }) := rfl
  have HO : Hid (rdO (bt 8 xs) (8 * xs.length) s = if rdS (bt 8 xs) (8 * xs.length) (rdT (bt 8 xs) (8 * xs.length) s) = true then ⟨(rdV (bt 8 xs) (8 * xs.length) (rdT (bt 8 xs) (8 * xs.length) s)).r.tm, 0, true⟩ else ⟨(rdV (bt 8 xs) (8 * xs.length) (rdT (bt 8 xs) (8 * xs.length) s)).r.tm, (rdV (bt 8 xs) (8 * xs.length) (rdT (bt 8 xs) (8 * xs.length) s)).r.vl, false⟩) := rfl
  rw [HD.out, HO.out]
  clear HD HO hb h hs hf hn
  generalize rdT (bt 8 xs) (8 * xs.length) s = s1 at *
  generalize rdS (bt 8 xs) (8 * xs.length) s1 = S1 at *
  generalize rdV (bt 8 xs) (8 * xs.length) s1 = s2 at *
  obtain ⟨p, b, n, tm, st, vl, fr, to⟩ := s2
  dsimp only at hnn ⊢
  obtain ⟨SB, hSB⟩ : ∃ SB, SB = w.heap.size := ⟨_, rfl⟩
  have HSB : Hid (SB = w.heap.size) := hSB
  have hSB2 : SB ≠ B := by omega
  have hSB3 : B ≠ SB := by omega
  go_enter Tryd.func39, Tryd.ntmps39
  go_upto_region 1 with fail
  rw [← hSB] at z0 z1 z2 zf ⊢
  clear hSB hlt
  generalize w.alloc (.cells #[.int .i64 0, .float .f64 0, .bool false] 38) = W0 at *
  go_wp2_with fail
  go_fit k1
  rintro e w1 ⟨rfl, r1, q1⟩
  have k2 := HTV.out w1 r1
  clear k1 r1 HTV
  go_wp2_with fail
  go_fit k2
  rintro e w2 ⟨rfl, r2, q2⟩
  have qq := q1.trans q2
  have y0 := qq.cell (p := ⟨SB, 0, none⟩) z0 hSB2
  have y1 := qq.cell (p := ⟨SB, 1, none⟩) z1 hSB2
  have y2 := qq.cell (p := ⟨SB, 2, none⟩) z2 hSB2
  have yf : ∀ i, w2.frozen? ⟨SB, i, none⟩ = false := fun i => by
    rw [World.frozen?_of_block (w := W0) (qq.block SB (World.block_lt_of_cell? W0 ⟨SB, 0, none⟩ z0) hSB2)]
    exact zf i
  have c0 := r2.tc.c0
  have c1 := r2.tc.c1
  have c3 := r2.tc.c3
  have cf := r2.src.fz
  have K2 : Kp (fun k => k = B) w w2 := (Kp.of HB.out).trans qq
  have hn1 : ((n : Int) + 1) = ((n + 1 : Nat) : Int) := by omega
  have r3 : Rdr (w2.setCell ⟨B, 3, none⟩ (.int .i64 ((n : Int) + 1))) B a0 xs ⟨p, b, n + 1, tm, st, vl, fr, to⟩ := by
    rw [hn1]; exact ⟨r2.src.set 3 (by decide) _, r2.tc.setN (n + 1)⟩
  have HFin : Hid (∀ w4, Kp (fun k => k = SB) (w2.setCell ⟨B, 3, none⟩ (.int .i64 ((n : Int) + 1))) w4 → Rdr w4 B a0 xs ⟨p, b, n + 1, tm, st, vl, fr, to⟩ ∧ Kp (fun k => k = B) w w4) := fun w4 k4 => by
    have k5 : Kp (fun k => k = B) w w4 := (K2.trans (kpB_set _ _ _ _)).trans' k4 (fun i hi e => by have := HSB.out; omega)
    exact ⟨r3.far k4 hSB3 (HI.out.kp k5 HNB.out), k5⟩
  have x0 := (cell_far w2 B SB 3 0 (.int .i64 ((n : Int) + 1)) hSB3).trans y0
  have x1 := (cell_far w2 B SB 3 1 (.int .i64 ((n : Int) + 1)) hSB3).trans y1
  have x2 := (cell_far w2 B SB 3 2 (.int .i64 ((n : Int) + 1)) hSB3).trans y2
  have xf : ∀ i, (w2.setCell ⟨B, 3, none⟩ (.int .i64 ((n : Int) + 1))).frozen? ⟨SB, i, none⟩ = false := fun i => by rw [World.frozen?_setCell]; exact yf i
  have b1 : (w2.setCell ⟨B, 3, none⟩ (.int .i64 ((n : Int) + 1))).cell? ⟨B, 4, none⟩ = some (.int .i64 tm) := (cell_off w2 B 3 4 _ (by decide)).trans c1
  have b3 : (w2.setCell ⟨B, 3, none⟩ (.int .i64 ((n : Int) + 1))).cell? ⟨B, 6, none⟩ = some (.int .u64 (vl : Nat)) := (cell_off w2 B 3 6 _ (by decide)).trans c3
  clear hn1 r2 r3 K2 k2 q1 q2 qq z0 z1 z2 zf HB HI HNB y0 y1 y2 yf c1 c3
  have hsf := @run_store_float Tryd.prog
  cases S1 with
  | true =>
    go_upto_region 4 with fail
    clear cf c0
    generalize w2.setCell ⟨B, 3, none⟩ (.int .i64 ((n : Int) + 1)) = W3 at *
    go_wp2
    refine bodyPost_ret (v := smV ⟨tm, 0, true⟩) (by simp [results, Tryd.results39, go_sem, x0, x1, x2]) rfl ⟨rfl, ?_⟩
    exact HFin.out _ (((((Kp.refl (fun k => k = SB) _).setCell (p := ⟨SB, 0, none⟩) rfl _)).setCell (p := ⟨SB, 1, none⟩) rfl _).setCell (p := ⟨SB, 2, none⟩) rfl _)
  | false =>
    have k5 := fun W => fromBits_any vl W
    go_upto_region 4 with fail
    clear cf c0
    generalize w2.setCell ⟨B, 3, none⟩ (.int .i64 ((n : Int) + 1)) = W3 at *
    go_wp2_with fail
    go_region_held3 (fun w' => w'.cell? ⟨B, 4, none⟩ = some (.int .i64 tm) ∧ w'.cell? ⟨B, 6, none⟩ = some (.int .u64 (vl : Nat))) (first | exact ⟨b1, b3⟩ | go_keep | exact ⟨(cell_far _ _ _ _ _ _ hSB2).trans ((cell_far _ _ _ _ _ _ hSB2).trans ((cell_far _ _ _ _ _ _ hSB2).trans b1)), (cell_far _ _ _ _ _ _ hSB2).trans ((cell_far _ _ _ _ _ _ hSB2).trans ((cell_far _ _ _ _ _ _ hSB2).trans b3))⟩) (first | (go_at_call 52; go_fit (k5 _); rintro z w5 ⟨rfl, rfl⟩))
    go_wp2
    refine bodyPost_ret (v := smV ⟨tm, vl, false⟩) (by simp [results, Tryd.results39, go_sem, x0, x1, x2]) rfl ⟨rfl, ?_⟩
    exact HFin.out _ (((((Kp.refl (fun k => k = SB) _).drew.setCell (p := ⟨SB, 0, none⟩) rfl _)).setCell (p := ⟨SB, 1, none⟩) rfl _).setCell (p := ⟨SB, 2, none⟩) rfl _)
end Go.Proofs.YtedlmjieclaojaaDoor
