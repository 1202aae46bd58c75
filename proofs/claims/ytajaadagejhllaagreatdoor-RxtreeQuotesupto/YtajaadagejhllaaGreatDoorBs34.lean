/- A bundle of texts. -/
import Derived.Test.YtajaadagejhllaaGreatDoorBs33
import Derived.Test.YtajaadagejhllaaGreatDoorBs24
import Derived.Laws.Cover4
/- What the tree of a|[c-e]+? is. -/
namespace Go.Proofs.YtajaadagejhllaaGreatDoor
open Go.RowKit Go.Lib

def xT (g cc g' : Nat) (a' : Option Addr) (c' : Nat) : Tr := alT g cc (ltT 97) (rpT g' (csT a' c' (99, 101)))
theorem isX_xT {t : Tr} (h : isX t) : ∃ g cc g' a' c', t = xT g cc g' a' c' := by
  obtain ⟨g, cc, t1, t2, rfl, ⟨g', t', ⟨a', c', rfl⟩, rfl⟩, rfl⟩ := h
  exact ⟨g, cc, g', a', c', rfl⟩
theorem svd_x (g cc g' : Nat) (a' : Option Addr) (c' : Nat) : (svd (xT g cc g' a' c')).isSome = true := by kernel_rfl
theorem shV_x (g cc g' : Nat) (a' : Option Addr) (c' : Nat) : shV (xT g cc g' a' c') = (x1, 0) := by kernel_rfl
theorem okT_x (g cc g' : Nat) (a' : Option Addr) (c' : Nat) : okT (xT g cc g' a' c') = true := by kernel_rfl
def zT : Tr := topT zN (fun _ _ => nd0)
theorem okT_z : okT zT = false := by kernel_rfl
theorem z_nw (n : Nat) (w : World) : Nw n w zT :=
  topT_z ⟨by show 0 * 8 ≤ 140737488351232; decide, by show 0 * 8 ≤ 140737488351232; decide, by show (0 : Nat) ≤ 140737488351232; decide, by show 0 ≤ 0; decide⟩ (.inl rfl) (.inl rfl) (fun j hj => absurd hj (Nat.not_lt_zero _))
def x3 : ByteArray := ⟨#[97, 46, 98]⟩
def y3 : ByteArray := ⟨#[97, 92, 46, 98]⟩
theorem quB_3 : quB x3 x3.size = y3 := by kernel_rfl
/-- What lies in memory of that tree. -/
theorem x_open {n : Nat} {w : World} {g cc g' : Nat} {a' : Option Addr} {c' : Nat} (h : Nw n w (xT g cc g' a' c')) : ∃ H p, a' = some ⟨H, p, none⟩ ∧ g < w.heap.size ∧ g' < w.heap.size ∧ H < w.heap.size ∧ Cs w g 0 (ltN 97) ∧ Cs w g 9 (rpN g') ∧ Cs w g' 0 (csN a' c' (99, 101)) ∧ w.cell? ⟨H, p + 1, none⟩ = some (.int .i32 101) := by
  have k0 := (h 1).2.2.1
  rcases k0 with h0 | ⟨G, o, e, hG, hc⟩
  · exact absurd h0 (by show ¬ 2 = 0; decide)
  · cases e
    have k1 := ((h 2).2.2.2 1 (by show 1 < 2; decide)).2.2.1
    rcases k1 with h0 | ⟨G', o', e', hG', hc'⟩
    · exact absurd h0 (by show ¬ 1 = 0; decide)
    · cases e'
      have k2 := (((h 3).2.2.2 1 (by show 1 < 2; decide)).2.2.2 0 (by show 0 < 1; decide)).2.1
      rcases k2 with h0 | ⟨H, p, e2, hH, hr⟩
      · exact absurd h0 (by show ¬ 1 = 0; decide)
      · have e3 : a' = some ⟨H, p, none⟩ := e2
        exact ⟨H, p, e3, hG.2, hG'.2, hH.2, hc 0 (by show 0 < 2; decide), hc 1 (by show 1 < 2; decide), hc' 0 (by show 0 < 1; decide), by have := (hr 0 (by show 0 < 1; decide)).2; rwa [Nat.zero_mul, Nat.add_zero] at this⟩
end Go.Proofs.YtajaadagejhllaaGreatDoor
/- alive. -/
namespace Go.Proofs.YtajaadagejhllaaGreatDoor
open Go.RowKit Go.Lib

abbrev xV (g cc : Nat) : Value := .agg #[.int .i64 5, .int .i32 0, .slice none 0 0, .int .i64 0, .int .i64 0, .bool false, .int .i64 0, .string ⟨#[]⟩, .slice (some ⟨g, 0, none⟩) 2 cc]
abbrev xO (g cc : Nat) : Obj := .cells #[.int .i64 5, .int .i32 0, .slice none 0 0, .int .i64 0, .int .i64 0, .bool false, .int .i64 0, .string ⟨#[]⟩, .slice (some ⟨g, 0, none⟩) 2 cc] 25
abbrev yO (g : Nat) : Obj := .cells #[.int .i64 6, .int .i32 0, .slice none 0 0, .int .i64 1, .int .i64 (-1), .bool true, .int .i64 0, .string ⟨#[]⟩, .slice (some ⟨g, 0, none⟩) 1 1] 25
abbrev zV : Value := .agg #[.int .i64 0, .int .i32 0, .slice none 0 0, .int .i64 0, .int .i64 0, .bool false, .int .i64 0, .string ⟨#[]⟩, .slice none 0 0]
theorem parse_x' (w : World) : Calls Tryz.prog 9 #[.string ⟨#[97, 124, 91, 99, 45, 101, 93, 43, 63]⟩] w fun e w' => ∃ g cc g' a' c', e = .returned (.tuple #[xV g cc, .int .i64 0]) ∧ Nw w.heap.size w' (xT g cc g' a' c') ∧ Below w.heap.size w w' := by
  refine (parse_x w).mono ?_
  rintro e w' ⟨t, ht, he, hn, hb⟩
  obtain ⟨g, cc, g', a', c', rfl⟩ := isX_xT ht
  exact ⟨g, cc, g', a', c', he, hn, hb⟩
theorem show_x (g cc g' : Nat) (a' : Option Addr) (c' : Nat) (w : World) (ht : Tat w.heap.size w (xT g cc g' a' c')) (hA : TbA w.heap.size w) : Calls Tryz.prog 24 #[xV g cc] w fun e w' => e = .returned (.tuple #[.string ⟨#[97, 124, 91, 99, 45, 101, 93, 43, 63]⟩, .int .i64 0]) ∧ Below w.heap.size w w' := by
  have := show_any _ w ht hA
  rw [shV_x] at this
  exact this
theorem valid_x (g cc g' : Nat) (a' : Option Addr) (c' : Nat) (w : World) (ht : Tat w.heap.size w (xT g cc g' a' c')) : Calls Tryz.prog 11 #[xV g cc] w fun e w' => e = .returned (.bool true) ∧ Below w.heap.size w w' := by
  have := valid_any _ w ht
  rw [okT_x] at this
  exact this
theorem valid_z (w : World) : Calls Tryz.prog 11 #[zV] w fun e w' => e = .returned (.bool false) ∧ Below w.heap.size w w' := by
  have := valid_any zT w (z_nw 0 w).tat
  rw [okT_z] at this
  exact this
theorem quote_3 (w : World) : Calls Tryz.prog 20 #[.string ⟨#[97, 46, 98]⟩] w fun e w' => e = .returned (.string ⟨#[97, 92, 46, 98]⟩) ∧ Below w.heap.size w w' := by
  have := quote_any x3 w (by decide)
  rw [quB_3] at this
  exact this
theorem parse_2 (w : World) : Calls Tryz.prog 9 #[.string ⟨#[40]⟩] w fun e w' => e = .returned (.tuple #[zV, .int .i64 80]) ∧ Below w.heap.size w w' := parse_pn w
set_option maxRecDepth 100000 in
set_option maxHeartbeats 4000000 in
theorem alive_any (w : World) (hA : TbA w.heap.size w) : Calls Tryz.prog 12 #[] w fun e w' => e = .returned (.bool true) ∧ Below w.heap.size w w' := by
  have k1 := parse_x' w
  go_enter Tryz.func12, Tryz.ntmps12
  go_wp2_with fail
  go_fit k1
  rintro e w1 ⟨g, cc, g', a', c', rfl, hn, b1⟩
  obtain ⟨H, p, rfl, hg, hg', hH, c0, c9, c5, cr⟩ := x_open hn
  have bx : Below w1.heap.size w1 (w1.alloc (xO g cc)) := (Below.refl _ _).alloc (Nat.le_refl _) _
  have b2 : Below (w1.alloc (xO g cc)).heap.size (w1.alloc (xO g cc)) ((w1.alloc (xO g cc)).alloc (yO g')) := (Below.refl _ _).alloc (Nat.le_refl _) _
  have bxy : Below w1.heap.size w1 ((w1.alloc (xO g cc)).alloc (yO g')) := bx.trans (b2.mono (by simp))
  have r1 : (w1.alloc (xO g cc)).cell? ⟨g, 1, none⟩ = some (.int .i32 97) := (bx.cell (p := ⟨g, 1, none⟩) hg).trans c0.c1
  have cd := c9.below bx hg
  have d0 : (w1.alloc (xO g cc)).cell? ⟨g, 9, none⟩ = some (.int .i64 6) := cd.c0
  have d1 : (w1.alloc (xO g cc)).cell? ⟨g, 10, none⟩ = some (.int .i32 0) := cd.c1
  have d2 : (w1.alloc (xO g cc)).cell? ⟨g, 11, none⟩ = some (.slice none 0 0) := cd.c2
  have d3 : (w1.alloc (xO g cc)).cell? ⟨g, 12, none⟩ = some (.int .i64 1) := cd.c3
  have d4 : (w1.alloc (xO g cc)).cell? ⟨g, 13, none⟩ = some (.int .i64 (-1)) := cd.c4
  have d5 : (w1.alloc (xO g cc)).cell? ⟨g, 14, none⟩ = some (.bool true) := cd.c5
  have d6 : (w1.alloc (xO g cc)).cell? ⟨g, 15, none⟩ = some (.int .i64 0) := cd.c6
  have d7 : (w1.alloc (xO g cc)).cell? ⟨g, 16, none⟩ = some (.string ⟨#[]⟩) := cd.c7
  have d8 : (w1.alloc (xO g cc)).cell? ⟨g, 17, none⟩ = some (.slice (some ⟨g', 0, none⟩) 1 1) := cd.c8
  have z2 : ((w1.alloc (xO g cc)).alloc (yO g')).cell? ⟨g', 2, none⟩ = some (.slice (some ⟨H, p, none⟩) 1 c') := (bxy.cell (p := ⟨g', 2, none⟩) hg').trans c5.c2
  have zr : ((w1.alloc (xO g cc)).alloc (yO g')).cell? ⟨H, p + 1, none⟩ = some (.int .i32 101) := (bxy.cell (p := ⟨H, p + 1, none⟩) hH).trans cr
  have HX : Hid (∀ w5, Below ((w1.alloc (xO g cc)).alloc (yO g')).heap.size ((w1.alloc (xO g cc)).alloc (yO g')) w5 → Cs w5 w1.heap.size 0 (jnN 5 g 2 cc)) := fun w5 b5 => ((cells_ndX (w := w1) (jnN 5 g 2 cc)).below b2 (by simp)).below b5 (by simp; omega)
  have HN : Hid (∀ w5, Below w1.heap.size w1 w5 → Tat w5.heap.size w5 (xT g cc g' (some ⟨H, p, none⟩) c')) := fun w5 b5 => (hn.below b5).tat
  have HB : Hid (Below w.heap.size w w1) := b1
  have HBXY : Hid (Below w1.heap.size w1 ((w1.alloc (xO g cc)).alloc (yO g'))) := bxy
  have k2 := show_x g cc g' (some ⟨H, p, none⟩) c' ((w1.alloc (xO g cc)).alloc (yO g')) (HN.out _ bxy) (fun w6 b6 => hA w6 ((b1.trans (bxy.mono b1.size)).trans (b6.mono (b1.trans (bxy.mono b1.size)).size)))
  clear k1 hn b1 bx b2 bxy c0 c9 c5 cr cd hg hg' hH hA
  go_wp2_with fail
  go_fit k2
  rintro e w3 ⟨rfl, b3⟩
  have k3 := parse_2 w3
  clear k2 r1 d0 d1 d2 d3 d4 d5 d6 d7 d8 z2 zr
  go_wp2_with fail
  go_fit k3
  rintro e w4 ⟨rfl, b4⟩
  have b34 : Below w3.heap.size w3 (w4.alloc (ndX zN)) := b4.trans (box_b.mono b4.size)
  have k5 := quote_3 (w4.alloc (ndX zN))
  clear k3
  go_wp2_with fail
  go_fit k5
  rintro e w6 ⟨rfl, b6⟩
  have b36 : Below w3.heap.size w3 w6 := b34.trans (b6.mono b34.size)
  have b26 := b3.trans (b36.mono b3.size)
  have b16 : Below w1.heap.size w1 w6 := HBXY.out.trans (b26.mono HBXY.out.size)
  have k6 := valid_x g cc g' (some ⟨H, p, none⟩) c' w6 (HN.out _ b16)
  have cx := HX.out w6 b26
  have q0 : w6.cell? ⟨w1.heap.size, 0, none⟩ = some (.int .i64 5) := cx.c0
  have q1 : w6.cell? ⟨w1.heap.size, 1, none⟩ = some (.int .i32 0) := cx.c1
  have q2 : w6.cell? ⟨w1.heap.size, 2, none⟩ = some (.slice none 0 0) := cx.c2
  have q3 : w6.cell? ⟨w1.heap.size, 3, none⟩ = some (.int .i64 0) := cx.c3
  have q4 : w6.cell? ⟨w1.heap.size, 4, none⟩ = some (.int .i64 0) := cx.c4
  have q5 : w6.cell? ⟨w1.heap.size, 5, none⟩ = some (.bool false) := cx.c5
  have q6 : w6.cell? ⟨w1.heap.size, 6, none⟩ = some (.int .i64 0) := cx.c6
  have q7 : w6.cell? ⟨w1.heap.size, 7, none⟩ = some (.string ⟨#[]⟩) := cx.c7
  have q8 : w6.cell? ⟨w1.heap.size, 8, none⟩ = some (.slice (some ⟨g, 0, none⟩) 2 cc) := cx.c8
  have H16 : Hid (Below w1.heap.size w1 w6) := b16
  clear k5 b3 b4 b34 b6 b36 b26 b16 HBXY HX HN cx
  go_wp2_with fail
  go_fit k6
  rintro e w7 ⟨rfl, b7⟩
  have k7 := valid_z w7
  have H17 : Hid (Below w.heap.size w w7) := by
    have := H16.out.trans (b7.mono H16.out.size)
    exact HB.out.trans (this.mono HB.out.size)
  clear k6 b7 H16 HB q0 q1 q2 q3 q4 q5 q6 q7 q8
  go_wp2_with fail
  go_fit k7
  rintro e w8 ⟨rfl, b8⟩
  have HF : Hid (Below w.heap.size w w8) := H17.out.trans (b8.mono H17.out.size)
  clear k7 b8 H17
  go_wp2
  go_ret
  exact ⟨rfl, HF.out⟩
end Go.Proofs.YtajaadagejhllaaGreatDoor
/- Runes written one behind the other. -/
namespace Go.Proofs.YtajaadagejhllaaGreatDoor
open Go.Lib

theorem dec1 (n b0 b1 b2 b3 : Nat) (h : b0 < 128) : decodeN n b0 b1 b2 b3 = (b0, 1) := by
  unfold decodeN; rw [if_pos h]
set_option maxHeartbeats 1000000 in
theorem dec2 (n b0 b1 b2 b3 : Nat) (g : Int) (hn : 1 < n) (h0 : b0 < 256) (h1 : b1 < 256) (hg : g = ((b0 : Int) - 192) * 64 + b1 - 128) (l : 128 ≤ g) (u : g < 2048)
    (e0 : (b0 : Int) = 192 + g / 64) (_e1 : (b1 : Int) = 128 + g % 64) : decodeN n b0 b1 b2 b3 = (g.toNat, 2) := by
  unfold decodeN
  repeat' split
  all_goals first | (exfalso; omega) | (apply Prod.ext <;> simp only <;> omega)
set_option maxHeartbeats 1000000 in
theorem dec3 (n b0 b1 b2 b3 : Nat) (g : Int) (hn : 2 < n) (h0 : b0 < 256) (h1 : b1 < 256) (h2 : b2 < 256) (hg : g = (((b0 : Int) - 224) * 64 + b1 - 128) * 64 + b2 - 128) (l : 2048 ≤ g) (u : g < 65536)
    (r : g < 55296 ∨ 57343 < g) (e0 : (b0 : Int) = 224 + g / 4096) (e1 : (b1 : Int) = 128 + g / 64 % 64) (e2 : (b2 : Int) = 128 + g % 64) : decodeN n b0 b1 b2 b3 = (g.toNat, 3) := by
  unfold decodeN
  repeat' split
  all_goals first | (exfalso; omega) | (apply Prod.ext <;> simp only <;> omega)
set_option maxHeartbeats 1000000 in
theorem dec4 (n b0 b1 b2 b3 : Nat) (g : Int) (hn : 3 < n) (h0 : b0 < 256) (_h1 : b1 < 256) (h2 : b2 < 256) (_h3 : b3 < 256) (hg : g = ((((b0 : Int) - 240) * 64 + b1 - 128) * 64 + b2 - 128) * 64 + b3 - 128) (l : 65536 ≤ g) (u : g ≤ 1114111)
    (e0 : (b0 : Int) = 240 + g / 262144) (e1 : (b1 : Int) = 128 + g / 4096 % 64) (e2 : (b2 : Int) = 128 + g / 64 % 64) (e3 : (b3 : Int) = 128 + g % 64) : decodeN n b0 b1 b2 b3 = (g.toNat, 4) := by
  unfold decodeN
  repeat' split
  all_goals first | (exfalso; omega) | (apply Prod.ext <;> simp only <;> omega)
def isRune (n : Int) : Bool := decide (0 ≤ n ∧ n ≤ 1114111 ∧ (n < 55296 ∨ 57343 < n))
theorem isRune_iff (n : Int) : isRune n = true ↔ 0 ≤ n ∧ n ≤ 1114111 ∧ (n < 55296 ∨ 57343 < n) := by unfold isRune; simp

/-- How many bytes a rune's form has. -/
def wd (x : Int) : Nat := if x < 128 then 1 else if x < 2048 then 2 else if x < 65536 then 3 else 4
theorem wd_bd (x : Int) : 1 ≤ wd x ∧ wd x ≤ 4 := by unfold wd; repeat' split
                                                    all_goals omega

theorem valid_iff (x : Int) : Utf8.valid x = isRune x := by
  unfold Utf8.valid isRune
  rw [Bool.eq_iff_iff]
  simp
  omega
theorem byte_of (n : Nat) (h : n < 256) : (UInt8.ofNat n).toNat = n := by simp; omega

theorem get!_mk (l : List UInt8) (k : Nat) (u : UInt8) (h : l[k]? = some u) : (ByteArray.mk l.toArray).get! k = u := by
  have hk : k < l.length := (List.getElem?_eq_some_iff.1 h).1
  have : (ByteArray.mk l.toArray).get! k = l.toArray[k]! := rfl
  rw [this, getElem!_pos l.toArray k (by simpa using hk)]
  rw [List.getElem?_eq_getElem hk] at h
  simpa using Option.some.inj h

theorem enc_size (x : Int) (h : isRune x = true) : (Utf8.encode x).size = wd x := by
  have hq := (isRune_iff x).1 h
  unfold Utf8.encode wd
  rw [valid_iff, h]
  simp only [if_true]
  by_cases h1 : x < 128
  · rw [if_pos (show x.toNat < 0x80 by omega), if_pos h1]; rfl
  · rw [if_neg (show ¬ x.toNat < 0x80 by omega), if_neg h1]
    by_cases h2 : x < 2048
    · rw [if_pos (show x.toNat < 0x800 by omega), if_pos h2]; rfl
    · rw [if_neg (show ¬ x.toNat < 0x800 by omega), if_neg h2]
      by_cases h3 : x < 65536
      · rw [if_pos (show x.toNat < 0x10000 by omega), if_pos h3]; rfl
      · rw [if_neg (show ¬ x.toNat < 0x10000 by omega), if_neg h3]; rfl

set_option maxHeartbeats 2000000 in
theorem enc_decode (x : Int) (h : isRune x = true) (r : ByteArray) : Utf8.decode (Utf8.encode x ++ r) 0 = (x.toNat, wd x) := by
  have hq := (isRune_iff x).1 h
  have hsz := enc_size x h
  have hd := decode_at (Utf8.encode x ++ r) 0
  rw [hd]
  have hw := wd_bd x
  have hg : ∀ k, k < wd x → (Utf8.encode x ++ r).get! (0 + k) = (Utf8.encode x).get! k := fun k hk => by rw [Nat.zero_add]; exact get!_left _ _ k (by omega)
  have hn : (Utf8.encode x ++ r).size - 0 = wd x + r.size := by simp [hsz]
  rw [hn]
  have e0 := hg 0 (by omega)
  rw [Nat.zero_add] at e0
  generalize (Utf8.encode x ++ r) = s at *
  unfold Utf8.encode at hg e0
  rw [valid_iff, h] at hg e0
  simp only [if_true] at hg e0
  by_cases h1 : x < 128
  · have hwd : wd x = 1 := by unfold wd; rw [if_pos h1]
    rw [if_pos (show x.toNat < 0x80 by omega)] at e0
    have v0 : s.get! 0 = UInt8.ofNat x.toNat := e0.trans (get!_mk _ 0 _ rfl)
    rw [v0, byte_of _ (by omega), hwd]
    exact dec1 _ _ _ _ _ (by omega)
  · rw [if_neg (show ¬ x.toNat < 0x80 by omega)] at hg e0
    by_cases h2 : x < 2048
    · have hwd : wd x = 2 := by unfold wd; rw [if_neg h1, if_pos h2]
      rw [if_pos (show x.toNat < 0x800 by omega)] at hg e0
      rw [hwd] at hg ⊢
      have v0 := e0.trans (get!_mk _ 0 _ rfl)
      have v1 := (hg 1 (by omega)).trans (get!_mk _ 1 _ rfl)
      rw [v0, v1, byte_of _ (by omega), byte_of _ (by omega)]
      exact dec2 _ _ _ _ _ x (by omega) (by omega) (by omega) (by omega) (by omega) h2 (by omega) (by omega)
    · rw [if_neg (show ¬ x.toNat < 0x800 by omega)] at hg e0
      by_cases h3 : x < 65536
      · have hwd : wd x = 3 := by unfold wd; rw [if_neg h1, if_neg h2, if_pos h3]
        rw [if_pos (show x.toNat < 0x10000 by omega)] at hg e0
        rw [hwd] at hg ⊢
        have v0 := e0.trans (get!_mk _ 0 _ rfl)
        have v1 := (hg 1 (by omega)).trans (get!_mk _ 1 _ rfl)
        have v2 := (hg 2 (by omega)).trans (get!_mk _ 2 _ rfl)
        rw [v0, v1, v2, byte_of _ (by omega), byte_of _ (by omega), byte_of _ (by omega)]
        exact dec3 _ _ _ _ _ x (by omega) (by omega) (by omega) (by omega) (by omega) (by omega) h3 hq.2.2 (by omega) (by omega) (by omega)
      · have hwd : wd x = 4 := by unfold wd; rw [if_neg h1, if_neg h2, if_neg h3]
        rw [if_neg (show ¬ x.toNat < 0x10000 by omega)] at hg e0
        rw [hwd] at hg ⊢
        have v0 := e0.trans (get!_mk _ 0 _ rfl)
        have v1 := (hg 1 (by omega)).trans (get!_mk _ 1 _ rfl)
        have v2 := (hg 2 (by omega)).trans (get!_mk _ 2 _ rfl)
        have v3 := (hg 3 (by omega)).trans (get!_mk _ 3 _ rfl)
        rw [v0, v1, v2, v3, byte_of _ (by omega), byte_of _ (by omega), byte_of _ (by omega), byte_of _ (by omega)]
        exact dec4 _ _ _ _ _ x (by omega) (by omega) (by omega) (by omega) (by omega) (by omega) (by omega) hq.2.1 (by omega) (by omega) (by omega) (by omega)

theorem enc_good (x : Int) (h : isRune x = true) (r : ByteArray) : good (Utf8.encode x ++ r) 0 := by
  unfold good
  rw [enc_decode x h r]
  have hq := (isRune_iff x).1 h
  intro hc
  have h1 : x.toNat = 65533 := hc.1
  have h2 : wd x = 1 := hc.2
  unfold wd at h2
  rw [if_neg (by omega), if_neg (by omega), if_pos (by omega)] at h2
  omega

/-! ### Many -/
theorem rb_nil : runesBytes [] = ByteArray.empty := rfl
theorem foldl_enc (xs : List Int) : ∀ (s : ByteArray), xs.foldl (fun r n => r ++ Utf8.encode n) s = s ++ runesBytes xs := by
  induction xs with
  | nil => intro s; simp [runesBytes]
  | cons x xs ih =>
    intro s
    unfold runesBytes
    rw [List.foldl_cons, List.foldl_cons, ih, ih, ByteArray.append_assoc, ByteArray.empty_append]
theorem rb_cons (x : Int) (xs : List Int) : runesBytes (x :: xs) = Utf8.encode x ++ runesBytes xs := by
  show (x :: xs).foldl (fun r n => r ++ Utf8.encode n) ByteArray.empty = _
  rw [List.foldl_cons, foldl_enc, ByteArray.empty_append]
theorem rb_append (xs ys : List Int) : runesBytes (xs ++ ys) = runesBytes xs ++ runesBytes ys := by
  show (xs ++ ys).foldl (fun r n => r ++ Utf8.encode n) ByteArray.empty = _
  rw [List.foldl_append, foldl_enc ys]
  rfl

theorem enc_vld (x : Int) (h : isRune x = true) : vld (Utf8.encode x) (Utf8.encode x).size 0 = true ∧ rns (Utf8.encode x) (Utf8.encode x).size 0 = [x] := by
  have hs := enc_size x h
  have hw := wd_bd x
  have hq := (isRune_iff x).1 h
  have hd := enc_decode x h ByteArray.empty
  have hg := enc_good x h ByteArray.empty
  rw [ByteArray.append_empty] at hd hg
  obtain ⟨f, hf⟩ : ∃ f, (Utf8.encode x).size = f + 1 := ⟨(Utf8.encode x).size - 1, by omega⟩
  constructor
  · rw [hf, vld_step _ _ _ (by omega)]
    refine ⟨hg, vld_end _ _ _ (by rw [hd]; simp only; omega)⟩
  · rw [hf]
    unfold rns
    rw [if_pos (by omega), rns_end _ _ _ (by rw [hd]; simp only; omega), hd]
    simp only
    rw [Int.toNat_of_nonneg hq.1]

theorem rb_vld : ∀ (xs : List Int), (∀ x ∈ xs, isRune x = true) → vld (runesBytes xs) (runesBytes xs).size 0 = true ∧ rns (runesBytes xs) (runesBytes xs).size 0 = xs
  | [], _ => ⟨rfl, rfl⟩
  | x :: xs, h => by
    obtain ⟨r1, r2⟩ := rb_vld xs (fun y hy => h y (List.mem_cons_of_mem _ hy))
    obtain ⟨e1, e2⟩ := enc_vld x (h x (List.mem_cons_self ..))
    rw [rb_cons]
    have hj := join_ok (Utf8.encode x) (runesBytes xs) r1 (Utf8.encode x).size 0 (by omega) (by omega) e1
    rw [e2, r2] at hj
    rw [ByteArray.size_append]
    exact hj

end Go.Proofs.YtajaadagejhllaaGreatDoor
