/- A bundle of texts. -/
import Derived.Test.YtajaadagejhllaaGreatDoorBs11
import Derived.Test.YtajaadagejhllaaGreatDoorBs12
import Derived.Lib.ItoaLen
import Derived.Laws.BytesArg
/- Show: the texts of marks and times. -/
namespace Go.Proofs.YtajaadagejhllaaGreatDoor
open Go.RowKit Go.Lib

set_option maxHeartbeats 1000000 in
theorem mark_any (k : Int) (w : World) : Calls Tryz.prog 74 #[.int .i64 k] w fun e w' => e = .returned (.string (mkB k)) ∧ w' = w := by
  by_cases h8 : k = 8
  · subst h8; go_enter Tryz.func74, Tryz.ntmps74; go_wp2; go_ret; exact ⟨rfl, rfl⟩
  by_cases h9 : k = 9
  · subst h9; go_enter Tryz.func74, Tryz.ntmps74; go_wp2; go_ret; exact ⟨rfl, rfl⟩
  by_cases h10 : k = 10
  · subst h10; go_enter Tryz.func74, Tryz.ntmps74; go_wp2; go_ret; exact ⟨rfl, rfl⟩
  by_cases h11 : k = 11
  · subst h11; go_enter Tryz.func74, Tryz.ntmps74; go_wp2; go_ret; exact ⟨rfl, rfl⟩
  by_cases h12 : k = 12
  · subst h12; go_enter Tryz.func74, Tryz.ntmps74; go_wp2; go_ret; exact ⟨rfl, rfl⟩
  by_cases h13 : k = 13
  · subst h13; go_enter Tryz.func74, Tryz.ntmps74; go_wp2; go_ret; exact ⟨rfl, rfl⟩
  have e8 : (k == 8) = false := by simpa using h8
  have e9 : (k == 9) = false := by simpa using h9
  have e10 : (k == 10) = false := by simpa using h10
  have e11 : (k == 11) = false := by simpa using h11
  have e12 : (k == 12) = false := by simpa using h12
  have e13 : (k == 13) = false := by simpa using h13
  have HM : Hid (mkB k = ⟨#[]⟩) := by unfold Hid mkB; rw [if_neg h8, if_neg h9, if_neg h10, if_neg h11, if_neg h12, if_neg h13]
  clear h8 h9 h10 h11 h12 h13
  go_enter Tryz.func74, Tryz.ntmps74
  go_wp2
  go_ret
  exact ⟨by rw [HM.out]; rfl, rfl⟩

theorem below_grown (w : World) (k : Nat) (os : Array Obj) : Below w.heap.size w (Go.Sort.grow (w.drewN k) os) :=
  ⟨rfl, rfl, rfl, by simp [Go.Sort.grow, World.drewN], fun i hi => by simp [Go.Sort.grow, World.drewN, Array.getElem?_append, hi]⟩
/-- The table that Itoa reads. -/
abbrev TbI (w : World) : Prop := Lib.TabIs Tryz.prog w "internal/strconv.uint64pow10" .u64 Lib.pow10Tab
theorem itoa_any (n : Int) (h0 : -1 ≤ n) (h1 : n ≤ 1000) (w : World) (ht : TbI w) : Calls Tryz.prog 78 #[.int .i64 n] w fun e w' => e = .returned (.string (itB n)) ∧ Below w.heap.size w w' := by
  refine (Tryz.strconv_Itoa n (by omega) (by omega) w ht).mono ?_
  rintro e w' ⟨rfl, k, os, rfl⟩
  exact ⟨rfl, below_grown w k os⟩
theorem itB_size (n : Int) (h0 : -1 ≤ n) (h1 : n ≤ 1000) : (itB n).size ≤ 21 := by
  have := Lib.itoa_length_le n (by omega) (by omega)
  show (Lib.itoa n).toArray.size ≤ 21
  simpa using this
theorem TbI.below {w w' : World} (h : TbI w) (hb : Below w.heap.size w w') : TbI w' := by
  unfold TbI Lib.TabIs World.var? at *
  cases hg : Tryz.prog.globalNamed "internal/strconv.uint64pow10" with
  | none => simp [hg] at h
  | some g =>
    simp only [hg, Option.bind_some] at h ⊢
    have hlt : g < w.heap.size := by
      rcases Nat.lt_or_ge g w.heap.size with h' | h'
      · exact h'
      · rw [Array.getElem?_eq_none h'] at h; simp at h
    rw [hb.block g hlt]
    exact h
set_option maxHeartbeats 4000000 in
theorem times_s0 (a b : Int) (w : World) (I : ByteArray) (hI9 : I.size ≤ 21) (ha : a = 0) (hb : b = 0)
    (hI : Calls Tryz.prog 78 #[.int .i64 a] w fun e w' => e = .returned (.string I) ∧ Below w.heap.size w w') :
    Calls Tryz.prog 73 #[.int .i64 a, .int .i64 b] w fun e w' => e = .returned (.string (((⟨#[123]⟩ : ByteArray) ++ I) ++ ⟨#[125]⟩)) ∧ Below w.heap.size w w' := by
  subst ha; subst hb
  have n1 : ¬ 9223372036854775807 < 1 + I.size := by omega
  have n2 : ¬ 9223372036854775807 < 1 + I.size + 1 := by omega
  go_enter Tryz.func73, Tryz.ntmps73
  go_wp2_with (go_at_call 78; go_fit hI; rintro e w1 ⟨rfl, b1⟩)
  go_ret
  exact ⟨rfl, b1⟩
set_option maxHeartbeats 4000000 in
theorem times_s1 (a b : Int) (w : World) (I : ByteArray) (hI9 : I.size ≤ 21) (ha : a = 1) (hb : b = 1)
    (hI : Calls Tryz.prog 78 #[.int .i64 a] w fun e w' => e = .returned (.string I) ∧ Below w.heap.size w w') :
    Calls Tryz.prog 73 #[.int .i64 a, .int .i64 b] w fun e w' => e = .returned (.string (((⟨#[123]⟩ : ByteArray) ++ I) ++ ⟨#[125]⟩)) ∧ Below w.heap.size w w' := by
  subst ha; subst hb
  have n1 : ¬ 9223372036854775807 < 1 + I.size := by omega
  have n2 : ¬ 9223372036854775807 < 1 + I.size + 1 := by omega
  go_enter Tryz.func73, Tryz.ntmps73
  go_wp2_with (go_at_call 78; go_fit hI; rintro e w1 ⟨rfl, b1⟩)
  go_ret
  exact ⟨rfl, b1⟩
set_option maxHeartbeats 4000000 in
theorem times_s2 (a b : Int) (w : World) (I : ByteArray) (hI9 : I.size ≤ 21) (hb : b = a) (e1 : (a == 0) = false) (e2 : (a == 1) = false)
    (hI : Calls Tryz.prog 78 #[.int .i64 a] w fun e w' => e = .returned (.string I) ∧ Below w.heap.size w w') :
    Calls Tryz.prog 73 #[.int .i64 a, .int .i64 b] w fun e w' => e = .returned (.string (((⟨#[123]⟩ : ByteArray) ++ I) ++ ⟨#[125]⟩)) ∧ Below w.heap.size w w' := by
  subst hb
  have n1 : ¬ 9223372036854775807 < 1 + I.size := by omega
  have n2 : ¬ 9223372036854775807 < 1 + I.size + 1 := by omega
  go_enter Tryz.func73, Tryz.ntmps73
  go_wp2_with (go_at_call 78; go_fit hI; rintro e w1 ⟨rfl, b1⟩)
  go_ret
  exact ⟨rfl, b1⟩
set_option maxHeartbeats 4000000 in
theorem times_m1 (a b : Int) (w : World) (I : ByteArray) (hI9 : I.size ≤ 21) (hb : b = -1) (e1 : (a == 0) = false) (e2 : (a == 1) = false) (e3 : (-1 == a) = false)
    (hI : Calls Tryz.prog 78 #[.int .i64 a] w fun e w' => e = .returned (.string I) ∧ Below w.heap.size w w') :
    Calls Tryz.prog 73 #[.int .i64 a, .int .i64 b] w fun e w' => e = .returned (.string (((⟨#[123]⟩ : ByteArray) ++ I) ++ ⟨#[44, 125]⟩)) ∧ Below w.heap.size w w' := by
  subst hb
  have n1 : ¬ 9223372036854775807 < 1 + I.size := by omega
  have n2 : ¬ 9223372036854775807 < 1 + I.size + 1 := by omega
  have n3 : ¬ 9223372036854775807 < 1 + I.size + 2 := by omega
  go_enter Tryz.func73, Tryz.ntmps73
  go_wp2_with (go_at_call 78; go_fit hI; rintro e w1 ⟨rfl, b1⟩)
  go_ret
  exact ⟨rfl, b1⟩
set_option maxHeartbeats 4000000 in
theorem times_g0 (a b : Int) (w : World) (I J : ByteArray) (hI9 : I.size ≤ 21) (hJ9 : J.size ≤ 21) (ha : a = 0) (e1 : (b == -1) = false) (e2 : (b == 1) = false) (e3 : (b == 0) = false)
    (hI : Calls Tryz.prog 78 #[.int .i64 a] w fun e w' => e = .returned (.string I) ∧ Below w.heap.size w w') (hJ : ∀ w1, Below w.heap.size w w1 → Calls Tryz.prog 78 #[.int .i64 b] w1 fun e w' => e = .returned (.string J) ∧ Below w1.heap.size w1 w') :
    Calls Tryz.prog 73 #[.int .i64 a, .int .i64 b] w fun e w' => e = .returned (.string (((((⟨#[123]⟩ : ByteArray) ++ I) ++ ⟨#[44]⟩) ++ J) ++ ⟨#[125]⟩)) ∧ Below w.heap.size w w' := by
  subst ha
  have n1 : ¬ 9223372036854775807 < 1 + I.size := by omega
  have n2 : ¬ 9223372036854775807 < 1 + I.size + 1 := by omega
  have n4 : ¬ 9223372036854775807 < 1 + I.size + 1 + J.size := by omega
  have n5 : ¬ 9223372036854775807 < 1 + I.size + 1 + J.size + 1 := by omega
  go_enter Tryz.func73, Tryz.ntmps73
  go_wp2_with (first | (go_at_call 78; go_fit hI; rintro e w1 ⟨rfl, b1⟩) | (go_at_call 78; go_fit (hJ _ b1); rintro e w2 ⟨rfl, b2⟩))
  go_ret
  exact ⟨rfl, b1.trans (b2.mono b1.size)⟩
set_option maxHeartbeats 4000000 in
theorem times_g1 (a b : Int) (w : World) (I J : ByteArray) (hI9 : I.size ≤ 21) (hJ9 : J.size ≤ 21) (ha : a = 1) (e1 : (b == -1) = false) (e2 : (b == 1) = false)
    (hI : Calls Tryz.prog 78 #[.int .i64 a] w fun e w' => e = .returned (.string I) ∧ Below w.heap.size w w') (hJ : ∀ w1, Below w.heap.size w w1 → Calls Tryz.prog 78 #[.int .i64 b] w1 fun e w' => e = .returned (.string J) ∧ Below w1.heap.size w1 w') :
    Calls Tryz.prog 73 #[.int .i64 a, .int .i64 b] w fun e w' => e = .returned (.string (((((⟨#[123]⟩ : ByteArray) ++ I) ++ ⟨#[44]⟩) ++ J) ++ ⟨#[125]⟩)) ∧ Below w.heap.size w w' := by
  subst ha
  have n1 : ¬ 9223372036854775807 < 1 + I.size := by omega
  have n2 : ¬ 9223372036854775807 < 1 + I.size + 1 := by omega
  have n4 : ¬ 9223372036854775807 < 1 + I.size + 1 + J.size := by omega
  have n5 : ¬ 9223372036854775807 < 1 + I.size + 1 + J.size + 1 := by omega
  go_enter Tryz.func73, Tryz.ntmps73
  go_wp2_with (first | (go_at_call 78; go_fit hI; rintro e w1 ⟨rfl, b1⟩) | (go_at_call 78; go_fit (hJ _ b1); rintro e w2 ⟨rfl, b2⟩))
  go_ret
  exact ⟨rfl, b1.trans (b2.mono b1.size)⟩
set_option maxHeartbeats 4000000 in
theorem times_g2 (a b : Int) (w : World) (I J : ByteArray) (hI9 : I.size ≤ 21) (hJ9 : J.size ≤ 21) (e1 : (a == 0) = false) (e2 : (a == 1) = false) (e3 : (b == a) = false) (e4 : (b == -1) = false)
    (hI : Calls Tryz.prog 78 #[.int .i64 a] w fun e w' => e = .returned (.string I) ∧ Below w.heap.size w w') (hJ : ∀ w1, Below w.heap.size w w1 → Calls Tryz.prog 78 #[.int .i64 b] w1 fun e w' => e = .returned (.string J) ∧ Below w1.heap.size w1 w') :
    Calls Tryz.prog 73 #[.int .i64 a, .int .i64 b] w fun e w' => e = .returned (.string (((((⟨#[123]⟩ : ByteArray) ++ I) ++ ⟨#[44]⟩) ++ J) ++ ⟨#[125]⟩)) ∧ Below w.heap.size w w' := by
  have n1 : ¬ 9223372036854775807 < 1 + I.size := by omega
  have n2 : ¬ 9223372036854775807 < 1 + I.size + 1 := by omega
  have n4 : ¬ 9223372036854775807 < 1 + I.size + 1 + J.size := by omega
  have n5 : ¬ 9223372036854775807 < 1 + I.size + 1 + J.size + 1 := by omega
  go_enter Tryz.func73, Tryz.ntmps73
  go_wp2_with (first | (go_at_call 78; go_fit hI; rintro e w1 ⟨rfl, b1⟩) | (go_at_call 78; go_fit (hJ _ b1); rintro e w2 ⟨rfl, b2⟩))
  go_ret
  exact ⟨rfl, b1.trans (b2.mono b1.size)⟩
set_option maxHeartbeats 1000000 in
theorem times_any (a b : Int) (h0 : 0 ≤ a) (h1 : a ≤ 1000) (h2 : -1 ≤ b) (h3 : b ≤ 1000) (w : World) (ht : TbI w) : Calls Tryz.prog 73 #[.int .i64 a, .int .i64 b] w fun e w' => e = .returned (.string (tmB a b)) ∧ Below w.heap.size w w' := by
  have hI := itoa_any a (by omega) h1 w ht
  have hJ : ∀ w1, Below w.heap.size w w1 → Calls Tryz.prog 78 #[.int .i64 b] w1 fun e w' => e = .returned (.string (itB b)) ∧ Below w1.heap.size w1 w' := fun w1 b1 => itoa_any b h2 h3 w1 (ht.below b1)
  have zI := itB_size a (by omega) h1
  have zJ := itB_size b h2 h3
  by_cases c1 : a = 0 ∧ b = -1
  · obtain ⟨rfl, rfl⟩ := c1
    clear hI hJ
    go_enter Tryz.func73, Tryz.ntmps73; go_wp2; go_ret; exact ⟨rfl, Below.refl _ _⟩
  by_cases c2 : a = 1 ∧ b = -1
  · obtain ⟨rfl, rfl⟩ := c2
    clear hI hJ
    go_enter Tryz.func73, Tryz.ntmps73; go_wp2; go_ret; exact ⟨rfl, Below.refl _ _⟩
  by_cases c3 : a = 0 ∧ b = 1
  · obtain ⟨rfl, rfl⟩ := c3
    clear hI hJ
    go_enter Tryz.func73, Tryz.ntmps73; go_wp2; go_ret; exact ⟨rfl, Below.refl _ _⟩
  unfold tmB
  rw [if_neg c1, if_neg c2, if_neg c3]
  by_cases c4 : b = a
  · rw [if_pos c4]
    by_cases d0 : a = 0
    · exact times_s0 a b w _ zI d0 (by omega) hI
    by_cases d1 : a = 1
    · exact times_s1 a b w _ zI d1 (by omega) hI
    · exact times_s2 a b w _ zI c4 (by simpa using d0) (by simpa using d1) hI
  rw [if_neg c4]
  by_cases c5 : b = -1
  · rw [if_pos c5]
    exact times_m1 a b w _ zI c5 (by simp; omega) (by simp; omega) (by simp; omega) hI
  rw [if_neg c5]
  by_cases d0 : a = 0
  · exact times_g0 a b w _ _ zI zJ d0 (by simpa using c5) (by simp; omega) (by simp; omega) hI hJ
  by_cases d1 : a = 1
  · exact times_g1 a b w _ _ zI zJ d1 (by simpa using c5) (by simp; omega) hI hJ
  · exact times_g2 a b w _ _ zI zJ (by simpa using d0) (by simpa using d1) (by simpa using c4) (by simpa using c5) hI hJ
end Go.Proofs.YtajaadagejhllaaGreatDoor
/- Show: hexadecimal numbers. -/
namespace Go.Proofs.YtajaadagejhllaaGreatDoor
open Go.RowKit Go.Lib

/-- The sixty-five bytes in which digits are laid from behind. -/
structure Arr (A : Nat) (w : World) (l : List UInt8) : Prop where
  ex : ∀ j, j < 65 → ∃ x : Int, w.cell? ⟨A, j, none⟩ = some (.int .u8 x)
  fz : ∀ o, w.frozen? ⟨A, o, none⟩ = false
  put : ∀ j (h : j < l.length), w.cell? ⟨A, 65 - l.length + j, none⟩ = some (.int .u8 (l[j].toNat : Int))
theorem Arr.cons {A : Nat} {w : World} {l : List UInt8} (h : Arr A w l) (b : UInt8) (q : Nat) (hq : q + 1 + l.length = 65) : Arr A (w.setCell ⟨A, q, none⟩ (.int .u8 (b.toNat : Int))) (b :: l) := by
  obtain ⟨x, hx⟩ := h.ex q (by omega)
  have sm := World.cell?_setCell_same' w ⟨A, q, none⟩ (.int .u8 (b.toNat : Int)) (by rw [hx]; rfl)
  refine ⟨fun j hj => ?_, fun o => by rw [World.frozen?_setCell]; exact h.fz o, fun j hj => ?_⟩
  · by_cases e : j = q
    · subst e; exact ⟨_, sm⟩
    · rw [World.cell?_setCell_other _ _ _ _ (fun e2 => e (by cases e2; rfl))]; exact h.ex j hj
  · match j, hj with
    | 0, _ =>
      rw [show 65 - (b :: l).length + 0 = q by simp; omega]
      exact sm
    | j + 1, hj =>
      have hj' : j < l.length := by simpa using hj
      rw [show 65 - (b :: l).length + (j + 1) = 65 - l.length + j by simp; omega]
      rw [World.cell?_setCell_other _ _ _ _ (fun e => by cases e; omega)]
      exact h.put j hj'

abbrev TbZ (w : World) : Prop := w.cell? ⟨5, 15, none⟩ = some (.int .u8 4)
set_option maxRecDepth 100000 in
theorem tz16 (w : World) (hz : TbZ w) : Calls Tryz.prog 143 #[.int .u64 16] w fun e w' => e = .returned (.int .i64 4) ∧ w' = w := by
  have hb : IntKind.u64.wrap (bits BinOp.and IntKind.u64 16 (IntKind.u64.wrap (-16)) * 285870213051353865) / 288230376151711744 = 15 := by decide
  have hz' : w.cell? ⟨5, 15, none⟩ = some (.int .u8 4) := hz
  go_enter Tryz.func143, Tryz.ntmps143
  go_wp2
  go_ret
  exact ⟨rfl, rfl⟩

set_option maxRecDepth 100000 in
theorem zero65 (j : Nat) (hj : j < 65) : Tryz.zeroCells138[j]? = some (.int .u8 0) := by
  have h : Tryz.zeroCells138 = Array.replicate 65 (.int .u8 0) := rfl
  rw [h, Array.getElem?_replicate, if_pos hj]
def dgA : ByteArray := ⟨#[48, 49, 50, 51, 52, 53, 54, 55, 56, 57, 97, 98, 99, 100, 101, 102, 103, 104, 105, 106, 107, 108, 109, 110, 111, 112, 113, 114, 115, 116, 117, 118, 119, 120, 121, 122]⟩
theorem get!_ix (s : ByteArray) (k : Nat) (h : k < s.size) : s.get! k = s[k]'h := by
  unfold ByteArray.get!
  show s.data[k]! = s.data[k]'h
  exact getElem!_pos s.data k h
set_option maxRecDepth 100000 in
theorem dg_at (k : Nat) (hk : k < 16) (h : k < ByteArray.size ⟨#[48, 49, 50, 51, 52, 53, 54, 55, 56, 57, 97, 98, 99, 100, 101, 102, 103, 104, 105, 106, 107, 108, 109, 110, 111, 112, 113, 114, 115, 116, 117, 118, 119, 120, 121, 122]⟩) :
    (⟨#[48, 49, 50, 51, 52, 53, 54, 55, 56, 57, 97, 98, 99, 100, 101, 102, 103, 104, 105, 106, 107, 108, 109, 110, 111, 112, 113, 114, 115, 116, 117, 118, 119, 120, 121, 122]⟩ : ByteArray)[k]'h = hxD k := by
  have e : ∀ j : Fin 16, dgA.get! j.val = hxD j.val := by decide
  have e2 := e ⟨k, hk⟩
  rw [get!_ix _ k (by show k < 36; omega)] at e2
  exact e2
theorem wraps_u64s (n : Int) (h₀ : 0 ≤ n) (h₁ : n < 2 ^ 32) : IntKind.u64.wrap n = n := by rw [IntKind.wrap_u64]; omega
theorem and15 (u : Nat) (h : u < 4294967296) : bits BinOp.and IntKind.u64 (u : Int) 15 = ((u % 16 : Nat) : Int) := by
  have := bits_mask .u64 32 (by decide) wraps_u64s 4 (by decide) (u : Int) (by omega) (by omega)
  rw [show ((2 : Int) ^ 4 - 1) = 15 by decide, show ((2 : Int) ^ 4) = 16 by decide] at this
  rw [this]
  omega
set_option maxRecDepth 100000 in
theorem slice65 (A q : Nat) (hq : q < 65) (w : World) : Sem.run Tryz.prog (Instr.sliceAt 138 (.pointer (some ⟨A, 0, none⟩)) (some (.int .i64 (q : Int))) none none) w = .ok (.slice (some ⟨A, q, none⟩) (65 - q) (65 - q)) w := by
  have hl : Tryz.prog.arrayLen 138 = 65 := by kernel_rfl
  have hs : (sizeOf (Tryz.prog.elem 138)).run Tryz.prog w = .ok 1 w := by kernel_rfl
  rw [run_sliceAt_array_l (P := Tryz.prog) w 138 ⟨A, 0, none⟩ (by kernel_rfl) .i64 (q : Int) (by omega) (by rw [hl]; omega), hs]
  simp [slicedAt, hl, Addr.add_lit, show ¬ 65 = q by omega]
set_option maxRecDepth 100000 in
theorem conv65 {A : Nat} {w : World} {l : List UInt8} (h : Arr A w l) (_hl : l.length ≤ 65) : (convert 53 9 (.slice (some ⟨A, 65 - l.length, none⟩) l.length l.length)).run Tryz.prog w = .ok (.string ⟨l.toArray⟩) w := by
  have := run_convert_bytes_arg (P := Tryz.prog) w 53 5 Tryz.underlying53 Tryz.underlying5 A (65 - l.length) l.length l.length (l.map fun b => (b.toNat : Int)) (by simp) (fun i hi => by
    rw [h.put i hi]
    simp [List.getD, List.getElem?_eq_getElem hi]) 9 Tryz.underlying9
  rw [this]
  congr 3
  unfold strOfNums
  congr 1
  rw [List.map_map]
  refine congrArg List.toArray ?_
  exact (List.map_congr_left fun b _ => show UInt8.ofNat b.toNat = id b by simp).trans (List.map_id l)
set_option maxHeartbeats 4000000 in
set_option maxRecDepth 100000 in
theorem formatBits_any (n : Nat) (hn : n ≤ 1114111) (w : World) (hz : TbZ w) :
    Calls Tryz.prog 125 #[.slice none 0 0, .int .u64 (n : Int), .int .i64 16, .bool false, .bool false] w fun e w' => e = .returned (.tuple #[.slice none 0 0, .string (hxB n)]) ∧ Below w.heap.size w w' := by
  have hb : Below w.heap.size w (w.alloc (Obj.cells Tryz.zeroCells138 138)) := (Below.refl _ w).alloc (Nat.le_refl _) _
  have hz1 : TbZ (w.alloc (Obj.cells Tryz.zeroCells138 138)) := (hb.cell (p := ⟨5, 15, none⟩) (World.block_lt_of_cell? w _ hz)).trans hz
  have k1 := tz16 _ hz1
  have a0 : Arr w.heap.size (w.alloc (Obj.cells Tryz.zeroCells138 138)) [] := by
    have e : (w.alloc (Obj.cells Tryz.zeroCells138 138)).heap[w.heap.size]? = some (Obj.cells Tryz.zeroCells138 138) := heap_alloc_new w _
    refine ⟨fun j hj => ⟨0, ?_⟩, fun o => ?_, fun j hj => by simp at hj⟩
    · unfold World.cell?
      rw [e]
      exact zero65 j hj
    · unfold World.frozen?
      rw [e]
      simp
  have K0 : Kp (· = w.heap.size) (w.alloc (Obj.cells Tryz.zeroCells138 138)) (w.alloc (Obj.cells Tryz.zeroCells138 138)) := Kp.refl _ _
  have hp : bits BinOp.and IntKind.i64 16 15 = 0 := by decide
  have HB : Hid _ := hb
  clear hz hz1 hb
  obtain ⟨W, hW⟩ : ∃ W, W = w.alloc (Obj.cells Tryz.zeroCells138 138) := ⟨_, rfl⟩
  have HW : Hid (W = w.alloc (Obj.cells Tryz.zeroCells138 138)) := hW
  have A0 : Hid (Arr w.heap.size W []) := hW ▸ a0
  have K1 : Hid (Kp (· = w.heap.size) W W) := Kp.refl _ _
  clear a0 K0 hW
  go_enter Tryz.func125, Tryz.ntmps125
  go_wp2_with (first | (go_at_call 143; go_fit k1; rintro e w' ⟨rfl, rfl⟩) | go_in)
  rw [← HW.out]
  clear k1
  go_loopw [1, 13] (fun uv iv w' => ∃ (f u : Nat) (l : List UInt8) (q : Nat), uv = .int .u64 (u : Int) ∧ iv = .int .i64 ((q : Int) + 1) ∧ q + 1 + l.length = 65 ∧ f + l.length = 16 ∧ u ≤ n ∧ (1 ≤ u ∨ l = []) ∧ u < 16 ^ f ∧ Hid (hxA 16 n [] = hxA f u l) ∧ Hid (Arr w.heap.size w' l) ∧ Hid (Kp (· = w.heap.size) W w')) (fun uv _ _ => (RowKit.intOf uv).toNat)
  case atStart => exact ⟨16, n, [], 64, rfl, rfl, rfl, rfl, Nat.le_refl _, .inr rfl, Nat.lt_of_le_of_lt hn (by decide), rfl, A0, K1⟩
  case round =>
    obtain ⟨f, u, l, q, rfl, rfl, hq, hf, hun, hul, hu, HX, HA, HK⟩ := hrel
    have hwq : IntKind.i64.wrap (q : Int) = (q : Int) := by rw [IntKind.wrap_i64]; omega
    obtain ⟨x, hx⟩ := HA.out.ex q (by omega)
    have hfz := HA.out.fz q
    have hf0 : f ≠ 0 := by
      rintro rfl
      rcases hul with h | h
      · simp at hu; omega
      · rw [h] at hf; simp at hf
    obtain ⟨g, rfl⟩ : ∃ g, f = g + 1 := ⟨f - 1, by omega⟩
    have hq65 : (q : Int) < 65 := by omega
    by_cases h16 : 16 ≤ u
    · have hge : decide ((u : Int) ≥ 16) = true := by simp; omega
      have hand : bits BinOp.and IntKind.u64 (u : Int) 15 = ((u % 16 : Nat) : Int) := and15 u (by omega)
      have HU : Hid (u < 16 ^ (g + 1)) := hu
      have hlt : 0 ≤ (u : Int) % 16 ∧ (u : Int) % 16 < 36 := by omega
      clear hu
      go_wp2
      have hsz : u % 16 < 36 := by omega
      rw [dg_at (u % 16) (by omega) hsz]
      have hdiv : (u : Int) / 16 = ((u / 16 : Nat) : Int) := by omega
      rw [hdiv]
      refine ⟨⟨g, u / 16, hxD (u % 16) :: l, q - 1, rfl, by congr 1; omega, by simp only [List.length_cons]; omega, by simp only [List.length_cons]; omega, by omega, .inl (by omega), ?_, ?_, HA.out.cons _ q hq, HK.out.setCell (p := ⟨w.heap.size, q, none⟩) rfl _⟩, by simp [RowKit.intOf]; omega⟩
      · have := HU.out
        rw [Nat.pow_succ] at this
        omega
      · have := HX.out
        unfold Hid
        rw [this, hxA, if_neg (by omega)]
    · have hge : decide ((u : Int) ≥ 16) = false := by simp; omega
      have hge' : ¬ (16 : Int) ≤ (u : Int) := by omega
      have hlt : 0 ≤ (u : Int) ∧ (u : Int) < 36 := by omega
      have hsl := fun W' => slice65 w.heap.size q (by omega) W'
      have hdg : (⟨#[48, 49, 50, 51, 52, 53, 54, 55, 56, 57, 97, 98, 99, 100, 101, 102, 103, 104, 105, 106, 107, 108, 109, 110, 111, 112, 113, 114, 115, 116, 117, 118, 119, 120, 121, 122]⟩ : ByteArray)[u]'(by show u < 36; omega) = hxD u := dg_at u (by omega) (by show u < 36; omega)
      have hcv := conv65 (HA.out.cons (hxD u) q hq) (by simp only [List.length_cons]; omega)
      rw [show 65 - (hxD u :: l).length = q by simp only [List.length_cons]; omega] at hcv
      rw [show (hxD u :: l).length = 65 - q by simp only [List.length_cons]; omega] at hcv
      have HE : Hid (hxA 16 n [] = hxD u :: l) := by
        have := HX.out
        unfold Hid
        rw [this, hxA, if_pos (by omega)]
      have HKK : Hid (Kp (· = w.heap.size) W (wr.setCell ⟨w.heap.size, q, none⟩ (.int .u8 ((hxD u).toNat : Int)))) := HK.out.setCell (p := ⟨w.heap.size, q, none⟩) rfl _
      clear hu
      generalize hxD u = D at *
      go_wp2
      go_ret2
      refine ⟨?_, (HW.out ▸ HB.out : Below w.heap.size w W).trans (HKK.out.below (HW.out ▸ HB.out : Below w.heap.size w W).size (fun k hk e => by omega))⟩
      have : hxB (n : Int) = ⟨(D :: l).toArray⟩ := by unfold hxB; rw [Int.toNat_natCast, HE.out]
      rw [this]
      rfl

set_option maxRecDepth 100000 in
theorem format16 (r : Int) (h0 : 0 ≤ r) (h1 : r ≤ 1114111) (w : World) (hz : TbZ w) : Calls Tryz.prog 92 #[.int .i64 r, .int .i64 16] w fun e w' => e = .returned (.string (hxB r)) ∧ Below w.heap.size w w' := by
  obtain ⟨n, rfl⟩ := Int.eq_ofNat_of_zero_le h0
  have k := formatBits_any n (by omega) w hz
  have hwn : IntKind.u64.wrap (n : Int) = (n : Int) := by rw [IntKind.wrap_u64]; omega
  have hlt : ¬ (n : Int) < 0 := by omega
  generalize hxB (n : Int) = H at *
  go_enter Tryz.func92, Tryz.ntmps92
  go_wp2_with (first | (go_at_call 125; go_fit k; rintro e w' ⟨rfl, b1⟩) | go_in)
  go_ret
  exact ⟨rfl, b1⟩
set_option maxRecDepth 100000 in
theorem hexText_any (r : Int) (h0 : 0 ≤ r) (h1 : r ≤ 1114111) (w : World) (hz : TbZ w) : Calls Tryz.prog 90 #[.int .i32 r] w fun e w' => e = .returned (.string (heB r)) ∧ Below w.heap.size w w' := by
  have k := format16 r h0 h1 w hz
  have hs := hxB_size r
  have hwn : IntKind.i64.wrap r = r := by rw [IntKind.wrap_i64]; omega
  unfold heB
  generalize hxB r = H at *
  have n1 : ¬ 9223372036854775807 < 3 + H.size := by omega
  have n2 : ¬ 9223372036854775807 < 3 + H.size + 1 := by omega
  go_enter Tryz.func90, Tryz.ntmps90
  go_wp2_with (go_at_call 92; go_fit k; rintro e w' ⟨rfl, b1⟩)
  go_ret
  exact ⟨rfl, b1⟩
set_option maxRecDepth 100000 in
theorem hexed_any (r : Int) (h0 : 0 ≤ r) (h1 : r ≤ 1114111) (w : World) (hz : TbZ w) : Calls Tryz.prog 76 #[.int .i32 r] w fun e w' => e = .returned (.string (heB r)) ∧ Below w.heap.size w w' := by
  have k := format16 r h0 h1 w hz
  have hs := hxB_size r
  have hwn : IntKind.i64.wrap r = r := by rw [IntKind.wrap_i64]; omega
  unfold heB
  generalize hxB r = H at *
  have n1 : ¬ 9223372036854775807 < 3 + H.size := by omega
  have n2 : ¬ 9223372036854775807 < 3 + H.size + 1 := by omega
  go_enter Tryz.func76, Tryz.ntmps76
  go_wp2_with (go_at_call 92; go_fit k; rintro e w' ⟨rfl, b1⟩)
  go_ret
  exact ⟨rfl, b1⟩
end Go.Proofs.YtajaadagejhllaaGreatDoor
