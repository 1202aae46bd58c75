/- The trail of samples, the form of a list, and how it is read. Plain mathematics. -/
import Derived.Test.YtedlmjieclaojaaDoorMa
namespace Go.Proofs.YtedlmjieclaojaaDoor

/-- A sample: its time, its value's word, whether it is stale. -/
structure Smp where
  t : Int
  v : Nat
  s : Bool
/-- Two's complement in 64 bits; a signed number of 64 bits. -/
def w64 (x : Int) : Nat := (x % 18446744073709551616).toNat
def s64 (x : Int) : Int := (x + 9223372036854775808) % 18446744073709551616 - 9223372036854775808
theorem w64_lt (x : Int) : w64 x < 18446744073709551616 := by unfold w64; omega
theorem w64_cast (x : Int) : (w64 x : Int) = x % 18446744073709551616 := by unfold w64; omega
theorem s64_bd (x : Int) : -9223372036854775808 ≤ s64 x ∧ s64 x ≤ 9223372036854775807 := by unfold s64; omega
theorem s64_id (x : Int) (h : -9223372036854775808 ≤ x) (h' : x ≤ 9223372036854775807) : s64 x = x := by unfold s64; omega
theorem s64_w64 (x : Int) : s64 (w64 x) = s64 x := by unfold s64; rw [w64_cast]; omega
/-- The bits of a value, every NaN's the same. -/
def cb (v : Nat) : Nat := if 9218868437227405312 < v % 9223372036854775808 then 9221120237041090561 else v
theorem cb_lt (v : Nat) (h : v < 18446744073709551616) : cb v < 18446744073709551616 := by unfold cb; split <;> omega
theorem cb_cb (v : Nat) : cb (cb v) = cb v := by
  unfold cb
  split
  · decide
  · rfl

/-- A way of writing. -/
def wy (k last : Nat) : List Int := List.replicate k 1 ++ if k < last then [0] else []
theorem wy_zero (n : Nat) : wy 0 (n + 1) = [0] := by simp [wy]
theorem wy_succ (k n : Nat) : wy (k + 1) (n + 1) = 1 :: wy k n := by simp [wy, List.replicate_succ]
theorem wy_len (k n : Nat) : (wy k n).length = k + if k < n then 1 else 0 := by
  unfold wy
  split <;> simp
theorem bin_of (L : List Int) (h : ∀ x ∈ L, x = 0 ∨ x = 1) : Bin L := by
  intro i
  unfold fb
  rw [List.getD]
  rcases hx : L[i]? with _ | x
  · simp
  · have := h x (List.mem_of_getElem? hx)
    rcases this with rfl | rfl <;> simp
theorem bin_wy (k n : Nat) : Bin (wy k n) := by
  apply bin_of
  intro x hx
  unfold wy at hx
  rcases List.mem_append.1 hx with h | h
  · exact .inr (List.eq_of_mem_replicate h)
  · split at h
    · exact .inl (by simpa using h)
    · cases h

/-- The ways of writing a step's change. -/
def scL : Nat → Int
  | 0 => 0 | 1 => -63 | 2 => -255 | 3 => -2047 | _ => 0
def scW : Nat → Nat
  | 0 => 0 | 1 => 7 | 2 => 9 | 3 => 12 | _ => 64
def abv (k : Nat) (e : Int) : Nat := w64 (e - scL k)
def rch (k : Nat) (e : Int) : Bool := decide (abv k e < 2 ^ scW k)
def wayOf (e : Int) : Nat := if rch 0 e = true then 0 else if rch 1 e = true then 1 else if rch 2 e = true then 2 else if rch 3 e = true then 3 else 4
theorem rch_way (e : Int) : rch (wayOf e) e = true := by
  unfold wayOf
  split
  · assumption
  · split
    · assumption
    · split
      · assumption
      · split
        · assumption
        · unfold rch
          have := w64_lt (e - scL 4)
          simpa [scW, abv] using this
theorem way_le (e : Int) : wayOf e ≤ 4 := by
  unfold wayOf
  (repeat' split) <;> decide
theorem scW_le (k : Nat) : scW k ≤ 64 := by unfold scW; split <;> decide
def chg (e : Int) : List Int := wy (wayOf e) 4 ++ nb (abv (wayOf e) e) (scW (wayOf e))

/-- How many bits 0 lie ahead of the highest bit 1, and behind the lowest. -/
def lz (x : Nat) : Nat := 63 - x.log2
def tzf : Nat → Nat → Nat
  | 0, _ => 0
  | k + 1, x => if x % 2 = 1 then 0 else 1 + tzf k (x / 2)
def tz (x : Nat) : Nat := tzf 64 x
theorem tzf_spec : ∀ k x, 0 < x → x < 2 ^ k → tzf k x < k ∧ x = x / 2 ^ tzf k x * 2 ^ tzf k x ∧ x / 2 ^ tzf k x % 2 = 1
  | 0, x, h0, h1 => by simp at h1; omega
  | k + 1, x, h0, h1 => by
    unfold tzf
    split
    · rename_i h; simp [h]
    · rename_i h
      rw [Nat.pow_succ] at h1
      obtain ⟨a1, a2, a3⟩ := tzf_spec k (x / 2) (by omega) (by omega)
      generalize tzf k (x / 2) = d at *
      have e : x / 2 ^ (1 + d) = x / 2 / 2 ^ d := by rw [Nat.pow_add, Nat.div_div_eq_div_mul]
      refine ⟨by omega, ?_, by rw [e]; exact a3⟩
      rw [e, Nat.pow_add, Nat.mul_comm (2 ^ 1), ← Nat.mul_assoc, ← a2]
      omega
theorem tz_spec (x : Nat) (h0 : 0 < x) (h1 : x < 18446744073709551616) : tz x < 64 ∧ x = x / 2 ^ tz x * 2 ^ tz x ∧ x / 2 ^ tz x % 2 = 1 := tzf_spec 64 x h0 h1
theorem lz_spec (x : Nat) (h0 : 0 < x) (h1 : x < 18446744073709551616) : lz x < 64 ∧ 2 ^ (63 - lz x) ≤ x ∧ x < 2 ^ (64 - lz x) := by
  have a := Nat.log2_self_le (n := x) (by omega)
  have b := Nat.lt_log2_self (n := x)
  have c : x.log2 < 64 := (Nat.log2_lt (by omega)).2 h1
  unfold lz
  refine ⟨by omega, ?_, ?_⟩
  · rw [show 63 - (63 - x.log2) = x.log2 by omega]; exact a
  · rw [show 64 - (63 - x.log2) = x.log2 + 1 by omega]; exact b
theorem lt_spec (x : Nat) (h0 : 0 < x) (h1 : x < 18446744073709551616) : lz x + tz x < 64 := by
  obtain ⟨a1, a2, a3⟩ := tz_spec x h0 h1
  obtain ⟨b1, b2, b3⟩ := lz_spec x h0 h1
  have c : 2 ^ tz x ≤ x := by
    have : 0 < x / 2 ^ tz x := Nat.pos_of_ne_zero (fun h => by rw [h] at a3; simp at a3)
    exact (Nat.div_pos_iff.1 this).2
  have d : 2 ^ tz x < 2 ^ (64 - lz x) := by omega
  have := (Nat.pow_lt_pow_iff_right (by decide : 1 < 2)).1 d
  omega

/-- What the samples so far leave behind. -/
structure Trl where
  n : Nat
  tm : Int
  st : Int
  vl : Nat
  fr : Nat
  to : Nat
def t0 : Trl := ⟨0, 0, 0, 0, 0, 0⟩
def cov (x fr to : Nat) : Bool := decide (fr ≤ lz x) && decide (64 - tz x ≤ to)
def vfr (x fr to : Nat) : Nat := if x = 0 then fr else if cov x fr to = true then fr else lz x
def vto (x fr to : Nat) : Nat := if x = 0 then to else if cov x fr to = true then to else 64 - tz x
def vhd (x fr to : Nat) : List Int := if cov x fr to = true then wy 1 3 else wy 2 3 ++ nb (lz x) 6 ++ nb (64 - tz x - lz x - 1) 6
def vlu (x fr to : Nat) : List Int := if x = 0 then wy 0 3 else vhd x fr to ++ nb (x / 2 ^ (64 - vto x fr to)) (vto x fr to - vfr x fr to)
def tmb (r : Trl) (t : Int) : List Int := if r.n = 0 then nb (w64 t) 64 else chg (s64 (s64 (t - r.tm) - r.st))
def vlb (r : Trl) (x : Smp) : List Int := if x.s = true then wy 3 3 else vlu (cb x.v ^^^ r.vl) r.fr r.to
def smb (r : Trl) (x : Smp) : List Int := tmb r x.t ++ vlb r x
def nxt (r : Trl) (x : Smp) : Trl :=
  { n := r.n + 1, tm := x.t, st := if r.n = 0 then r.st else s64 (x.t - r.tm), vl := if x.s = true then r.vl else cb x.v,
    fr := if x.s = true then r.fr else vfr (cb x.v ^^^ r.vl) r.fr r.to, to := if x.s = true then r.to else vto (cb x.v ^^^ r.vl) r.fr r.to }
def fin (r : Trl) (l : List Smp) : Trl := l.foldl nxt r
def bod : Trl → List Smp → List Int
  | _, [] => []
  | r, x :: l => smb r x ++ bod (nxt r x) l
theorem bod_app (l m : List Smp) : ∀ r, bod r (l ++ m) = bod r l ++ bod (fin r l) m := by
  induction l with
  | nil => intro r; rfl
  | cons x l ih =>
    intro r
    show smb r x ++ bod (nxt r x) (l ++ m) = (smb r x ++ bod (nxt r x) l) ++ bod (fin (nxt r x) l) m
    rw [ih, List.append_assoc]
theorem bod_snoc (r : Trl) (l : List Smp) (x : Smp) : bod r (l ++ [x]) = bod r l ++ smb (fin r l) x := by
  rw [bod_app]
  simp [bod]
theorem fin_snoc (r : Trl) (l : List Smp) (x : Smp) : fin r (l ++ [x]) = nxt (fin r l) x := by simp [fin]
def frm (l : List Smp) : List Int := nb l.length 17 ++ bod t0 l

/-- A sample within its bounds; a trail that samples leave. -/
def Sok (x : Smp) : Prop := -9223372036854775808 ≤ x.t ∧ x.t ≤ 9223372036854775807 ∧ x.v < 18446744073709551616
structure Gt (r : Trl) : Prop where
  tm : -9223372036854775808 ≤ r.tm ∧ r.tm ≤ 9223372036854775807
  st : -9223372036854775808 ≤ r.st ∧ r.st ≤ 9223372036854775807
  vl : r.vl < 18446744073709551616
  fr : (r.fr = 0 ∧ r.to = 0) ∨ (r.fr < r.to ∧ r.to ≤ 64)
theorem gt0 : Gt t0 := ⟨by simp [t0], by simp [t0], by simp [t0], .inl ⟨rfl, rfl⟩⟩
theorem xor_lt {a b : Nat} (ha : a < 18446744073709551616) (hb : b < 18446744073709551616) : a ^^^ b < 18446744073709551616 := Nat.xor_lt_two_pow (n := 64) ha hb
theorem vfr_ok (x fr to : Nat) (hx : x < 18446744073709551616) (h : (fr = 0 ∧ to = 0) ∨ (fr < to ∧ to ≤ 64)) : (vfr x fr to = 0 ∧ vto x fr to = 0) ∨ (vfr x fr to < vto x fr to ∧ vto x fr to ≤ 64) := by
  unfold vfr vto
  by_cases h0 : x = 0
  · rw [if_pos h0, if_pos h0]; exact h
  · rw [if_neg h0, if_neg h0]
    split
    · exact h
    · have := lt_spec x (by omega) hx
      exact .inr ⟨by omega, by omega⟩
theorem Gt.nxt {r : Trl} (h : Gt r) (x : Smp) (hx : Sok x) : Gt (nxt r x) := by
  refine ⟨⟨hx.1, hx.2.1⟩, ?_, ?_, ?_⟩
  · show _ ≤ (if r.n = 0 then r.st else s64 (x.t - r.tm)) ∧ (if r.n = 0 then r.st else s64 (x.t - r.tm)) ≤ _
    split
    · exact h.st
    · exact s64_bd _
  · show (if x.s = true then r.vl else cb x.v) < _
    split
    · exact h.vl
    · exact cb_lt _ hx.2.2
  · show ((if x.s = true then r.fr else vfr (cb x.v ^^^ r.vl) r.fr r.to) = 0 ∧ (if x.s = true then r.to else vto (cb x.v ^^^ r.vl) r.fr r.to) = 0) ∨ ((if x.s = true then r.fr else vfr (cb x.v ^^^ r.vl) r.fr r.to) < (if x.s = true then r.to else vto (cb x.v ^^^ r.vl) r.fr r.to) ∧ (if x.s = true then r.to else vto (cb x.v ^^^ r.vl) r.fr r.to) ≤ 64)
    cases x.s
    · exact vfr_ok _ _ _ (xor_lt (cb_lt _ hx.2.2) h.vl) h.fr
    · exact h.fr
theorem Gt.fin {l : List Smp} : ∀ {r : Trl}, Gt r → (∀ x ∈ l, Sok x) → Gt (fin r l) := by
  induction l with
  | nil => intro r h _; exact h
  | cons x l ih => intro r h hl; exact ih (h.nxt x (hl x (List.mem_cons_self ..))) (fun y hy => hl y (List.mem_cons_of_mem _ hy))
theorem fin_n (l : List Smp) : ∀ r, (fin r l).n = r.n + l.length := by
  induction l with
  | nil => intro r; rfl
  | cons x l ih => intro r; show (fin (Go.Proofs.YtedlmjieclaojaaDoor.nxt r x) l).n = _; rw [ih]; show r.n + 1 + l.length = _; simp; omega

theorem bin_chg (e : Int) : Bin (chg e) := bin_app (bin_wy _ _) (bin_nb _ _)
theorem bin_vlu (x fr to : Nat) : Bin (vlu x fr to) := by
  unfold vlu
  split
  · exact bin_wy _ _
  · refine bin_app ?_ (bin_nb _ _)
    unfold vhd
    split
    · exact bin_wy _ _
    · exact bin_app (bin_app (bin_wy _ _) (bin_nb _ _)) (bin_nb _ _)
theorem bin_smb (r : Trl) (x : Smp) : Bin (smb r x) := by
  unfold smb tmb vlb
  refine bin_app ?_ ?_
  · split
    · exact bin_nb _ _
    · exact bin_chg _
  · split
    · exact bin_wy _ _
    · exact bin_vlu _ _ _
theorem bin_bod (l : List Smp) : ∀ r, Bin (bod r l) := by
  induction l with
  | nil => intro r; exact bin_nil
  | cons x l ih => intro r; exact bin_app (bin_smb r x) (ih _)
theorem bin_frm (l : List Smp) : Bin (frm l) := bin_app (bin_nb _ _) (bin_bod _ _)
/-- How long a sample's bits are. -/
theorem smb_len (r : Trl) (x : Smp) (h : Gt r) (hx : Sok x) : 2 ≤ (smb r x).length ∧ (smb r x).length ≤ 160 := by
  have h1 : 1 ≤ (tmb r x.t).length ∧ (tmb r x.t).length ≤ 69 := by
    unfold tmb
    split
    · rw [nb_len]; omega
    · unfold chg
      have := way_le (s64 (s64 (x.t - r.tm) - r.st))
      have := scW_le (wayOf (s64 (s64 (x.t - r.tm) - r.st)))
      rw [List.length_append, nb_len, wy_len]
      generalize wayOf (s64 (s64 (x.t - r.tm) - r.st)) = k at *
      split <;> omega
  have h2 : 1 ≤ (vlb r x).length ∧ (vlb r x).length ≤ 79 := by
    unfold vlb
    split
    · simp [wy_len]
    · have hv := vfr_ok _ _ _ (xor_lt (cb_lt _ hx.2.2) h.vl) h.fr
      unfold vlu
      split
      · simp [wy_len]
      · rw [List.length_append, nb_len]
        unfold vhd
        split
        · simp [wy_len]; omega
        · simp [wy_len, nb_len]; omega
  unfold smb
  rw [List.length_append]
  omega
theorem bod_len (l : List Smp) : ∀ r, Gt r → (∀ x ∈ l, Sok x) → (bod r l).length ≤ 160 * l.length := by
  induction l with
  | nil => intro r _ _; simp [bod]
  | cons x l ih =>
    intro r h hl
    have h1 := smb_len r x h (hl x (List.mem_cons_self ..))
    have h2 := ih _ (h.nxt x (hl x (List.mem_cons_self ..))) (fun y hy => hl y (List.mem_cons_of_mem _ hy))
    show (smb r x ++ bod (Go.Proofs.YtedlmjieclaojaaDoor.nxt r x) l).length ≤ _
    rw [List.length_append, List.length_cons]
    omega
end Go.Proofs.YtedlmjieclaojaaDoor
