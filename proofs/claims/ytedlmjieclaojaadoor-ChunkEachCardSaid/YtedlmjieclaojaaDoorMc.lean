/- How bytes are read, and that a form is read as what it is the form of. Plain mathematics. -/
import Derived.Test.YtedlmjieclaojaaDoorMb
namespace Go.Proofs.YtedlmjieclaojaaDoor

/-- A reader: its place, whether it is broken, its trail. -/
structure Rs where
  p : Nat
  b : Bool
  r : Trl
def tkV (B : Nat → Nat) (N p n : Nat) : Nat := if p + n ≤ N then bv B p n else 0
def tkP (N p n : Nat) : Nat := if p + n ≤ N then p + n else N
def tkX (N p n : Nat) : Bool := decide (N < p + n)
/-- A way: which, the place behind it, whether it broke. -/
def wyF (B : Nat → Nat) (N : Nat) : Nat → Nat → Nat × Nat × Bool
  | 0, p => (0, p, false)
  | k + 1, p => if N < p + 1 then (0, N, true) else if B p = 1 then ((wyF B N k (p + 1)).1 + 1, (wyF B N k (p + 1)).2) else (0, p + 1, false)
theorem wyF_le (B : Nat → Nat) (N : Nat) : ∀ k p, (wyF B N k p).1 ≤ k
  | 0, _ => Nat.le_refl _
  | k + 1, p => by
    unfold wyF
    split
    · exact Nat.zero_le _
    · split
      · exact Nat.succ_le_succ (wyF_le B N k (p + 1))
      · exact Nat.zero_le _
theorem wyF_p (B : Nat → Nat) (N : Nat) : ∀ k p, p ≤ N → (wyF B N k p).2.1 ≤ N
  | 0, _, h => h
  | k + 1, p, h => by
    unfold wyF
    split
    · exact Nat.le_refl _
    · split
      · exact wyF_p B N k (p + 1) (by omega)
      · show p + 1 ≤ N; omega
theorem tkP_le (N p n : Nat) : tkP N p n ≤ N := by unfold tkP; split <;> omega
theorem tkV_lt (B : Nat → Nat) (hB : ∀ i, B i < 2) (N p n : Nat) : tkV B N p n < 2 ^ n := by
  unfold tkV
  split
  · exact bv_lt B hB p n
  · exact Nat.pow_pos (by decide)

def rdT (B : Nat → Nat) (N : Nat) (s : Rs) : Rs :=
  if s.r.n = 0 then { p := tkP N s.p 64, b := s.b || tkX N s.p 64, r := { s.r with tm := s64 (tkV B N s.p 64) } }
  else { p := tkP N (wyF B N 4 s.p).2.1 (scW (wyF B N 4 s.p).1), b := (s.b || (wyF B N 4 s.p).2.2) || tkX N (wyF B N 4 s.p).2.1 (scW (wyF B N 4 s.p).1),
         r := { s.r with st := s64 (s.r.st + s64 (scL (wyF B N 4 s.p).1 + s64 (tkV B N (wyF B N 4 s.p).2.1 (scW (wyF B N 4 s.p).1)))),
                         tm := s64 (s.r.tm + s64 (s.r.st + s64 (scL (wyF B N 4 s.p).1 + s64 (tkV B N (wyF B N 4 s.p).2.1 (scW (wyF B N 4 s.p).1))))) } }
def rdF0 (B : Nat → Nat) (N : Nat) (s : Rs) : Nat := tkV B N s.p 6
def rdF1 (B : Nat → Nat) (N : Nat) (s : Rs) : Nat := tkV B N s.p 6 + tkV B N (tkP N s.p 6) 6 + 1
def rdFr (B : Nat → Nat) (N : Nat) (s : Rs) : Rs :=
  if 64 < rdF1 B N s then { p := tkP N (tkP N s.p 6) 6, b := true, r := s.r }
  else { p := tkP N (tkP N s.p 6) 6, b := (s.b || tkX N s.p 6) || tkX N (tkP N s.p 6) 6, r := { s.r with fr := rdF0 B N s, to := rdF1 B N s } }
def rdX (B : Nat → Nat) (N : Nat) (s : Rs) : Rs :=
  { p := tkP N s.p (s.r.to - s.r.fr), b := s.b || tkX N s.p (s.r.to - s.r.fr), r := { s.r with vl := s.r.vl ^^^ (tkV B N s.p (s.r.to - s.r.fr) * 2 ^ (64 - s.r.to) % 18446744073709551616) } }
def rdW (B : Nat → Nat) (N : Nat) (s : Rs) : Rs := { s with p := (wyF B N 3 s.p).2.1, b := s.b || (wyF B N 3 s.p).2.2 }
def rdV (B : Nat → Nat) (N : Nat) (s : Rs) : Rs :=
  if (wyF B N 3 s.p).1 = 3 then rdW B N s else if (wyF B N 3 s.p).1 = 0 then rdW B N s else if (wyF B N 3 s.p).1 = 2 then rdX B N (rdFr B N (rdW B N s)) else rdX B N (rdW B N s)
def rdS (B : Nat → Nat) (N : Nat) (s : Rs) : Bool := decide ((wyF B N 3 s.p).1 = 3)
/-- The next sample, and the reader behind it. -/
def rdY (B : Nat → Nat) (N : Nat) (s : Rs) : Rs := rdV B N (rdT B N s)
def rdN (B : Nat → Nat) (N : Nat) (s : Rs) : Rs := { rdY B N s with r := { (rdY B N s).r with n := (rdY B N s).r.n + 1 } }
def rdO (B : Nat → Nat) (N : Nat) (s : Rs) : Smp := if rdS B N (rdT B N s) = true then ⟨(rdY B N s).r.tm, 0, true⟩ else ⟨(rdY B N s).r.tm, (rdY B N s).r.vl, false⟩
def rdF (B : Nat → Nat) (N : Nat) : Nat → Rs → Option (List Smp)
  | 0, _ => some []
  | k + 1, s => if (rdN B N s).b = true then none else (rdF B N k (rdN B N s)).map (rdO B N s :: ·)
def rd (xs : List Int) : Option (List Smp) := if 8 * xs.length < 17 then none else rdF (bt 8 xs) (8 * xs.length) (bv (bt 8 xs) 0 17) ⟨17, false, t0⟩

/-- These bits stand there. -/
def Bt (B : Nat → Nat) (N p : Nat) (L : List Int) : Prop := p + L.length ≤ N ∧ ∀ i, i < L.length → B (p + i) = fb L i
theorem Bt.left {B : Nat → Nat} {N p : Nat} {L M : List Int} (h : Bt B N p (L ++ M)) : Bt B N p L := by
  obtain ⟨h1, h2⟩ := h
  rw [List.length_append] at h1
  exact ⟨by omega, fun i hi => by rw [h2 i (by rw [List.length_append]; omega), fb_left _ _ _ hi]⟩
theorem Bt.right {B : Nat → Nat} {N p : Nat} {L M : List Int} (h : Bt B N p (L ++ M)) : Bt B N (p + L.length) M := by
  obtain ⟨h1, h2⟩ := h
  rw [List.length_append] at h1
  exact ⟨by omega, fun i hi => by rw [Nat.add_assoc, h2 _ (by rw [List.length_append]; omega), fb_right]⟩
theorem tk_nb {B : Nat → Nat} {N p v n : Nat} (h : Bt B N p (nb v n)) (hv : v < 2 ^ n) : tkV B N p n = v ∧ tkP N p n = p + n ∧ tkX N p n = false := by
  obtain ⟨h1, h2⟩ := h
  rw [nb_len] at h1 h2
  refine ⟨?_, by unfold tkP; rw [if_pos h1], by unfold tkX; simp; omega⟩
  unfold tkV
  rw [if_pos h1, bv_nb B p v n h2, Nat.mod_eq_of_lt hv]
theorem wy_ok {B : Nat → Nat} {N : Nat} : ∀ (n k p : Nat), k ≤ n → Bt B N p (wy k n) → wyF B N n p = (k, p + (wy k n).length, false)
  | 0, k, p, hk, _ => by
    obtain rfl : k = 0 := by omega
    rfl
  | n + 1, 0, p, _, h => by
    rw [wy_zero] at h ⊢
    obtain ⟨h1, h2⟩ := h
    have h3 := h2 0 (by simp)
    simp at h1
    have h4 : ¬ B p = 1 := by rw [show B p = 0 from h3]; decide
    unfold wyF
    rw [if_neg (by omega), if_neg h4]
    rfl
  | n + 1, k + 1, p, hk, h => by
    rw [wy_succ] at h ⊢
    obtain ⟨h1, h2⟩ := h
    have h3 : B p = 1 := h2 0 (by simp)
    simp only [List.length_cons] at h1
    have ih := wy_ok (B := B) (N := N) n k (p + 1) (by omega) ⟨by omega, fun i hi => by
      have := h2 (i + 1) (by simp only [List.length_cons]; omega)
      rw [show p + 1 + i = p + (i + 1) by omega, this]
      rfl⟩
    unfold wyF
    rw [if_neg (by omega), if_pos h3, ih]
    simp only [List.length_cons]
    exact congrArg (Prod.mk _) (congrArg (fun q => (q, false)) (by omega))

theorem rch_lt {e : Int} : abv (wayOf e) e < 2 ^ scW (wayOf e) := by simpa [rch] using rch_way e
theorem rdT_ok {B : Nat → Nat} {N p : Nat} (r : Trl) (t : Int) (ht : -9223372036854775808 ≤ t ∧ t ≤ 9223372036854775807) (h : Bt B N p (tmb r t)) :
    rdT B N ⟨p, false, r⟩ = ⟨p + (tmb r t).length, false, { r with tm := t, st := if r.n = 0 then r.st else s64 (t - r.tm) }⟩ := by
  unfold tmb at h ⊢
  unfold rdT
  by_cases hn : r.n = 0
  · rw [if_pos hn] at h
    rw [if_pos hn, if_pos hn, if_pos hn]
    obtain ⟨e1, e2, e3⟩ := tk_nb h (w64_lt t)
    rw [e1, e2, e3, nb_len, s64_w64, s64_id t ht.1 ht.2]
    rfl
  · rw [if_neg hn] at h
    rw [if_neg hn, if_neg hn, if_neg hn]
    generalize he : s64 (s64 (t - r.tm) - r.st) = e at *
    unfold chg at h ⊢
    have hw := wy_ok 4 (wayOf e) p (way_le e) h.left
    obtain ⟨e1, e2, e3⟩ := tk_nb h.right rch_lt
    simp only [hw, e1, e2, e3]
    have f1 : s64 (scL (wayOf e) + s64 (abv (wayOf e) e : Nat)) = e := by
      unfold abv
      rw [s64_w64]
      have := s64_bd (s64 (t - r.tm) - r.st)
      rw [he] at this
      unfold s64
      omega
    have f2 : s64 (r.st + e) = s64 (t - r.tm) := by rw [← he]; unfold s64; omega
    have f3 : s64 (r.tm + s64 (t - r.tm)) = t := by unfold s64; omega
    rw [f1, f2, f3, List.length_append, nb_len, Nat.add_assoc]
    rfl
theorem x_back (x to fr : Nat) (h0 : 0 < x) (h1 : x < 18446744073709551616) (hf : fr ≤ lz x) (ht : 64 - tz x ≤ to) (h64 : to ≤ 64) :
    x / 2 ^ (64 - to) < 2 ^ (to - fr) ∧ x / 2 ^ (64 - to) * 2 ^ (64 - to) % 18446744073709551616 = x := by
  obtain ⟨a1, a2, a3⟩ := tz_spec x h0 h1
  obtain ⟨b1, b2, b3⟩ := lz_spec x h0 h1
  have hl := lt_spec x h0 h1
  constructor
  · rw [Nat.div_lt_iff_lt_mul (Nat.pow_pos (by decide)), ← Nat.pow_add]
    exact Nat.lt_of_lt_of_le b3 (Nat.pow_le_pow_right (by decide) (by omega))
  · have e : x / 2 ^ (64 - to) * 2 ^ (64 - to) = x := by
      apply Nat.div_mul_cancel
      refine Nat.dvd_trans (Nat.pow_dvd_pow 2 (show 64 - to ≤ tz x by omega)) ⟨x / 2 ^ tz x, ?_⟩
      rw [Nat.mul_comm]; exact a2
    rw [e, Nat.mod_eq_of_lt h1]
theorem xor_back (a b : Nat) : b ^^^ (a ^^^ b) = a := by rw [Nat.xor_comm a b, ← Nat.xor_assoc, Nat.xor_self, Nat.zero_xor]
theorem xor_zero_eq (a b : Nat) (h : a ^^^ b = 0) : a = b := by
  have := xor_back a b
  rw [h, Nat.xor_zero] at this
  exact this.symm
/-- A value's bits are read as the value. -/
theorem rdV_ok {B : Nat → Nat} {N p : Nat} (r : Trl) (hr : Gt r) (x : Smp) (hx : Sok x) (h : Bt B N p (vlb r x)) :
    rdS B N ⟨p, false, r⟩ = x.s ∧ rdV B N ⟨p, false, r⟩ = ⟨p + (vlb r x).length, false, { r with vl := if x.s = true then r.vl else cb x.v, fr := if x.s = true then r.fr else vfr (cb x.v ^^^ r.vl) r.fr r.to, to := if x.s = true then r.to else vto (cb x.v ^^^ r.vl) r.fr r.to }⟩ ∧
      ((wyF B N 3 p).1 = 1 → r.to ≠ 0) ∧ ((wyF B N 3 p).1 = 2 → ¬ 64 < rdF1 B N (rdW B N ⟨p, false, r⟩)) := by
  unfold vlb at h ⊢
  unfold rdS rdV
  by_cases hs : x.s = true
  · rw [if_pos hs] at h ⊢
    have hw := wy_ok 3 3 p (Nat.le_refl _) h
    simp only [hw, hs, rdW, if_true]
    exact ⟨by decide, rfl, by simp, by simp⟩
  · rw [if_neg hs] at h ⊢
    simp only [if_neg hs]
    have hs' : x.s = false := by simpa using hs
    have hxl := xor_lt (cb_lt _ hx.2.2) hr.vl
    have hbk := xor_back (cb x.v) r.vl
    have hzz := xor_zero_eq (cb x.v) r.vl
    generalize hX : cb x.v ^^^ r.vl = X at *
    unfold vlu at h ⊢
    by_cases h0 : X = 0
    · rw [if_pos h0] at h ⊢
      have hw := wy_ok 3 0 p (by omega) h
      simp only [hw, hs', rdW, vfr, vto, if_pos h0]
      rw [hzz h0]
      exact ⟨by decide, rfl, by simp, by simp⟩
    · rw [if_neg h0] at h ⊢
      have hvf : vfr X r.fr r.to = if cov X r.fr r.to = true then r.fr else lz X := by unfold vfr; rw [if_neg h0]
      have hvt : vto X r.fr r.to = if cov X r.fr r.to = true then r.to else 64 - tz X := by unfold vto; rw [if_neg h0]
      have hlt := lt_spec X (by omega) hxl
      unfold vhd at h ⊢
      by_cases hc : cov X r.fr r.to = true
      · rw [if_pos hc] at h hvf hvt ⊢
        rw [hvf, hvt] at h ⊢
        have hc' : r.fr ≤ lz X ∧ 64 - tz X ≤ r.to := by simpa [cov] using hc
        have h64 : r.to ≤ 64 := by rcases hr.fr with ⟨_, h⟩ | ⟨_, h⟩ <;> omega
        have hw := wy_ok 3 1 p (by omega) h.left
        obtain ⟨xb1, xb2⟩ := x_back X r.to r.fr (by omega) hxl hc'.1 hc'.2 h64
        obtain ⟨e1, e2, e3⟩ := tk_nb h.right xb1
        simp only [hw, rdW, rdX, e1, e2, e3, xb2, hbk, hs', List.length_append, nb_len, Nat.add_assoc]
        exact ⟨by decide, rfl, fun _ => by omega, by simp⟩
      · rw [if_neg hc] at h hvf hvt ⊢
        rw [hvf, hvt] at h ⊢
        have hw := wy_ok 3 2 p (by omega) h.left.left.left
        obtain ⟨xb1, xb2⟩ := x_back X (64 - tz X) (lz X) (by omega) hxl (by omega) (by omega) (by omega)
        obtain ⟨a1, a2, a3⟩ := tk_nb h.left.left.right (show lz X < 2 ^ 6 by omega)
        have h2 := h.left.right
        rw [List.length_append, ← Nat.add_assoc, nb_len] at h2
        obtain ⟨c1, c2, c3⟩ := tk_nb h2 (show 64 - tz X - lz X - 1 < 2 ^ 6 by omega)
        have h3 := h.right
        simp only [List.length_append, nb_len, ← Nat.add_assoc] at h3
        obtain ⟨e1, e2, e3⟩ := tk_nb h3 xb1
        have h1f : rdF1 B N ⟨p + (wy 2 3).length, false, r⟩ = 64 - tz X := by
          unfold rdF1
          simp only [a1, a2, c1]
          omega
        have hfr : rdFr B N ⟨p + (wy 2 3).length, false, r⟩ = ⟨p + (wy 2 3).length + 6 + 6, false, { r with fr := lz X, to := 64 - tz X }⟩ := by
          unfold rdFr
          rw [h1f, if_neg (by omega)]
          unfold rdF0
          simp only [a1, a2, a3, c2, c3]
          rfl
        have hx2 : rdX B N ⟨p + (wy 2 3).length + 6 + 6, false, { r with fr := lz X, to := 64 - tz X }⟩ = ⟨p + (wy 2 3).length + 6 + 6 + (64 - tz X - lz X), false, { r with vl := cb x.v, fr := lz X, to := 64 - tz X }⟩ := by
          unfold rdX
          simp only [e1, e2, e3, xb2, hbk]
          rfl
        simp only [hw, rdW, Bool.or_false, hs']
        rw [hfr, hx2, h1f]
        refine ⟨by decide, ?_, by simp, fun _ => by omega⟩
        simp only [List.length_append, nb_len, Nat.add_assoc]
        rfl
/-- What is read of a sample. -/
def nrm (x : Smp) : Smp := if x.s = true then ⟨x.t, 0, true⟩ else ⟨x.t, cb x.v, false⟩
theorem rdN_ok {B : Nat → Nat} {N p : Nat} (r : Trl) (hr : Gt r) (x : Smp) (hx : Sok x) (h : Bt B N p (smb r x)) :
    rdO B N ⟨p, false, r⟩ = nrm x ∧ rdN B N ⟨p, false, r⟩ = ⟨p + (smb r x).length, false, nxt r x⟩ := by
  unfold smb at h ⊢
  have h1 := rdT_ok r x.t ⟨hx.1, hx.2.1⟩ h.left
  generalize hr1 : ({ r with tm := x.t, st := if r.n = 0 then r.st else s64 (x.t - r.tm) } : Trl) = r1 at h1
  have hr1' : Gt r1 := by
    rw [← hr1]
    refine ⟨⟨hx.1, hx.2.1⟩, ?_, hr.vl, hr.fr⟩
    show _ ≤ (if r.n = 0 then r.st else s64 (x.t - r.tm)) ∧ (if r.n = 0 then r.st else s64 (x.t - r.tm)) ≤ _
    split
    · exact hr.st
    · exact s64_bd _
  have hv : vlb r1 x = vlb r x := by rw [← hr1]; rfl
  have h2 := h.right
  rw [← hv] at h2
  obtain ⟨e1, e2, _⟩ := rdV_ok r1 hr1' x hx h2
  unfold rdO rdN rdY
  rw [h1, e1, e2, hv, List.length_append, Nat.add_assoc]
  constructor
  · unfold nrm
    rw [← hr1]
    cases x.s <;> rfl
  · rw [← hr1]
    rfl
theorem rdF_ok {B : Nat → Nat} {N : Nat} : ∀ (l : List Smp) (p : Nat) (r : Trl), Gt r → (∀ x ∈ l, Sok x) → Bt B N p (bod r l) → rdF B N l.length ⟨p, false, r⟩ = some (l.map nrm)
  | [], _, _, _, _, _ => rfl
  | x :: l, p, r, hr, hl, h => by
    obtain ⟨e1, e2⟩ := rdN_ok r hr x (hl x (List.mem_cons_self ..)) (Bt.left h)
    show (if (rdN B N ⟨p, false, r⟩).b = true then none else (rdF B N l.length (rdN B N ⟨p, false, r⟩)).map (rdO B N ⟨p, false, r⟩ :: ·)) = _
    rw [e1, e2, if_neg Bool.false_ne_true, rdF_ok l _ _ (hr.nxt x (hl x (List.mem_cons_self ..))) (fun y hy => hl y (List.mem_cons_of_mem _ hy)) (Bt.right h)]
    rfl
theorem pk_len (L : List Int) : (pk L).length = (L.length + 7) / 8 := gr_len _ _ _
theorem pk_bt (L : List Int) (h : Bin L) : Bt (bt 8 (pk L)) (8 * (pk L).length) 0 L := by
  refine ⟨by rw [pk_len]; omega, fun i hi => ?_⟩
  rw [Nat.zero_add]
  exact bt_gr _ h.lt 8 (by decide) _ _ (by omega)
/-- There and back. -/
theorem back (l : List Smp) (hl : ∀ x ∈ l, Sok x) (hn : l.length < 131072) : rd (pk (frm l)) = some (l.map nrm) := by
  have hb := pk_bt (frm l) (bin_frm l)
  unfold rd
  have h1 := hb.1
  obtain ⟨xs, hxs⟩ : ∃ xs, pk (frm l) = xs := ⟨_, rfl⟩
  rw [hxs] at hb h1 ⊢
  unfold frm at hb
  have hlen : 17 ≤ (frm l).length := by unfold frm; rw [List.length_append, nb_len]; omega
  rw [if_neg (by omega)]
  have e : bv (bt 8 xs) 0 17 = l.length := by
    rw [bv_nb _ 0 l.length 17 (fun i hi => hb.left.2 i (by rw [nb_len]; exact hi))]
    exact Nat.mod_eq_of_lt hn
  have h2 := hb.right
  rw [nb_len, Nat.zero_add] at h2
  rw [e]
  exact rdF_ok l 17 t0 gt0 hl h2
end Go.Proofs.YtedlmjieclaojaaDoor
