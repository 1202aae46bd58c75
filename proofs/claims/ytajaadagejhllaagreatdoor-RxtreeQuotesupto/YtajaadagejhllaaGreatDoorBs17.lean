/- A bundle of texts. -/
import Derived.Test.YtajaadagejhllaaGreatDoorBs10
import Derived.Deep.QuietTactic
/- The parser: the reader in memory; ahead, take, sees, takes. -/
namespace Go.Proofs.YtajaadagejhllaaGreatDoor
open Go.RowKit

/-- The runes of a pattern, in a block below S. -/
def Ris (S : Nat) (w : World) (a : Option Addr) (R : List Int) : Prop := R.length = 0 ∨ ∃ g o, a = some ⟨g, o, none⟩ ∧ g < S ∧ ∀ j (h : j < R.length), w.cell? ⟨g, o + j, none⟩ = some (.int .i32 (R[j]))
theorem Ris.below {S : Nat} {w w' : World} {a : Option Addr} {R : List Int} (h : Ris S w a R) (b : Below S w w') : Ris S w' a R := by
  rcases h with h | ⟨g, o, e, hg, hc⟩
  · exact .inl h
  · exact .inr ⟨g, o, e, hg, fun j hj => (b.cell (p := ⟨g, o + j, none⟩) hg).trans (hc j hj)⟩
/-- What a reader is at: place, flags, open brackets, names. -/
structure Ps where
  p : Nat
  fl : Int
  op : Int
  n : Nat
  f : Nat → ByteArray
/-- A reader in the block B. -/
structure Rd (S : Nat) (w : World) (B : Nat) (v : Value) (a : Option Addr) (c : Nat) (R : List Int) (s : Ps) : Prop where
  c0 : w.cell? ⟨B, 0, none⟩ = some (.slice a R.length c)
  c1 : w.cell? ⟨B, 1, none⟩ = some (.int .i64 (s.p : Int))
  c2 : w.cell? ⟨B, 2, none⟩ = some (.int .u8 s.fl)
  c3 : w.cell? ⟨B, 3, none⟩ = some (.int .i64 s.op)
  c4 : w.cell? ⟨B, 4, none⟩ = some v
  fz : ∀ o, w.frozen? ⟨B, o, none⟩ = false
  row : w.ownsRow S 9 1 v s.n (sc s.f s.n)
  rs : Ris S w a R
  gb : v.ownBlock ≠ some B
  SB : S ≤ B
namespace Rd
variable {S : Nat} {w w' : World} {B : Nat} {v : Value} {a : Option Addr} {c : Nat} {R : List Int} {s : Ps}
theorem lt (h : Rd S w B v a c R s) : B < w.heap.size := World.block_lt_of_cell? w _ h.c0
theorem kp {M : Nat → Prop} (h : Rd S w B v a c R s) (k : Kp M w w') (hB : ¬ M B) (hg : ∀ g, v.ownBlock = some g → ¬ M g) (hS : Below S w w') : Rd S w' B v a c R s :=
  ⟨k.cell h.c0 hB, k.cell h.c1 hB, k.cell h.c2 hB, k.cell h.c3 hB, k.cell h.c4 hB, fun o => by rw [World.frozen?_of_block (w := w) (k.block B h.lt hB)]; exact h.fz o, k.row h.row hg, h.rs.below hS, h.gb, h.SB⟩
theorem below (h : Rd S w B v a c R s) (hS : S ≤ w.heap.size) (k : Below w.heap.size w w') : Rd S w' B v a c R s := h.kp (M := fun _ => False) (Kp.of k) id (fun _ _ => id) (k.mono hS)
theorem base (h : Rd S w B v a c R s) : ∀ k, Mv B v k → S ≤ k ∧ k < w.heap.size := by
  intro k hk
  rcases hk with rfl | hk
  · exact ⟨h.SB, h.lt⟩
  · rcases h.row.2 with ⟨e', _⟩ | ⟨G, _, _, e', hG, hh, _⟩
    · rw [e'] at hk; cases hk
    · rw [e'] at hk
      have : G = k := Option.some.inj hk
      subst this
      exact ⟨hG, (Array.getElem?_eq_some_iff.1 hh).1⟩
theorem low (h : Rd S w B v a c R s) (hS : S ≤ w.heap.size) (k : Kp (Mv B v) w w') : Below S w w' := k.below hS (fun i hi e => by have := (h.base i e).1; omega)
/-- Another place. -/
theorem go (h : Rd S w B v a c R s) (hS : S ≤ w.heap.size) (p : Nat) : Rd S (w.setCell ⟨B, 1, none⟩ (.int .i64 (p : Int))) B v a c R { s with p := p } ∧ Kp (Mv B v) w (w.setCell ⟨B, 1, none⟩ (.int .i64 (p : Int))) := by
  have kk : Kp (· = B) w (w.setCell ⟨B, 1, none⟩ (.int .i64 (p : Int))) := (Kp.refl (· = B) w).setCell (p := ⟨B, 1, none⟩) rfl _
  have k2 : Kp (Mv B v) w (w.setCell ⟨B, 1, none⟩ (.int .i64 (p : Int))) := kk.mono (fun i _ e => .inl e)
  refine ⟨⟨?_, ?_, ?_, ?_, ?_, ?_, kk.row h.row (fun i e e' => h.gb (by rw [e, e'])), h.rs.below (h.low hS k2), h.gb, h.SB⟩, k2⟩
  · rw [World.cell?_setCell_other _ _ _ _ (by simp)]; exact h.c0
  · exact World.cell?_setCell_same' _ _ _ (by rw [h.c1]; rfl)
  · rw [World.cell?_setCell_other _ _ _ _ (by simp)]; exact h.c2
  · rw [World.cell?_setCell_other _ _ _ _ (by simp)]; exact h.c3
  · rw [World.cell?_setCell_other _ _ _ _ (by simp)]; exact h.c4
  · intro o
    rw [World.frozen?_setCell]
    exact h.fz o
end Rd
/-- The rune at a place; -1 behind the end. -/
def ahR (R : List Int) (i : Nat) : Int := R.getD i (-1)
theorem ahR_in {R : List Int} {i : Nat} (h : i < R.length) : ahR R i = R[i] := by
  unfold ahR
  simp [List.getD, List.getElem?_eq_getElem h]
theorem ahR_out {R : List Int} {i : Nat} (h : ¬ i < R.length) : ahR R i = -1 := by
  unfold ahR
  simp [List.getD, List.getElem?_eq_none (Nat.not_lt.1 h)]

set_option maxHeartbeats 2000000 in
set_option maxRecDepth 100000 in
theorem ahead_any (S B : Nat) (v : Value) (a : Option Addr) (c : Nat) (R : List Int) (s : Ps) (i : Nat) (w : World) (h : Rd S w B v a c R s) (hi : i ≤ 5000) (hat : s.p ≤ 5000) :
    Calls Tryz.prog 47 #[.pointer (some ⟨B, 0, none⟩), .int .i64 (i : Int)] w fun e w' => e = .returned (.int .i32 (ahR R (s.p + i))) ∧ ∃ m, w' = w.drewN m := by
  have c0 := h.c0
  have c1 := h.c1
  have hw : IntKind.i64.wrap ((s.p : Int) + (i : Int)) = ((s.p + i : Nat) : Int) := by rw [IntKind.wrap_i64]; omega
  have HRS : Hid (Ris S w a R) := h.rs
  clear h
  by_cases hlt : s.p + i < R.length
  · have hlt' : ((s.p + i : Nat) : Int) < (R.length : Int) := by omega
    rcases HRS.out with h0 | ⟨g, o, rfl, hg, hc⟩
    · omega
    have hx := hc (s.p + i) hlt
    have HE : Hid (ahR R (s.p + i) = R[s.p + i]) := ahR_in hlt
    have hb : 0 ≤ ((s.p + i : Nat) : Int) ∧ ((s.p + i : Nat) : Int) < (R.length : Int) := by omega
    obtain ⟨p, hp⟩ : ∃ p, p = s.p + i := ⟨_, rfl⟩
    simp only [← hp] at hx hw hlt' hb hlt HE
    rw [← hp]
    obtain ⟨x, hxx⟩ : ∃ x, x = R[p] := ⟨_, rfl⟩
    rw [← hxx] at hx HE
    rw [HE.out]
    clear hp hxx hc HRS
    go_enter Tryz.func47, Tryz.ntmps47
    go_wp2_with fail
    go_quiet (fail)
    go_wp2_with fail
    go_quiet (fail)
    go_wp2
    go_ret
    exact ⟨rfl, _, World.drewN_drewN _ _ _⟩
  · have hlt' : ¬ ((s.p + i : Nat) : Int) < (R.length : Int) := by omega
    rw [ahR_out hlt]
    obtain ⟨p, hp⟩ : ∃ p, p = s.p + i := ⟨_, rfl⟩
    simp only [← hp] at hw hlt' hlt
    clear hp HRS
    go_enter Tryz.func47, Tryz.ntmps47
    go_wp2_with fail
    go_quiet (fail)
    go_wp2
    go_ret
    exact ⟨rfl, _, rfl⟩
end Go.Proofs.YtajaadagejhllaaGreatDoor
/- The parser: sees, takes, take. -/
namespace Go.Proofs.YtajaadagejhllaaGreatDoor
open Go.RowKit

/-- Does a text of ASCII stand at a place? -/
def seB (R : List Int) : Nat → List UInt8 → Bool
  | _, [] => true
  | p, b :: l => (ahR R p == (b.toNat : Int)) && seB R (p + 1) l
theorem seB_iff (R : List Int) : ∀ (l : List UInt8) (p : Nat), seB R p l = true ↔ ∀ k (h : k < l.length), ahR R (p + k) = ((l[k]).toNat : Int)
  | [], p => by simp [seB]
  | b :: l, p => by
    unfold seB
    rw [Bool.and_eq_true, seB_iff R l (p + 1), beq_iff_eq]
    constructor
    · rintro ⟨h1, h2⟩ k hk
      match k, hk with
      | 0, _ => simpa using h1
      | k + 1, hk =>
        have := h2 k (by simpa using hk)
        rw [show p + (k + 1) = p + 1 + k by omega]
        simpa using this
    · intro h
      refine ⟨h 0 (by simp), fun k hk => ?_⟩
      have := h (k + 1) (by simpa using hk)
      rw [show p + 1 + k = p + (k + 1) by omega]
      simpa using this

set_option maxHeartbeats 2000000 in
set_option maxRecDepth 100000 in
theorem sees_any (S B : Nat) (v : Value) (a : Option Addr) (c : Nat) (R : List Int) (s : Ps) (x : ByteArray) (w : World) (h : Rd S w B v a c R s) (hS : S ≤ w.heap.size) (hx : x.size ≤ 100) (hat : s.p ≤ 5000) :
    Calls Tryz.prog 80 #[.pointer (some ⟨B, 0, none⟩), .string x] w fun e w' => e = .returned (.bool (seB R s.p x.data.toList)) ∧ ∃ m, w' = w.drewN m := by
  have HA : Hid (∀ (i : Nat) (W : World), (∃ m, W = w.drewN m) → i ≤ 100 → ∀ q, Calls Tryz.prog 47 #[.pointer (some ⟨B, 0, none⟩), .int .i64 (i : Int)] (W.drewN q) fun e w' => e = .returned (.int .i32 (ahR R (s.p + i))) ∧ ∃ k, w' = (W.drewN q).drewN k) := fun i W hW hi q => by
    obtain ⟨m, rfl⟩ := hW
    exact ahead_any S B v a c R s i _ (h.below hS (Below.drewN (Below.drewN (Below.refl _ _) m) q)) (by omega) hat
  have hlen : x.data.toList.length = x.size := by rw [Array.length_toList]; rfl
  have HT : Hid ((∀ k (hk : k < x.size), ahR R (s.p + k) = ((x[k]'hk).toNat : Int)) → seB R s.p x.data.toList = true) := fun hh => (seB_iff R _ _).2 fun k hk => by
    have := hh k (by omega)
    exact this
  have HF : Hid (∀ k (hk : k < x.size), ¬ ahR R (s.p + k) = ((x[k]'hk).toNat : Int) → seB R s.p x.data.toList = false) := fun k hk hne => by
    cases hc : seB R s.p x.data.toList with
    | false => rfl
    | true =>
      have := (seB_iff R _ _).1 hc k (by omega)
      exact absurd this hne
  have hxI : (x.size : Int) ≤ 100 := by omega
  clear h hlen
  generalize seB R s.p x.data.toList = SB at *
  go_enter Tryz.func80, Tryz.ntmps80
  go_wp2_with fail
  go_loopw [8] (fun ivv w' => ∃ j : Nat, ivv = .int .i64 (j : Int) ∧ j ≤ x.size ∧ Hid (∀ k (hk : k < x.size), k < j → ahR R (s.p + k) = ((x[k]'hk).toNat : Int)) ∧ Hid (∃ m, w' = w.drewN m)) (fun ivv _ => x.size - (RowKit.intOf ivv).toNat)
  case atStart => exact ⟨0, rfl, Nat.zero_le _, fun k hk h2 => by omega, ⟨0, rfl⟩⟩
  case round =>
    obtain ⟨j, rfl, hj, HJ, HM⟩ := hrel
    by_cases hlt : j < x.size
    · have hii : (j : Int) < (x.size : Int) := by omega
      have hb : 0 ≤ (j : Int) ∧ (j : Int) < (x.size : Int) := by omega
      have kA := HA.out j wr HM.out (by omega)
      have hw : IntKind.i32.wrap ((x[j]'hlt).toNat : Int) = ((x[j]'hlt).toNat : Int) := by have := (x[j]'hlt).toNat_lt; rw [IntKind.wrap_i32]; omega
      obtain ⟨A, hA⟩ : ∃ A, A = ahR R (s.p + j) := ⟨_, rfl⟩
      rw [← hA] at kA
      have HMM : Hid (∀ q, ∃ m, wr.drewN q = w.drewN m) := fun q => by
        obtain ⟨m, e⟩ := HM.out
        exact ⟨m + q, by rw [e, World.drewN_drewN]⟩
      by_cases he : A = ((x[j]'hlt).toNat : Int)
      · have e1 : (A != ((x[j]'hlt).toNat : Int)) = false := by simpa using he
        have HE : Hid (ahR R (s.p + j) = ((x[j]'hlt).toNat : Int)) := by unfold Hid; rw [← hA]; exact he
        clear he hA
        go_wp2_with fail
        go_quiet ((go_at_call 47; exact Calls.quiet_of (kA _)))
        go_wp2_with fail
        exact ⟨⟨j + 1, by go_num, by omega, fun k hk h2 => by
          by_cases e : k = j
          · subst e; exact HE.out
          · exact HJ.out k hk (by omega), HMM.out _⟩, by simp [RowKit.intOf]; omega⟩
      · have e1 : (A != ((x[j]'hlt).toNat : Int)) = true := by simpa using he
        have HE : Hid (SB = false) := HF.out j hlt (by rw [← hA]; exact he)
        clear he hA
        go_wp2_with fail
        go_quiet ((go_at_call 47; exact Calls.quiet_of (kA _)))
        go_wp2
        go_ret
        exact ⟨by rw [HE.out]; rfl, HMM.out _⟩
    · have hii : ¬ (j : Int) < (x.size : Int) := by omega
      have HE : Hid (SB = true) := HT.out (fun k hk => HJ.out k hk (by omega))
      go_wp2
      go_ret
      exact ⟨by rw [HE.out]; rfl, HM.out⟩

/-- What is passed over. -/
def Tk (S B : Nat) (v : Value) (a : Option Addr) (c : Nat) (R : List Int) (s : Ps) (w : World) (w' : World) : Prop := Rd S w' B v a c R s ∧ Kp (Mv B v) w w'
set_option maxHeartbeats 2000000 in
set_option maxRecDepth 100000 in
theorem takes_any (S B : Nat) (v : Value) (a : Option Addr) (c : Nat) (R : List Int) (s : Ps) (x : ByteArray) (w : World) (h : Rd S w B v a c R s) (hS : S ≤ w.heap.size) (hx : x.size ≤ 100) (hat : s.p ≤ 5000) :
    Calls Tryz.prog 64 #[.pointer (some ⟨B, 0, none⟩), .string x] w fun e w' => e = .returned (.bool (seB R s.p x.data.toList)) ∧ Tk S B v a c R (if seB R s.p x.data.toList = true then { s with p := s.p + x.size } else s) w w' := by
  have kS := sees_any S B v a c R s x w h hS hx hat
  have HR : Hid (∀ m, Rd S (w.drewN m) B v a c R s) := fun m => h.below hS (Below.drewN (Below.refl _ _) m)
  have HK : Hid (∀ m, Kp (Mv B v) w (w.drewN m)) := fun m => Kp.of (Below.drewN (Below.refl _ _) m)
  have hw : IntKind.i64.wrap ((s.p : Int) + (x.size : Int)) = ((s.p + x.size : Nat) : Int) := by rw [IntKind.wrap_i64]; omega
  clear h
  cases hc : seB R s.p x.data.toList
  · rw [hc] at kS
    rw [if_neg Bool.false_ne_true]
    go_enter Tryz.func64, Tryz.ntmps64
    go_wp2_with fail
    go_fit kS
    rintro e w' ⟨rfl, m, hm⟩
    have HT : Hid (Tk S B v a c R s w w') := by subst hm; exact ⟨HR.out m, HK.out m⟩
    clear hm
    go_wp2
    go_ret
    exact ⟨rfl, HT.out⟩
  · rw [hc] at kS
    rw [if_pos rfl]
    go_enter Tryz.func64, Tryz.ntmps64
    go_wp2_with fail
    go_fit kS
    rintro e w' ⟨rfl, m, hm⟩
    have r' : Rd S w' B v a c R s := by subst hm; exact HR.out m
    have k' : Kp (Mv B v) w w' := by subst hm; exact HK.out m
    have hS' : S ≤ w'.heap.size := Nat.le_trans hS k'.size
    have c1 := r'.c1
    have f1 := r'.fz 1
    have HT : Hid (Tk S B v a c R { s with p := s.p + x.size } w (w'.setCell ⟨B, 1, none⟩ (.int .i64 ((s.p + x.size : Nat) : Int)))) := ⟨(r'.go hS' _).1, k'.trans (r'.go hS' _).2⟩
    clear hm r' k' hS'
    go_wp2
    go_ret
    exact ⟨rfl, HT.out⟩
set_option maxHeartbeats 2000000 in
set_option maxRecDepth 100000 in
theorem take_any (S B : Nat) (v : Value) (a : Option Addr) (c : Nat) (R : List Int) (s : Ps) (w : World) (h : Rd S w B v a c R s) (hS : S ≤ w.heap.size) (hat : s.p ≤ 5000) :
    Calls Tryz.prog 113 #[.pointer (some ⟨B, 0, none⟩)] w fun e w' => e = .returned (.int .i32 (ahR R s.p)) ∧ Tk S B v a c R (if ahR R s.p = -1 then s else { s with p := s.p + 1 }) w w' := by
  have kA := ahead_any S B v a c R s 0 w h (by omega) hat
  have HR : Hid (∀ m, Rd S (w.drewN m) B v a c R s) := fun m => h.below hS (Below.drewN (Below.refl _ _) m)
  have HK : Hid (∀ m, Kp (Mv B v) w (w.drewN m)) := fun m => Kp.of (Below.drewN (Below.refl _ _) m)
  have hw : IntKind.i64.wrap ((s.p : Int) + 1) = ((s.p + 1 : Nat) : Int) := by rw [IntKind.wrap_i64]; omega
  simp only [Nat.add_zero] at kA
  generalize ahR R s.p = A at *
  clear h
  by_cases hc : A = -1
  · have e1 : (A != -1) = false := by simpa using hc
    rw [if_pos hc]
    clear hc
    go_enter Tryz.func113, Tryz.ntmps113
    go_wp2_with fail
    go_fit kA
    rintro e w' ⟨rfl, m, hm⟩
    have HT : Hid (Tk S B v a c R s w w') := by subst hm; exact ⟨HR.out m, HK.out m⟩
    clear hm
    go_wp2
    go_ret
    exact ⟨rfl, HT.out⟩
  · have e1 : (A != -1) = true := by simpa using hc
    rw [if_neg hc]
    clear hc
    go_enter Tryz.func113, Tryz.ntmps113
    go_wp2_with fail
    go_fit kA
    rintro e w' ⟨rfl, m, hm⟩
    have r' : Rd S w' B v a c R s := by subst hm; exact HR.out m
    have k' : Kp (Mv B v) w w' := by subst hm; exact HK.out m
    have hS' : S ≤ w'.heap.size := Nat.le_trans hS k'.size
    have c1 := r'.c1
    have f1 := r'.fz 1
    have HT : Hid (Tk S B v a c R { s with p := s.p + 1 } w (w'.setCell ⟨B, 1, none⟩ (.int .i64 ((s.p + 1 : Nat) : Int)))) := ⟨(r'.go hS' _).1, k'.trans (r'.go hS' _).2⟩
    clear hm r' k' hS'
    go_wp2
    go_ret
    exact ⟨rfl, HT.out⟩
end Go.Proofs.YtajaadagejhllaaGreatDoor
/- The parser: repeats. -/
namespace Go.Proofs.YtajaadagejhllaaGreatDoor
open Go.RowKit

theorem Tk.trans {S B : Nat} {v : Value} {a : Option Addr} {c : Nat} {R : List Int} {s1 s2 : Ps} {w w1 w2 : World} (h : Tk S B v a c R s1 w w1) (k : Tk S B v a c R s2 w1 w2) : Tk S B v a c R s2 w w2 := ⟨k.1, h.2.trans k.2⟩
theorem Tk.below {S B : Nat} {v : Value} {a : Option Addr} {c : Nat} {R : List Int} {s1 : Ps} {w w1 w2 : World} (h : Tk S B v a c R s1 w w1) (hS : S ≤ w.heap.size) (b : Below w1.heap.size w1 w2) : Tk S B v a c R s1 w w2 := ⟨h.1.below (Nat.le_trans hS h.2.size) b, h.2.trans (Kp.of b)⟩
theorem Tk.refl {S B : Nat} {v : Value} {a : Option Addr} {c : Nat} {R : List Int} {s : Ps} {w : World} (h : Rd S w B v a c R s) : Tk S B v a c R s w w := ⟨h, Kp.refl _ _⟩
theorem takes_no {S B : Nat} {v : Value} {a : Option Addr} {c : Nat} {R : List Int} {s : Ps} {x : ByteArray} {w w1 : World} (h : Tk S B v a c R s w w1) (hS : S ≤ w.heap.size) (hx : x.size ≤ 100) (hat : s.p ≤ 5000) (hs : seB R s.p x.data.toList = false) :
    Calls Tryz.prog 64 #[.pointer (some ⟨B, 0, none⟩), .string x] w1 fun e w' => e = .returned (.bool false) ∧ Tk S B v a c R s w w' := by
  have := takes_any S B v a c R s x w1 h.1 (Nat.le_trans hS h.2.size) hx hat
  rw [hs, if_neg Bool.false_ne_true] at this
  exact this.mono fun _ _ ⟨he, k⟩ => ⟨he, h.trans k⟩
theorem takes_yes {S B : Nat} {v : Value} {a : Option Addr} {c : Nat} {R : List Int} {s : Ps} {x : ByteArray} {w w1 : World} (h : Tk S B v a c R s w w1) (hS : S ≤ w.heap.size) (hx : x.size ≤ 100) (hat : s.p ≤ 5000) (hs : seB R s.p x.data.toList = true) :
    Calls Tryz.prog 64 #[.pointer (some ⟨B, 0, none⟩), .string x] w1 fun e w' => e = .returned (.bool true) ∧ Tk S B v a c R { s with p := s.p + x.size } w w' := by
  have := takes_any S B v a c R s x w1 h.1 (Nat.le_trans hS h.2.size) hx hat
  rw [hs, if_pos rfl] at this
  exact this.mono fun _ _ ⟨he, k⟩ => ⟨he, h.trans k⟩
theorem sees_tk {S B : Nat} {v : Value} {a : Option Addr} {c : Nat} {R : List Int} {s : Ps} {x : ByteArray} {w w1 : World} (h : Tk S B v a c R s w w1) (hS : S ≤ w.heap.size) (hx : x.size ≤ 100) (hat : s.p ≤ 5000) :
    Calls Tryz.prog 80 #[.pointer (some ⟨B, 0, none⟩), .string x] w1 fun e w' => e = .returned (.bool (seB R s.p x.data.toList)) ∧ Tk S B v a c R s w w' :=
  (sees_any S B v a c R s x w1 h.1 (Nat.le_trans hS h.2.size) hx hat).mono fun _ _ ⟨he, m, hm⟩ => ⟨he, by rw [hm]; exact h.below hS (Below.drewN (Below.refl _ _) m)⟩
theorem ahead_tk {S B : Nat} {v : Value} {a : Option Addr} {c : Nat} {R : List Int} {s : Ps} {w w1 : World} (h : Tk S B v a c R s w w1) (hS : S ≤ w.heap.size) (i : Nat) (hi : i ≤ 5000) (hat : s.p ≤ 5000) :
    Calls Tryz.prog 47 #[.pointer (some ⟨B, 0, none⟩), .int .i64 (i : Int)] w1 fun e w' => e = .returned (.int .i32 (ahR R (s.p + i))) ∧ Tk S B v a c R s w w' :=
  (ahead_any S B v a c R s i w1 h.1 hi hat).mono fun _ _ ⟨he, m, hm⟩ => ⟨he, by rw [hm]; exact h.below hS (Below.drewN (Below.refl _ _) m)⟩
theorem take_tk {S B : Nat} {v : Value} {a : Option Addr} {c : Nat} {R : List Int} {s : Ps} {w w1 : World} (h : Tk S B v a c R s w w1) (hS : S ≤ w.heap.size) (hat : s.p ≤ 5000) (hne : ¬ ahR R s.p = -1) :
    Calls Tryz.prog 113 #[.pointer (some ⟨B, 0, none⟩)] w1 fun e w' => e = .returned (.int .i32 (ahR R s.p)) ∧ Tk S B v a c R { s with p := s.p + 1 } w w' := by
  have := take_any S B v a c R s w1 h.1 (Nat.le_trans hS h.2.size) hat
  rw [if_neg hne] at this
  exact this.mono fun _ _ ⟨he, k⟩ => ⟨he, h.trans k⟩

set_option maxRecDepth 100000 in
theorem bounds_no {S B : Nat} {v : Value} {a : Option Addr} {c : Nat} {R : List Int} {s : Ps} {w w1 : World} (h : Tk S B v a c R s w w1) (hS : S ≤ w.heap.size) (hat : s.p ≤ 5000) (hs : seB R s.p [123] = false) :
    Calls Tryz.prog 144 #[.pointer (some ⟨B, 0, none⟩)] w1 fun e w' => e = .returned (.tuple #[.int .i64 0, .int .i64 0, .bool false]) ∧ Tk S B v a c R s w w' := by
  have k := takes_no (x := ⟨#[123]⟩) h hS (by decide) hat hs
  clear h
  go_enter Tryz.func144, Tryz.ntmps144
  go_wp2_with fail
  go_fit k
  rintro e w2 ⟨rfl, h2⟩
  have H2 : Hid _ := h2
  clear h2 k
  go_wp2
  refine bodyPost_ret (v := .tuple #[.int .i64 0, .int .i64 0, .bool false]) (by simp [results, Tryz.results144, go_sem]) rfl ?_
  exact ⟨rfl, H2.out⟩
set_option maxRecDepth 100000 in
theorem braces_no {S B : Nat} {v : Value} {a : Option Addr} {c : Nat} {R : List Int} {s : Ps} {w w1 : World} (h : Tk S B v a c R s w w1) (hS : S ≤ w.heap.size) (hat : s.p ≤ 5000) (hs : seB R s.p [123] = false) :
    Calls Tryz.prog 127 #[.pointer (some ⟨B, 0, none⟩)] w1 fun e w' => e = .returned (.tuple #[.int .i64 0, .int .i64 0, .bool false]) ∧ Tk S B v a c R s w w' := by
  have k := bounds_no h hS hat hs
  have c1 := h.1.c1
  clear h
  go_enter Tryz.func127, Tryz.ntmps127
  go_wp2_with fail
  go_fit k
  rintro e w2 ⟨rfl, h2⟩
  have d1 := h2.1.c1
  have f1 := h2.1.fz 1
  have H2 : Hid (Tk S B v a c R s w (w2.setCell ⟨B, 1, none⟩ (.int .i64 (s.p : Int)))) := by
    have g := h2.1.go (Nat.le_trans hS h2.2.size) s.p
    exact ⟨g.1, h2.2.trans g.2⟩
  clear h2 k c1
  go_wp2
  refine bodyPost_ret (v := .tuple #[.int .i64 0, .int .i64 0, .bool false]) (by simp [results, Tryz.results127, go_sem]) rfl ?_
  exact ⟨rfl, H2.out⟩
set_option maxRecDepth 100000 in
theorem times_no {S B : Nat} {v : Value} {a : Option Addr} {c : Nat} {R : List Int} {s : Ps} {w w1 : World} (h : Tk S B v a c R s w w1) (hS : S ≤ w.heap.size) (hat : s.p ≤ 5000) (hs1 : seB R s.p [42] = false) (hs2 : seB R s.p [43] = false) (hs3 : seB R s.p [63] = false) (hs : seB R s.p [123] = false) :
    Calls Tryz.prog 109 #[.pointer (some ⟨B, 0, none⟩)] w1 fun e w' => e = .returned (.tuple #[.int .i64 0, .int .i64 0, .bool false]) ∧ Tk S B v a c R s w w' := by
  have k := takes_no (x := ⟨#[42]⟩) h hS (by decide) hat hs1
  have HK2 : Hid (∀ w2, Tk S B v a c R s w w2 → Calls Tryz.prog 64 #[.pointer (some ⟨B, 0, none⟩), .string ⟨#[43]⟩] w2 fun e w' => e = .returned (.bool false) ∧ Tk S B v a c R s w w') := fun w2 h2 => takes_no (x := ⟨#[43]⟩) h2 hS (by decide) hat hs2
  have HK3 : Hid (∀ w2, Tk S B v a c R s w w2 → Calls Tryz.prog 64 #[.pointer (some ⟨B, 0, none⟩), .string ⟨#[63]⟩] w2 fun e w' => e = .returned (.bool false) ∧ Tk S B v a c R s w w') := fun w2 h2 => takes_no (x := ⟨#[63]⟩) h2 hS (by decide) hat hs3
  have HK4 : Hid (∀ w2, Tk S B v a c R s w w2 → Calls Tryz.prog 127 #[.pointer (some ⟨B, 0, none⟩)] w2 fun e w' => e = .returned (.tuple #[.int .i64 0, .int .i64 0, .bool false]) ∧ Tk S B v a c R s w w') := fun w2 h2 => braces_no h2 hS hat hs
  clear h
  go_enter Tryz.func109, Tryz.ntmps109
  go_wp2_with fail
  go_fit k
  rintro e w2 ⟨rfl, h2⟩
  have k2 := HK2.out w2 h2
  clear h2 k
  go_wp2_with fail
  go_fit k2
  rintro e w3 ⟨rfl, h3⟩
  have k3 := HK3.out w3 h3
  clear h3 k2
  go_wp2_with fail
  go_fit k3
  rintro e w4 ⟨rfl, h4⟩
  have k4 := HK4.out w4 h4
  clear h4 k3
  go_wp2_with fail
  go_fit k4
  rintro e w5 ⟨rfl, h5⟩
  have H5 : Hid _ := h5
  clear h5 k4
  go_wp2
  refine bodyPost_ret (v := .tuple #[.int .i64 0, .int .i64 0, .bool false]) (by simp [results, Tryz.results109, go_sem]) rfl ?_
  exact ⟨rfl, H5.out⟩
set_option maxRecDepth 100000 in
theorem times_plus {S B : Nat} {v : Value} {a : Option Addr} {c : Nat} {R : List Int} {s : Ps} {w w1 : World} (h : Tk S B v a c R s w w1) (hS : S ≤ w.heap.size) (hat : s.p ≤ 5000) (hs1 : seB R s.p [42] = false) (hs2 : seB R s.p [43] = true) :
    Calls Tryz.prog 109 #[.pointer (some ⟨B, 0, none⟩)] w1 fun e w' => e = .returned (.tuple #[.int .i64 1, .int .i64 (-1), .bool true]) ∧ Tk S B v a c R { s with p := s.p + 1 } w w' := by
  have k := takes_no (x := ⟨#[42]⟩) h hS (by decide) hat hs1
  have HK2 : Hid (∀ w2, Tk S B v a c R s w w2 → Calls Tryz.prog 64 #[.pointer (some ⟨B, 0, none⟩), .string ⟨#[43]⟩] w2 fun e w' => e = .returned (.bool true) ∧ Tk S B v a c R { s with p := s.p + 1 } w w') := fun w2 h2 => takes_yes (x := ⟨#[43]⟩) h2 hS (by decide) hat hs2
  clear h
  go_enter Tryz.func109, Tryz.ntmps109
  go_wp2_with fail
  go_fit k
  rintro e w2 ⟨rfl, h2⟩
  have k2 := HK2.out w2 h2
  clear h2 k
  go_wp2_with fail
  go_fit k2
  rintro e w3 ⟨rfl, h3⟩
  have H3 : Hid _ := h3
  clear h3 k2
  go_wp2
  refine bodyPost_ret (v := .tuple #[.int .i64 1, .int .i64 (-1), .bool true]) (by simp [results, Tryz.results109, go_sem]) rfl ?_
  exact ⟨rfl, H3.out⟩
end Go.Proofs.YtajaadagejhllaaGreatDoor
