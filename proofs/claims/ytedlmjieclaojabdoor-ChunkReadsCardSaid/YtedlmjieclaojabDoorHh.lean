/- The reference's Unpack. -/
import Derived.Test.YtedlmjieclaojabDoorHg
namespace Go.Proofs.YtedlmjieclaojabDoor
open Go.RowKit

theorem fromBits2_any (v : Nat) (w : World) : Calls Tryd.prog 30 #[.int .u64 (v : Nat)] w fun e w' => e = .returned (.float .f64 v) ∧ w' = w := by
  have h := callFrom ((v : Nat) : Int)
  rw [Int.toNat_natCast] at h
  generalize ((v : Nat) : Int) = VI at *
  go_enter Tryd.func30, Tryd.ntmps30
  go_wp2
  go_ret
  exact ⟨rfl, rfl⟩
/-- A round's sample. -/
def smp2 (s : Rs) (x : Nat) (st : Bool) : Smp := if st = true then ⟨s.r.tm, 0, true⟩ else ⟨s.r.tm, s.r.vl ^^^ x, false⟩
theorem smp2_ok (s : Rs) (x : Nat) (st : Bool) (h1 : -9223372036854775808 ≤ s.r.tm ∧ s.r.tm ≤ 9223372036854775807) (h2 : s.r.vl < 18446744073709551616) (hx : x < 18446744073709551616) : Sok (smp2 s x st) := by
  unfold smp2 Sok
  cases st
  · exact ⟨h1.1, h1.2, xor_lt h2 hx⟩
  · exact ⟨h1.1, h1.2, by show (0 : Nat) < _; decide⟩
/-- A round's end. -/
theorem ur_next {w : World} {B F c : Nat} {a0 : Option Addr} {xs : List Int} {V i : Nat} {st : Rs} {L : List Smp} (hi : i < V) (hn : st.r.n = i) (hf : Fok st.r) (hL : L.length = i) (hok : ∀ x ∈ L, Sok x) (hrf : rfR xs = (rfF (bt 8 xs) (8 * xs.length) (V - i) st).map (L ++ ·))
    {x fr to p : Nat} {b : Bool} (hx : x < 18446744073709551616) (hb : b = (rfX (bt 8 xs) (8 * xs.length) (rdT (bt 8 xs) (8 * xs.length) st) || (rdV (bt 8 xs) (8 * xs.length) (rdT (bt 8 xs) (8 * xs.length) st)).b))
    (hd : b = false → rdV (bt 8 xs) (8 * xs.length) (rdT (bt 8 xs) (8 * xs.length) st) = ⟨p, false, { (rdT (bt 8 xs) (8 * xs.length) st).r with vl := (rdT (bt 8 xs) (8 * xs.length) st).r.vl ^^^ x, fr := fr, to := to }⟩)
    {W : World} {sv : Value} (hu : Un w B F c a0 xs W sv (L ++ [smp2 (rdT (bt 8 xs) (8 * xs.length) st) x (rdS (bt 8 xs) (8 * xs.length) (rdT (bt 8 xs) (8 * xs.length) st))]) fr to p b) :
    Ur w B F c a0 xs V (i + 1) sv (.int .u64 (((rdT (bt 8 xs) (8 * xs.length) st).r.vl ^^^ x : Nat) : Int)) (.int .i64 (rdT (bt 8 xs) (8 * xs.length) st).r.st) (.int .i64 (rdT (bt 8 xs) (8 * xs.length) st).r.tm) W := by
  have hft := rdT_fok (bt 8 xs) (8 * xs.length) st hf
  obtain ⟨y, hy⟩ := rdT_tm (bt 8 xs) (8 * xs.length) st
  have htm := s64_bd y
  rw [← hy] at htm
  have hnb := rfN_b (bt 8 xs) (8 * xs.length) st
  rw [← hb] at hnb
  have hun : rfF (bt 8 xs) (8 * xs.length) (V - i) st = if (rfN (bt 8 xs) (8 * xs.length) st).b = true then none else (rfF (bt 8 xs) (8 * xs.length) (V - (i + 1)) (rfN (bt 8 xs) (8 * xs.length) st)).map (rdO (bt 8 xs) (8 * xs.length) st :: ·) := by
    rw [show V - i = (V - (i + 1)) + 1 by omega]
    conv => lhs; unfold rfF
  rw [hnb] at hun
  refine ⟨_, fr, to, p, b, by rw [List.length_append, hL]; rfl, fun z hz => ?_, hu, ?_⟩
  · rcases List.mem_append.1 hz with hz | hz
    · exact hok z hz
    · rw [List.mem_singleton.1 hz]; exact smp2_ok _ x _ htm hft.2 hx
  · cases hbv : b with
    | true =>
      left
      refine ⟨rfl, ?_⟩
      rw [hrf, hun, hbv, if_pos rfl]
      rfl
    | false =>
      right
      refine ⟨rfl, rfN (bt 8 xs) (8 * xs.length) st, ?_⟩
      have hdv := hd hbv
      have hX : rfX (bt 8 xs) (8 * xs.length) (rdT (bt 8 xs) (8 * xs.length) st) = false := by
        rw [hbv] at hb
        exact (Bool.or_eq_false_iff.1 hb.symm).1
      have hN : rfN (bt 8 xs) (8 * xs.length) st = rdN (bt 8 xs) (8 * xs.length) st := by unfold rfN; rw [hX, if_neg Bool.false_ne_true]
      have hY : rdY (bt 8 xs) (8 * xs.length) st = ⟨p, false, { (rdT (bt 8 xs) (8 * xs.length) st).r with vl := (rdT (bt 8 xs) (8 * xs.length) st).r.vl ^^^ x, fr := fr, to := to }⟩ := hdv
      have hO : rdO (bt 8 xs) (8 * xs.length) st = smp2 (rdT (bt 8 xs) (8 * xs.length) st) x (rdS (bt 8 xs) (8 * xs.length) (rdT (bt 8 xs) (8 * xs.length) st)) := by
        unfold rdO smp2
        rw [hY]
      have hnn := rdN_n (bt 8 xs) (8 * xs.length) st
      have hfk := rdN_fok (bt 8 xs) (8 * xs.length) st hf
      rw [hN]
      refine ⟨?_, ?_, by omega, hfk, ?_, ?_, ?_, ?_, ?_, ?_⟩
      · unfold rdN; rw [hY]
      · unfold rdN; rw [hY]
      · unfold rdN; rw [hY]
      · unfold rdN; rw [hY]
      · unfold rdN; rw [hY]
      · unfold rdN; rw [hY]
      · unfold rdN; rw [hY]
      · rw [hrf, hun, hbv, if_neg Bool.false_ne_true, hN, hO, Option.map_map]
        congr 1
        funext m
        simp
end Go.Proofs.YtedlmjieclaojabDoor
