/- A packer: putValue. -/
import Derived.Test.YtedlmjieclaojaaDoorCg
namespace Go.Proofs.YtedlmjieclaojaaDoor
open Go.RowKit

/-- A packer that writes, a new frame in the block NB beside it. -/
structure Pv (S B NB : Nat) (v0 : Value) (w0 : World) (r : Trl) (f t : Nat) (V : World) (v : Value) (L : List Int) : Prop where
  pk : Pkr S V B v L r
  n0 : V.cell? ⟨NB, 0, none⟩ = some (.int .i64 (f : Nat))
  n1 : V.cell? ⟨NB, 1, none⟩ = some (.int .i64 (t : Nat))
  nv : v.ownBlock ≠ some NB
  nB : NB ≠ B
  sub : Sub w0 v0 v
  kp : Kp (Mv B v0) w0 V
namespace Pv
variable {S B NB : Nat} {v0 : Value} {w0 : World} {r : Trl} {f t : Nat} {V V' : World} {v : Value} {L X : List Int}
theorem below (h : Pv S B NB v0 w0 r f t V v L) (b : Below V.heap.size V V') : Pv S B NB v0 w0 r f t V' v L :=
  ⟨h.pk.below b, bcell2 b h.n0, bcell2 b h.n1, h.nv, h.nB, h.sub, h.kp.trans (Kp.of b)⟩
theorem put (h : Pv S B NB v0 w0 r f t V v L) {e : Ending} (p : Pp S B v L X V e V') : e = .returned (.tuple #[]) ∧ ∃ v', Pv S B NB v0 w0 r f t V' v' (L ++ X) := by
  obtain ⟨rfl, v', hS, hsub, hkp, hrs⟩ := p
  have hm : ¬ Mv B v NB := by
    rintro (e | e)
    · exact h.nB e
    · exact h.nv e
  refine ⟨rfl, v', ⟨hS, h.pk.tc.rst hrs, h.pk.S3, h.pk.SB⟩, hkp.cell h.n0 hm, hkp.cell h.n1 hm, fun e => h.nv (hsub NB e (World.block_lt_of_cell? V _ h.n0)), h.nB, h.sub.trans hsub h.kp.size, h.kp.next h.sub hkp⟩
end Pv
theorem xor_u64 (a b : Nat) (ha : a < 18446744073709551616) (hb : b < 18446744073709551616) : bits BinOp.xor IntKind.u64 (a : Int) (b : Int) = ((a ^^^ b : Nat) : Int) := by
  have hx := xor_lt ha hb
  have h1 : (BitVec.ofInt 64 (a : Int)).toNat = a := by rw [BitVec.ofInt_natCast, BitVec.toNat_ofNat]; exact Nat.mod_eq_of_lt ha
  have h2 : (BitVec.ofInt 64 (b : Int)).toNat = b := by rw [BitVec.ofInt_natCast, BitVec.toNat_ofNat]; exact Nat.mod_eq_of_lt hb
  show IntKind.u64.wrap ((BitVec.ofInt 64 (a : Int) ^^^ BitVec.ofInt 64 (b : Int)).toNat : Int) = _
  rw [BitVec.toNat_xor, h1, h2, IntKind.wrap_u64]
  omega
set_option maxHeartbeats 2000000 in
set_option maxRecDepth 100000 in
theorem putValue_same (S B : Nat) (v : Value) (L : List Int) (r : Trl) (a : Nat) (w : World) (h : Pkr S w B v L r) (ha : a < 18446744073709551616) (hr : Gt r) (hL : L.length + 200 ≤ 1000000000) (h0 : a ^^^ r.vl = 0) :
    Calls Tryd.prog 34 #[.pointer (some ⟨B, 0, none⟩), .int .u64 (a : Nat)] w (Pq S B v L (vlu (a ^^^ r.vl) r.fr r.to) { r with vl := a, fr := vfr (a ^^^ r.vl) r.fr r.to, to := vto (a ^^^ r.vl) r.fr r.to } w) := by
  have c3 := h.tc.c3
  have f3 := h.stm.fz 5
  have hx := xor_u64 a r.vl ha hr.vl
  rw [h0] at hx
  have HP : Hid (Pkr S (w.setCell ⟨B, 5, none⟩ (.int .u64 (a : Nat))) B v L { r with vl := a }) := ⟨h.stm.set 5 (by decide) _, h.tc.setV a, h.S3, h.SB⟩
  have k := putWay_any S B v L 0 3 (w.setCell ⟨B, 5, none⟩ (.int .u64 (a : Nat))) HP.out.stm (by decide) (by decide) (by omega)
  have HV : Hid (vlu (a ^^^ r.vl) r.fr r.to = wy 0 3 ∧ vfr (a ^^^ r.vl) r.fr r.to = r.fr ∧ vto (a ^^^ r.vl) r.fr r.to = r.to) := ⟨by unfold vlu; rw [if_pos h0], by unfold vfr; rw [if_pos h0], by unfold vto; rw [if_pos h0]⟩
  rw [HV.out.1, HV.out.2.1, HV.out.2.2]
  obtain ⟨n, tm, st, vl, fr, to⟩ := r
  dsimp only at *
  have hK : Kp (Mv B v) w (w.setCell ⟨B, 5, none⟩ (.int .u64 (a : Nat))) := kp_set w B 5 v _
  have HK : Hid _ := hK
  obtain ⟨A, hA⟩ : ∃ A : Int, A = (a : Nat) := ⟨_, rfl⟩
  rw [← hA] at k hx ⊢
  simp only [← hA] at HK HP
  generalize hW : w.setCell ⟨B, 5, none⟩ (.int .u64 A) = W at *
  clear h ha hr h0 HV hA hK
  go_enter Tryd.func34, Tryd.ntmps34
  go_wp2_with fail
  go_fit k
  rintro e w1 ⟨rfl, v1, hS1, hsub, hkp, hrs⟩
  have HR : Hid (Pq S B v L (wy 0 3) ⟨n, tm, st, a, fr, to⟩ w (.returned (.tuple #[])) w1) := ⟨rfl, v1, ⟨hS1, HP.out.tc.rst hrs, HP.out.S3, HP.out.SB⟩, fun i e hi => hsub i e (Nat.lt_of_lt_of_le hi HK.out.size), HK.out.trans hkp⟩
  clear k hsub hkp hrs hS1 HP c3 HK
  go_wp2
  go_end0
  exact HR.out
end Go.Proofs.YtedlmjieclaojaaDoor
