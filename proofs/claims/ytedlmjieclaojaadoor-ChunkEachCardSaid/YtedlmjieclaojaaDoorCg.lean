/- A packer in memory; putTime. -/
import Derived.Test.YtedlmjieclaojaaDoorCf
namespace Go.Proofs.YtedlmjieclaojaaDoor
open Go.RowKit

/-- A trail in the block B, from the cell o on. -/
structure Tc (w : World) (B o : Nat) (r : Trl) : Prop where
  c0 : w.cell? ⟨B, o, none⟩ = some (.int .i64 (r.n : Nat))
  c1 : w.cell? ⟨B, o + 1, none⟩ = some (.int .i64 r.tm)
  c2 : w.cell? ⟨B, o + 2, none⟩ = some (.int .i64 r.st)
  c3 : w.cell? ⟨B, o + 3, none⟩ = some (.int .u64 (r.vl : Nat))
  c4 : w.cell? ⟨B, o + 4, none⟩ = some (.int .i64 (r.fr : Nat))
  c5 : w.cell? ⟨B, o + 5, none⟩ = some (.int .i64 (r.to : Nat))
theorem Tc.of {w w' : World} {B o : Nat} {r : Trl} (h : Tc w B o r) (k : ∀ i, o ≤ i → w'.cell? ⟨B, i, none⟩ = w.cell? ⟨B, i, none⟩) : Tc w' B o r :=
  ⟨(k _ (by omega)).trans h.c0, (k _ (by omega)).trans h.c1, (k _ (by omega)).trans h.c2, (k _ (by omega)).trans h.c3, (k _ (by omega)).trans h.c4, (k _ (by omega)).trans h.c5⟩
theorem Tc.rst {w w' : World} {B : Nat} {r : Trl} (h : Tc w B 2 r) (k : Rst B w w') : Tc w' B 2 r := h.of k
theorem Tc.kp {M : Nat → Prop} {w w' : World} {B o : Nat} {r : Trl} (h : Tc w B o r) (k : Kp M w w') (hB : ¬ M B) : Tc w' B o r :=
  ⟨k.cell h.c0 hB, k.cell h.c1 hB, k.cell h.c2 hB, k.cell h.c3 hB, k.cell h.c4 hB, k.cell h.c5 hB⟩
theorem Tc.below {w w' : World} {B o : Nat} {r : Trl} (h : Tc w B o r) (b : Below w.heap.size w w') : Tc w' B o r := h.kp (M := fun _ => False) (Kp.of b) id
theorem same_c (w : World) (B i : Nat) (v u : Value) (h : w.cell? ⟨B, i, none⟩ = some u) : (w.setCell ⟨B, i, none⟩ v).cell? ⟨B, i, none⟩ = some v := World.cell?_setCell_same' _ _ _ (by rw [h]; rfl)
theorem Tc.setN {w : World} {B o : Nat} {r : Trl} (h : Tc w B o r) (n : Nat) : Tc (w.setCell ⟨B, o, none⟩ (.int .i64 (n : Nat))) B o { r with n := n } :=
  ⟨same_c _ _ _ _ _ h.c0, by rw [cell_off _ _ _ _ _ (by omega)]; exact h.c1, by rw [cell_off _ _ _ _ _ (by omega)]; exact h.c2, by rw [cell_off _ _ _ _ _ (by omega)]; exact h.c3, by rw [cell_off _ _ _ _ _ (by omega)]; exact h.c4, by rw [cell_off _ _ _ _ _ (by omega)]; exact h.c5⟩
theorem Tc.setT {w : World} {B o : Nat} {r : Trl} (h : Tc w B o r) (t : Int) : Tc (w.setCell ⟨B, o + 1, none⟩ (.int .i64 t)) B o { r with tm := t } :=
  ⟨by rw [cell_off _ _ _ _ _ (by omega)]; exact h.c0, same_c _ _ _ _ _ h.c1, by rw [cell_off _ _ _ _ _ (by omega)]; exact h.c2, by rw [cell_off _ _ _ _ _ (by omega)]; exact h.c3, by rw [cell_off _ _ _ _ _ (by omega)]; exact h.c4, by rw [cell_off _ _ _ _ _ (by omega)]; exact h.c5⟩
theorem Tc.setS {w : World} {B o : Nat} {r : Trl} (h : Tc w B o r) (t : Int) : Tc (w.setCell ⟨B, o + 2, none⟩ (.int .i64 t)) B o { r with st := t } :=
  ⟨by rw [cell_off _ _ _ _ _ (by omega)]; exact h.c0, by rw [cell_off _ _ _ _ _ (by omega)]; exact h.c1, same_c _ _ _ _ _ h.c2, by rw [cell_off _ _ _ _ _ (by omega)]; exact h.c3, by rw [cell_off _ _ _ _ _ (by omega)]; exact h.c4, by rw [cell_off _ _ _ _ _ (by omega)]; exact h.c5⟩
theorem Tc.setV {w : World} {B o : Nat} {r : Trl} (h : Tc w B o r) (x : Nat) : Tc (w.setCell ⟨B, o + 3, none⟩ (.int .u64 (x : Nat))) B o { r with vl := x } :=
  ⟨by rw [cell_off _ _ _ _ _ (by omega)]; exact h.c0, by rw [cell_off _ _ _ _ _ (by omega)]; exact h.c1, by rw [cell_off _ _ _ _ _ (by omega)]; exact h.c2, same_c _ _ _ _ _ h.c3, by rw [cell_off _ _ _ _ _ (by omega)]; exact h.c4, by rw [cell_off _ _ _ _ _ (by omega)]; exact h.c5⟩
theorem Tc.setF {w : World} {B o : Nat} {r : Trl} (h : Tc w B o r) (x y : Nat) : Tc ((w.setCell ⟨B, o + 4, none⟩ (.int .i64 (x : Nat))).setCell ⟨B, o + 5, none⟩ (.int .i64 (y : Nat))) B o { r with fr := x, to := y } := by
  refine ⟨?_, ?_, ?_, ?_, ?_, same_c _ _ _ _ (.int .i64 (r.to : Nat)) ?_⟩
  · rw [cell_off _ _ _ _ _ (by omega), cell_off _ _ _ _ _ (by omega)]; exact h.c0
  · rw [cell_off _ _ _ _ _ (by omega), cell_off _ _ _ _ _ (by omega)]; exact h.c1
  · rw [cell_off _ _ _ _ _ (by omega), cell_off _ _ _ _ _ (by omega)]; exact h.c2
  · rw [cell_off _ _ _ _ _ (by omega), cell_off _ _ _ _ _ (by omega)]; exact h.c3
  · rw [cell_off _ _ _ _ _ (by omega)]; exact same_c _ _ _ _ _ h.c4
  · rw [cell_off _ _ _ _ _ (by omega)]; exact h.c5
/-- A cell of the stream's block behind the stream is written to. -/
theorem Stm.set {S : Nat} {w : World} {B : Nat} {v : Value} {L : List Int} (h : Stm S w B v L) (i : Nat) (hi : 2 ≤ i) (u : Value) : Stm S (w.setCell ⟨B, i, none⟩ u) B v L := by
  have k : Kp (fun k => k = B) w (w.setCell ⟨B, i, none⟩ u) := (Kp.refl (fun k => k = B) w).setCell (p := ⟨B, i, none⟩) rfl _
  exact ⟨by rw [cell_off _ _ _ _ _ (by omega)]; exact h.c0, by rw [cell_off _ _ _ _ _ (by omega)]; exact h.c1, fun j => by rw [World.frozen?_setCell]; exact h.fz j, k.row h.row (fun g e e2 => h.gb (e2 ▸ e)), h.gb, h.bin, Nat.le_trans h.SS k.size⟩
theorem kp_set (w : World) (B i : Nat) (v u : Value) : Kp (Mv B v) w (w.setCell ⟨B, i, none⟩ u) := (Kp.refl (Mv B v) w).setCell (p := ⟨B, i, none⟩) (.inl rfl) _

/-- A packer: its stream and its trail. -/
structure Pkr (S : Nat) (w : World) (B : Nat) (v : Value) (L : List Int) (r : Trl) : Prop where
  stm : Stm S w B v L
  tc : Tc w B 2 r
  S3 : 3 ≤ S
  SB : S ≤ B
theorem Pkr.not_low {S : Nat} {w : World} {B : Nat} {v : Value} {L : List Int} {r : Trl} (h : Pkr S w B v L r) (k : Nat) (hk : k < 3) : ¬ Mv B v k := by
  have h1 := h.S3
  have h2 := h.SB
  rintro (e | e)
  · omega
  · have := (h.stm.base k e).1; omega
theorem Pkr.kp {M : Nat → Prop} {S : Nat} {w w' : World} {B : Nat} {v : Value} {L : List Int} {r : Trl} (h : Pkr S w B v L r) (k : Kp M w w') (hB : ¬ M B) (hg : ∀ g, v.ownBlock = some g → ¬ M g) : Pkr S w' B v L r := ⟨h.stm.kp k hB hg, h.tc.kp k hB, h.S3, h.SB⟩
theorem Pkr.below {S : Nat} {w w' : World} {B : Nat} {v : Value} {L : List Int} {r : Trl} (h : Pkr S w B v L r) (b : Below w.heap.size w w') : Pkr S w' B v L r := ⟨h.stm.below b, h.tc.below b, h.S3, h.SB⟩
/-- What a piece of packing does. -/
def Pq (S B : Nat) (v : Value) (L X : List Int) (r' : Trl) (w : World) (e : Ending) (w' : World) : Prop := e = .returned (.tuple #[]) ∧ ∃ v', Pkr S w' B v' (L ++ X) r' ∧ Sub w v v' ∧ Kp (Mv B v) w w'

theorem fz_of {S : Nat} {w : World} {B : Nat} {v : Value} {L : List Int} (h : Stm S w B v L) : ∀ i, w.frozen? ⟨B, i, none⟩ = false := h.fz
set_option maxHeartbeats 1000000 in
set_option maxRecDepth 100000 in
theorem putTime_any (S B : Nat) (v : Value) (L : List Int) (r : Trl) (t : Int) (w : World) (h : Pkr S w B v L r) (hs : Scl w) (hL : L.length + 200 ≤ 1000000000) :
    Calls Tryd.prog 32 #[.pointer (some ⟨B, 0, none⟩), .int .i64 t] w (Pq S B v L (tmb r t) { r with tm := t, st := if r.n = 0 then r.st else s64 (t - r.tm) } w) := by
  have c0 := h.tc.c0
  have c1 := h.tc.c1
  have c2 := h.tc.c2
  have HP : Hid (Pkr S w B v L r) := h
  obtain ⟨n, tm, st, vl, fr, to⟩ := r
  dsimp only at *
  by_cases hn : n = 0
  · have hn' : (n : Int) = 0 := by omega
    have HT : Hid (tmb ⟨n, tm, st, vl, fr, to⟩ t = nb (w64 t) 64) := by show _ = _; unfold tmb; rw [if_pos hn]
    have k := put_any S B v L (w64 t) 64 w h.stm (w64_lt t) (by decide) (by omega)
    rw [← u64_w64] at k
    rw [if_pos hn, HT.out]
    clear h
    go_enter Tryd.func32, Tryd.ntmps32
    go_wp2_with fail
    go_fit k
    rintro e w1 ⟨rfl, v1, hS1, hsub, hkp, hrs⟩
    have hT := HP.out.tc.rst hrs
    have q1 := hT.c1
    have qf := hS1.fz 3
    have HR : Hid (Pq S B v L (nb (w64 t) 64) ⟨n, t, st, vl, fr, to⟩ w (.returned (.tuple #[])) (w1.setCell ⟨B, 3, none⟩ (.int .i64 t))) := ⟨rfl, v1, ⟨hS1.set 3 (by decide) _, hT.setT t, HP.out.S3, HP.out.SB⟩, hsub, hkp.trans' (kp_set w1 B 3 v1 _) (fun i hi e => e.imp id (fun e => hsub i e hi))⟩
    clear k hT hsub hkp hrs hS1 HP c0 c1 c2
    go_wp2
    go_end0
    exact HR.out
  · have hn' : ¬ (n : Int) = 0 := by omega
    have HT : Hid (tmb ⟨n, tm, st, vl, fr, to⟩ t = chg (s64 (s64 (t - tm) - st))) := by show _ = _; unfold tmb; rw [if_neg hn]
    have k := fun e => putChange_any S B v L e w h.stm hs (by have := h.S3; omega) h.SB (by omega)
    rw [if_neg hn, HT.out]
    obtain ⟨D, hD⟩ : ∃ D, wrap64 (t - tm) = D := ⟨_, rfl⟩
    obtain ⟨E, hE⟩ : ∃ E, wrap64 (D - st) = E := ⟨_, rfl⟩
    rw [← wrap_s64 (t - tm), hD, ← wrap_s64, hE]
    have k := k E
    clear h hn
    go_enter Tryd.func32, Tryd.ntmps32
    go_wp2_with fail
    go_fit k
    rintro e w1 ⟨rfl, v1, hS1, hsub, hkp, hrs⟩
    have hT := HP.out.tc.rst hrs
    have q1 := hT.c1
    have q2 := hT.c2
    have qf := hS1.fz 3
    have qg := hS1.fz 4
    have HR : Hid (Pq S B v L (chg E) ⟨n, t, D, vl, fr, to⟩ w (.returned (.tuple #[])) ((w1.setCell ⟨B, 4, none⟩ (.int .i64 D)).setCell ⟨B, 3, none⟩ (.int .i64 t))) := ⟨rfl, v1, ⟨(hS1.set 4 (by decide) _).set 3 (by decide) _, (hT.setS D).setT t, HP.out.S3, HP.out.SB⟩, hsub, (hkp.trans' (kp_set w1 B 4 v1 _) (fun i hi e => e.imp id (fun e => hsub i e hi))).trans' (kp_set _ B 3 v1 _) (fun i hi e => e.imp id (fun e => hsub i e hi))⟩
    clear k hT hsub hkp hrs hS1 HP c0 c1 c2 hs
    go_wp2
    go_end0
    exact HR.out
end Go.Proofs.YtedlmjieclaojaaDoor
