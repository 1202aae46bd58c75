/- same; keys told apart. -/
import Derived.Test.YtjmninjaoemhjaaDoorKe
import Derived.Test.YtjmninjaoemhjaaDoorCb
namespace Go.Proofs.YtjmninjaoemhjaaDoor.K
open Go.RowKit Go.Lib Go.Shelf Go.Sort

attribute [local go_sem] Oper.semAt_some

theorem Lm.congr {w : World} {a : Option Addr} {f g : Nat → Lb} {n : Nat} (h : Lm w a g n) (e : ∀ j, j < n → f j = g j) : Lm w a f n := by
  rcases h with h | ⟨G, o, e1, hg, hc⟩
  · exact .inl h
  · exact .inr ⟨G, o, e1, hg, fun j hj => by rw [e j hj]; exact hc j hj⟩

/-- The first labels as a list. -/
def ll (f : Nat → Lb) (n : Nat) : List Lb := (List.range n).map f
theorem ll_succ (f : Nat → Lb) (n : Nat) : ll f (n + 1) = ll f n ++ [f n] := by unfold ll; rw [List.range_succ, List.map_append]; rfl
theorem ll_len (f : Nat → Lb) (n : Nat) : (ll f n).length = n := by simp [ll]
theorem ll_get (f : Nat → Lb) (n j : Nat) (h : j < n) : (ll f n)[j]? = some (f j) := by simp [ll, h]
theorem ll_eq (f g : Nat → Lb) (n m : Nat) : ll f n = ll g m ↔ (n = m ∧ ∀ j, j < n → f j = g j) := by
  constructor
  · intro h
    have hl : n = m := by rw [← ll_len f n, h, ll_len]
    subst hl
    refine ⟨rfl, fun j hj => ?_⟩
    have := ll_get f n j hj
    rw [h, ll_get g n j hj] at this
    exact (Option.some.inj this).symm
  · rintro ⟨rfl, h⟩
    unfold ll
    exact List.map_congr_left fun j hj => h j (List.mem_range.1 hj)
/-- keeper's answer, as it lies below m. -/
def Kpr (m : Nat) (W : World) (Bs Bw : Nat) (xs : List ByteArray) (wo : Bool) : Prop :=
  Bs < m ∧ Bw < m ∧ ∃ v n0, W.cell? ⟨Bs, 0, none⟩ = some v ∧ W.cell? ⟨Bw, 0, none⟩ = some (.bool wo) ∧ W.ownsRow n0 9 1 v xs.length ((srt xs).map encStr) ∧ ∀ k, v.ownBlock = some k → k < m
theorem row_below {m n0 N : Nat} {e : TypeId} {W W' : World} {v : Value} {ys : List Value} (h : W.ownsRow n0 e 1 v N ys) (hv : ∀ k, v.ownBlock = some k → k < m) (hb : Below m W W') : W'.ownsRow n0 e 1 v N ys := by
  refine ⟨h.1, ?_⟩
  rcases h.2 with h0 | ⟨g, cap, cur, rfl, h1, h2, h3⟩
  · exact .inl h0
  · exact .inr ⟨g, cap, cur, rfl, h1, (hb.block g (hv g rfl)).trans h2, h3⟩
theorem Kpr.below {m : Nat} {W W' : World} {Bs Bw : Nat} {xs : List ByteArray} {wo : Bool} (h : Kpr m W Bs Bw xs wo) (hb : Below m W W') : Kpr m W' Bs Bw xs wo := by
  obtain ⟨h1, h2, v, n0, h3, h4, h5, h6⟩ := h
  exact ⟨h1, h2, v, n0, (hb.cell (p := ⟨Bs, 0, none⟩) h1).trans h3, (hb.cell (p := ⟨Bw, 0, none⟩) h2).trans h4, row_below h5 h6 hb, h6⟩
theorem Kpr.stays {m : Nat} {W : World} {Bs Bw : Nat} {xs : List ByteArray} {wo : Bool} (h : Kpr m W Bs Bw xs wo) (hN : xs.length ≤ 8796093022208) (x : ByteArray) :
    Calls Tryd.prog 63 #[.string x, .pointer (some ⟨Bs, 0, none⟩), .pointer (some ⟨Bw, 0, none⟩)] W fun e W' => e = .returned (.bool (stay xs wo x)) ∧ ∃ q, W' = W.drewN q := by
  obtain ⟨-, -, v, n0, h3, h4, h5, -⟩ := h
  exact stays_any n0 Bs Bw v xs wo x W hN h3 h4 h5
theorem keeper_k (a : Option Addr) (f : Nat → ByteArray) (N c : Nat) (wo : Bool) (w : World) (hN : N ≤ 8796093022208) (hR : Smb w.heap.size w a f N) :
    Calls Tryd.prog 37 #[.slice a N c, .bool wo] w fun e W' => ∃ Bs Bw, e = .returned (.func (.func 63) #[] #[.pointer (some ⟨Bs, 0, none⟩), .pointer (some ⟨Bw, 0, none⟩)]) ∧ Kpr W'.heap.size W' Bs Bw (lf f N) wo ∧ Below w.heap.size w W' := by
  refine (keeper_any a f N c wo w hN hR).mono ?_
  rintro e W' ⟨Bs, Bw, v, rfl, -, -, h3, h4, h5, h6⟩
  exact ⟨Bs, Bw, rfl, ⟨World.block_lt_of_cell? _ _ h3, World.block_lt_of_cell? _ _ h4, v, _, h3, h4, by rw [lf_len]; exact h5, fun k hk => (h5.lt k hk).2⟩, h6⟩
def keptL (f : Nat → Lb) (xs : List ByteArray) (wo : Bool) (n : Nat) : List Lb := (ll f n).filter fun l => stay xs wo l.1
end Go.Proofs.YtjmninjaoemhjaaDoor.K
