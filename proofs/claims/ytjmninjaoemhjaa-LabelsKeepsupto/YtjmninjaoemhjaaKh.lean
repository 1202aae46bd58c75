/- same; keys told apart. -/
import Derived.Test.YtjmninjaoemhjaaKe
namespace Go.Proofs.Ytjmninjaoemhjaa
open Go.RowKit Go.Lib Go.Shelf Go.Sort

attribute [local go_sem] Oper.semAt_some

abbrev lbV (x : Lb) : Value := .agg #[.string x.1, .string x.2]
theorem eqLb (x y : Lb) (w : World) : (Op.equalIn 10000 25 (lbV x) (lbV y)).run Try.prog w = .ok (x.1.toList == y.1.toList && x.2.toList == y.2.toList) w := by
  obtain ⟨a, b⟩ := x
  obtain ⟨c, d⟩ := y
  have u3 := Try.underlying9
  have a3 := Try.isAgg9
  have z3 := Try.sizeOf9
  have hS : Try.prog.underlying 25 = some (.struct (Try.prog.fieldsOf 25)) := by kernel_rfl
  rw [show (10000 : Nat) = 9999 + 1 from rfl, run_equalIn_agg w 9999 25 _ _ hS (by kernel_rfl)]
  simp only [Program.fieldsOf, Try.underlying25]
  go_simp
  by_cases h1 : a.toList = c.toList <;> by_cases h2 : b.toList = d.toList <;> simp [h1, h2]
theorem ne_lb (x : Lb) (w : World) : (binOp .neq 25 (lbV x) (lbV x)).run Try.prog w = .ok (.bool false) w := by
  rw [run_neq_struct, eqLb]
  simp
set_option maxHeartbeats 2000000 in
set_option maxRecDepth 100000 in
theorem same_true (a b : Option Addr) (c d n : Nat) (xs : Nat → Lb) (w : World) (ha : Lm w a xs n) (hb : Lm w b xs n) (hn : n ≤ 1152921504606846976) :
    Calls Try.prog 7 #[.slice a n c, .slice b n d] w fun r w' => r = .returned (.bool true) ∧ Below w.heap.size w w' := by
  have hN := fun a b => ne_lb (a, b)
  have HA : Hid (Lm w a xs n) := ha
  have HB : Hid (Lm w b xs n) := hb
  obtain ⟨G, hG⟩ : ∃ G, G = w.heap.size := ⟨_, rfl⟩
  have HG : Hid (G = w.heap.size) := hG
  rw [← hG]
  clear ha hb hG
  go_enter Try.func7, Try.ntmps7
  go_wp2
  go_loopw [13] (fun ivv w' => ∃ i : Nat, ivv = .int .i64 (i : Int) ∧ i ≤ n ∧ Hid (Below G w w')) (fun ivv _ => n - (RowKit.intOf ivv).toNat)
  case atStart => exact ⟨0, rfl, by omega, Below.refl _ _⟩
  case round =>
    obtain ⟨i, rfl, hi, hb⟩ := hrel
    by_cases hlt : i < n
    · have hii : (i : Int) < n := by omega
      obtain ⟨g1, o1, rfl, _, x0, x1⟩ := HA.out.at i hlt
      obtain ⟨g2, o2, rfl, _, y0, y1⟩ := HB.out.at i hlt
      have hb' : Below w.heap.size w wr := HG.out ▸ hb.out
      have e0 := bcell2 hb' x0
      have e1 := bcell2 hb' x1
      have e2 := bcell2 hb' y0
      have e3 := bcell2 hb' y1
      obtain ⟨⟨xk, xi⟩, hx⟩ : ∃ x, xs i = x := ⟨_, rfl⟩
      rw [hx] at e0 e1 e2 e3
      dsimp only at e0 e1 e2 e3
      have HB2 : Hid (∀ m, Below G w (wr.drewN m)) := fun m => below_drewN hb.out m
      clear hx x0 x1 y0 y1 hb hb'
      go_wp2_with fail
      go_big_quiet (fail)
      have HB3 : Hid _ := HB2.out nq
      generalize wr.drewN nq = W6 at *
      go_wp2
      exact ⟨⟨i + 1, by go_num, by omega, HB3⟩, by simp [RowKit.intOf]; omega⟩
    · have hii : ¬ (i : Int) < n := by omega
      go_wp2
      go_ret
      exact ⟨rfl, hb.out⟩
theorem ne_lb2 (x y : Lb) (w : World) (h : x ≠ y) : (binOp .neq 25 (lbV x) (lbV y)).run Try.prog w = .ok (.bool true) w := by
  rw [run_neq_struct, eqLb]
  have : (x.1.toList == y.1.toList && x.2.toList == y.2.toList) = false := by
    cases hb : (x.1.toList == y.1.toList && x.2.toList == y.2.toList) with
    | false => rfl
    | true =>
      exfalso
      rw [Bool.and_eq_true, beq_iff_eq, beq_iff_eq, Lib.toList_data, Lib.toList_data, Lib.toList_data, Lib.toList_data] at hb
      apply h
      rw [Prod.ext_iff, ByteArray.ext_iff, ByteArray.ext_iff]
      exact ⟨Array.toList_inj.1 hb.1, Array.toList_inj.1 hb.2⟩
  rw [this]
  rfl
set_option maxHeartbeats 4000000 in
set_option maxRecDepth 100000 in
theorem same_no (a b : Option Addr) (c d n m : Nat) (f g : Nat → Lb) (w : World) (ha : Lm w a f n) (hb : Lm w b g m) (hn : n ≤ 1152921504606846976) (hm : m ≤ 1152921504606846976) (hne : ¬ (n = m ∧ ∀ j, j < n → f j = g j)) :
    Calls Try.prog 7 #[.slice a n c, .slice b m d] w fun r w' => r = .returned (.bool false) ∧ Below w.heap.size w w' := by
  by_cases hnm : n = m
  · subst hnm
    have HD : Hid (¬ ∀ j, j < n → f j = g j) := fun h => hne ⟨rfl, h⟩
    have HA : Hid (Lm w a f n) := ha
    have HB : Hid (Lm w b g n) := hb
    have HQ : Hid (∀ (x y : Lb) (w : World), x ≠ y → (binOp .neq 25 (lbV x) (lbV y)).run Try.prog w = .ok (.bool true) w) := fun x y w h => ne_lb2 x y w h
    obtain ⟨G, hG⟩ : ∃ G, G = w.heap.size := ⟨_, rfl⟩
    have HG : Hid (G = w.heap.size) := hG
    rw [← hG]
    clear ha hb hG hne hm
    go_enter Try.func7, Try.ntmps7
    go_wp2
    go_loopw [13] (fun ivv w' => ∃ i : Nat, ivv = .int .i64 (i : Int) ∧ i ≤ n ∧ Hid (∀ j, j < i → f j = g j) ∧ Hid (Below G w w')) (fun ivv _ => n - (RowKit.intOf ivv).toNat)
    case atStart => exact ⟨0, rfl, by omega, fun j hj => by omega, Below.refl _ _⟩
    case round =>
      obtain ⟨i, rfl, hi, HJ, hb⟩ := hrel
      by_cases hlt : i < n
      · have hii : (i : Int) < n := by omega
        obtain ⟨g1, o1, rfl, _, x0, x1⟩ := HA.out.at i hlt
        obtain ⟨g2, o2, rfl, _, y0, y1⟩ := HB.out.at i hlt
        have hb' : Below w.heap.size w wr := HG.out ▸ hb.out
        have e0 := bcell2 hb' x0
        have e1 := bcell2 hb' x1
        have e2 := bcell2 hb' y0
        have e3 := bcell2 hb' y1
        have HB2 : Hid (∀ m, Below G w (wr.drewN m)) := fun m => below_drewN hb.out m
        obtain ⟨⟨xk, xi⟩, hx⟩ : ∃ x, f i = x := ⟨_, rfl⟩
        obtain ⟨⟨yk, yi⟩, hy⟩ : ∃ y, g i = y := ⟨_, rfl⟩
        rw [hx] at e0 e1
        rw [hy] at e2 e3
        dsimp only at e0 e1 e2 e3
        by_cases heq : ((xk, xi) : Lb) = (yk, yi)
        · have HJ2 : Hid (∀ j, j < i + 1 → f j = g j) := fun j hj => by
            by_cases e : j = i
            · subst e; rw [hx, hy]; exact heq
            · exact HJ.out j (by omega)
          have hk := (Prod.mk.inj heq).1
          have hki := (Prod.mk.inj heq).2
          subst hk
          subst hki
          have hN := fun w => ne_lb (xk, xi) w
          clear hx hy x0 x1 y0 y1 hb hb' heq
          go_wp2_with fail
          go_big_quiet (fail)
          have HB3 : Hid _ := HB2.out nq
          generalize wr.drewN nq = W6 at *
          go_wp2
          exact ⟨⟨i + 1, by go_num, by omega, HJ2, HB3⟩, by simp [RowKit.intOf]; omega⟩
        · have hN := fun w => HQ.out (xk, xi) (yk, yi) w heq
          clear hx hy x0 x1 y0 y1 hb hb' heq HQ
          go_wp2_with fail
          go_big_quiet (fail)
          have HB3 : Hid _ := HB2.out nq
          generalize wr.drewN nq = W6 at *
          go_wp2
          go_ret
          exact ⟨rfl, HB3.out⟩
      · exfalso
        exact HD.out fun j hj => HJ.out j (by omega)
  · have h1 : ((n : Int) != (m : Int)) = true := by simp; omega
    go_enter Try.func7, Try.ntmps7
    go_wp2
    go_ret
    exact ⟨rfl, Below.refl _ _⟩
theorem Lm.congr {w : World} {a : Option Addr} {f g : Nat → Lb} {n : Nat} (h : Lm w a g n) (e : ∀ j, j < n → f j = g j) : Lm w a f n := by
  rcases h with h | ⟨G, o, e1, hg, hc⟩
  · exact .inl h
  · exact .inr ⟨G, o, e1, hg, fun j hj => by rw [e j hj]; exact hc j hj⟩

/-- The first labels as a list. -/
def ll (f : Nat → Lb) (n : Nat) : List Lb := (List.range n).map f
theorem ll_succ (f : Nat → Lb) (n : Nat) : ll f (n + 1) = ll f n ++ [f n] := by unfold ll; rw [List.range_succ, List.map_append]; rfl
theorem ll_len (f : Nat → Lb) (n : Nat) : (ll f n).length = n := by simp [ll]
theorem ll_get (f : Nat → Lb) (n j : Nat) (h : j < n) : (ll f n)[j]? = some (f j) := by simp [ll, h]
theorem ll_eq (f g : Nat → Lb) (n m : Nat) : ll f n = ll g m ↔ (n = m ∧ ∀ j, j < n → f j = g j) := by
  constructor
  · intro h
    have hl : n = m := by rw [← ll_len f n, h, ll_len]
    subst hl
    refine ⟨rfl, fun j hj => ?_⟩
    have := ll_get f n j hj
    rw [h, ll_get g n j hj] at this
    exact (Option.some.inj this).symm
  · rintro ⟨rfl, h⟩
    unfold ll
    exact List.map_congr_left fun j hj => h j (List.mem_range.1 hj)
theorem same_any (a b : Option Addr) (c d n m : Nat) (f g : Nat → Lb) (w : World) (ha : Lm w a f n) (hb : Lm w b g m) (hn : n ≤ 1152921504606846976) (hm : m ≤ 1152921504606846976) :
    Calls Try.prog 7 #[.slice a n c, .slice b m d] w fun r w' => r = .returned (.bool (decide (ll f n = ll g m))) ∧ Below w.heap.size w w' := by
  by_cases h : ll f n = ll g m
  · obtain ⟨rfl, he⟩ := (ll_eq f g n m).1 h
    rw [decide_eq_true h]
    exact same_true a b c d n f w ha (hb.congr he) hn
  · rw [decide_eq_false h]
    exact same_no a b c d n m f g w ha hb hn hm (fun k => h ((ll_eq f g n m).2 k))

/-- keeper's answer, as it lies below m. -/
def Kpr (m : Nat) (W : World) (Bs Bw : Nat) (xs : List ByteArray) (wo : Bool) : Prop :=
  Bs < m ∧ Bw < m ∧ ∃ v n0, W.cell? ⟨Bs, 0, none⟩ = some v ∧ W.cell? ⟨Bw, 0, none⟩ = some (.bool wo) ∧ W.ownsRow n0 9 1 v xs.length ((srt xs).map encStr) ∧ ∀ k, v.ownBlock = some k → k < m
theorem row_below {m n0 N : Nat} {e : TypeId} {W W' : World} {v : Value} {ys : List Value} (h : W.ownsRow n0 e 1 v N ys) (hv : ∀ k, v.ownBlock = some k → k < m) (hb : Below m W W') : W'.ownsRow n0 e 1 v N ys := by
  refine ⟨h.1, ?_⟩
  rcases h.2 with h0 | ⟨g, cap, cur, rfl, h1, h2, h3⟩
  · exact .inl h0
  · exact .inr ⟨g, cap, cur, rfl, h1, (hb.block g (hv g rfl)).trans h2, h3⟩
theorem Kpr.below {m : Nat} {W W' : World} {Bs Bw : Nat} {xs : List ByteArray} {wo : Bool} (h : Kpr m W Bs Bw xs wo) (hb : Below m W W') : Kpr m W' Bs Bw xs wo := by
  obtain ⟨h1, h2, v, n0, h3, h4, h5, h6⟩ := h
  exact ⟨h1, h2, v, n0, (hb.cell (p := ⟨Bs, 0, none⟩) h1).trans h3, (hb.cell (p := ⟨Bw, 0, none⟩) h2).trans h4, row_below h5 h6 hb, h6⟩
theorem Kpr.stays {m : Nat} {W : World} {Bs Bw : Nat} {xs : List ByteArray} {wo : Bool} (h : Kpr m W Bs Bw xs wo) (hN : xs.length ≤ 8796093022208) (x : ByteArray) :
    Calls Try.prog 31 #[.string x, .pointer (some ⟨Bs, 0, none⟩), .pointer (some ⟨Bw, 0, none⟩)] W fun e W' => e = .returned (.bool (stay xs wo x)) ∧ ∃ q, W' = W.drewN q := by
  obtain ⟨-, -, v, n0, h3, h4, h5, -⟩ := h
  exact stays_any n0 Bs Bw v xs wo x W hN h3 h4 h5
theorem keeper_k (a : Option Addr) (f : Nat → ByteArray) (N c : Nat) (wo : Bool) (w : World) (hN : N ≤ 8796093022208) (hR : Smb w.heap.size w a f N) :
    Calls Try.prog 22 #[.slice a N c, .bool wo] w fun e W' => ∃ Bs Bw, e = .returned (.func (.func 31) #[] #[.pointer (some ⟨Bs, 0, none⟩), .pointer (some ⟨Bw, 0, none⟩)]) ∧ Kpr W'.heap.size W' Bs Bw (lf f N) wo ∧ Below w.heap.size w W' := by
  refine (keeper_any a f N c wo w hN hR).mono ?_
  rintro e W' ⟨Bs, Bw, v, rfl, -, -, h3, h4, h5, h6⟩
  exact ⟨Bs, Bw, rfl, ⟨World.block_lt_of_cell? _ _ h3, World.block_lt_of_cell? _ _ h4, v, _, h3, h4, by rw [lf_len]; exact h5, fun k hk => (h5.lt k hk).2⟩, h6⟩
def keptL (f : Nat → Lb) (xs : List ByteArray) (wo : Bool) (n : Nat) : List Lb := (ll f n).filter fun l => stay xs wo l.1
end Go.Proofs.Ytjmninjaoemhjaa
