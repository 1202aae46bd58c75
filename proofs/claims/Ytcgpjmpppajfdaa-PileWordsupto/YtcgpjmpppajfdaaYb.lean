
/- Lists held against each other by their heads; byHeads, inOrder. -/
import Derived.Test.YtcgpjmpppajfdaaYg
import Derived.Test.YtcgpjmpppajfdaaYf
import Derived.Test.YtcgpjmpppajfdaaYm
import Derived.Test.YtcgpjmpppajfdaaWh
namespace Go.Proofs.Ytcgpjmpppajfdaa.Ws.Li
open Go.RowKit

def inO (le : Ls → Ls → Bool) (x y : Lk) : Bool := if x.2 < y.2 then !(le y.1 x.1) else le x.1 y.1
def hdK (x y : Ls) : Bool := lsK (x.2.2.2 0) (y.2.2.2 0)
def hdN (_ _ : Ls) : Bool := false
abbrev lvH (bi : Nat) : Value := .func (.func 75) #[] #[.pointer (some ⟨bi, 0, none⟩)]
abbrev lvM : Value := .func (.func 73) #[] #[]

theorem Iml.head {w : World} {a : Option Addr} {f : Nat → ByteArray} {n : Nat} (h : Iml w a f n) (hn : 0 < n) : ∃ g o, a = some ⟨g, o, none⟩ ∧ w.cell? ⟨g, o, none⟩ = some (.string (f 0)) := by
  rcases h with h | ⟨g, o, rfl, _, hat⟩
  · omega
  · have := hat 0 hn
    rw [Nat.add_zero] at this
    exact ⟨g, o, rfl, this⟩
set_option maxHeartbeats 2000000 in
set_option maxRecDepth 100000 in
theorem heads_any (a b : Option Addr) (n c m d bi : Nat) (f g : Nat → ByteArray) (w : World) (hf : Iml w a f n) (hn : 0 < n) (hg : Iml w b g m) (hm : 0 < m) (hbi : w.cell? ⟨bi, 0, none⟩ = some lvK) :
    Calls Try.prog 75 #[.slice a n c, .slice b m d, .pointer (some ⟨bi, 0, none⟩)] w fun r w' => r = .returned (.bool (lsK (f 0) (g 0))) ∧ Below w.heap.size w w' := by
  obtain ⟨g1, o1, rfl, c0⟩ := Iml.head hf hn
  obtain ⟨g2, o2, rfl, d0⟩ := Iml.head hg hm
  have kO := fun W => (lessK_any (f 0) (g 0) W).mono (R' := fun r w' => r = .returned (.bool (lsK (f 0) (g 0))) ∧ Below W.heap.size W w') (by rintro r w' ⟨h1, h2⟩; subst h2; exact ⟨h1, Below.refl _ _⟩)
  have hni : (0 : Int) < n := by omega
  have hmi : (0 : Int) < m := by omega
  generalize hF : lsK (f 0) (g 0) = F at *
  obtain ⟨xv, hx⟩ : ∃ x, f 0 = x := ⟨_, rfl⟩
  obtain ⟨yv, hy⟩ : ∃ x, g 0 = x := ⟨_, rfl⟩
  rw [hx] at c0 kO
  rw [hy] at d0 kO
  have e0 := fun d os => cell_regrown c0 d os
  have g0 := fun d os => cell_regrown d0 d os
  have eb := fun d os => cell_regrown hbi d os
  have cO := fun d os => Calls.regrown_of (kO (Go.Sort.grow (redrawn w d) os))
  clear hf hg hx hy hF kO
  go_enter Try.func75, Try.ntmps75
  go_wp2_with fail
  refine wp_region_quiet_below (by kernel_rfl) (by kernel_rfl) ?_
  repeat (first | quiet_step (fail) | quiet_step (exact cO _ _))
  refine wpQuiet_nil ?_
  intro _ hw'
  obtain ⟨⟨dq, osq⟩, hw''⟩ := hw'
  subst hw''
  have hb := below_regrown w dq osq
  clear c0 d0 e0 g0 eb cO
  generalize Go.Sort.grow (redrawn w dq) osq = W2 at *
  go_wp2
  go_ret
  exact ⟨rfl, hb⟩
set_option maxHeartbeats 1000000 in
set_option maxRecDepth 100000 in
theorem aheadK (wb : World) (bx bi : Nat) (h1 : wb.cell? ⟨bx, 0, none⟩ = some (lvH bi)) (h2 : wb.cell? ⟨bi, 0, none⟩ = some lvK) : AhC (wb, bx) (inO hdK) := by
  rintro w bx' ⟨rfl, hB⟩ ⟨⟨xa, xn, xc, xf⟩, xr⟩ ⟨⟨ya, yn, yc, yf⟩, yr⟩ ⟨hx, hx0, _⟩ ⟨hy, hy0, _⟩
  dsimp only at hx hx0 hy hy0 hB ⊢
  have hbx := (hB.cell (p := ⟨bx', 0, none⟩) (World.block_lt_of_cell? wb _ h1)).trans h1
  have HK : Hid (∀ W, Below w.heap.size w W → Iml W xa xf xn ∧ Iml W ya yf yn ∧ W.cell? ⟨bi, 0, none⟩ = some lvK) := fun W hW => by
    have hb2 : Below wb.heap.size wb W := hB.trans (hW.mono hB.size)
    exact ⟨hx.below hb2, hy.below hb2, (hb2.cell (p := ⟨bi, 0, none⟩) (World.block_lt_of_cell? wb _ h2)).trans h2⟩
  have hlt := World.block_lt_of_cell? w _ hbx
  have b2 : Below w.heap.size w ((w.alloc (.cells #[.slice xa xn xc, .int .i64 xr] 104)).alloc (.cells #[.slice ya yn yc, .int .i64 yr] 104)) := ((Below.refl _ _).alloc (Nat.le_refl _) _).alloc (by simp) _
  obtain ⟨k1, k2, k3⟩ := HK.out _ b2
  have kA := heads_any xa ya xn xc yn yc bi xf yf _ k1 hx0 k2 hy0 k3
  have kB := heads_any ya xa yn yc xn xc bi yf xf _ k2 hy0 k1 hx0 k3
  have HB2 : Hid _ := b2
  unfold inO hdK
  dsimp only
  generalize lsK (xf 0) (yf 0) = F1 at *
  generalize lsK (yf 0) (xf 0) = F2 at *
  clear hx hy hB h1 h2 k1 k2 k3 b2
  show Calls Try.prog 74 #[.agg #[.slice xa xn xc, .int .i64 xr], .agg #[.slice ya yn yc, .int .i64 yr], .pointer (some ⟨bx', 0, none⟩)] w _
  go_enter Try.func74, Try.ntmps74
  by_cases h : xr < yr
  · rw [if_pos h]
    go_wp2_with fail
    refine kB.mono ?_
    rintro r w2 ⟨rfl, hb⟩
    go_wp2
    go_ret
    exact ⟨rfl, HB2.out.trans (hb.mono HB2.out.size)⟩
  · rw [if_neg h]
    go_wp2_with fail
    refine kA.mono ?_
    rintro r w2 ⟨rfl, hb⟩
    go_wp2
    go_ret
    exact ⟨rfl, HB2.out.trans (hb.mono HB2.out.size)⟩
theorem eqIn_fn (d L : Nat) (lb : Array Value) (w : World) : (Op.equalIn (d + 1) 44 (.func (.func L) #[] lb) .nilFunc).run Try.prog w = .ok false w := by
  simp [Op.equalIn, run_underlying Try.underlying44]
theorem eqIn_nil (d : Nat) (w : World) : (Op.equalIn (d + 1) 44 .nilFunc .nilFunc).run Try.prog w = .ok true w := by
  simp [Op.equalIn, run_underlying Try.underlying44]
theorem eq_fn (L : Nat) (lb : Array Value) (w : World) : (binOp .eql 44 (.func (.func L) #[] lb) .nilFunc).run Try.prog w = .ok (.bool false) w := by
  simp only [binOp]
  simp [Op.equal, Op.maxDepth, eqIn_fn 9999 L lb w]
theorem eq_nil (w : World) : (binOp .eql 44 .nilFunc .nilFunc).run Try.prog w = .ok (.bool true) w := by
  simp only [binOp]
  simp [Op.equal, Op.maxDepth, eqIn_nil 9999 w]
set_option maxRecDepth 100000 in
theorem byHeads_some (w : World) : Calls Try.prog 51 #[lvK] w fun r w' => r = .returned (lvH w.heap.size) ∧ w' = w.alloc (.cells #[lvK] 43) := by
  have hE := Go.Proofs.Ytcgpjmpppajfdaa.Ws.eq_fn 22 #[]
  go_enter Try.func51, Try.ntmps51
  go_wp2
  go_ret
  exact ⟨rfl, rfl⟩
set_option maxRecDepth 100000 in
theorem order_some (bi : Nat) (w : World) : Calls Try.prog 50 #[lvH bi] w fun r w' => r = .returned (av w.heap.size) ∧ w' = w.alloc (.cells #[lvH bi] 44) := by
  have hE := eq_fn 75 #[.pointer (some ⟨bi, 0, none⟩)]
  go_enter Try.func50, Try.ntmps50
  go_wp2
  go_ret
  exact ⟨rfl, rfl⟩
end Go.Proofs.Ytcgpjmpppajfdaa.Ws.Li
