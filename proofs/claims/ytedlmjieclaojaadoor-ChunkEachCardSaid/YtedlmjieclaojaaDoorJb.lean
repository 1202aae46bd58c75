/- ChunkEach: one pass of the law over the iterator. -/
import Derived.Test.YtedlmjieclaojaaDoorJa
import Derived.Test.YtedlmjieclaojaaDoorDi
import Derived.Maps.AppendAt
namespace Go.Proofs.YtedlmjieclaojaaDoor
open Go.RowKit Go.Lib Go.Shelf

attribute [local go_sem] Oper.semAt_some

/-- What holds between two rounds of a pass: the list that is made, in its box; and what lay there. -/
def Ip (Wr : World) (cond : List Smp → Prop) (pre : List Smp) (W : World) : Prop :=
  (∃ v, Boxed W Wr.heap.size 22 v ∧ W.ownsRow Wr.heap.size 38 3 v pre.length (smc pre) ∧ cond pre) ∧ Below Wr.heap.size Wr W
/-- What holds where a pass is left. -/
def Ix (Wr : World) (cond brk : List Smp → Prop) (c : Code) (pre : List Smp) (W : World) : Prop :=
  (c = .exit 4 ∧ ∃ p x, pre = p ++ [x] ∧ brk p ∧ (∃ v, Boxed W Wr.heap.size 22 v ∧ W.ownsRow Wr.heap.size 38 3 v p.length (smc p) ∧ cond p)) ∧ Below Wr.heap.size Wr W
theorem cell_three_new (w : World) (x : Smp) : ∀ j u, ([.int .i64 x.t, .float .f64 x.v, .bool x.s] : List Value)[j]? = some u → (w.alloc (smX x)).cell? ((⟨w.heap.size, 0, none⟩ : Addr).add j) = some u := by
  intro j u hj
  have h0 : (w.alloc (smX x)).cell? ⟨w.heap.size, 0, none⟩ = some (.int .i64 x.t) := by unfold World.cell?; rw [heap_alloc_new]; rfl
  have h1 : (w.alloc (smX x)).cell? ⟨w.heap.size, 1, none⟩ = some (.float .f64 x.v) := by unfold World.cell?; rw [heap_alloc_new]; rfl
  have h2 : (w.alloc (smX x)).cell? ⟨w.heap.size, 2, none⟩ = some (.bool x.s) := by unfold World.cell?; rw [heap_alloc_new]; rfl
  match j, hj with
  | 0, hj => simp at hj; subst hj; simp [Addr.add, h0]
  | 1, hj => simp at hj; subst hj; simp [Addr.add, h1]
  | 2, hj => simp at hj; subst hj; simp [Addr.add, h2]
  | j + 3, hj => simp at hj
/-- A pass: wanted are the round's two codes, what comes behind the whole pass, and what comes behind one that is left. -/
theorem pass_rule {assign body : Code} {Q : Exit → Act → World → Prop} {tm : Array Value} {df : List Deferred} {Wr : World} (Bs : Nat) (av : Option Addr) (L : List Smp) (N cv : Nat) (hNL : N = L.length) (hN : N ≤ 5000000000000)
    (hg : ({ tmps := tm, defers := df } : Act).eval (.tmp 44) = .func (.func 40) #[] #[.pointer (some ⟨Bs, 0, none⟩)])
    (hcS : Wr.cell? ⟨Bs, 0, none⟩ = some (.slice av N cv)) (hBs : Bs < Wr.heap.size) (hsS : Sm Wr av L) (cond brk : List Smp → Prop) (h0 : cond [])
    (hassign : ∀ (l : Nat) (x : Smp) (W : World) (K : Act → World → Prop), K { tmps := (tm.setIfInBounds 45 (smV x)).setIfInBounds 12 (.pointer (some ⟨W.heap.size, 0, none⟩)), defers := [] } (W.alloc (smX x)) →
      assign.wpIn (Fence.wide.inRound l) 1 Tryd.prog (Exit.then K (fun _ _ _ => False)) { tmps := tm.setIfInBounds 45 (smV x), defers := [] } W)
    (hbody : ∀ (l : Nat) (pre : List Smp) (x : Smp) (G : Nat) (W : World), Ip Wr cond pre W → pre.length < N → (W.cell? ⟨G, 0, none⟩ = some (.int .i64 x.t) ∧ W.cell? ⟨G, 1, none⟩ = some (.float .f64 x.v) ∧ W.cell? ⟨G, 2, none⟩ = some (.bool x.s)) →
      body.wpIn (Fence.wide.inRound l) 1 Tryd.prog (ownPostG (Wr.heap.size + 1) (AK Wr.heap.size) (Ip Wr cond) (Ix Wr cond brk) (pre ++ [x]) W) { tmps := (tm.setIfInBounds 45 (smV x)).setIfInBounds 12 (.pointer (some ⟨G, 0, none⟩)), defers := [] } W)
    (hdone : ∀ (D : Nat) (W : World), Ip Wr cond L W → Wr.heap.size ≤ D → W.heap[D]? = some (.deferred (some [])) → Q .normal { tmps := tm, defers := { target := .collected D, args := #[] } :: df } W)
    (hstop : ∀ (D : Nat) (p : List Smp) (x : Smp) (W : World), (p ++ [x]) <+: L → brk p → Ip Wr cond p W → Wr.heap.size ≤ D → W.heap[D]? = some (.deferred (some [])) → Q (.exit 4) { tmps := tm, defers := { target := .collected D, args := #[] } :: df } W) :
    (Code.rangeFunc (.tmp 44) #[45] assign body).wp Tryd.prog Q { tmps := tm, defers := df } (Wr.alloc (.cells #[.slice none 0 0] 22)) := by
  refine (wpIn_wide (n := 3)).1 ?_
  have hB0 : Below Wr.heap.size Wr (Wr.alloc (.cells #[.slice none 0 0] 22)) := (Below.refl _ Wr).alloc (Nat.le_refl _) _
  have bO := Boxed.new Wr 22 (.slice none 0 0)
  have hz : Wr.heap.size ≤ (Wr.alloc (.cells #[.slice none 0 0] 22)).heap.size := by simp
  refine wpIn_rangeFunc_ownH rfl (by omega) (gf := 40) (lb := #[.pointer (some ⟨Bs, 0, none⟩)]) hg trivial (enters_of Tryd.func40 (by kernel_rfl) rfl)
    (vals_stops 2 (by omega) Bs Wr.heap.size av L N cv hNL (by omega) _ ((hB0.cell (p := ⟨Bs, 0, none⟩) hBs).trans hcS) hBs ((Sb.of hsS (Nat.le_refl _)).below hB0) hz) AK_t (AK_b hz) (Below.refl _ _) (fun _ => rfl)
    (Ip Wr cond) (Ix Wr cond brk)
    (OwnFrom.and (Own.from (holdsRow_own Wr.heap.size Wr.heap.size 22 38 3 (fun (pre : List Smp) => pre.length) (fun pre => smc pre) (fun pre _ => cond pre)) _) (ownFrom_below (Nat.le_refl _) hz))
    (fun c => OwnFrom.and (Own.from (fun s A B row hs hg hr => by
      obtain ⟨hc, p, x, e, h1, hv⟩ := hs
      exact ⟨hc, p, x, e, h1, holdsRow_own Wr.heap.size Wr.heap.size 22 38 3 (fun (pre : List Smp) => pre.length) (fun pre => smc pre) (fun pre _ => cond pre) p A B row hv hg hr⟩) _) (ownFrom_below (Nat.le_refl _) hz))
    ⟨⟨_, bO, World.ownsRow_nil _ _ _ _, h0⟩, hB0⟩
    (fun x a' W => ∃ G, a' = { tmps := (tm.setIfInBounds 45 (smV x)).setIfInBounds 12 (.pointer (some ⟨G, 0, none⟩)), defers := [] } ∧ W.cell? ⟨G, 0, none⟩ = some (.int .i64 x.t) ∧ W.cell? ⟨G, 1, none⟩ = some (.float .f64 x.v) ∧ W.cell? ⟨G, 2, none⟩ = some (.bool x.s))
    (fun x a' _ W W' row hs hg hr => by
      obtain ⟨G, e, c0, c1, c2⟩ := hs
      exact ⟨G, e, cell_kept c0 hg (fun r e => (hr r e).2), cell_kept c1 hg (fun r e => (hr r e).2), cell_kept c2 hg (fun r e => (hr r e).2)⟩)
    ?assign ?body ?done ?stop
  case assign =>
    intro l pre x W K hI hK
    obtain ⟨⟨v, hv, hrow, hc⟩, hB⟩ := hI
    have hn := cell_three_new W x
    have hK' := hK { tmps := (tm.setIfInBounds 45 (smV x)).setIfInBounds 12 (.pointer (some ⟨W.heap.size, 0, none⟩)), defers := [] } (W.alloc (smX x)) ((KeepsOthers.alloc W _).from _) ⟨(Below.refl _ W).alloc hB.size _, KeepsWalks.alloc W _⟩ ⟨⟨v, hv.alloc _, hrow.alloc _, hc⟩, hB.alloc hB.size _⟩ ⟨_, rfl, hn 0 _ rfl, hn 1 _ rfl, hn 2 _ rfl⟩
    have e : Array.foldl (fun (t : Array Value) (x : Tmp × Value) => match x with | (p, v) => t.setIfInBounds p v) tm (#[45].zip (encS x)) = tm.setIfInBounds 45 (smV x) := by simp [encS]
    have h := hassign l x W K hK'
    rw [← e] at h
    exact h
  case body =>
    rintro l pre x a' W hl hlr hI ⟨G, rfl, hcs⟩ hlt
    have := hbody l pre x G W hI hlt hcs
    rw [World.size_alloc]
    exact this
  case done =>
    rintro D ys W hD rfl hI hK
    exact hdone D W hI (Nat.le_trans hz hD) hK
  case stop =>
    rintro D c pre W hD hpre ⟨⟨rfl, p, x, rfl, hb, hv⟩, hB⟩ hK
    refine wpIn_wide.2 ?_
    have := hstop D p x W hpre hb ⟨hv, hB⟩ (Nat.le_trans hz hD) hK
    go_wp2
    exact this
/-- A block's ways out that meet behind it. -/
def Gx (R : Act → World → Prop) : Exit → Act → World → Prop
  | .normal, a, w => R a w
  | .exit 4, a, w => R a w
  | _, _, _ => False
theorem gather4 {P : Program} {code : Code} {Q : Exit → Act → World → Prop} {A : Act} {w : World} (R : Act → Act → World → Prop) (h2 : ∀ a w', R A a w' → Q .normal a w') (h1 : Code.wp P code (Gx (R A)) A w) : Code.wp P code (Exit.inBlock 4 Q) A w := by
  refine Code.wp_mono ?_ h1
  intro e a w' h
  cases e with
  | normal => exact h2 a w' h
  | exit id =>
    by_cases hid : id = 4
    · subst hid
      exact h2 a w' h
    · exact (show False by unfold Gx at h; split at h <;> simp_all).elim
  | _ => exact (show False from h).elim
end Go.Proofs.YtedlmjieclaojaaDoor
