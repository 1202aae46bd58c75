
/- A range over Drain of strings: the law. -/
import Derived.Test.YtcgpjmpppajfdaaDa
import Derived.Test.YtcgpjmpppajfdaaWa
namespace Go.Proofs.Ytcgpjmpppajfdaa.Ws
open Go.RowKit Go.Shelf

attribute [local go_sem] Oper.semAt_some

set_option maxRecDepth 100000 in
set_option maxHeartbeats 4000000 in
/-- The iterator that Drain answers: it pops until nothing comes, or until the round says no more. -/
theorem drain1 (n : Nat) (l Bp : Nat) (μ : World → Nat) (J S Jx : World → Prop) (Jm : ByteArray → Nat → World → Prop) (W : World)
    (hP : ∀ W, J W → ∃ pt, W.cell? ⟨Bp, 0, none⟩ = some (.pointer pt) ∧ ((Calls Try.prog 67 #[.pointer pt] W fun r w' => r = .returned (.tuple #[iv ⟨#[]⟩, .bool false]) ∧ S w') ∨ (∃ x, Calls Try.prog 67 #[.pointer pt] W fun r w' => r = .returned (.tuple #[iv x, .bool true]) ∧ Jm x (μ W) w')))
    (_ : ∀ W o, S W → S (W.alloc o)) (_ : ∀ x k W o, Jm x k W → Jm x k (W.alloc o))
    (hY : ∀ x k W, Jm x k W → YieldAt Fence.wide (n - 1) Try.prog l #[iv x] W fun e W' => (e = .returned (.bool true) ∧ J W' ∧ μ W' < k) ∨ (e = .returned (.bool false) ∧ Jx W'))
    (hn : 1 ≤ n) (h0 : J W) :
    CallsIn Fence.wide n Try.prog 66 #[.func (.yield l) #[] #[], .pointer (some ⟨Bp, 0, none⟩)] W fun e W' => (∃ v, e = .returned v) ∧ (S W' ∨ Jx W') := by
  refine callsIn_of_wp Try.func66 rfl trivial ?_ rfl
  simp only [Try.ntmps66, List.size_toArray, List.length_cons, List.length_nil, Nat.reduceAdd, Nat.reduceSub, Array.replicate_succ, Array.replicate_zero, List.push_toArray, List.append_toArray, List.nil_append, List.cons_append]
  gi_wp2
  gi_loopw [] (fun w' => J w') (fun w' => μ w')
  case atStart => exact h0
  case round =>
    obtain ⟨pt, hc, hcase⟩ := hP wr hrel
    have HJ : Hid (J wr) := hrel
    clear hrel
    rcases hcase with kP | ⟨x, kP⟩
    · gi_wp2_with (refine ⟨trivial, ?_⟩; gi_at_call 67; refine (callsIn_wide.2 kP).mono ?_; rintro e w2 ⟨rfl, hs⟩; have HS : Hid (S w2) := hs; clear hs)
      refine ⟨fun _ h => (by cases h), ?_⟩
      gi_wp2
      refine bodyPost_ret (results_none rfl _ _ _) rfl ?_
      exact ⟨⟨_, rfl⟩, .inl HS.out⟩
    · gi_wp2_with (refine ⟨trivial, ?_⟩; gi_at_call 67; refine (callsIn_wide.2 kP).mono ?_; rintro e w2 ⟨rfl, hs⟩; obtain ⟨fn, tmps, assign, body, hy, hR⟩ := hY x (μ wr) _ hs; clear hs)
      refine hR.mono ?_
      rintro e W3 (⟨rfl, hJ3, hm⟩ | ⟨rfl, hJx3⟩)
      · have HM : Hid (μ W3 < μ wr) := hm
        clear hm
        gi_wp2
        go_roundw
        case rel => exact hJ3
        case measure => exact HM.out
      · gi_wp2
        refine bodyPost_ret (results_none rfl _ _ _) rfl ?_
        exact ⟨⟨_, rfl⟩, .inr hJx3⟩

theorem wpIn_rangeDrain {n : Nat} {g : Operand} {ps : Array Tmp} {assign body : Code} {Q : Exit → Act → World → Prop} {a : Act} {w : World} (h1 : 1 ≤ n) (h2 : 1 ≤ n - 1) {Bp : Nat} (hg : a.eval g = .func (.func 66) #[] #[.pointer (some ⟨Bp, 0, none⟩)]) (hps : ps.size = 1)
    (μ : World → Nat) (hμ : ∀ (W : World) (l : Nat) (o o' : Obj), W.heap[l]? = some o → o.isCells = false → o'.isCells = false → μ (W.putObj l o') = μ W)
    (I S : World → Prop) (Im : ByteArray → Nat → World → Prop) (Ix : Code → World → Prop)
    (hI : OwnFrom w.heap.size (fun (_ : Unit) => I)) (hS : OwnFrom w.heap.size (fun (_ : Unit) => S)) (hIm : ∀ x k, OwnFrom w.heap.size (fun (_ : Unit) => Im x k)) (hIx : ∀ c, OwnFrom w.heap.size (fun (_ : Unit) => Ix c)) (h0 : I w)
    (hP : ∀ W, I W → ∃ pt, W.cell? ⟨Bp, 0, none⟩ = some (.pointer pt) ∧ ((Calls Try.prog 67 #[.pointer pt] W fun r w' => r = .returned (.tuple #[iv ⟨#[]⟩, .bool false]) ∧ S w' ∧ KeepsFrom w.heap.size W w') ∨ (∃ x, Calls Try.prog 67 #[.pointer pt] W fun r w' => r = .returned (.tuple #[iv x, .bool true]) ∧ Im x (μ W) w' ∧ KeepsFrom w.heap.size W w')))
    (Ax : ByteArray → Act → World → Prop) (hAx : ∀ x a', OwnFrom w.heap.size (fun (_ : Unit) W => Ax x a' W))
    (hassign : ∀ (l : Nat) (x : ByteArray) (k : Nat) (W : World) (K : Act → World → Prop), Im x k W → (∀ a' W', KeepsFrom w.heap.size W W' → Im x k W' → Ax x a' W' → K a' W') →
      assign.wpIn (Fence.wide.inRound l) (n - 1 - 1) Try.prog (Exit.then K (fun _ _ _ => False)) { tmps := (ps.zip #[iv x]).foldl (fun t (p, v) => t.setIfInBounds p v) a.tmps, defers := [] } W)
    (hbody : ∀ (l : Nat) (x : ByteArray) (k : Nat) (a' : Act) (W : World), Im x k W → Ax x a' W → body.wpIn (Fence.wide.inRound l) (n - 1 - 1) Try.prog (dPost w.heap.size μ I Ix k W) a' W)
    (hdone : ∀ (D : Nat) (W : World), w.heap.size ≤ D → S W → W.heap[D]? = some (.deferred (some [])) → Q .normal { a with defers := { target := .collected D, args := #[] } :: a.defers } W)
    (hstop : ∀ (D : Nat) (c : Code) (W : World), w.heap.size ≤ D → Ix c W → W.heap[D]? = some (.deferred (some [])) → c.wpIn Fence.wide n Try.prog Q { a with defers := { target := .collected D, args := #[] } :: a.defers } W) :
    (Code.rangeFunc g ps assign body).wpIn Fence.wide n Try.prog Q a w := by
  refine wpIn_rangeFunc ?_
  intro fn hfn
  rw [show Fence.wide.round = none from rfl]
  obtain ⟨rec, hrec⟩ : ∃ rec : LoopState → Option Code → Loop, rec = fun st pe => { state := st, pending := pe, fn, tmps := a.tmps, params := ps, assign, body, defers := w.heap.size } := ⟨_, rfl⟩
  obtain ⟨W1, hW1⟩ : ∃ W1, (w.alloc (.deferred (some []))).alloc (.loop (rec .ready none)) = W1 := ⟨_, rfl⟩
  have hL1 : W1.heap[w.heap.size + 1]? = some (.loop (rec .ready none)) := by
    rw [← hW1]; have := World.alloc_heap_new (w.alloc (.deferred (some []))) (.loop (rec .ready none)); rwa [World.size_alloc] at this
  have hK1 : W1.heap[w.heap.size]? = some (.deferred (some [])) := by
    rw [← hW1]; exact (Below.heap_alloc _ _ _ (by simp)).trans (World.alloc_heap_new w _)
  have hI1 : I W1 := by rw [← hW1]; exact hI.alloc (s := ()) _ (hI.alloc (s := ()) _ h0)
  refine ⟨w.heap.size + 1, [{ target := .collected w.heap.size, args := #[] }], W1, { target := .fn (.func 66) #[.pointer (some ⟨Bp, 0, none⟩)], args := #[.func (.yield (w.heap.size + 1)) #[] #[]] }, W1, 66,
    #[.func (.yield (w.heap.size + 1)) #[] #[]] ++ #[.pointer (some ⟨Bp, 0, none⟩)], W1, ?_, ?_, ?_, ?_, fun _ => h1, ?_⟩
  · rw [← hW1, hrec]; exact run_enterLoop_outer _ _ _ _ _
  · simp only [resolve, hg]
    simp [go_sem]
  · intro f' hf'; simp [Target.leads] at hf'; subst hf'; trivial
  · simp [invoke, go_sem]
  · have Bk : ∀ {W W' : World}, KeepsFrom w.heap.size W W' → ∀ (st : LoopState) (pe : Option Code), W.heap[w.heap.size + 1]? = some (.loop (rec st pe)) ∧ W.heap[w.heap.size]? = some (.deferred (some [])) → W'.heap[w.heap.size + 1]? = some (.loop (rec st pe)) ∧ W'.heap[w.heap.size]? = some (.deferred (some [])) :=
      fun hk st pe h => ⟨hk.same _ _ (by omega) h.1 rfl, hk.same _ _ (Nat.le_refl _) h.2 rfl⟩
    refine (drain1 (n - 1) (w.heap.size + 1) Bp μ
      (fun W => I W ∧ W.heap[w.heap.size + 1]? = some (.loop (rec .ready none)) ∧ W.heap[w.heap.size]? = some (.deferred (some [])))
      (fun W => S W ∧ W.heap[w.heap.size + 1]? = some (.loop (rec .ready none)) ∧ W.heap[w.heap.size]? = some (.deferred (some [])))
      (fun W => ∃ c, Ix c W ∧ W.heap[w.heap.size + 1]? = some (.loop (rec .done (some c))) ∧ W.heap[w.heap.size]? = some (.deferred (some [])))
      (fun x k W => Im x k W ∧ W.heap[w.heap.size + 1]? = some (.loop (rec .ready none)) ∧ W.heap[w.heap.size]? = some (.deferred (some [])))
      W1 ?_ ?_ ?_ ?_ h2 ⟨hI1, hL1, hK1⟩).mono ?_
    · rintro W ⟨hi, hl⟩
      obtain ⟨pt, hc, hcase⟩ := hP W hi
      refine ⟨pt, hc, ?_⟩
      rcases hcase with k | ⟨x, k⟩
      · exact .inl (k.mono fun e w' ⟨he, hs, hk⟩ => ⟨he, hs, Bk hk _ _ hl⟩)
      · exact .inr ⟨x, k.mono fun e w' ⟨he, hs, hk⟩ => ⟨he, hs, Bk hk _ _ hl⟩⟩
    · rintro W o ⟨hs, hl⟩
      exact ⟨hS.alloc (s := ()) _ hs, Bk ((KeepsOthers.alloc W o).from _) _ _ hl⟩
    · rintro x k W o ⟨hs, hl⟩
      exact ⟨(hIm x k).alloc (s := ()) _ hs, Bk ((KeepsOthers.alloc W o).from _) _ _ hl⟩
    · -- one round
      rintro x k W ⟨hi, hl, hk⟩
      have hlt : w.heap.size + 1 < W.heap.size := (Array.getElem?_eq_some_iff.1 hl).1
      have hy := run_yield (P := Try.prog) (args := #[iv x]) hl (by rw [hrec]; exact hps.symm)
      rw [hrec] at hy
      refine ⟨fn, _, assign, body, hy, roundIn_of_wpIn hfn (hassign _ x k W _ hi ?_)⟩
      clear hy
      intro a' Wa hkfa hia hax
      replace hl := hkfa.same _ _ (by omega) hl rfl
      replace hk := hkfa.same _ _ (Nat.le_refl _) hk rfl
      replace hlt : w.heap.size + 1 < Wa.heap.size := (Array.getElem?_eq_some_iff.1 hl).1
      replace hi := hia
      clear hia
      revert hkfa
      generalize W = Wb
      intro hkfa
      obtain ⟨W, rfl⟩ : ∃ W, W = Wa := ⟨_, rfl⟩
      refine ⟨_, run_beginRound hl (by rw [hrec]), ?_⟩
      have hl2 : (W.putObj (w.heap.size + 1) (.loop { rec .ready none with state := .busy })).heap[w.heap.size + 1]? = some (.loop { rec .ready none with state := .busy }) := World.putObj_heap_same hlt
      have hk2 : (W.putObj (w.heap.size + 1) (.loop { rec .ready none with state := .busy })).heap[w.heap.size]? = some (.deferred (some [])) := (World.putObj_heap_other (by omega)).trans hk
      refine wpIn_mono (hbody _ x k a' _ ((hIm x k).putObj (s := ()) _ hi (by omega) hl rfl) ((hAx x a').putObj (s := ()) _ hax (by omega) hl rfl)) ?_
      have fin : ∀ (jump : Option Code) (W3 : World), KeepsFrom w.heap.size (W.putObj (w.heap.size + 1) (.loop { rec .ready none with state := .busy })) W3 →
          (Instr.endRound (w.heap.size + 1) jump).run Try.prog W3 = .ok (.bool jump.isNone) (W3.putObj (w.heap.size + 1) (.loop (rec (if jump.isNone then .ready else .done) jump))) ∧
          W3.heap[w.heap.size + 1]? = some (.loop { rec .ready none with state := .busy }) ∧
          (W3.putObj (w.heap.size + 1) (.loop (rec (if jump.isNone then .ready else .done) jump))).heap[w.heap.size + 1]? = some (.loop (rec (if jump.isNone then .ready else .done) jump)) ∧
          (W3.putObj (w.heap.size + 1) (.loop (rec (if jump.isNone then .ready else .done) jump))).heap[w.heap.size]? = some (.deferred (some [])) := fun jump W3 hk3 => by
        have hl3 := hk3.same _ _ (by omega) hl2 rfl
        have := run_endRound (P := Try.prog) jump hl3
        rw [hrec] at this ⊢
        exact ⟨this, by rw [hrec] at hl3; exact hl3, World.putObj_heap_same (Array.getElem?_eq_some_iff.1 hl3).1, (World.putObj_heap_other (by omega)).trans (hk3.same _ _ (Nat.le_refl _) hk2 rfl)⟩
      rintro e a3 W3 hp
      cases e with
      | normal =>
        obtain ⟨hk3, hi3, hm3⟩ := hp
        obtain ⟨hr, hl3, hl4, hk4⟩ := fin none W3 hk3
        exact ⟨_, _, hr, .inl ⟨rfl, ⟨hI.putObj (s := ()) _ hi3 (by omega) hl3 rfl, hl4, hk4⟩, by rw [hμ _ _ _ _ hl3 rfl rfl]; exact hm3⟩⟩
      | ret =>
        obtain ⟨hk3, hi3⟩ := hp
        obtain ⟨hr, hl3, hl4, hk4⟩ := fin (some .ret) W3 hk3
        exact ⟨_, _, hr, .inr ⟨rfl, .ret, (hIx _).putObj (s := ()) _ hi3 (by omega) hl3 rfl, hl4, hk4⟩⟩
      | exit id =>
        obtain ⟨hk3, hi3⟩ := hp
        obtain ⟨hr, hl3, hl4, hk4⟩ := fin (some (.exit id)) W3 hk3
        exact ⟨_, _, hr, .inr ⟨rfl, .exit id, (hIx _).putObj (s := ()) _ hi3 (by omega) hl3 rfl, hl4, hk4⟩⟩
      | goto t =>
        obtain ⟨hk3, hi3⟩ := hp
        obtain ⟨hr, hl3, hl4, hk4⟩ := fin (some (.goto t)) W3 hk3
        exact ⟨_, _, hr, .inr ⟨rfl, .goto t, (hIx _).putObj (s := ()) _ hi3 (by omega) hl3 rfl, hl4, hk4⟩⟩
      | panic ch => exact hp.elim
      | outgrown => exact hp.elim
    · -- behind the iterator
      rintro e W2 ⟨⟨v, rfl⟩, (⟨hs, hl, hk⟩ | ⟨c, hi, hl, hk⟩)⟩
      · exact ⟨none, _, by have := run_endLoop (P := Try.prog) hl (by rw [hrec]; simp); rw [hrec] at this; exact this, hdone _ _ (Nat.le_refl _) (hS.putObj (s := ()) _ hs (by omega) hl rfl) ((World.putObj_heap_other (by omega)).trans hk)⟩
      · exact ⟨some c, _, by have := run_endLoop (P := Try.prog) hl (by rw [hrec]; simp); rw [hrec] at this; exact this, hstop _ c _ (Nat.le_refl _) ((hIx c).putObj (s := ()) _ hi (by omega) hl rfl) ((World.putObj_heap_other (by omega)).trans hk)⟩
end Go.Proofs.Ytcgpjmpppajfdaa.Ws
