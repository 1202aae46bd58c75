/- A bundle of texts. -/
import Derived.Test.YtebjklppbkkinaaGreatDoorBp11
import Derived.BigQuiet
import Derived.Test.YtebjklppbkkinaaGreatDoorRows
import Derived.WalkKit
import Derived.WalkSpells
import Derived.WalkLawsBesides
import Derived.Deep.DeepFit
import Derived.Below
import Derived.OwnWalk
/- A region that draws its order and reckons with floats: each operation yields a value of some kind; one walk of the lexical order serves every order. -/
namespace Go.Proofs.YtebjklppbkkinaaGreatDoor.F
open Go

section
variable {P : Program} {ops : Array Oper} {md : Region.Mode} {C : World → Prop}

/-- What is asked of what an operation yielded: a value of the kind S, in a world of the class. -/
def looseUpon (C : World → Prop) (S : Value → Prop) : Result Next → Prop
  | .ok (.value u) w' => C w' ∧ S u
  | .ok .skip w' => C w' ∧ S undef
  | _ => False
def looseAt (P : Program) (o : Oper) (a : Act) (C : World → Prop) (w : World) (S : Value → Prop) : Prop := looseUpon C S ((execOp a.eval o).run P w)
def loose (P : Program) (o : Oper) (a : Act) (C : World → Prop) (next : Act → Prop) : Prop := ∃ S : Value → Prop, (∀ w, C w → looseAt P o a C w S) ∧ ∀ v, S v → next (a.put o.dst v)

/-- The lexical walk. -/
def wpLoose (P : Program) (ops : Array Oper) (C : World → Prop) (Q : Act → Prop) : List Oper → Act → Prop
  | [], a => Q a
  | o :: rest, a => if Region.wanted o (yielded ops a.tmps) then loose P o a C (wpLoose P ops C Q rest) else wpLoose P ops C Q rest (a.put o.dst undef)

/-- Operation number i comes up. -/
def lOp (P : Program) (ops : Array Oper) (C : World → Prop) (i : Nat) (K : Act → Prop) (a : Act) : Prop :=
  match ops[i]? with
  | none => K a
  | some o => if Region.wanted o (yielded ops a.tmps) then loose P o a C K else K (a.put o.dst undef)

theorem loose_mono {o : Oper} {a : Act} {K K' : Act → Prop} (h : ∀ a, K a → K' a) (hh : loose P o a C K) : loose P o a C K' :=
  let ⟨S, h1, h2⟩ := hh
  ⟨S, h1, fun v hv => h _ (h2 v hv)⟩

theorem lOp_mono {i : Nat} {a : Act} {K K' : Act → Prop} (h : ∀ a, K a → K' a) (hh : lOp P ops C i K a) : lOp P ops C i K' a := by
  unfold lOp at *
  split
  · exact h _ (by simpa [*] using hh)
  · rename_i o ho
    simp only [ho] at hh
    split
    · rename_i hw; simp only [hw, if_true] at hh; exact loose_mono h hh
    · rename_i hw; simp only [hw] at hh; exact h _ hh

/-- Whatever order is picked from here on. -/
def wpAnyL (P : Program) (md : Region.Mode) (ops : Array Oper) (C : World → Prop) (Q : Act → Prop) : Nat → Array Bool → Act → Prop
  | 0, listed, a => Region.ready md ops listed = [] ∧ Q a
  | fuel + 1, listed, a =>
    (Region.ready md ops listed = [] → Q a) ∧
    ∀ i ∈ Region.ready md ops listed, lOp P ops C i (wpAnyL P md ops C Q fuel (listed.setIfInBounds i true)) a

theorem wp_of_loose {o : Oper} {a : Act} {K : Act → Prop} {K' : Act → World → Prop} {Q' : Exit → Act → World → Prop} {w : World} (hw : C w) (h : ∀ a w', C w' → K a → K' a w') (hh : loose P o a C K) : o.wp P a w K' Q' := by
  obtain ⟨S, h1, h2⟩ := hh
  have h3 := h1 w hw
  unfold looseAt at h3
  unfold Oper.wp
  generalize (execOp a.eval o).run P w = r at *
  cases r with
  | ok n w' =>
    cases n <;> simp only [looseUpon] at h3 <;> simp only [Oper.upon]
    case value u => exact h _ _ h3.1 (h2 _ h3.2)
    case skip => exact h _ _ h3.1 (h2 _ h3.2)
  | halt x w' => simp only [looseUpon] at h3

theorem wpOp_of_lOp {i : Nat} {a : Act} {K : Act → Prop} {K' : Act → World → Prop} {Q' : Exit → Act → World → Prop} {w : World} (hC : C w) (h : ∀ a w', C w' → K a → K' a w') (hh : lOp P ops C i K a) : wpOp P ops Q' i K' a w := by
  unfold lOp at hh
  unfold wpOp
  split
  · rename_i ho; simp only [ho] at hh; exact h _ _ hC hh
  · rename_i o ho
    simp only [ho] at hh
    split
    · rename_i hw; simp only [hw, if_true] at hh; exact .inl (wp_of_loose hC h hh)
    · rename_i hw; simp only [hw] at hh; exact h _ _ hC hh

theorem wpAny_of_loose {Q : Act → Prop} {Q' : Exit → Act → World → Prop} (hQ : ∀ a w, C w → Q a → Q' .normal a w) : ∀ (fuel : Nat) (listed : Array Bool) (a : Act) (w : World), C w →
    wpAnyL P md ops C Q fuel listed a → wpAny P md ops Q' fuel listed a w
  | 0, _, _, _, hw, h => ⟨h.1, hQ _ _ hw h.2⟩
  | fuel + 1, _, _, _, hw, h => ⟨fun h0 => hQ _ _ hw (h.1 h0), fun i hi => wpOp_of_lOp hw (fun a' w' hw' => wpAny_of_loose hQ fuel _ a' w' hw') (h.2 i hi)⟩

/-- In every world of the class the operation yields a value of the kind S. -/
def YieldsL (P : Program) (ops : Array Oper) (C : World → Prop) (o : Oper) (S : Value → Prop) (a : Act) : Prop :=
  (Region.wanted o (yielded ops a.tmps) = true ∧ ∀ w, C w → looseAt P o a C w S) ∨
  (Region.wanted o (yielded ops a.tmps) = false ∧ S = fun v => v = undef)

theorem YieldsL.lOp {i : Nat} {o : Oper} {S : Value → Prop} {a : Act} (hi : ops[i]? = some o) (hy : YieldsL P ops C o S a) {K : Act → Prop} (h : ∀ v, S v → K (a.put o.dst v)) : lOp P ops C i K a := by
  unfold YtebjklppbkkinaaGreatDoor.F.lOp
  simp only [hi]
  rcases hy with ⟨hw, hv⟩ | ⟨hw, rfl⟩
  · simp only [hw, if_true]; exact ⟨S, hv, h⟩
  · simp only [hw, Bool.false_eq_true, if_false]; exact h _ rfl

theorem YieldsL.of_same {o : Oper} {S : Value → Prop} {a a' : Act} (hy : YieldsL P ops C o S a) (he : execOp a'.eval o = execOp a.eval o)
    (hw : Region.wanted o (yielded ops a'.tmps) = Region.wanted o (yielded ops a.tmps)) : YieldsL P ops C o S a' := by
  unfold YieldsL looseAt at *
  rw [he, hw]
  exact hy

theorem YieldsL.some {o : Oper} {S : Value → Prop} {a : Act} (hy : YieldsL P ops C o S a) (hC : ∃ w, C w) : ∃ v, S v := by
  rcases hy with ⟨_, hv⟩ | ⟨_, rfl⟩
  · obtain ⟨w, hw⟩ := hC
    have := hv w hw
    unfold looseAt at this
    generalize (execOp a.eval o).run P w = r at *
    cases r with
    | ok n w' =>
      cases n <;> simp only [looseUpon] at this
      case value u => exact ⟨_, this.2⟩
      case skip => exact ⟨_, this.2⟩
    | halt x w' => simp only [looseUpon] at this
  · exact ⟨_, rfl⟩

theorem yieldsL_of_lOp {i : Nat} {o : Oper} {a : Act} {K : Act → Prop} (hi : ops[i]? = some o) (h : lOp P ops C i K a) : ∃ S, YieldsL P ops C o S a ∧ ∀ v, S v → K (a.put o.dst v) := by
  unfold lOp at h
  simp only [hi] at h
  by_cases hw : Region.wanted o (yielded ops a.tmps) = true
  · simp only [hw, if_true] at h
    obtain ⟨S, h1, h2⟩ := h
    exact ⟨S, .inl ⟨hw, h1⟩, h2⟩
  · simp only [hw] at h
    exact ⟨fun v => v = undef, .inr ⟨by simpa using hw, rfl⟩, fun v hv => by subst hv; exact h⟩

theorem looseUpon_all {ι : Type} {T : ι → Prop} {S : ι → Value → Prop} {r : Result Next} (h0 : ∃ i, T i) (h : ∀ i, T i → looseUpon C (S i) r) : looseUpon C (fun u => ∀ i, T i → S i u) r := by
  obtain ⟨i, hi⟩ := h0
  have h1 := h i hi
  cases r with
  | ok n w' =>
    cases n <;> simp only [looseUpon] at h1 h ⊢
    case value u => exact ⟨h1.1, fun j hj => (h j hj).2⟩
    case skip => exact ⟨h1.1, fun j hj => (h j hj).2⟩
  | halt x w' => simp only [looseUpon] at h1

theorem lOp_put {j : Nat} {oi oj : Oper} {S : Value → Prop} (hC : ∃ w, C w) (hj : ops[j]? = some oj) (hap : oi.apart ops oj = true)
    (hsi : ∀ cs b, oi.op ≠ .select cs b) (hsj : ∀ cs b, oj.op ≠ .select cs b) {K : Act → Prop} {a : Act}
    (hy : YieldsL P ops C oi S a) (h : ∀ v, S v → lOp P ops C j K (a.put oi.dst v)) :
    lOp P ops C j (fun a' => YieldsL P ops C oi S a' ∧ ∀ v, S v → K (a'.put oi.dst v)) a := by
  obtain ⟨h1, h2, h3⟩ := Oper.apart_spec hap
  have keep : ∀ (a : Act), YieldsL P ops C oi S a → ∀ u, YieldsL P ops C oi S (a.put oj.dst u) := fun a hy u =>
    hy.of_same (execOp_put oi hsi a oj.dst u h3) (wanted_put oi a oj.dst u h3)
  unfold lOp at *
  simp only [hj] at *
  obtain ⟨v0, hv0⟩ := hy.some hC
  split
  · rename_i hw
    have h' : ∀ v, S v → loose P oj (a.put oi.dst v) C K := fun v hv => by
      have := h v hv
      rw [wanted_put oj a oi.dst v h1] at this
      simpa only [hw, if_true] using this
    obtain ⟨T, hT⟩ : ∃ T : Value → Value → Prop, ∀ v, S v → (∀ w, C w → looseAt P oj (a.put oi.dst v) C w (T v)) ∧ ∀ u, T v u → K ((a.put oi.dst v).put oj.dst u) :=
      Classical.axiomOfChoice (r := fun (v : Value) (T : Value → Prop) => S v → (∀ w, C w → looseAt P oj (a.put oi.dst v) C w T) ∧ ∀ u, T u → K ((a.put oi.dst v).put oj.dst u)) (fun v => (Classical.em (S v)).elim
        (fun hv => let ⟨T, hT⟩ := h' v hv; ⟨T, fun _ => hT⟩) (fun hv => ⟨fun _ => False, fun h => absurd h hv⟩))
    refine ⟨fun u => ∀ v, S v → T v u, fun w hw' => ?_, fun u hu => ⟨keep a hy u, fun v hv => by rw [← Act.put_comm a v u h2]; exact (hT v hv).2 u (hu v hv)⟩⟩
    unfold looseAt
    refine looseUpon_all ⟨v0, hv0⟩ fun v hv => ?_
    have := (hT v hv).1 w hw'
    unfold looseAt at this
    rwa [execOp_put oj hsj a oi.dst v h1] at this
  · rename_i hw
    refine ⟨keep a hy _, fun v hv => ?_⟩
    have := h v hv
    rw [wanted_put oj a oi.dst v h1] at this
    rw [← Act.put_comm a v undef h2]
    simpa only [hw, Bool.false_eq_true, if_false] using this

theorem wpAnyL_first {Q : Act → Prop} {i : Nat} {oi : Oper} {S : Value → Prop} (hC : ∃ w, C w) (hi : ops[i]? = some oi) (hsel : ∀ (j : Nat) (o : Oper) cs b, ops[j]? = some o → o.op ≠ .select cs b) :
    ∀ (fuel : Nat) (listed : Array Bool) (a : Act),
      (∀ j oj, ops[j]? = some oj → j ≠ i → listed.getD j true = false → (∀ e ∈ oj.after, Region.binds md e = true → e.on ≠ i) → oi.apart ops oj = true) →
      i ∈ Region.ready md ops listed → YieldsL P ops C oi S a →
      (∀ v, S v → wpAnyL P md ops C Q fuel (listed.setIfInBounds i true) (a.put oi.dst v)) → wpAnyL P md ops C Q (fuel + 1) listed a := by
  intro fuel
  induction fuel with
  | zero =>
    intro listed a _ hr hy H
    refine ⟨fun h => (by rw [h] at hr; cases hr), fun j hj => ?_⟩
    by_cases hji : j = i
    · subst hji; exact hy.lOp hi H
    · have := ready_mono hj hji
      obtain ⟨v, hv⟩ := hy.some hC
      rw [(H v hv).1] at this
      cases this
  | succ fuel ih =>
    intro listed a hfree hr hy H
    refine ⟨fun h => (by rw [h] at hr; cases hr), fun j hj => ?_⟩
    by_cases hji : j = i
    · subst hji; exact hy.lOp hi H
    · have h1 := fun v hv => (H v hv).2 j (ready_mono hj hji)
      obtain ⟨hjun, oj, hoj, hall⟩ := mem_ready.1 hj
      have hnot : ∀ e ∈ oj.after, Region.binds md e = true → e.on ≠ i := fun e he hb heq => by
        have h1 := hall e he hb
        have h0 := (mem_ready.1 hr).1
        rw [heq] at h1
        rcases Nat.lt_or_ge i listed.size with h' | h'
        · simp [h'] at h0 h1; rw [h0] at h1; cases h1
        · simp [Array.getElem?_eq_none h'] at h1
      have h2 := lOp_put hC hoj (hfree j oj hoj hji hjun hnot) (fun cs b => hsel i oi cs b hi) (fun cs b => hsel j oj cs b hoj) hy h1
      have hfree' : ∀ k ok, ops[k]? = some ok → k ≠ i → (listed.setIfInBounds j true).getD k true = false →
          (∀ e ∈ ok.after, Region.binds md e = true → e.on ≠ i) → oi.apart ops ok = true := fun k ok hk hki hun hno => by
        refine hfree k ok hk hki ?_ hno
        by_cases hjk : j = k
        · subst hjk; exact hjun
        · rw [getD_set_ne true hjk] at hun; exact hun
      refine lOp_mono (fun a' h3 => ih (listed.setIfInBounds j true) a' hfree' (ready_mono hr (Ne.symm hji)) h3.1 ?_) h2
      intro v hv
      rw [Array.setIfInBounds_comm _ _ hji]
      exact h3.2 v hv

theorem wpAnyL_lex {Q : Act → Prop} (hC : ∃ w, C w) (hs : Region.noSelect ops = true) : ∀ (l : List Oper) (k : Nat) (listed : Array Bool) (a : Act), (∀ j, l[j]? = ops[k + j]?) →
    Region.lexFrom md ops l.length k listed = true → wpLoose P ops C Q l a → wpAnyL P md ops C Q l.length listed a
  | [], _, _, _, _, hB, h => ⟨by simpa [Region.lexFrom] using hB, h⟩
  | o :: l, k, listed, a, hl, hB, h => by
    have h0 : ops[k]? = some o := by simpa using (hl 0).symm
    simp only [List.length_cons, Region.lexFrom, Bool.and_eq_true] at hB
    obtain ⟨⟨hr, hf⟩, hB'⟩ := hB
    have hst : lOp P ops C k (wpLoose P ops C Q l) a := by unfold lOp; simp only [h0]; exact h
    obtain ⟨S, hy, hK⟩ := yieldsL_of_lOp h0 hst
    exact wpAnyL_first hC h0 (Region.noSelect_spec hs) l.length listed a (Region.free_spec h0 hf) (by simpa using hr) hy
      (fun v hv => wpAnyL_lex hC hs l (k + 1) _ _ (fun j => by have := hl (j + 1); simpa [Nat.add_assoc, Nat.add_comm 1 j] using this) hB' (hK v hv))

theorem wp_region_loose {id : Nat} {Q : Exit → Act → World → Prop} {a : Act} {w : World} {l : List Oper} (hm : P.follows .mixedOrders = true) (hB : Region.lexB .any l.toArray = true)
    (h : wpLoose P l.toArray (fun w' => ∃ n, w' = w.drewN n) (fun a' => ∀ n, Q .normal a' (w.drewN n)) l a) : (Code.region id l.toArray true).wp P Q a w := by
  have hC : (fun w' => ∃ n, w' = w.drewN n) { w with drawn := w.drawn + 1 } := ⟨1, rfl⟩
  simp only [Region.lexB, Bool.and_eq_true] at hB
  refine wp_region_any hm (wpAny_of_loose (C := fun w' => ∃ n, w' = w.drewN n) (Q := fun a' => ∀ n, Q .normal a' (w.drewN n)) (fun _ w' hw' h => by obtain ⟨n, rfl⟩ := hw'; exact h n) _ _ _ _ hC ?_)
  have := wpAnyL_lex (C := fun w' => ∃ n, w' = w.drewN n) (md := .any) ⟨_, hC⟩ hB.1 l 0 (Array.replicate l.length false) a (by simp) (by simpa using hB.2) h
  simpa using this

/-- Operations that are no calls. -/
def plainOp : Op → Bool
  | .move _ | .assign _ | .pick .. | .load .. | .indexAddr .. | .binOp .. | .unOp .. | .convert .. | .fieldAddr .. | .field .. | .index .. | .extract .. => true
  | _ => false

theorem plain_run (o : Oper) (ρ : Operand → Value) (h : plainOp o.op = true) (w : World) : (∃ v w', (execOp ρ o).run P w = .ok (.value v) w') ∨ (∃ x w', (execOp ρ o).run P w = .halt x w') := by
  have key : ∀ s : Sem Value, (∃ v w', ((do pure (.value (← s)) : Sem Next)).run P w = .ok (.value v) w') ∨ (∃ x w', ((do pure (.value (← s)) : Sem Next)).run P w = .halt x w') := by
    intro s
    simp only [Sem.run_bind]
    cases s.run P w with
    | ok v w' => left; exact ⟨v, w', by simp [Result.andThen]⟩
    | halt x w' => right; exact ⟨x, w', by simp [Result.andThen]⟩
  unfold execOp
  cases ho : o.op <;> rw [ho] at h <;> simp only [plainOp] at h <;> first | (cases h; done) | skip
  all_goals simp only
  case move x => exact .inl ⟨_, w, rfl⟩
  case assign x => exact .inl ⟨_, w, rfl⟩
  case pick c x y =>
    simp only [Sem.run_bind]
    cases (asBool (ρ c)).run P w with
    | ok v w' => left; exact ⟨_, w', by simp [Result.andThen]; rfl⟩
    | halt x w' => right; exact ⟨x, w', by simp [Result.andThen]⟩
  all_goals exact key _

/-- A quiet operation that is no call. -/
theorem loose_of_quiet {o : Oper} {a : Act} {K : Act → Prop} (hp : plainOp o.op = true) (h : o.quiet P a C K) : loose P o a C K := by
  obtain ⟨v, h1, h2⟩ := h
  refine ⟨fun u => u = v, fun w hw => ?_, fun u hu => by subst hu; exact h2⟩
  have h3 := h1 w hw
  unfold Oper.quietAt at h3
  unfold looseAt
  rcases plain_run (P := P) o a.eval hp w with ⟨u, w', e⟩ | ⟨x, w', e⟩
  · rw [e] at h3 ⊢
    simp only [Oper.quietUpon] at h3
    simp only [looseUpon]
    exact ⟨by rw [h3.1]; exact hw, h3.2⟩
  · rw [e] at h3
    simp only [Oper.quietUpon] at h3

theorem wpLoose_nil {Q : Act → Prop} {a : Act} (h : Q a) : wpLoose P ops C Q [] a := h
theorem wpLoose_quiet {Q : Act → Prop} {a : Act} {o : Oper} {rest : List Oper} (hp : plainOp o.op = true) (hw : Region.wanted o (yielded ops a.tmps) = true)
    (h : ∀ K : Act → Prop, (∀ a, wpLoose P ops C Q rest a → K a) → o.quiet P a C K) : wpLoose P ops C Q (o :: rest) a := by
  unfold wpLoose
  rw [if_pos hw]
  exact loose_of_quiet hp (h _ fun _ h => h)
/-- An operation on floats. -/
theorem wpLoose_float {Q : Act → Prop} {a : Act} {o : Oper} {rest : List Oper} (op : BinOp) (hop : op = .add ∨ op = .sub ∨ op = .mul ∨ op = .quo) (t t' : TypeId) (x y : Operand) (ho : o.op = .binOp op t x y t') (hw : Region.wanted o (yielded ops a.tmps) = true)
    (zx zy : Nat) (hx : a.eval x = .float .f64 zx) (hy : a.eval y = .float .f64 zy) (hC : ∀ w k, C w → C (w.drewN k))
    (h : ∀ z, z < 18446744073709551616 → cl z = fb op (cl zx) (cl zy) → wpLoose P ops C Q rest (a.put o.dst (.float .f64 z))) : wpLoose P ops C Q (o :: rest) a := by
  unfold wpLoose
  rw [if_pos hw]
  refine ⟨fun v => ∃ z, v = .float .f64 z ∧ z < 18446744073709551616 ∧ cl z = fb op (cl zx) (cl zy), fun w' hw' => ?_, fun v ⟨z, hv, hl, hz⟩ => by subst hv; exact h z hl hz⟩
  unfold looseAt execOp
  simp only [ho, hx, hy]
  have hg : eqGuard op t x y (.float .f64 zx) (.float .f64 zy) = pure () := by
    rcases hop with rfl | rfl | rfl | rfl <;> rfl
  simp only [hg, Sem.run_bind, Sem.run_pure, Result.andThen_ok, run_fl op hop]
  exact ⟨hC _ _ hw', ⟨_, rfl, fz_lt op zx zy _, cl_fz op zx zy _⟩⟩
end
end Go.Proofs.YtebjklppbkkinaaGreatDoor.F
/- The small functions: bits, Abs, IsInf, NaN, alike; lists of floats in memory. -/
namespace Go.Proofs.YtebjklppbkkinaaGreatDoor.F
open Go.RowKit

/-- Floats in memory from a place on. -/
def FAt (w : World) (g o : Nat) (xs : List Nat) : Prop := ∀ j, j < xs.length → w.cell? ⟨g, o + j, none⟩ = some (.float .f64 (xs.getD j 0))
/-- A slice's floats. -/
def Fm (w : World) (a : Option Addr) (xs : List Nat) : Prop := xs = [] ∨ ∃ g o, a = some ⟨g, o, none⟩ ∧ g < w.heap.size ∧ FAt w g o xs
/-- They are words. -/
def Wd (xs : List Nat) : Prop := ∀ j, j < xs.length → xs.getD j 0 < 18446744073709551616
theorem Fm.below {w w' : World} {a : Option Addr} {xs : List Nat} (h : Fm w a xs) (hb : Below w.heap.size w w') : Fm w' a xs := by
  rcases h with h | ⟨g, o, rfl, hg, h⟩
  · exact .inl h
  · exact .inr ⟨g, o, rfl, Nat.lt_of_lt_of_le hg hb.size, fun j hj => (hb.cell (p := ⟨g, o + j, none⟩) hg).trans (h j hj)⟩
theorem Fm.drew {w : World} {a : Option Addr} {xs : List Nat} (h : Fm w a xs) (k : Nat) : Fm (w.drewN k) a xs := h

theorem callBits0 (args : Array Value) (w : World) : (callFunc 30 args).run Tryz.prog w = ((Extern.MathFloatBits.float64bits args).run Tryz.prog w).andThen fun v w' => .ok (.value v) w' :=
  run_callFunc_extern Tryz.func30 (by kernel_rfl) (by kernel_rfl) (by kernel_rfl) (by kernel_rfl) args w
theorem callBits (x : Nat) (w : World) : (callFunc 30 #[.float .f64 x]).run Tryz.prog w = .ok (.value (.int .u64 (x : Int))) w := by
  rw [callBits0]; rfl
theorem callFrom0 (args : Array Value) (w : World) : (callFunc 29 args).run Tryz.prog w = ((Extern.MathFloatBits.float64frombits args).run Tryz.prog w).andThen fun v w' => .ok (.value v) w' :=
  run_callFunc_extern Tryz.func29 (by kernel_rfl) (by kernel_rfl) (by kernel_rfl) (by kernel_rfl) args w
theorem callFrom (n : Int) (w : World) : (callFunc 29 #[.int .u64 n]).run Tryz.prog w = .ok (.value (.float .f64 n.toNat)) w := by
  rw [callFrom0]; rfl

theorem andNot63 (x : Nat) (hx : x < 18446744073709551616) : bits .andNot .u64 (x : Int) 9223372036854775808 = ((x % 9223372036854775808 : Nat) : Int) := by
  have h := u64_andNot_nat x 9223372036854775808 hx (by decide)
  rw [show ((9223372036854775808 : Nat) : Int) = 9223372036854775808 from rfl] at h
  rw [h]
  have e : x &&& (18446744073709551615 - 9223372036854775808) = x % 2 ^ 63 := Nat.and_two_pow_sub_one_eq_mod x 63
  rw [e]

set_option maxHeartbeats 400000 in
theorem abs_any (x : Nat) (hx : x < 18446744073709551616) (w : World) : Calls Tryz.prog 123 #[.float .f64 x] w fun r w' => r = .returned (.float .f64 (x % 9223372036854775808)) ∧ w' = w := by
  have h1 := callBits x
  have h2 := andNot63 x hx
  have h3 := callFrom
  go_enter Tryz.func123, Tryz.ntmps123
  go_wp2
  go_ret
  exact ⟨by simp, rfl⟩

set_option maxHeartbeats 400000 in
theorem isInf_any (x : Nat) (hx : x < 18446744073709551616) (w : World) : Calls Tryz.prog 119 #[.float .f64 x, .int .i64 0] w fun r w' => r = .returned (.bool (infB (cl x))) ∧ w' = w := by
  have k1 := abs_any x hx w
  have e : infB (cl x) = (FloatKind.f64.format.order (x % 9223372036854775808) 9218868437227405311 == some .gt) := by
    unfold infB
    rw [fo_cl, cl_ab, cl_lit 9218868437227405311 (by decide)]
  rw [e]
  go_enter Tryz.func119, Tryz.ntmps119
  go_wp2_with fail
  go_fit k1
  rintro r w' ⟨rfl, rfl⟩
  go_wp2
  go_ret
  exact ⟨rfl, rfl⟩

set_option maxHeartbeats 400000 in
theorem endless_any (x : Nat) (hx : x < 18446744073709551616) (w : World) : Calls Tryz.prog 133 #[.float .f64 x] w fun r w' => r = .returned (.bool (infB (cl x))) ∧ w' = w := by
  have k1 := isInf_any x hx w
  generalize infB (cl x) = B at *
  go_enter Tryz.func133, Tryz.ntmps133
  go_wp2_with fail
  go_fit k1
  rintro r w' ⟨rfl, rfl⟩
  go_wp2
  go_ret
  exact ⟨rfl, rfl⟩

set_option maxHeartbeats 400000 in
theorem nan_any (w : World) : Calls Tryz.prog 118 #[] w fun r w' => r = .returned (.float .f64 9221120237041090561) ∧ w' = w := by
  have h3 := callFrom
  go_enter Tryz.func118, Tryz.ntmps118
  go_wp2
  go_ret
  exact ⟨rfl, rfl⟩
set_option maxHeartbeats 400000 in
theorem rnan_any (w : World) : Calls Tryz.prog 134 #[] w fun r w' => r = .returned (.float .f64 9221120237041090561) ∧ w' = w := by
  have k1 := nan_any w
  go_enter Tryz.func134, Tryz.ntmps134
  go_wp2_with fail
  go_fit k1
  rintro r w' ⟨rfl, rfl⟩
  go_wp2
  go_ret
  exact ⟨rfl, rfl⟩
theorem cl_theNaN : cl 9221120237041090561 = none := cl_nan (by rw [nanB_eq]; decide)

/-- Above 0 and below 1? -/
def insB (c : Option Nat) : Bool := (fo c (some 0) == some .gt) && (fo c (some 4607182418800017408) == some .lt)
end Go.Proofs.YtebjklppbkkinaaGreatDoor.F
/- Sum on both sides. -/
namespace Go.Proofs.YtebjklppbkkinaaGreatDoor.F
open Go.RowKit

/-- A value hidden from the walk. -/
def Hid (p : Prop) : Prop := p
theorem Hid.out {p : Prop} (h : Hid p) : p := h

def geB (x y : Option Nat) : Bool := (fo x y == some .gt) || (fo x y == some .eq)
/-- One step of Sum, on classes. -/
def smStep (st : Option Nat × Option Nat) (v : Option Nat) : Option Nat × Option Nat :=
  (fb .add st.1 v, if infB (fb .add st.1 v) = true then some 0 else if geB (ab st.1) (ab v) = true then fb .add st.2 (fb .add (fb .sub st.1 (fb .add st.1 v)) v) else fb .add st.2 (fb .add (fb .sub v (fb .add st.1 v)) st.1))
def sumS (l : List (Option Nat)) : Option Nat × Option Nat := l.foldl smStep (some 0, some 0)
def sumF (l : List (Option Nat)) : Option Nat := fb .add (sumS l).1 (sumS l).2
/-- The classes of words. -/
def cs (xs : List Nat) : List (Option Nat) := xs.map cl
theorem cs_len (xs : List Nat) : (cs xs).length = xs.length := by simp [cs]
theorem sumS_next (xs : List Nat) (i : Nat) (hi : i < xs.length) : sumS ((cs xs).take (i + 1)) = smStep (sumS ((cs xs).take i)) (cl (xs.getD i 0)) := by
  unfold sumS
  rw [List.take_succ_eq_append_getElem (by rw [cs_len]; exact hi), List.foldl_append]
  simp [cs, List.getD, hi]
theorem sumS_all (xs : List Nat) : sumS ((cs xs).take xs.length) = sumS (cs xs) := by
  rw [List.take_of_length_le (by rw [cs_len]; exact Nat.le_refl _)]
theorem geB_cl (a b : Nat) : geB (ab (cl a)) (ab (cl b)) = (FloatKind.f64.format.order (a % 9223372036854775808) (b % 9223372036854775808) == some .gt || FloatKind.f64.format.order (a % 9223372036854775808) (b % 9223372036854775808) == some .eq) := by
  unfold geB
  rw [fo_cl, cl_ab, cl_ab]

/-- What a function that answers a float answers: a word of that class; the world has drawn. -/
def RF (w : World) (c : Option Nat) (r : Ending) (w' : World) : Prop := ∃ z k, r = .returned (.float .f64 z) ∧ w' = w.drewN k ∧ z < 18446744073709551616 ∧ cl z = c

end Go.Proofs.YtebjklppbkkinaaGreatDoor.F
