/- A call of it as a step of a region. -/
import Derived.Test.YtcgpjmpppajfdaaPc
namespace Go.Proofs.Ytcgpjmpppajfdaa
open Go.RowKit

theorem step_it {ops : Array Oper} {o : Oper} {a : Act} {w : World} {K : Act → World → Prop} {Q : Exit → Act → World → Prop} {E : Prop} (hgd : o.guard = none) (t u : Tmp) (ats : Array TypeId)
    (ho : o.op = .call { callee := .value (.func 9), args := #[.tmp t, .tmp u], argTypes := ats }) (p q : Int) (hx : a.eval (.tmp t) = .int .i64 p) (hy : a.eval (.tmp u) = .int .i64 q)
    (h : K (a.put o.dst (.agg #[.int .i64 p, .int .i64 q])) (w.alloc (.cells #[.int .i64 p, .int .i64 q] 24))) : if Region.wanted o (yielded ops a.tmps) = true then Oper.wp Try.prog o a w K Q else E := by
  have hw : Region.wanted o (yielded ops a.tmps) = true := by simp [Region.wanted, hgd]
  rw [if_pos hw]
  unfold Oper.wp
  simp [execOp, ho, resolve, invoke, Act.eval, go_sem]
  simp [Act.eval] at hx hy
  rw [hx, hy]
  refine (it_exact p q w).mono ?_
  rintro r w' ⟨rfl, rfl⟩
  exact h
end Go.Proofs.Ytcgpjmpppajfdaa
