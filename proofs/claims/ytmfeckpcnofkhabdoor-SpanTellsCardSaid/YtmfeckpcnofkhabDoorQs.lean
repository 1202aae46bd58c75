/- A region that only reads, operation by operation. -/
import Derived.Deep.QuietTactic
import Derived.Below
namespace Go.Proofs.YtmfeckpcnofkhabDoor
open Go.RowKit
section
variable {P : Program} {ops : Array Oper} {C : World → Prop}
theorem q_take {Q : Act → Prop} {a : Act} {o : Oper} {rest : List Oper} (hw : Region.wanted o (yielded ops a.tmps) = true)
    (h : ∀ K : Act → Prop, Hid (∀ a, wpQuiet P ops C Q rest a → K a) → o.quiet P a C K) : wpQuiet P ops C Q (o :: rest) a := by
  rw [wpQuiet, if_pos hw]; exact h _ (fun _ h => h)
theorem q_skip {Q : Act → Prop} {a : Act} {o : Oper} {rest : List Oper} (hw : Region.wanted o (yielded ops a.tmps) = false)
    (h : ∀ K : Act → Prop, Hid (∀ a, wpQuiet P ops C Q rest a → K a) → K (a.put o.dst undef)) : wpQuiet P ops C Q (o :: rest) a := by
  rw [wpQuiet, if_neg (by simp [hw])]; exact h _ (fun _ h => h)
end
end Go.Proofs.YtmfeckpcnofkhabDoor
