/- Labels: Make of any pairs. -/
import Derived.Test.YtjmninjaoemhjaaDoorFa
import Derived.Test.YtjmninjaoemhjaaDoorEz
import Derived.Shelf.SlSortCmp.NoneTotal
namespace Go.Proofs.YtjmninjaoemhjaaDoor
open Go.RowKit Go.Lib Go.Shelf Go.Sort

set_option maxHeartbeats 1000000 in
theorem sort_c : SortC := by
  intro W S v ks hn ho
  rcases ho.2 with ⟨h0, h1⟩ | ⟨g, cap, cur, h0, hS, hg, h1, h2, h3, h4⟩
  · subst h0
    have e0 : ks = [] := List.length_eq_zero_iff.1 h1
    subst e0
    have h := AnyF.slices_SortFunc_none Tryd.sortLb none 0 (.func (.func 31) #[] #[]) W
    change Calls Tryd.prog 30 _ _ _ at h
    exact h.mono fun e w' ⟨he, hw⟩ => ⟨he, [], .refl _, .nil, by rw [hw]; exact ho, by rw [hw]; exact Kp.refl _ _⟩
  · subst h0
    exact sort_some W S g cap cur ks hn hS hg h1 h2 h3 h4
theorem make_any (a : Option Addr) (f : Nat → Lb) (n c : Nat) (w : World) (hL : Lm w a f n) (hn : n ≤ 1099511627776) (hs : ∀ j, j < n → (f j).1.size ≤ 140737488355328 ∧ (f j).2.size ≤ 140737488355328) (hT : Lib.Utf8Tabs 1 2 w) :
    Calls Tryd.prog 10 #[.slice a n c] w (MkR f n w) := make_gen sort_c a f n c w hL hn hs hT
end Go.Proofs.YtjmninjaoemhjaaDoor
