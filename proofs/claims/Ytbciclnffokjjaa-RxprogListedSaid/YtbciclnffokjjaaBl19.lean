/- A bundle of texts. -/
import Derived.Test.YtbciclnffokjjaaBl18
import Derived.Recover
import Derived.Defers
/- Trees: reason; Valid. -/
namespace Go.Proofs.Ytbciclnffokjjaa
open Go.RowKit

theorem reason_nil (w : World) : Calls Try.prog 44 #[.nilIface] w fun e w' => e = .returned (.int .i64 0) ∧ w' = w := by
  go_enter Try.func44, Try.ntmps44
  go_wp2
  go_ret
  exact ⟨rfl, rfl⟩
set_option maxRecDepth 100000 in
theorem reason_two (w : World) : Calls Try.prog 44 #[.iface 34 (.int .i64 2)] w fun e w' => e = .returned (.int .i64 2) ∧ w' = w := by
  have hta : ∀ w : World, Sem.run Try.prog (Instr.typeAssert (Value.iface 34 (Value.int IntKind.i64 2)) 20 34 true) w = .ok (.tuple #[.int .i64 2, .bool true]) w := fun _ => by kernel_rfl
  go_enter Try.func44, Try.ntmps44
  go_wp2
  go_ret
  exact ⟨rfl, rfl⟩

theorem valid_idle (w : World) : CallsD Try.prog 64 #[] .returning w fun e u' w' => e = .returned (.tuple #[]) ∧ u' = .returning ∧ w' = w := by
  refine callsD_of_wpS Try.func64 rfl fun c₀ cs hu => ?_
  apply wpS_region
  simp [wpOpsS, go_sem, recoverD, hu, Try.ntmps64]
  refine (reason_nil w).mono ?_
  rintro e w' ⟨rfl, rfl⟩
  cases c₀
  simp_all [bodyPostS, results, Try.results64]
theorem valid_panicking (older : List PanicEntry) (w : World) : CallsD Try.prog 64 #[] (.panicking ({ v := .iface 34 (.int .i64 2), recovered := false } :: older)) w fun e u' w' => e = .returned (.tuple #[]) ∧ u' = .panicking ({ v := .iface 34 (.int .i64 2), recovered := true } :: older) ∧ w' = w := by
  refine callsD_of_wpS Try.func64 rfl fun c₀ cs hu => ?_
  apply wpS_region
  simp [wpOpsS, go_sem, recoverD, hu, Try.ntmps64]
  refine (reason_two w).mono ?_
  rintro e w' ⟨rfl, rfl⟩
  cases c₀
  simp_all [bodyPostS, results, Try.results64]

set_option maxHeartbeats 1000000 in
set_option maxRecDepth 100000 in
theorem valid_any (t : Tr) (w : World) (ht : Tat w.heap.size w t) :
    Calls Try.prog 41 #[ndV (t [])] w fun e w' => e = .returned (.bool (okT t)) ∧ Below w.heap.size w w' := by
  have hb : Below w.heap.size w (w.alloc (ndX (t []))) := (Below.refl _ w).alloc (Nat.le_refl _) _
  have ht' : Tat (w.alloc (ndX (t []))).heap.size (w.alloc (ndX (t []))) t := (ht.below hb).mono hb.size
  have HB : Hid _ := hb
  cases hs : svd t with
  | none =>
    have k := surveyed_no t _ ht' hs
    have HO : Hid (okT t = false) := by unfold Hid okT; rw [hs]; rfl
    clear ht ht' hs hb
    generalize t [] = d at *
    go_enter_defers Try.func41, Try.ntmps41
    go_wp2_with fail
    go_fit k
    rintro e w1 ⟨hp, b1⟩
    have hp' : e = _ := hp
    subst hp'
    have B1 : Hid _ := b1
    clear b1 hp
    go_wp2
    refine leaves_cons (f := 64) (args := #[]) (by simp) (by simp [go_sem]) ?_
    refine (valid_panicking [] _).mono ?_
    rintro e u' w'' ⟨rfl, rfl, rfl⟩
    simp [Leaves, settle, results, Try.results41, go_sem]
    exact ⟨HO.out, HB.out.trans (B1.out.mono HB.out.size)⟩
  | some s1 =>
    have k := surveyed_yes t _ s1 ht' hs
    have HO : Hid (okT t = true) := by unfold Hid okT; rw [hs]; rfl
    clear ht ht' hs hb
    generalize t [] = d at *
    go_enter_defers Try.func41, Try.ntmps41
    go_wp2_with fail
    go_fit k
    rintro e w1 ⟨⟨a, c, rfl, _⟩, b1⟩
    have B1 : Hid _ := b1
    clear b1
    go_wp2
    refine leaves_cons (f := 64) (args := #[]) (by simp) (by simp [go_sem]) ?_
    refine (valid_idle _).mono ?_
    rintro e u' w'' ⟨rfl, rfl, rfl⟩
    simp [Leaves, settle, results, Try.results41, go_sem]
    exact ⟨HO.out, HB.out.trans (B1.out.mono HB.out.size)⟩
end Go.Proofs.Ytbciclnffokjjaa
