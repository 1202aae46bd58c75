/- A bundle of texts. -/
import Derived.Test.YtajaadagejhllaaGreatDoorBs07
import Derived.Test.YtajaadagejhllaaGreatDoorBs08
import Derived.Recover
import Derived.Defers
/- Trees: node, surveyed. -/
namespace Go.Proofs.YtajaadagejhllaaGreatDoor
open Go.RowKit

theorem node_any (S B : Nat) : ∀ m : Nat, NodeOk S B m := by
  intro m
  induction m with
  | zero =>
    intro t op s v w hv ht hk hm hn hS h0 h1
    refine (node_no S B v t op s w hv ht hk hS (.inl (by omega))).mono fun e w' h => ?_
    exact Np.no h.1 h.2
  | succ m ih =>
    intro t op s v w hv ht hk hm hn hS h0 h1
    by_cases hc : 8194 < s.k + 1 ∨ 250 < op ∨ ndB (t []) = false
    · have e : vd (m + 1) t op s = none := by
        show (if _ then _ else _) = _
        rw [if_pos hc]
      rw [e]
      exact (node_no S B v t op s w hv ht hk hS hc).mono fun e w' h => Np.no h.1 h.2
    · have hnd : ndB (t []) = true := by
        cases h : ndB (t []) with
        | true => rfl
        | false => exact absurd (.inr (.inr h)) hc
      have a1 : s.k + 1 ≤ 8194 := by omega
      have a2 : op ≤ 250 := by omega
      by_cases k10 : (t []).kind = 10
      · exact node_10 S B m v t op s w ih hv ht a1 hm hn hS h0 a2 hnd k10
      by_cases k11 : (t []).kind = 11
      · exact node_11 S B m v t op s w ih hv ht a1 hm hn hS h0 a2 hnd k11
      by_cases k7 : (t []).kind = 7
      · cases hg : grp (t []) { s with k := s.k + 1 } with
        | none => exact node_7no S B m v t op s w ih hv ht a1 hm hn hS h0 a2 hnd k7 hg
        | some s1 => exact node_7 S B m v t op s w ih hv ht a1 hm hn hS h0 a2 hnd s1 k7 hg
      · exact node_else S B m v t op s w ih hv ht a1 hm hn hS h0 a2 hnd k7 k10 k11

def s0 : St := ⟨0, 0, fun _ => ⟨#[]⟩, false⟩
/-- The survey of a whole tree. -/
def svd (t : Tr) : Option St := vd 8195 t 0 s0
/-- Is a tree valid? -/
def okT (t : Tr) : Bool := (svd t).isSome
abbrev svV (k : Int) (v : Value) (l : Bool) : Value := .agg #[.int .i64 k, v, .bool l]
theorem sv_new (w : World) : Sv w.heap.size (w.alloc (.cells #[.int .i64 0, .slice none 0 0, .bool false] 55)) w.heap.size (.slice none 0 0) s0 := by
  have e : (w.alloc (.cells #[.int .i64 0, .slice none 0 0, .bool false] 55)).heap[w.heap.size]? = some (.cells #[.int .i64 0, .slice none 0 0, .bool false] 55) := heap_alloc_new w _
  refine ⟨?_, ?_, ?_, ?_, ⟨rfl, .inl ⟨rfl, rfl⟩⟩, by simp [Value.ownBlock], Nat.le_refl _⟩
  · unfold World.cell?; rw [e]; rfl
  · unfold World.cell?; rw [e]; rfl
  · unfold World.cell?; rw [e]; rfl
  · intro o
    unfold World.frozen?
    rw [e]
    simp
end Go.Proofs.YtajaadagejhllaaGreatDoor
/- Trees: surveyed. -/
namespace Go.Proofs.YtajaadagejhllaaGreatDoor
open Go.RowKit

abbrev sX : Obj := .cells #[.int .i64 0, .slice none 0 0, .bool false] 55

set_option maxHeartbeats 2000000 in
set_option maxRecDepth 100000 in
theorem surveyed_no (t : Tr) (w : World) (ht : Tat w.heap.size w t) (h : svd t = none) :
    Calls Tryz.prog 33 #[ndV (t [])] w fun e w' => pan e ∧ Below w.heap.size w w' := by
  have b1 : Below w.heap.size w ((w.alloc (ndX (t []))).alloc sX) := two_below _ _
  obtain ⟨V, hV⟩ : ∃ V, V = (w.alloc (ndX (t []))).alloc sX := ⟨_, rfl⟩
  rw [← hV] at b1
  have hs := sv_new V
  have b2 : Below V.heap.size V (V.alloc sX) := (Below.refl _ V).alloc (Nat.le_refl _) _
  have ht2 := ((ht.below b1).mono b1.size).below b2
  have kN := node_any V.heap.size V.heap.size 8195 t 0 s0 _ _ hs ht2 (by decide) (by decide) (by decide) b2.size (by decide) (by decide)
  have e : vd 8195 t 0 s0 = none := h
  rw [e] at kN
  have hz : V.heap.size = w.heap.size + 1 + 1 := by rw [hV]; simp
  have hl := fun w' => hs.low (w' := w') b2.size
  have HL : Hid (∀ w', Kp (Mv V.heap.size (.slice none 0 0)) (V.alloc sX) w' → Below w.heap.size w w') := fun w' k => b1.trans ((b2.trans (hl w' k)).mono b1.size)
  rw [hz] at kN HL
  clear hs ht2 e hl b2 ht hz
  subst hV
  generalize t [] = d at *
  go_enter Tryz.func33, Tryz.ntmps33
  go_wp2_with fail
  go_fit kN
  rintro e w1 ⟨hno, _, hk⟩
  have hp : e = _ := hno rfl
  have HK : Hid _ := HL.out _ hk
  clear hno hk
  subst hp
  go_wp2
  exact ⟨rfl, rfl, HK.out⟩

set_option maxHeartbeats 2000000 in
set_option maxRecDepth 100000 in
theorem surveyed_yes (t : Tr) (w : World) (s1 : St) (ht : Tat w.heap.size w t) (h : svd t = some s1) :
    Calls Tryz.prog 33 #[ndV (t [])] w fun e w' => (∃ a c, e = .returned (svV s1.k (.slice a s1.n c) s1.l) ∧ Sml w' a s1.f s1.n) ∧ Below w.heap.size w w' := by
  have b1 : Below w.heap.size w ((w.alloc (ndX (t []))).alloc sX) := two_below _ _
  obtain ⟨V, hV⟩ : ∃ V, V = (w.alloc (ndX (t []))).alloc sX := ⟨_, rfl⟩
  have hT2 : V.heap[w.heap.size + 1]? = some sX := by rw [hV]; have := heap_alloc_new (w.alloc (ndX (t []))) sX; simpa using this
  have hz : V.heap.size = w.heap.size + 1 + 1 := by rw [hV]; simp
  rw [← hV] at b1
  have hs := sv_new V
  have b2 : Below V.heap.size V (V.alloc sX) := (Below.refl _ V).alloc (Nat.le_refl _) _
  have ht2 := ((ht.below b1).mono b1.size).below b2
  have kN := node_any V.heap.size V.heap.size 8195 t 0 s0 _ _ hs ht2 (by decide) (by decide) (by decide) b2.size (by decide) (by decide)
  have e : vd 8195 t 0 s0 = some s1 := h
  rw [e] at kN
  have hl := fun w' => hs.low (w' := w') b2.size
  have HL : Hid (∀ w', Kp (Mv V.heap.size (.slice none 0 0)) (V.alloc sX) w' → Below V.heap.size V w') := fun w' k => b2.trans (hl w' k)
  have HB1 : Hid (Below w.heap.size w V) := b1
  have HZ : Hid (V.heap.size = w.heap.size + 1 + 1) := hz
  rw [hz] at kN HL
  have HT2 : Hid (V.heap[w.heap.size + 1]? = some sX) := hT2
  have HV : Hid (V = (w.alloc (ndX (t []))).alloc sX) := hV
  clear hs ht2 e hl b2 ht b1 hz hT2
  subst hV
  generalize t [] = d at *
  go_enter Tryz.func33, Tryz.ntmps33
  go_wp2_with fail
  go_fit kN
  rintro e w1 ⟨_, hyes, hk⟩
  obtain ⟨rfl, v', sv, _⟩ := hyes s1 rfl
  have bV := HL.out _ hk
  have hb1 := (bV.block (w.heap.size + 1) (by omega)).trans HT2.out
  obtain ⟨a, c, rfl, hm⟩ := sv.form
  have c0 := sv.c0
  have c1 := sv.c1
  have c2 := sv.c2
  have q : ∀ i u, #[Value.int .i64 0, .slice none 0 0, .bool false][i]? = some u → w1.cell? ⟨w.heap.size + 1, i, none⟩ = some u := fun i u h => by
    unfold World.cell?
    rw [hb1]
    exact h
  have q0 := q 0 _ rfl
  have q1 := q 1 _ rfl
  have q2 := q 2 _ rfl
  have z : ∀ i, w1.frozen? ⟨w.heap.size + 1, i, none⟩ = false := fun i => by
    unfold World.frozen?
    rw [hb1]
    simp
  have z0 := z 0
  have z1 := z 1
  have z2 := z 2
  have HB : Hid (∀ w', Kp (fun k => k = w.heap.size + 1) w1 w' → Below w.heap.size w w' ∧ Sml w' a s1.f s1.n) := fun w' k => by
    refine ⟨(HB1.out.trans (bV.mono (by omega))).trans (k.below (by have := bV.size; have := HB1.out.size; omega) (fun i hi => by omega)), ?_⟩
    rcases hm with h | ⟨g, o, rfl, hg, hc⟩
    · exact .inl h
    · refine .inr ⟨g, o, rfl, Nat.lt_of_lt_of_le hg k.size, fun j hj => k.cell (hc j hj) (fun e => ?_)⟩
      have := (sv.base g (.inr rfl)).1
      have e' : g = w.heap.size + 1 := e
      omega
  clear hb1 q z hm bV hk hyes sv
  go_wp2
  refine bodyPost_ret (v := svV (s1.k : Int) (.slice a s1.n c) s1.l) (by simp [results, Tryz.results33, go_sem, q0, q1, q2]) rfl ?_
  have kk : ∀ x y u, Kp (fun k => k = w.heap.size + 1) w1 (((w1.setCell ⟨w.heap.size + 1, 0, none⟩ x).setCell ⟨w.heap.size + 1, 1, none⟩ y).setCell ⟨w.heap.size + 1, 2, none⟩ u) := fun x y u => (((Kp.refl (fun k => k = w.heap.size + 1) w1).setCell (p := ⟨w.heap.size + 1, 0, none⟩) rfl _).setCell (p := ⟨w.heap.size + 1, 1, none⟩) rfl _).setCell (p := ⟨w.heap.size + 1, 2, none⟩) rfl _
  exact ⟨⟨a, c, rfl, (HB.out _ (kk _ _ _)).2⟩, (HB.out _ (kk _ _ _)).1⟩
end Go.Proofs.YtajaadagejhllaaGreatDoor
/- Trees: reason; Valid. -/
namespace Go.Proofs.YtajaadagejhllaaGreatDoor
open Go.RowKit

theorem reason_nil (w : World) : Calls Tryz.prog 30 #[.nilIface] w fun e w' => e = .returned (.int .i64 0) ∧ w' = w := by
  go_enter Tryz.func30, Tryz.ntmps30
  go_wp2
  go_ret
  exact ⟨rfl, rfl⟩
set_option maxRecDepth 100000 in
theorem reason_two (w : World) : Calls Tryz.prog 30 #[.iface 26 (.int .i64 2)] w fun e w' => e = .returned (.int .i64 2) ∧ w' = w := by
  have hta : ∀ w : World, Sem.run Tryz.prog (Instr.typeAssert (Value.iface 26 (Value.int IntKind.i64 2)) 20 26 true) w = .ok (.tuple #[.int .i64 2, .bool true]) w := fun _ => by kernel_rfl
  go_enter Tryz.func30, Tryz.ntmps30
  go_wp2
  go_ret
  exact ⟨rfl, rfl⟩

theorem valid_idle (w : World) : CallsD Tryz.prog 32 #[] .returning w fun e u' w' => e = .returned (.tuple #[]) ∧ u' = .returning ∧ w' = w := by
  refine callsD_of_wpS Tryz.func32 rfl fun c₀ cs hu => ?_
  apply wpS_region
  simp [wpOpsS, go_sem, recoverD, hu, Tryz.ntmps32]
  refine (reason_nil w).mono ?_
  rintro e w' ⟨rfl, rfl⟩
  cases c₀
  simp_all [bodyPostS, results, Tryz.results32]
theorem valid_panicking (older : List PanicEntry) (w : World) : CallsD Tryz.prog 32 #[] (.panicking ({ v := .iface 26 (.int .i64 2), recovered := false } :: older)) w fun e u' w' => e = .returned (.tuple #[]) ∧ u' = .panicking ({ v := .iface 26 (.int .i64 2), recovered := true } :: older) ∧ w' = w := by
  refine callsD_of_wpS Tryz.func32 rfl fun c₀ cs hu => ?_
  apply wpS_region
  simp [wpOpsS, go_sem, recoverD, hu, Tryz.ntmps32]
  refine (reason_two w).mono ?_
  rintro e w' ⟨rfl, rfl⟩
  cases c₀
  simp_all [bodyPostS, results, Tryz.results32]

set_option maxHeartbeats 1000000 in
set_option maxRecDepth 100000 in
theorem valid_any (t : Tr) (w : World) (ht : Tat w.heap.size w t) :
    Calls Tryz.prog 11 #[ndV (t [])] w fun e w' => e = .returned (.bool (okT t)) ∧ Below w.heap.size w w' := by
  have hb : Below w.heap.size w (w.alloc (ndX (t []))) := (Below.refl _ w).alloc (Nat.le_refl _) _
  have ht' : Tat (w.alloc (ndX (t []))).heap.size (w.alloc (ndX (t []))) t := (ht.below hb).mono hb.size
  have HB : Hid _ := hb
  cases hs : svd t with
  | none =>
    have k := surveyed_no t _ ht' hs
    have HO : Hid (okT t = false) := by unfold Hid okT; rw [hs]; rfl
    clear ht ht' hs hb
    generalize t [] = d at *
    go_enter_defers Tryz.func11, Tryz.ntmps11
    go_wp2_with fail
    go_fit k
    rintro e w1 ⟨hp, b1⟩
    have hp' : e = _ := hp
    subst hp'
    have B1 : Hid _ := b1
    clear b1 hp
    go_wp2
    refine leaves_cons (f := 32) (args := #[]) (by simp) (by simp [go_sem]) ?_
    refine (valid_panicking [] _).mono ?_
    rintro e u' w'' ⟨rfl, rfl, rfl⟩
    simp [Leaves, settle, results, Tryz.results11, go_sem]
    exact ⟨HO.out, HB.out.trans (B1.out.mono HB.out.size)⟩
  | some s1 =>
    have k := surveyed_yes t _ s1 ht' hs
    have HO : Hid (okT t = true) := by unfold Hid okT; rw [hs]; rfl
    clear ht ht' hs hb
    generalize t [] = d at *
    go_enter_defers Tryz.func11, Tryz.ntmps11
    go_wp2_with fail
    go_fit k
    rintro e w1 ⟨⟨a, c, rfl, _⟩, b1⟩
    have B1 : Hid _ := b1
    clear b1
    go_wp2
    refine leaves_cons (f := 32) (args := #[]) (by simp) (by simp [go_sem]) ?_
    refine (valid_idle _).mono ?_
    rintro e u' w'' ⟨rfl, rfl, rfl⟩
    simp [Leaves, settle, results, Tryz.results11, go_sem]
    exact ⟨HO.out, HB.out.trans (B1.out.mono HB.out.size)⟩
end Go.Proofs.YtajaadagejhllaaGreatDoor
