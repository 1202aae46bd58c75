/- A bundle of texts. -/
import Derived.Test.YtmjenemjbpimcaaBk09
import Derived.Test.YtmjenemjbpimcaaBk12
/- Over: a window of four points; a function by its place. -/
namespace Go.Proofs.Ytmjenemjbpimcaa
open Go.RowKit

def fourS (x y z u : Nat) (j : Nat) : Smp := if j = 0 then ⟨15000, x, false⟩ else if j = 1 then ⟨30000, y, false⟩ else if j = 2 then ⟨45000, z, false⟩ else ⟨60000, u, false⟩
theorem res11 (cs : Array Value) (W : World) (g : Nat) (tmps : Array Value) (e2 : (loadVar 30 ⟨g, 0, none⟩).run Try.prog W = .ok (.agg cs) W) (h0 : tmps.getD 8 undef = .pointer (some ⟨g, 0, none⟩)) : (results Try.f11 tmps).run Try.prog W = .ok (.agg cs) W := by
  have hr : Try.f11.results = #[.cell 8 30] := rfl
  unfold results
  rw [hr]
  simp only [h0, Sem.run_bind, Sem.run_pure, List.mapM_toArray, List.mapM_cons, List.mapM_nil]
  have ea : (asAddr (.pointer (some ⟨g, 0, none⟩))).run Try.prog W = .ok ⟨g, 0, none⟩ W := rfl
  simp [ea, e2]
theorem heap_alloc_two (w : World) (X Y : Obj) : ((w.alloc X).alloc Y).heap[w.heap.size + 1]? = some Y := by
  have h := heap_alloc_new (w.alloc X) Y
  have f : (w.alloc X).heap.size = w.heap.size + 1 := by simp
  rwa [f] at h
theorem four_at {w : World} {B x y z u : Nat} (h : w.heap[B]? = some (.cells #[.int .i64 15000, .float .f64 x, .bool false, .int .i64 30000, .float .f64 y, .bool false, .int .i64 45000, .float .f64 z, .bool false, .int .i64 60000, .float .f64 u, .bool false] 37)) : SAt w B 0 (fourS x y z u) 4 := fun j hj => by
  rcases (show j = 0 ∨ j = 1 ∨ j = 2 ∨ j = 3 by omega) with rfl | rfl | rfl | rfl
  all_goals
    unfold World.cell?
    rw [h]
    exact ⟨rfl, rfl, rfl⟩
set_option maxHeartbeats 4000000 in
set_option maxRecDepth 100000 in
theorem four_any (x y z u : Nat) (w : World) : Calls Try.prog 11 #[.float .f64 x, .float .f64 y, .float .f64 z, .float .f64 u] w fun r w' => Below w.heap.size w w' ∧ ∃ g, r = .returned (Wn (some ⟨g, 0, none⟩) 4 4 0 60000 60000) ∧ g < w'.heap.size ∧ SAt w' g 0 (fourS x y z u) 4 := by
  have hb0 := Below.refl w.heap.size w
  have hsf := @run_store_float Try.prog
  go_enter Try.func11, Try.ntmps11
  go_wp2
  refine bodyPost_ret (v := Wn (some ⟨w.heap.size + 1, 0, none⟩) 4 4 0 60000 60000) (res11 _ _ w.heap.size _ (run_loadVar_row (P := Try.prog) _ w.heap.size 30 30 _ (0, 0) _ (((Go.MapKept.heap_alloc (w.alloc _) _).2 w.heap.size (by simp)).trans (heap_alloc_new w _)) Try.underlying30 rfl (by kernel_rfl)) rfl) rfl ⟨(hb0.alloc (Nat.le_refl _) _).alloc (by simp) _, w.heap.size + 1, rfl, by simp, four_at (heap_alloc_two _ _ _)⟩
theorem four_snd (x y z u : Nat) : Snd (fourS x y z u) 4 0 60000 60000 := by
  refine ⟨⟨by omega, by omega, by omega, by omega, by omega⟩, fun i hi => ?_, ?_⟩
  · rcases (show i = 0 ∨ i = 1 ∨ i = 2 ∨ i = 3 by omega) with rfl | rfl | rfl | rfl <;> exact ⟨rfl, by simp [pv, fourS]⟩
  · simp [pv, fourS]
theorem four_sw (x y z u : Nat) (hx : x < 18446744073709551616) (hy : y < 18446744073709551616) (hz : z < 18446744073709551616) (hu : u < 18446744073709551616) : SW (fourS x y z u) 4 := fun i hi => by
  rcases (show i = 0 ∨ i = 1 ∨ i = 2 ∨ i = 3 by omega) with rfl | rfl | rfl | rfl
  · exact ⟨by simp [fourS], by simp [fourS], hx⟩
  · exact ⟨by simp [fourS], by simp [fourS], hy⟩
  · exact ⟨by simp [fourS], by simp [fourS], hz⟩
  · exact ⟨by simp [fourS], by simp [fourS], hu⟩

theorem callFunc_enter {P : Program} {F : FuncId} {fn : Func} (hf : P.funcs[F]? = some fn) (hn : (fn.name == "runtime.NumGoroutine") = false) (hb : fn.body.isNone = false) (args : Array Value) (w : World) : (callFunc F args).run P w = .ok (.enter F args) w := by
  have hn2 : ¬ fn.name = "runtime.NumGoroutine" := by simpa using hn
  have hb2 : ¬ fn.body = none := by
    intro h
    rw [h] at hb
    cases hb
  simp [callFunc, hf, hn2, hb2]
theorem fn_enter (k : Nat) (hk : k < 23) : ∀ args w, (callFunc (fnAt k).2.2.2 args).run Try.prog w = .ok (.enter (fnAt k).2.2.2 args) w := by
  rcases (show k = 0 ∨ k = 1 ∨ k = 2 ∨ k = 3 ∨ k = 4 ∨ k = 5 ∨ k = 6 ∨ k = 7 ∨ k = 8 ∨ k = 9 ∨ k = 10 ∨ k = 11 ∨ k = 12 ∨ k = 13 ∨ k = 14 ∨ k = 15 ∨ k = 16 ∨ k = 17 ∨ k = 18 ∨ k = 19 ∨ k = 20 ∨ k = 21 ∨ k = 22 by omega) with rfl | rfl | rfl | rfl | rfl | rfl | rfl | rfl | rfl | rfl | rfl | rfl | rfl | rfl | rfl | rfl | rfl | rfl | rfl | rfl | rfl | rfl | rfl
  · exact callFunc_enter Try.func30 (by kernel_rfl) (by kernel_rfl)
  · exact callFunc_enter Try.func31 (by kernel_rfl) (by kernel_rfl)
  · exact callFunc_enter Try.func32 (by kernel_rfl) (by kernel_rfl)
  · exact callFunc_enter Try.func33 (by kernel_rfl) (by kernel_rfl)
  · exact callFunc_enter Try.func34 (by kernel_rfl) (by kernel_rfl)
  · exact callFunc_enter Try.func37 (by kernel_rfl) (by kernel_rfl)
  · exact callFunc_enter Try.func39 (by kernel_rfl) (by kernel_rfl)
  · exact callFunc_enter Try.func41 (by kernel_rfl) (by kernel_rfl)
  · exact callFunc_enter Try.func43 (by kernel_rfl) (by kernel_rfl)
  · exact callFunc_enter Try.func45 (by kernel_rfl) (by kernel_rfl)
  · exact callFunc_enter Try.func47 (by kernel_rfl) (by kernel_rfl)
  · exact callFunc_enter Try.func49 (by kernel_rfl) (by kernel_rfl)
  · exact callFunc_enter Try.func51 (by kernel_rfl) (by kernel_rfl)
  · exact callFunc_enter Try.func54 (by kernel_rfl) (by kernel_rfl)
  · exact callFunc_enter Try.func55 (by kernel_rfl) (by kernel_rfl)
  · exact callFunc_enter Try.func56 (by kernel_rfl) (by kernel_rfl)
  · exact callFunc_enter Try.func57 (by kernel_rfl) (by kernel_rfl)
  · exact callFunc_enter Try.func58 (by kernel_rfl) (by kernel_rfl)
  · exact callFunc_enter Try.func59 (by kernel_rfl) (by kernel_rfl)
  · exact callFunc_enter Try.func60 (by kernel_rfl) (by kernel_rfl)
  · exact callFunc_enter Try.func62 (by kernel_rfl) (by kernel_rfl)
  · exact callFunc_enter Try.func64 (by kernel_rfl) (by kernel_rfl)
  · exact callFunc_enter Try.func66 (by kernel_rfl) (by kernel_rfl)
theorem call_at (k : Nat) (hk : k < 23) (nm : ByteArray) (hnm : nm = (fnAt k).1) (a : Option Addr) (n c : Nat) (F T N : Int) (ss : Nat → Smp) (aa : Option Addr) (na ca : Nat) (R : Option Nat) (w : World) (hf : Sml w a ss n) (hl : n ≤ 9223372036854775807) (hna : na ≤ 9223372036854775807)
    (hB : na = (fnAt k).2.1 → (fnAt k).2.2.1 ≤ n → Snd ss n F T N → ∀ W, Below w.heap.size w W → Calls Try.prog (fnAt k).2.2.2 #[Wn a n c F T N, .slice aa na ca] W (RB W R)) :
    Calls Try.prog 10 #[.string nm, Wn a n c F T N, .slice aa na ca] w (RX w (na = (fnAt k).2.1 ∧ (fnAt k).2.2.1 ≤ n ∧ Snd ss n F T N) R) := by
  subst hnm
  have key : ∀ i, Fit (fnAt k).1 ss n F T N na i → i = k := fun i h => (names_inj k hk i h.1 h.2.1).symm
  refine (call_any (fnAt k).1 a n c F T N ss aa na ca (fun _ => R) w hf hl hna (fun i hi h => ?_) (fun i h => ?_)).mono fun r w' h => ?_
  · exact fn_enter i hi
  · obtain rfl := key i h
    exact hB h.2.2.1 h.2.2.2.1 h.2.2.2.2
  · obtain ⟨z, b, rfl, hb, hz, ⟨rfl, rfl, hn⟩ | ⟨rfl, i, hi, hv⟩⟩ := h
    · exact ⟨0, false, rfl, ⟨fun h => (by cases h), fun h => absurd ⟨hk, rfl, h.1, h.2.1, h.2.2⟩ (hn k)⟩, hb, hz, fun h => (by cases h), fun _ => rfl⟩
    · obtain rfl := key i hi
      exact ⟨z, true, rfl, ⟨fun _ => ⟨hi.2.2.1, hi.2.2.2.1, hi.2.2.2.2⟩, fun _ => rfl⟩, hb, hz, fun _ => hv, fun h => (by cases h)⟩
end Go.Proofs.Ytmjenemjbpimcaa
/- Over: how many steps; the functions that call. -/
namespace Go.Proofs.Ytmjenemjbpimcaa
open Go.RowKit

/-- How many steps. -/
def ctI (B : Option Nat → Option Nat → Bool) (V : Nat → Nat) : Nat → Nat
  | 0 => 0
  | i + 1 => ctI B V i + (if B (cl (V i)) (cl (V (i + 1))) = true then 1 else 0)
theorem ctI_le (B : Option Nat → Option Nat → Bool) (V : Nat → Nat) : ∀ i, ctI B V i ≤ i
  | 0 => Nat.le_refl _
  | i + 1 => by
    have := ctI_le B V i
    unfold ctI
    split <;> omega
set_option maxHeartbeats 4000000 in
set_option maxRecDepth 100000 in
theorem count_any (kf : Nat) (B : Option Nat → Option Nat → Bool) (g o n c : Nat) (ss : Nat → Smp) (w : World) (hat : SAt w g o ss n) (hn : 1 ≤ n) (hl : n ≤ 9223372036854775807)
    (hE : ∀ args w, (callFunc kf args).run Try.prog w = .ok (.enter kf args) w)
    (kF : ∀ a b w, Calls Try.prog kf #[.float .f64 a, .float .f64 b] w fun r w' => r = .returned (.bool (B (cl a) (cl b))) ∧ w' = w) :
    Calls Try.prog 52 #[.slice (some ⟨g, o, none⟩) n c, .func (.func kf) #[] #[]] w (RF w (some (nW (ctI B (fun j => (ss j).v) (n - 1))))) := by
  obtain ⟨m, rfl⟩ : ∃ m, n = m + 1 := ⟨n - 1, by omega⟩
  rw [Nat.add_sub_cancel]
  have HA : Hid (SAt w g o ss (m + 1)) := hat
  have hcv := cvm
  have HL : Hid (∀ i, ctI B (fun j => (ss j).v) i ≤ i) := ctI_le B _
  clear hat hn
  go_enter Try.func52, Try.ntmps52
  go_wp2
  go_loopw [5, 6] (fun cv iv w' => ∃ (i x k : Nat), iv = .int .i64 ((i + 1 : Nat) : Int) ∧ i + 1 ≤ m + 1 ∧ cv = .int .i64 (x : Int) ∧ Hid (x = ctI B (fun j => (ss j).v) i) ∧ w' = w.drewN k) (fun _ iv _ => m + 1 - (RowKit.intOf iv).toNat)
  case atStart => exact ⟨0, 0, 0, rfl, by omega, rfl, rfl, rfl⟩
  case round =>
    obtain ⟨i, x, k, rfl, hi, rfl, hst, rfl⟩ := hrel
    have hx9 : (x : Int) ≤ 9223372036854775806 := by have := hst.out; have := HL.out i; omega
    by_cases hlt : i < m
    · have hii : (i : Int) + 1 < (m : Int) + 1 := by omega
      have y0 := (HA.out i (by omega)).2.1
      have y1 := (HA.out (i + 1) (by omega)).2.1
      have HI : Hid (i + 1 + 1 ≤ m + 1) := (show _ ≤ _ by omega)
      have wi : IntKind.i64.wrap ((i : Int) + 1 - 1) = (i : Int) := by rw [IntKind.wrap_i64]; omega
      have wx : IntKind.i64.wrap ((x : Int) + 1) = (x : Int) + 1 := by rw [IntKind.wrap_i64]; omega
      have HG : Hid (ctI B (fun j => (ss j).v) (i + 1) = x + (if B (cl (ss i).v) (cl (ss (i + 1)).v) = true then 1 else 0)) := (show _ = _ by rw [hst.out]; rfl)
      obtain ⟨v0, hv0⟩ : ∃ v, v = (ss i).v := ⟨_, rfl⟩
      obtain ⟨v1, hv1⟩ : ∃ v, v = (ss (i + 1)).v := ⟨_, rfl⟩
      rw [← hv0] at y0 HG
      rw [← hv1] at y1 HG
      clear hv0 hv1
      have kR := kF v0 v1
      generalize B (cl v0) (cl v1) = Y at *
      go_wp2_with fail
      refine region_tail 12 (by kernel_rfl) (by kernel_rfl) ?_
      simp only [List.take_succ_cons, List.take_zero, List.drop_succ_cons, List.drop_zero]
      repeat (go_big_quiet_step (fail))
      refine wpQuiet_nil ?_
      go_wp2_with fail
      go_fit (kR _)
      rintro e w5 ⟨rfl, rfl⟩
      cases Y
      · have HZ : Hid (x = ctI B (fun j => (ss j).v) (i + 1)) := (show _ = _ by rw [HG.out, if_neg (by decide)]; rfl)
        go_wp2
        exact ⟨⟨i + 1, x, _, by go_num, HI.out, rfl, HZ, rfl⟩, by simp [RowKit.intOf]; omega⟩
      · have HZ : Hid (x + 1 = ctI B (fun j => (ss j).v) (i + 1)) := (show _ = _ by rw [HG.out, if_pos rfl])
        go_wp2
        exact ⟨⟨i + 1, x + 1, _, by go_num, HI.out, by go_num, HZ, rfl⟩, by simp [RowKit.intOf]; omega⟩
    · have hii : ¬ (i : Int) + 1 < (m : Int) + 1 := by omega
      obtain rfl : i = m := by omega
      have hc := hcv x
      have HZ : Hid (cl (nW x) = some (nW (ctI B (fun j => (ss j).v) i))) := (show _ = _ by rw [nW_num, hst.out])
      go_wp2
      go_ret
      exact ⟨_, _, rfl, rfl, nW_lt _, HZ.out⟩
def chB (a b : Option Nat) : Bool := !(fo b a == some .eq) && !(a.isNone && b.isNone)
theorem fo_none1 {a : Option Nat} : fo none a = none := rfl
set_option maxHeartbeats 4000000 in
set_option maxRecDepth 100000 in
theorem isChange_any (a b : Nat) (w : World) : Calls Try.prog 53 #[.float .f64 a, .float .f64 b] w fun r w' => r = .returned (.bool (chB (cl a) (cl b))) ∧ w' = w := by
  have d1 : (FloatKind.f64.format.order b a == some .eq) = (fo (cl b) (cl a) == some .eq) := by rw [fo_cl]
  have kA := isNaN_any a
  have kB := isNaN_any b
  rw [nan_cl] at kA kB
  have HE : Hid (chB (cl a) (cl b) = (!(fo (cl b) (cl a) == some .eq) && !((cl a).isNone && (cl b).isNone))) := rfl
  generalize chB (cl a) (cl b) = R at *
  cases e1 : (fo (cl b) (cl a) == some .eq)
  · rw [e1] at d1 HE
    have d2 : (FloatKind.f64.format.order b a != some .eq) = true := by rw [bne, d1]; rfl
    cases e2 : (cl a).isNone
    · rw [e2] at kA HE
      have HR : Hid (R = true) := HE.out
      clear HE e1 e2 d1
      go_enter Try.func53, Try.ntmps53
      go_wp2_with fail
      go_fit (kA _)
      rintro e w1 ⟨rfl, rfl⟩
      go_wp2
      go_ret
      exact ⟨by rw [HR.out]; rfl, rfl⟩
    · rw [e2] at kA HE
      cases e3 : (cl b).isNone
      · rw [e3] at kB HE
        have HR : Hid (R = true) := HE.out
        clear HE e1 e2 e3 d1
        go_enter Try.func53, Try.ntmps53
        go_wp2_with fail
        go_fit (kA _)
        rintro e w1 ⟨rfl, rfl⟩
        go_wp2_with fail
        go_fit (kB _)
        rintro e w1 ⟨rfl, rfl⟩
        go_wp2
        go_ret
        exact ⟨by rw [HR.out]; rfl, rfl⟩
      · rw [e3] at kB HE
        have HR : Hid (R = false) := HE.out
        clear HE e1 e2 e3 d1
        go_enter Try.func53, Try.ntmps53
        go_wp2_with fail
        go_fit (kA _)
        rintro e w1 ⟨rfl, rfl⟩
        go_wp2_with fail
        go_fit (kB _)
        rintro e w1 ⟨rfl, rfl⟩
        go_wp2
        go_ret
        exact ⟨by rw [HR.out]; rfl, rfl⟩
  · rw [e1] at d1 HE
    have d2 : (FloatKind.f64.format.order b a != some .eq) = false := by rw [bne, d1]; rfl
    have HR : Hid (R = false) := HE.out
    clear HE e1 d1
    go_enter Try.func53, Try.ntmps53
    go_wp2
    go_ret
    exact ⟨by rw [HR.out]; rfl, rfl⟩
set_option maxHeartbeats 4000000 in
set_option maxRecDepth 100000 in
theorem highest_fn (a : Option Addr) (n c : Nat) (F T N : Int) (ss : Nat → Smp) (av : Value) (w : World) (h : HypW a n ss w) (hn : 1 ≤ n) (hc : n ≤ c) : Calls Try.prog 43 #[Wn a n c F T N, av] w (RB w (outI true (fun j => (ss j).v) (n - 1))) := by
  have HB : Hid (Below w.heap.size w (w.alloc (wnX a n c F T N))) := (Below.refl _ w).alloc (Nat.le_refl _) _
  have k1 : Calls Try.prog 44 #[.slice a n c] (w.alloc (wnX a n c F T N)) (RB (w.alloc (wnX a n c F T N)) (outI true (fun j => (ss j).v) (n - 1))) := by
    rcases (h.below HB.out).1 with h0 | ⟨g, o, rfl, hg, hat⟩
    · omega
    · exact highest_any g o n c ss _ hat h.2.1 hg hn (by have := h.2.2; omega) hc
  generalize (outI true (fun j => (ss j).v) (n - 1)) = R at *
  clear h hn hc
  go_enter Try.func43, Try.ntmps43
  go_wp2_with fail
  go_fit k1
  rintro e w2 ⟨z, rfl, b2, hl, hz⟩
  have B2 : Hid (Below w.heap.size w w2) := HB.out.trans (b2.mono HB.out.size)
  have HZ : Hid (cl z = R) := hz
  clear b2 hz k1
  go_wp2
  go_ret
  exact ⟨z, rfl, B2.out, hl, HZ.out⟩
set_option maxHeartbeats 4000000 in
set_option maxRecDepth 100000 in
theorem lowest_fn (a : Option Addr) (n c : Nat) (F T N : Int) (ss : Nat → Smp) (av : Value) (w : World) (h : HypW a n ss w) (hn : 1 ≤ n) (hc : n ≤ c) : Calls Try.prog 45 #[Wn a n c F T N, av] w (RB w (outI false (fun j => (ss j).v) (n - 1))) := by
  have HB : Hid (Below w.heap.size w (w.alloc (wnX a n c F T N))) := (Below.refl _ w).alloc (Nat.le_refl _) _
  have k1 : Calls Try.prog 46 #[.slice a n c] (w.alloc (wnX a n c F T N)) (RB (w.alloc (wnX a n c F T N)) (outI false (fun j => (ss j).v) (n - 1))) := by
    rcases (h.below HB.out).1 with h0 | ⟨g, o, rfl, hg, hat⟩
    · omega
    · exact lowest_any g o n c ss _ hat h.2.1 hg hn (by have := h.2.2; omega) hc
  generalize (outI false (fun j => (ss j).v) (n - 1)) = R at *
  clear h hn hc
  go_enter Try.func45, Try.ntmps45
  go_wp2_with fail
  go_fit k1
  rintro e w2 ⟨z, rfl, b2, hl, hz⟩
  have B2 : Hid (Below w.heap.size w w2) := HB.out.trans (b2.mono HB.out.size)
  have HZ : Hid (cl z = R) := hz
  clear b2 hz k1
  go_wp2
  go_ret
  exact ⟨z, rfl, B2.out, hl, HZ.out⟩
set_option maxHeartbeats 4000000 in
set_option maxRecDepth 100000 in
theorem changes_fn (a : Option Addr) (n c : Nat) (F T N : Int) (ss : Nat → Smp) (av : Value) (w : World) (h : HypW a n ss w) (hn : 1 ≤ n) (_hc : n ≤ c) : Calls Try.prog 51 #[Wn a n c F T N, av] w (RB w (some (nW (ctI chB (fun j => (ss j).v) (n - 1))))) := by
  have HB : Hid (Below w.heap.size w (w.alloc (wnX a n c F T N))) := (Below.refl _ w).alloc (Nat.le_refl _) _
  have k1 : Calls Try.prog 52 #[.slice a n c, .func (.func 53) #[] #[]] (w.alloc (wnX a n c F T N)) (RB (w.alloc (wnX a n c F T N)) (some (nW (ctI chB (fun j => (ss j).v) (n - 1))))) := by
    rcases (h.below HB.out).1 with h0 | ⟨g, o, rfl, hg, hat⟩
    · omega
    · exact (count_any 53 chB g o n c ss _ hat hn (by have := h.2.2; omega) (callFunc_enter Try.func53 (by kernel_rfl) (by kernel_rfl)) isChange_any).mono (fun r w' x => x.rb)
  generalize (some (nW (ctI chB (fun j => (ss j).v) (n - 1)))) = R at *
  clear h hn
  go_enter Try.func51, Try.ntmps51
  go_wp2_with fail
  go_fit k1
  rintro e w2 ⟨z, rfl, b2, hl, hz⟩
  have B2 : Hid (Below w.heap.size w w2) := HB.out.trans (b2.mono HB.out.size)
  have HZ : Hid (cl z = R) := hz
  clear b2 hz k1
  go_wp2
  go_ret
  exact ⟨z, rfl, B2.out, hl, HZ.out⟩
set_option maxHeartbeats 4000000 in
set_option maxRecDepth 100000 in
theorem resets_fn (a : Option Addr) (n c : Nat) (F T N : Int) (ss : Nat → Smp) (av : Value) (w : World) (h : HypW a n ss w) (hn : 1 ≤ n) (_hc : n ≤ c) : Calls Try.prog 54 #[Wn a n c F T N, av] w (RB w (some (nW (ctI (fun x y => ltB y x) (fun j => (ss j).v) (n - 1))))) := by
  have HB : Hid (Below w.heap.size w (w.alloc (wnX a n c F T N))) := (Below.refl _ w).alloc (Nat.le_refl _) _
  have k1 : Calls Try.prog 52 #[.slice a n c, .func (.func 29) #[] #[]] (w.alloc (wnX a n c F T N)) (RB (w.alloc (wnX a n c F T N)) (some (nW (ctI (fun x y => ltB y x) (fun j => (ss j).v) (n - 1))))) := by
    rcases (h.below HB.out).1 with h0 | ⟨g, o, rfl, hg, hat⟩
    · omega
    · exact (count_any 29 (fun x y => ltB y x) g o n c ss _ hat hn (by have := h.2.2; omega) (callFunc_enter Try.func29 (by kernel_rfl) (by kernel_rfl)) isReset_any).mono (fun r w' x => x.rb)
  generalize (some (nW (ctI (fun x y => ltB y x) (fun j => (ss j).v) (n - 1)))) = R at *
  clear h hn
  go_enter Try.func54, Try.ntmps54
  go_wp2_with fail
  go_fit k1
  rintro e w2 ⟨z, rfl, b2, hl, hz⟩
  have B2 : Hid (Below w.heap.size w w2) := HB.out.trans (b2.mono HB.out.size)
  have HZ : Hid (cl z = R) := hz
  clear b2 hz k1
  go_wp2
  go_ret
  exact ⟨z, rfl, B2.out, hl, HZ.out⟩
set_option maxHeartbeats 4000000 in
set_option maxRecDepth 100000 in
theorem slopes_any (a : Option Addr) (n c : Nat) (ss : Nat → Smp) (w : World) (h : HypW a n ss w) (hn : 1 ≤ n) (hc : n ≤ c) : Calls Try.prog 61 #[.slice a n c] w (RB w (liS (fun j => df (ss j).t (ss 0).t) (fun j => (ss j).v) n (lvB ss n))) := by
  have k1 := line_any a c n ss (ss 0).t w h.1 h.2.1 hc h.2.2
  rcases h.1 with h0 | ⟨g, o, rfl, hg, hat⟩
  · omega
  have y0 := (hat 0 (by omega)).1
  rw [show o + 0 * 3 = o by omega] at y0
  generalize liS (fun j => df (ss j).t (ss 0).t) (fun j => (ss j).v) n (lvB ss n) = R at *
  generalize liV (fun j => df (ss j).t (ss 0).t) (fun j => (ss j).v) n (lvB ss n) = R2 at *
  generalize (ss 0).t = t0 at *
  have p0 : (0 : Int) < (n : Int) := by omega
  clear h hat hc
  go_enter Try.func61, Try.ntmps61
  go_wp2_with fail
  go_fit k1
  rintro e w2 ⟨z1, z2, rfl, b2, hl, hl2, hz, hz2⟩
  have B2 : Hid (Below w.heap.size w w2) := b2
  have HZ : Hid (cl z1 = R) := hz
  clear b2 hz hz2 k1
  go_wp2
  go_ret
  exact ⟨z1, rfl, B2.out, hl, HZ.out⟩
set_option maxHeartbeats 4000000 in
set_option maxRecDepth 100000 in
theorem predicts_any (a : Option Addr) (n c : Nat) (F T N : Int) (ss : Nat → Smp) (x : Nat) (w : World) (h : HypW a n ss w) (hc : n ≤ c) : Calls Try.prog 63 #[Wn a n c F T N, .float .f64 x] w (RB w (fb .add (liV (fun j => df (ss j).t N) (fun j => (ss j).v) n (lvB ss n)) (fb .mul (liS (fun j => df (ss j).t N) (fun j => (ss j).v) n (lvB ss n)) (cl x)))) := by
  have HB : Hid (Below w.heap.size w (w.alloc (wnX a n c F T N))) := (Below.refl _ w).alloc (Nat.le_refl _) _
  have k1 := line_any a c n ss N (w.alloc (wnX a n c F T N)) (h.below HB.out).1 h.2.1 hc h.2.2
  have ha := @run_fadd Try.prog
  have hmu := @run_fmul Try.prog
  generalize liS (fun j => df (ss j).t N) (fun j => (ss j).v) n (lvB ss n) = R1 at *
  generalize liV (fun j => df (ss j).t N) (fun j => (ss j).v) n (lvB ss n) = R2 at *
  clear h hc
  go_enter Try.func63, Try.ntmps63
  go_wp2_with fail
  go_fit k1
  rintro e w2 ⟨z1, z2, rfl, b2, hl, hl2, hz, hz2⟩
  have B2 : Hid (Below w.heap.size w w2) := HB.out.trans (b2.mono HB.out.size)
  have HZ : Hid (cl z1 = R1) := hz
  have HZ2 : Hid (cl z2 = R2) := hz2
  clear b2 hz hz2 k1
  go_wp2
  go_ret
  exact ⟨_, rfl, below_drewN B2.out _, fz_lt _ _ _ _, by rw [cl_fz, cl_fz, HZ.out, HZ2.out]⟩
set_option maxHeartbeats 4000000 in
set_option maxRecDepth 100000 in
theorem slope_fn (a : Option Addr) (n c : Nat) (F T N : Int) (ss : Nat → Smp) (av : Value) (w : World) (h : HypW a n ss w) (hn : 1 ≤ n) (hc : n ≤ c) : Calls Try.prog 60 #[Wn a n c F T N, av] w (RB w (liS (fun j => df (ss j).t (ss 0).t) (fun j => (ss j).v) n (lvB ss n))) := by
  have HB : Hid (Below w.heap.size w (w.alloc (wnX a n c F T N))) := (Below.refl _ w).alloc (Nat.le_refl _) _
  have k1 : Calls Try.prog 61 #[.slice a n c] (w.alloc (wnX a n c F T N)) (RB (w.alloc (wnX a n c F T N)) (liS (fun j => df (ss j).t (ss 0).t) (fun j => (ss j).v) n (lvB ss n))) := by
    exact slopes_any a n c ss _ (h.below HB.out) hn hc
  generalize (liS (fun j => df (ss j).t (ss 0).t) (fun j => (ss j).v) n (lvB ss n)) = R at *
  clear h hn hc
  go_enter Try.func60, Try.ntmps60
  go_wp2_with fail
  go_fit k1
  rintro e w2 ⟨z, rfl, b2, hl, hz⟩
  have B2 : Hid (Below w.heap.size w w2) := HB.out.trans (b2.mono HB.out.size)
  have HZ : Hid (cl z = R) := hz
  clear b2 hz k1
  go_wp2
  go_ret
  exact ⟨z, rfl, B2.out, hl, HZ.out⟩
end Go.Proofs.Ytmjenemjbpimcaa
