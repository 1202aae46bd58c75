/- A bundle of texts. -/
import Derived.Test.YtmjenemjbpimcaaGreatBe24
import Derived.Test.YtmjenemjbpimcaaGreatBe22
import Derived.ProofKit
import Derived.OpenShut
import Derived.ChangeSlices
import Derived.ChangeSame
import Derived.ChangeOld
import Derived.Carry
import Derived.Deep.Slices
import Derived.SizedLaws
/- OverRates: the walk. -/
namespace Go.Proofs.YtmjenemjbpimcaaGreat
open Go.RowKit

theorem rx_both {w w' W W' : World} {p : Prop} {c : Option Nat} {r r' : Ending} (h : RX w p c r W) (h' : RX w' p c r' W') : ∃ z z' b, r = .returned (.tuple #[.float .f64 z, .bool b]) ∧ r' = .returned (.tuple #[.float .f64 z', .bool b]) ∧ smB (cl z') (cl z) = true ∧ Below w.heap.size w W ∧ Below w'.heap.size w' W' := by
  obtain ⟨z, b, e, h1, h2, _, h4, h5⟩ := h
  obtain ⟨z', b', e', h1', h2', _, h4', h5'⟩ := h'
  have hb : b' = b := by
    have h3 : b = true ↔ b' = true := h1.trans h1'.symm
    cases b <;> cases b' <;> simp_all
  subst hb
  refine ⟨z, z', b', e, e', ?_, h2, h2'⟩
  have h3 : cl z' = cl z := by
    cases b'
    · rw [h5 rfl, h5' rfl]
    · rw [h4 rfl, h4' rfl]
  unfold smB
  simp [h3]

set_option maxHeartbeats 8000000 in
set_option maxRecDepth 100000 in
theorem rates_walk (a : Option Addr) (n c : Nat) (F T N : Int) (ss : Nat → Smp) (w : World) (h : HypW a n ss w) (_hc : n ≤ c) :
    Calls Tryz.prog 3 #[Wn a n c F T N] w fun r w' => r = .returned (.bool true) ∧ Below w.heap.size w w' := by
  have HB0 : Hid (Below w.heap.size w (w.alloc (wnX a n c F T N))) := (Below.refl _ w).alloc (Nat.le_refl _) _
  have HC : Hid (∀ W, Below (w.alloc (wnX a n c F T N)).heap.size (w.alloc (wnX a n c F T N)) W → WnC a n c F T N w.heap.size W) := wnC_new a n c F T N w
  have hl : n ≤ 9223372036854775807 := by have := h.2.2; omega
  have HE1 : Hid (∀ ctr per W, Below w.heap.size w W → Calls Tryz.prog 5 #[Wn a n c F T N, .bool ctr, .bool per] W (RX W (2 ≤ n ∧ Snd ss n F T N) (exF ss n F T ctr per))) := (show ∀ ctr per W, _ → _ from fun ctr per W b => rextrapolate_any a n c F T N ss ctr per W (h.below b).1 h.2.1 hl)
  have HE2 : Hid (∀ ctr per W, Below w.heap.size w W → Calls Tryz.prog 6 #[Wn a n c F T N, .bool ctr, .bool per] W (RX W (2 ≤ n ∧ Snd ss n F T N) (exF ss n F T ctr per))) := (show ∀ ctr per W, _ → _ from fun ctr per W b => extrapolate_any a n c F T N ss ctr per W (h.below b).1 h.2.1 hl)
  have HI1 : Hid (∀ ctr W, Below w.heap.size w W → Calls Tryz.prog 8 #[Wn a n c F T N, .bool ctr] W (RX W (2 ≤ n ∧ Snd ss n F T N) (inF ss n ctr))) := (show ∀ ctr W, _ → _ from fun ctr W b => rinstant_any a n c F T N ss ctr W (h.below b).1 h.2.1 hl)
  have HI2 : Hid (∀ ctr W, Below w.heap.size w W → Calls Tryz.prog 9 #[Wn a n c F T N, .bool ctr] W (RX W (2 ≤ n ∧ Snd ss n F T N) (inF ss n ctr))) := (show ∀ ctr W, _ → _ from fun ctr W b => instants_any a n c F T N ss ctr W (h.below b).1 h.2.1 hl)
  clear h
  go_enter Tryz.func3, Tryz.ntmps3
  go_wp2_with fail
  go_fit (alive_any _)
  rintro e w1 ⟨rfl, b1⟩
  have B1 : Hid (Below (w.alloc (wnX a n c F T N)).heap.size (w.alloc (wnX a n c F T N)) w1) := b1
  clear b1
  go_wp2_with fail
  go_loopw [3] (fun iv W => ∃ k : Nat, iv = .int .i64 (k : Nat) ∧ k ≤ 4 ∧ Hid (Below (w.alloc (wnX a n c F T N)).heap.size (w.alloc (wnX a n c F T N)) W)) (fun iv _ => 4 - (RowKit.intOf iv).toNat)
  case atStart => exact ⟨0, rfl, by omega, B1⟩
  case round =>
    obtain ⟨k, rfl, hk, hb⟩ := hrel
    have BW : Hid (Below w.heap.size w wr) := HB0.out.trans (hb.out.mono HB0.out.size)
    obtain ⟨x0, x1, x2, x3⟩ := HC.out wr hb.out
    by_cases hlt : k < 4
    · have main : ∃ ctr per : Bool, (k = 0 ∧ ctr = false ∧ per = false) ∨ (k = 1 ∧ ctr = true ∧ per = false) ∨ (k = 2 ∧ ctr = false ∧ per = true) ∨ (k = 3 ∧ ctr = true ∧ per = true) := by
        rcases (show k = 0 ∨ k = 1 ∨ k = 2 ∨ k = 3 by omega) with rfl | rfl | rfl | rfl
        · exact ⟨false, false, .inl ⟨rfl, rfl, rfl⟩⟩
        · exact ⟨true, false, .inr (.inl ⟨rfl, rfl, rfl⟩)⟩
        · exact ⟨false, true, .inr (.inr (.inl ⟨rfl, rfl, rfl⟩))⟩
        · exact ⟨true, true, .inr (.inr (.inr ⟨rfl, rfl, rfl⟩))⟩
      obtain ⟨ctr, per, hm⟩ := main
      have HK4 : Hid (k + 1 ≤ 4) := hlt
      have k1 := HE1.out ctr per
      have k2 := HE2.out ctr per
      rcases hm with ⟨rfl, rfl, rfl⟩ | ⟨rfl, rfl, rfl⟩ | ⟨rfl, rfl, rfl⟩ | ⟨rfl, rfl, rfl⟩
      all_goals
        go_wp2_with fail
        go_fit (k1 _ BW.out)
        rintro e w5 h5
        have B5 : Hid (Below (w.alloc (wnX a n c F T N)).heap.size (w.alloc (wnX a n c F T N)) w5) := hb.out.trans ((show Below wr.heap.size wr w5 by obtain ⟨_, _, _, _, b, _⟩ := h5; exact b).mono hb.out.size)
        have B5w : Hid (Below w.heap.size w w5) := HB0.out.trans (B5.out.mono HB0.out.size)
        have H5 : Hid (RX wr (2 ≤ n ∧ Snd ss n F T N) _ e w5) := h5
        obtain ⟨z1, b1, rfl, _⟩ := h5
        obtain ⟨x0, x1, x2, x3⟩ := HC.out w5 B5.out
        go_wp2_with fail
        go_fit (k2 _ B5w.out)
        rintro e w6 h6
        have B6 : Hid (Below (w.alloc (wnX a n c F T N)).heap.size (w.alloc (wnX a n c F T N)) w6) := B5.out.trans ((show Below w5.heap.size w5 w6 by obtain ⟨_, _, _, _, b, _⟩ := h6; exact b).mono B5.out.size)
        obtain ⟨za, zb, bb, e1, e2, hs, _⟩ := rx_both H5.out h6
        cases e1
        cases e2
        have k7 : ∀ W, Calls Tryz.prog 7 #[.float .f64 zb, .float .f64 z1] W fun r w' => r = .returned (.bool true) ∧ w' = W := fun W => (same_any zb z1 W).mono (fun r w' hx => by rw [hs] at hx; exact hx)
        have hxx : (b1 != b1) = false := by cases b1 <;> rfl
        clear k1 k2 hs h6 x0 x1 x2 x3
        go_wp2_with fail
        go_fit (k7 _)
        rintro e w7 ⟨rfl, rfl⟩
        go_wp2
        exact ⟨⟨_, by first | exact congrArg _ (show (1 : Int) = ((1 : Nat) : Int) from rfl) | exact congrArg _ (show (2 : Int) = ((2 : Nat) : Int) from rfl) | exact congrArg _ (show (3 : Int) = ((3 : Nat) : Int) from rfl) | exact congrArg _ (show (4 : Int) = ((4 : Nat) : Int) from rfl), by omega, B6⟩, by simp [RowKit.intOf]⟩
    · have hkk : ¬ (k : Int) < 4 := by omega
      go_wp2_with fail
      go_loopw [8] (fun iv W => ∃ k : Nat, iv = .int .i64 (k : Nat) ∧ k ≤ 2 ∧ Hid (Below (w.alloc (wnX a n c F T N)).heap.size (w.alloc (wnX a n c F T N)) W)) (fun iv _ => 2 - (RowKit.intOf iv).toNat)
      case atStart => exact ⟨0, rfl, by omega, hb⟩
      case round =>
        obtain ⟨k, rfl, hk, hb⟩ := hrel
        have BW : Hid (Below w.heap.size w wr) := HB0.out.trans (hb.out.mono HB0.out.size)
        obtain ⟨x0, x1, x2, x3⟩ := HC.out wr hb.out
        by_cases hlt : k < 2
        · have main : ∃ ctr : Bool, (k = 0 ∧ ctr = false) ∨ (k = 1 ∧ ctr = true) := by
            rcases (show k = 0 ∨ k = 1 by omega) with rfl | rfl
            · exact ⟨false, .inl ⟨rfl, rfl⟩⟩
            · exact ⟨true, .inr ⟨rfl, rfl⟩⟩
          obtain ⟨ctr, hm⟩ := main
          have k1 := HI1.out ctr
          have k2 := HI2.out ctr
          rcases hm with ⟨rfl, rfl⟩ | ⟨rfl, rfl⟩
          all_goals
            go_wp2_with fail
            go_fit (k1 _ BW.out)
            rintro e w5 h5
            have B5 : Hid (Below (w.alloc (wnX a n c F T N)).heap.size (w.alloc (wnX a n c F T N)) w5) := hb.out.trans ((show Below wr.heap.size wr w5 by obtain ⟨_, _, _, _, b, _⟩ := h5; exact b).mono hb.out.size)
            have B5w : Hid (Below w.heap.size w w5) := HB0.out.trans (B5.out.mono HB0.out.size)
            have H5 : Hid (RX wr (2 ≤ n ∧ Snd ss n F T N) _ e w5) := h5
            obtain ⟨z1, b1, rfl, _⟩ := h5
            obtain ⟨x0, x1, x2, x3⟩ := HC.out w5 B5.out
            go_wp2_with fail
            go_fit (k2 _ B5w.out)
            rintro e w6 h6
            have B6 : Hid (Below (w.alloc (wnX a n c F T N)).heap.size (w.alloc (wnX a n c F T N)) w6) := B5.out.trans ((show Below w5.heap.size w5 w6 by obtain ⟨_, _, _, _, b, _⟩ := h6; exact b).mono B5.out.size)
            obtain ⟨za, zb, bb, e1, e2, hs, _⟩ := rx_both H5.out h6
            cases e1
            cases e2
            have k7 : ∀ W, Calls Tryz.prog 7 #[.float .f64 zb, .float .f64 z1] W fun r w' => r = .returned (.bool true) ∧ w' = W := fun W => (same_any zb z1 W).mono (fun r w' hx => by rw [hs] at hx; exact hx)
            have hxx : (b1 != b1) = false := by cases b1 <;> rfl
            clear k1 k2 hs h6 x0 x1 x2 x3
            go_wp2_with fail
            go_fit (k7 _)
            rintro e w7 ⟨rfl, rfl⟩
            go_wp2
            exact ⟨⟨_, by first | exact congrArg _ (show (1 : Int) = ((1 : Nat) : Int) from rfl) | exact congrArg _ (show (2 : Int) = ((2 : Nat) : Int) from rfl), by omega, B6⟩, by simp [RowKit.intOf]⟩
        · have hkk : ¬ (k : Int) < 2 := by omega
          go_wp2
          go_ret
          exact ⟨rfl, BW.out⟩
end Go.Proofs.YtmjenemjbpimcaaGreat
/- Windows that came in. -/
namespace Go.Proofs.YtmjenemjbpimcaaGreat
open Go.ChangeShapes Go.WideShapes Go.ChangeAt Go.RowKit

theorem own : ownKnob Tryz.prog.godebug = none := by kernel_rfl
theorem laidOut : laidOutB Tryz.prog = true := by kernel_rfl

theorem trod_float0 {H : Type} {enc : TypeId × Value → H} {W : World} {t : TypeId} {cs : List Value} {x : DataW H × List MemPlace} {fuel : Nat} (ht : Tryz.prog.underlying t = some (.float .f64))
    (h : DataW.trod enc Tryz.prog W 0 (fun _ => true) true fuel t cs = some x) : ∃ z, cs = [.float .f64 z] ∧ x = (.lit (.float .f64 z), []) ∧ (Lit.float .f64 z).wf = true := by
  cases fuel with
  | zero => simp [DataW.trod] at h
  | succ n =>
    unfold DataW.trod at h
    rw [ht] at h
    split at h <;> simp_all
theorem trod_float {H : Type} {enc : TypeId × Value → H} {W : World} {t : TypeId} {v : Value} {x : DataW H × List MemPlace} {fuel : Nat} (ht : Tryz.prog.underlying t = some (.float .f64))
    (h : DataW.trod enc Tryz.prog W 0 (fun _ => true) true fuel t [v] = some x) : ∃ z, v = .float .f64 z ∧ z < 18446744073709551616 ∧ x = (.lit (.float .f64 z), []) := by
  obtain ⟨z, h1, h2, h3⟩ := trod_float0 ht h
  exact ⟨z, by simpa using h1, by simpa [Lit.wf] using h3, h2⟩

set_option maxRecDepth 100000 in
/-- Samples that came in. -/
theorem samples_open {H : Type} {enc : TypeId × Value → H} {W : World} {v : Value} {d : DataW H} {p : List MemPlace} {fuel : Nat}
    (hf : DataW.trod enc Tryz.prog W 0 (fun _ => true) true fuel 22 [v] = some (d, p)) (hz : ∀ n ∈ d.weights Tryz.prog 22, n ≤ reachBytes) :
    ∃ (a : Option Addr) (len cap : Nat) (ss : Nat → Smp), v = .slice a len cap ∧ HypW a len ss W ∧ len ≤ cap := by
  rcases Go.Deep.open_slice Tryz.underlying22 hf with ⟨hcs, _⟩ | ⟨x, l, c, m, n, D, Pl, hcs, _, hl, hm, hmm, hd, hall⟩
  · simp at hcs
    subst hcs
    exact ⟨none, 0, 0, fun _ => ⟨0, 0, false⟩, rfl, ⟨.inl rfl, fun j hj => absurd hj (by omega), by omega⟩, Nat.le_refl _⟩
  · simp at hcs
    subst hcs
    have hm' : m = c := by simpa using hmm
    subst hm'
    obtain ⟨rfl, _⟩ := Prod.mk.inj hd
    have hC : Tryz.prog.cellsOf 36 = 3 := by kernel_rfl
    have each : ∀ i, i < m → ∃ u : Smp, W.cell? (x.add (i * 3)) = some (.int .i64 u.t) ∧ W.cell? (x.add (i * 3 + 1)) = some (.float .f64 u.v) ∧ W.cell? (x.add (i * 3 + 2)) = some (.bool u.s) ∧
        -9223372036854775808 ≤ u.t ∧ u.t ≤ 9223372036854775807 ∧ u.v < 18446744073709551616 := by
      intro i hi
      obtain ⟨cs', h1, h2⟩ := hall i hi
      rw [hC] at h1
      obtain ⟨_, hlen, hcell⟩ := World.cells?_some h1
      obtain ⟨xs, k, hk, hxy, _, hxl, hff⟩ := DataW.trod_struct Tryz.underlying36 h2
      match xs, hxl, cs', hlen with
      | [y0, y1, y2], _, [v0, v1, v2], _ =>
        have g0 := hff 0 _ rfl
        have g1 := hff 1 _ rfl
        have g2 := hff 2 _ rfl
        have c2 : Tryz.prog.cellsOf 2 = 1 := by kernel_rfl
        have c25 : Tryz.prog.cellsOf 26 = 1 := by kernel_rfl
        have c4 : Tryz.prog.cellsOf 4 = 1 := by kernel_rfl
        simp [c2, c25, c4] at g0 g1 g2
        obtain ⟨t, e0, _, wf⟩ := DataW.trod_int Tryz.underlying2 g0
        obtain ⟨v, e1, hv, _⟩ := trod_float Tryz.underlying26 g1
        obtain ⟨s, e2, _⟩ := DataW.trod_bool Tryz.underlying4 g2
        have q0 := hcell 0 (by omega)
        have q1 := hcell 1 (by omega)
        have q2 := hcell 2 (by omega)
        rw [Go.Deep.add_add] at q0 q1 q2
        have w0 : v0 = .int .i64 t := by simpa using e0
        have w2 : v2 = .bool s := by simpa using e2
        rw [w0, e1, w2] at q0 q1 q2
        simp [Lit.wf, IntKind.min, IntKind.max, IntKind.signed, IntKind.bits] at wf
        exact ⟨⟨t, v, s⟩, by simpa using q0, by simpa using q1, by simpa using q2, by show _ ≤ t; omega, by show t ≤ _; omega, hv⟩
    have hI : Inhabited Smp := ⟨⟨0, 0, false⟩⟩
    obtain ⟨ss, hss⟩ := Go.Deep.choose_lt each
    refine ⟨_, _, _, ss, rfl, ⟨?_, fun j hj => (hss j (by omega)).2.2.2, ?_⟩, hl⟩
    · by_cases h0 : l = 0
      · exact .inl h0
      · right
        obtain ⟨g, o, sp⟩ := x
        have hsp : sp = none := by
          have := (hss 0 (by omega)).1
          simpa [Addr.add] using World.cell?_spot this
        subst hsp
        have h00 := (hss 0 (by omega)).1
        rw [Go.WideShapes.add_plain] at h00
        refine ⟨g, o, rfl, block_lt_of_cell h00, fun j hj => ?_⟩
        obtain ⟨q0, q1, q2, _⟩ := hss j (by omega)
        rw [Go.WideShapes.add_plain] at q0 q1 q2
        exact ⟨q0, by rw [Nat.add_assoc]; exact q1, by rw [Nat.add_assoc]; exact q2⟩
    · have hb : Tryz.prog.bytesOf 36 = 24 := by kernel_rfl
      have hr : reachBytes = 140737488351232 := by decide
      have := hz ((((List.range l).map D).length + ((List.range (m - l)).map fun j => D (l + j)).length) * 24) (by
        simp only [DataW.weights, Tryz.underlying22, hb]
        exact List.mem_cons.2 (.inl rfl))
      simp at this
      omega

set_option maxRecDepth 100000 in
/-- A window that came in. -/
theorem window_open {H : Type} {enc : TypeId × Value → H} {W : World} {cl : List Value} {d : DataW H} {p : List MemPlace} {fuel : Nat}
    (hf : DataW.trod enc Tryz.prog W 0 (fun _ => true) true fuel 24 cl = some (d, p)) (hz : ∀ n ∈ d.weights Tryz.prog 24, n ≤ reachBytes) :
    ∃ (a : Option Addr) (n c : Nat) (F T N : Int) (ss : Nat → Smp), cl = [.slice a n c, .int .i64 F, .int .i64 T, .int .i64 N] ∧ HypW a n ss W ∧ n ≤ c ∧ (-9223372036854775808 ≤ F ∧ F ≤ 9223372036854775807) ∧ (-9223372036854775808 ≤ T ∧ T ≤ 9223372036854775807) ∧ (-9223372036854775808 ≤ N ∧ N ≤ 9223372036854775807) := by
  obtain ⟨xs, k, hk, hxy, hcl, hxl, hff⟩ := DataW.trod_struct Tryz.underlying24 hf
  have h4 : Tryz.prog.cellsOf 24 = 4 := by kernel_rfl
  rw [h4] at hcl
  have g0 := hff 0 _ rfl
  have g1 := hff 1 _ rfl
  have g2 := hff 2 _ rfl
  have g3 := hff 3 _ rfl
  have c2 : Tryz.prog.cellsOf 2 = 1 := by kernel_rfl
  have c28 : Tryz.prog.cellsOf 22 = 1 := by kernel_rfl
  match xs, hxl, cl, hcl with
  | [(e0, p0), (e1, p1), (e2, p2), (e3, p3)], _, [v0, v1, v2, v3], _ =>
    simp [c28] at g0
    simp [c2] at g1 g2 g3
    have hd0 : d = .agg [e0, e1, e2, e3] := (Prod.mk.inj hxy).1
    have zz : ∀ (j : Nat) t d, [22, 2, 2, 2][j]? = some t → [e0, e1, e2, e3][j]? = some d → ∀ n ∈ d.weights Tryz.prog t, n ≤ reachBytes := fun j t d ht hd n hn => by
      refine hz n ?_
      rw [hd0]
      simp only [DataW.weights, Tryz.underlying24]
      exact DataW.weights_mem_each (j := j) (t := t) (d := d) ht hd n hn
    obtain ⟨a, n, c, ss, rfl, hx, hn⟩ := samples_open g0 (zz 0 22 e0 rfl rfl)
    obtain ⟨F, ev1, _, f1⟩ := DataW.trod_int Tryz.underlying2 g1
    obtain ⟨T, ev2, _, f2⟩ := DataW.trod_int Tryz.underlying2 g2
    obtain ⟨N, ev3, _, f3⟩ := DataW.trod_int Tryz.underlying2 g3
    have w1 : v1 = .int .i64 F := by simpa using ev1
    have w2 : v2 = .int .i64 T := by simpa using ev2
    have w3 : v3 = .int .i64 N := by simpa using ev3
    simp [Lit.wf, IntKind.min, IntKind.max, IntKind.signed, IntKind.bits] at f1 f2 f3
    exact ⟨a, n, c, F, T, N, ss, by rw [w1, w2, w3], hx, hn, by omega, by omega, by omega⟩

end Go.Proofs.YtmjenemjbpimcaaGreat
/- OverRates: the row. -/
namespace Go.Proofs.YtmjenemjbpimcaaGreat
open Go.ChangeShapes Go.WideShapes Go.ChangeAt Go.RowKit

set_option maxRecDepth 100000 in
theorem rates_lifted (os : Os) (started : os.Started) (H : Type) (enc : TypeId × Value → H) :
    ReturnsInHanded {} Tryz.checked os 3 .any (Rows.overRatesSpec.pre6 enc Tryz.prog Tryz.f3 Rows.overRatesRow.domain false) (Rows.overRatesSpec.post enc Tryz.prog Tryz.f3 false true false false) := by
  refine returnsInHanded_of_change_sized (C := Tryz.checked) own started (by kernel_rfl) Tryz.func3
    (ChangeSpec.witness6 (enc := enc) (C := Tryz.checked) false ⟨#[], #[.agg #[.slice none 0 0, .int .i64 0, .int .i64 0, .int .i64 0]], []⟩ 8 (by kernel_rfl) (by kernel_rfl) (by kernel_rfl) (by kernel_rfl)) ?_
  intro W base args ds gs before hval0 hW hcnd hsz0 _
  have hval : ∀ (j : Nat) t v, Tryz.f3.params[j]? = some t → args[j]? = some v → Value.okWide Tryz.prog W .any base t v := hval0
  have hsz : (DataW.weightsEach Tryz.prog (Tryz.f3.params.toList ++ Rows.overRatesSpec.plain.varTypes Tryz.prog) (ds ++ gs)).all (· ≤ reachBytes) = true := hsz0
  have hW' := hW
  obtain ⟨p, q, hA0, hV, rfl, hfz, hnd⟩ := hW
  have hA : DataW.TrodAll enc Tryz.prog W 0 (fun _ => true) true Tryz.f3.params.toList args.toList ds p := hA0
  rw [Tryz.params3] at hA hval hsz
  obtain ⟨v0, d0, rfl, rfl, h0⟩ := trodAll_one hA
  obtain ⟨rfl, rfl⟩ := trodVars_none hV
  obtain ⟨cs, rfl, hcs⟩ := okWide_struct Tryz.underlying24 (hval 0 24 v0 rfl rfl)
  have k0 := h0
  have lt0 : ∀ x ∈ p, x.block < W.heap.size := by obtain ⟨m, hm⟩ := k0; exact DataW.trod_lt m _ _ _ hm
  have z0 : ∀ n ∈ d0.weights Tryz.prog 24, n ≤ reachBytes := fun n hn => by
    have := List.all_eq_true.1 hsz _ (DataW.weights_mem_each (j := 0) (t := 24) (d := d0) rfl rfl n hn)
    simpa using this
  have walk : Calls Tryz.prog 3 #[.agg cs] W fun e w' => e = .returned (.bool true) ∧ Below W.heap.size W w' := by
    obtain ⟨fuel, hf0⟩ := h0
    have hf : DataW.trod enc Tryz.prog W 0 (fun _ => true) true fuel 24 cs.toList = some (d0, p) := hf0
    obtain ⟨a, n, c, F, T, N, ss, ecl, ht, hc, _⟩ := window_open hf z0
    have ecs : cs = #[.slice a n c, .int .i64 F, .int .i64 T, .int .i64 N] := by rw [← Array.toArray_toList (xs := cs), ecl]
    rw [ecs]
    exact rates_walk a n c F T N ss W ht hc
  refine walk.mono fun e W' ⟨he, bel⟩ => ?_
  subst he
  exact ⟨_, rfl, _, _, _, [], _, [], hW', trodAll_mk1 (shut_bool Tryz.underlying4 _), trodAll_mk1 (Below.trod laidOut (by kernel_rfl) (of_decide_eq_true (by kernel_rfl)) k0 bel lt0), rfl, bel.frame _, fun h => by cases h⟩

theorem rates_said : Rows.OverRatesSaid :=
  OpenClaim.holds_of_wide 3 Tryz.f3 rfl rfl rfl rfl rfl rfl rfl ⟨rfl, rfl, rfl, rfl, rfl⟩ rfl rfl rfl rfl rfl (by kernel_rfl) Tryz.func3 (by kernel_rfl)
    (of_decide_eq_true (by kernel_rfl)) (by unfold Func.isWrapper; first | (rw [if_pos (by decide +kernel)]; kernel_rfl) | (rw [if_neg (by decide +kernel)]; exact ⟨rfl, rfl⟩))
    (fun os started H enc _ => rates_lifted os started H enc)
#print axioms rates_said
end Go.Proofs.YtmjenemjbpimcaaGreat
