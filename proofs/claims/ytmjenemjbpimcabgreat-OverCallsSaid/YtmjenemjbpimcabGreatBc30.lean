/- A bundle of texts. -/
import Derived.Test.YtmjenemjbpimcabGreatBc24
import Derived.Test.YtmjenemjbpimcabGreatBc27
import Derived.Test.YtmjenemjbpimcabGreatBc28
import Derived.Test.YtmjenemjbpimcabGreatBc29
import Derived.Test.YtmjenemjbpimcabGreatBc21
/- The reference's plain functions, each. -/
namespace Go.Proofs.YtmjenemjbpimcabGreat
open Go.RowKit

theorem rf_rb {w : World} {c : Option Nat} {r : Ending} {w' : World} (h : RF w c r w') : RB w c r w' := by
  obtain ⟨z, k, rfl, rfl, h1, h2⟩ := h
  exact ⟨z, rfl, below_drewN (Below.refl _ _) k, h1, h2⟩
theorem vls_lt {ss : Nat → Smp} {n : Nat} (h : SW ss n) (j : Nat) (hj : j < n) : (vls ss n).getD j 0 < 18446744073709551616 := by
  rw [vls_at ss n j hj]
  exact (h j hj).2.2
set_option maxHeartbeats 4000000 in
set_option maxRecDepth 100000 in
theorem rplain_0 (a : Option Addr) (n c : Nat) (F T N : Int) (ss : Nat → Smp) (v : Value) (S : Nat) (aa : Option Addr) (ca : Nat) (args : List Nat) (w : World) (h : HypW a n ss w) (hn : 1 ≤ n) (hv : Fr w S v (vls ss n)) (hA : Fm w aa args) (hl : args.length = 0) : Calls Tryz.prog 27 #[.string ⟨#[99, 111, 117, 110, 116, 95, 111, 118, 101, 114, 95, 116, 105, 109, 101]⟩, Wn a n c F T N, v, .slice aa args.length ca] w (RB w (some (nW n))) := by
  have HB : Hid (Below w.heap.size w (w.alloc (wnX a n c F T N))) := (Below.refl _ w).alloc (Nat.le_refl _) _
  obtain ⟨a2, c2, rfl, hm, hc3, hc4⟩ := hv.cap
  have hln : (vls ss n).length = n := vls_len ss n
  have h24 := h.2.2
  have h9 := And.intro hn (And.intro hA hl)
  clear h9
  have hcv := cvm n
  rw [hln]
  have HZ : Hid (cl (nW n) = some (nW n)) := nW_num n
  have hl9 := nW_lt n
  clear h hn hv hA hm hc3 hc4 hln hl h24
  go_enter Tryz.func27, Tryz.ntmps27
  go_wp2
  go_ret
  exact ⟨_, rfl, HB.out, hl9, HZ.out⟩
set_option maxHeartbeats 4000000 in
set_option maxRecDepth 100000 in
theorem rplain_1 (a : Option Addr) (n c : Nat) (F T N : Int) (ss : Nat → Smp) (v : Value) (S : Nat) (aa : Option Addr) (ca : Nat) (args : List Nat) (w : World) (h : HypW a n ss w) (hn : 1 ≤ n) (hv : Fr w S v (vls ss n)) (hA : Fm w aa args) (hl : args.length = 0) : Calls Tryz.prog 27 #[.string ⟨#[112, 114, 101, 115, 101, 110, 116, 95, 111, 118, 101, 114, 95, 116, 105, 109, 101]⟩, Wn a n c F T N, v, .slice aa args.length ca] w (RB w (some 4607182418800017408)) := by
  have HB : Hid (Below w.heap.size w (w.alloc (wnX a n c F T N))) := (Below.refl _ w).alloc (Nat.le_refl _) _
  obtain ⟨a2, c2, rfl, hm, hc3, hc4⟩ := hv.cap
  have hln : (vls ss n).length = n := vls_len ss n
  have h24 := h.2.2
  have h9 := And.intro hn (And.intro hA hl)
  clear h9
  have HZ : Hid (cl 4607182418800017408 = some 4607182418800017408) := cl_lit 4607182418800017408 (by decide)
  clear h hn hv hA hm hc3 hc4 hln hl h24
  go_enter Tryz.func27, Tryz.ntmps27
  go_wp2
  go_ret
  exact ⟨_, rfl, HB.out, by decide, HZ.out⟩
set_option maxHeartbeats 4000000 in
set_option maxRecDepth 100000 in
theorem rplain_2 (a : Option Addr) (n c : Nat) (F T N : Int) (ss : Nat → Smp) (v : Value) (S : Nat) (aa : Option Addr) (ca : Nat) (args : List Nat) (w : World) (h : HypW a n ss w) (hn : 1 ≤ n) (hv : Fr w S v (vls ss n)) (hA : Fm w aa args) (hl : args.length = 0) : Calls Tryz.prog 27 #[.string ⟨#[102, 105, 114, 115, 116, 95, 111, 118, 101, 114, 95, 116, 105, 109, 101]⟩, Wn a n c F T N, v, .slice aa args.length ca] w (RB w (cl (ss 0).v)) := by
  have HB : Hid (Below w.heap.size w (w.alloc (wnX a n c F T N))) := (Below.refl _ w).alloc (Nat.le_refl _) _
  obtain ⟨a2, c2, rfl, hm, hc3, hc4⟩ := hv.cap
  have hln : (vls ss n).length = n := vls_len ss n
  have h24 := h.2.2
  have h9 := And.intro hn (And.intro hA hl)
  clear h9
  obtain ⟨g, o, rfl, hg, hat⟩ := fm_cell hm (by omega)
  have q0 := bcell HB.out (hat 0 (by omega)) hg
  have l0 := (h.2.1 0 (by omega)).2.2
  rw [vls_at ss n 0 (by omega), Nat.add_zero] at q0
  rw [hln]
  generalize (ss 0).v = x at *
  have n1 : (0 : Int) < (n : Int) := by omega
  clear h hn hv hA hm hc3 hc4 hln hl hat h24
  go_enter Tryz.func27, Tryz.ntmps27
  go_wp2
  go_ret
  exact ⟨_, rfl, HB.out, l0, rfl⟩
set_option maxHeartbeats 4000000 in
set_option maxRecDepth 100000 in
theorem rplain_3 (a : Option Addr) (n c : Nat) (F T N : Int) (ss : Nat → Smp) (v : Value) (S : Nat) (aa : Option Addr) (ca : Nat) (args : List Nat) (w : World) (h : HypW a n ss w) (hn : 1 ≤ n) (hv : Fr w S v (vls ss n)) (hA : Fm w aa args) (hl : args.length = 0) : Calls Tryz.prog 27 #[.string ⟨#[108, 97, 115, 116, 95, 111, 118, 101, 114, 95, 116, 105, 109, 101]⟩, Wn a n c F T N, v, .slice aa args.length ca] w (RB w (cl (ss (n - 1)).v)) := by
  have HB : Hid (Below w.heap.size w (w.alloc (wnX a n c F T N))) := (Below.refl _ w).alloc (Nat.le_refl _) _
  obtain ⟨a2, c2, rfl, hm, hc3, hc4⟩ := hv.cap
  have hln : (vls ss n).length = n := vls_len ss n
  have h24 := h.2.2
  have h9 := And.intro hn (And.intro hA hl)
  clear h9
  obtain ⟨m, rfl⟩ : ∃ m, n = m + 1 := ⟨n - 1, by omega⟩
  obtain ⟨g, o, rfl, hg, hat⟩ := fm_cell hm (by omega)
  have q0 := hat m (by omega)
  rw [Nat.add_sub_cancel]
  have l0 := (h.2.1 m (by omega)).2.2
  rw [vls_at ss (m + 1) m (by omega)] at q0
  rw [hln]
  generalize (ss m).v = x at *
  have n1 : (m : Int) < (m : Int) + 1 := by omega
  have n9 : (m : Int) ≤ 9223372036854775806 := by omega
  have n0 : (0 : Int) ≤ (m : Int) := by omega
  have nw : IntKind.i64.wrap ((m : Int) + 1 - 1) = (m : Int) := by rw [IntKind.wrap_i64]; omega
  clear h hn hv hA hm hc3 hc4 hln hl hat h24
  go_enter Tryz.func27, Tryz.ntmps27
  go_wp2
  go_ret
  exact ⟨_, rfl, HB.out, l0, rfl⟩
set_option maxHeartbeats 4000000 in
set_option maxRecDepth 100000 in
theorem rplain_4 (a : Option Addr) (n c : Nat) (F T N : Int) (ss : Nat → Smp) (v : Value) (S : Nat) (aa : Option Addr) (ca : Nat) (args : List Nat) (w : World) (h : HypW a n ss w) (hn : 1 ≤ n) (hv : Fr w S v (vls ss n)) (hA : Fm w aa args) (hl : args.length = 0) : Calls Tryz.prog 27 #[.string ⟨#[115, 117, 109, 95, 111, 118, 101, 114, 95, 116, 105, 109, 101]⟩, Wn a n c F T N, v, .slice aa args.length ca] w (RB w (sumF (cs (vls ss n)))) := by
  have HB : Hid (Below w.heap.size w (w.alloc (wnX a n c F T N))) := (Below.refl _ w).alloc (Nat.le_refl _) _
  obtain ⟨a2, c2, rfl, hm, hc3, hc4⟩ := hv.cap
  have hln : (vls ss n).length = n := vls_len ss n
  have h24 := h.2.2
  have h9 := And.intro hn (And.intro hA hl)
  clear h9
  have k1 := (rsum_any a2 c2 (vls ss n) (w.alloc (wnX a n c F T N)) (hm.below HB.out) (vls_wd h.2.1) (by rw [hln]; omega)).mono fun r w' hx => rf_rb hx
  rw [hln] at k1 ⊢
  generalize sumF (cs (vls ss n)) = R at *
  clear h hn hv hA hm hc3 hc4 hln hl h24
  go_enter Tryz.func27, Tryz.ntmps27
  go_wp2_with fail
  go_fit k1
  rintro e w1 ⟨z, rfl, b1, hlz, hz⟩
  have B1 : Hid (Below w.heap.size w w1) := HB.out.trans (b1.mono HB.out.size)
  have HZ : Hid (cl z = R) := hz
  clear b1 hz k1 HB
  go_wp2
  go_ret
  exact ⟨z, rfl, B1.out, hlz, HZ.out⟩
set_option maxHeartbeats 4000000 in
set_option maxRecDepth 100000 in
theorem rplain_5 (a : Option Addr) (n c : Nat) (F T N : Int) (ss : Nat → Smp) (v : Value) (S : Nat) (aa : Option Addr) (ca : Nat) (args : List Nat) (w : World) (h : HypW a n ss w) (hn : 1 ≤ n) (hv : Fr w S v (vls ss n)) (hA : Fm w aa args) (hl : args.length = 0) : Calls Tryz.prog 27 #[.string ⟨#[97, 118, 103, 95, 111, 118, 101, 114, 95, 116, 105, 109, 101]⟩, Wn a n c F T N, v, .slice aa args.length ca] w (RB w (meanF (vls ss n))) := by
  have HB : Hid (Below w.heap.size w (w.alloc (wnX a n c F T N))) := (Below.refl _ w).alloc (Nat.le_refl _) _
  obtain ⟨a2, c2, rfl, hm, hc3, hc4⟩ := hv.cap
  have hln : (vls ss n).length = n := vls_len ss n
  have h24 := h.2.2
  have h9 := And.intro hn (And.intro hA hl)
  clear h9
  have k1 := rmean_any a2 c2 (vls ss n) (w.alloc (wnX a n c F T N)) (hm.below HB.out) (vls_wd h.2.1) (by rw [hln]; omega)
  rw [hln] at k1 ⊢
  generalize meanF (vls ss n) = R at *
  clear h hn hv hA hm hc3 hc4 hln hl h24
  go_enter Tryz.func27, Tryz.ntmps27
  go_wp2_with fail
  go_fit k1
  rintro e w1 ⟨z, rfl, b1, hlz, hz⟩
  have B1 : Hid (Below w.heap.size w w1) := HB.out.trans (b1.mono HB.out.size)
  have HZ : Hid (cl z = R) := hz
  clear b1 hz k1 HB
  go_wp2
  go_ret
  exact ⟨z, rfl, B1.out, hlz, HZ.out⟩
set_option maxHeartbeats 4000000 in
set_option maxRecDepth 100000 in
theorem rplain_6 (a : Option Addr) (n c : Nat) (F T N : Int) (ss : Nat → Smp) (v : Value) (S : Nat) (aa : Option Addr) (ca : Nat) (args : List Nat) (w : World) (h : HypW a n ss w) (hn : 1 ≤ n) (hv : Fr w S v (vls ss n)) (hA : Fm w aa args) (hl : args.length = 0) : Calls Tryz.prog 27 #[.string ⟨#[115, 116, 100, 100, 101, 118, 95, 111, 118, 101, 114, 95, 116, 105, 109, 101]⟩, Wn a n c F T N, v, .slice aa args.length ca] w (RB w (sprF (vls ss n))) := by
  have HB : Hid (Below w.heap.size w (w.alloc (wnX a n c F T N))) := (Below.refl _ w).alloc (Nat.le_refl _) _
  obtain ⟨a2, c2, rfl, hm, hc3, hc4⟩ := hv.cap
  have hln : (vls ss n).length = n := vls_len ss n
  have h24 := h.2.2
  have h9 := And.intro hn (And.intro hA hl)
  clear h9
  have k1 := rspread_any a2 c2 (vls ss n) (w.alloc (wnX a n c F T N)) (hm.below HB.out) (vls_wd h.2.1) (by rw [hln]; omega)
  rw [hln] at k1 ⊢
  generalize sprF (vls ss n) = R at *
  clear h hn hv hA hm hc3 hc4 hln hl h24
  go_enter Tryz.func27, Tryz.ntmps27
  go_wp2_with fail
  go_fit k1
  rintro e w1 ⟨z, rfl, b1, hlz, hz⟩
  have B1 : Hid (Below w.heap.size w w1) := HB.out.trans (b1.mono HB.out.size)
  have HZ : Hid (cl z = R) := hz
  clear b1 hz k1 HB
  go_wp2
  go_ret
  exact ⟨z, rfl, B1.out, hlz, HZ.out⟩
set_option maxHeartbeats 4000000 in
set_option maxRecDepth 100000 in
theorem rplain_7 (a : Option Addr) (n c : Nat) (F T N : Int) (ss : Nat → Smp) (v : Value) (S : Nat) (aa : Option Addr) (ca : Nat) (args : List Nat) (w : World) (h : HypW a n ss w) (hn : 1 ≤ n) (hv : Fr w S v (vls ss n)) (hA : Fm w aa args) (hl : args.length = 0) : Calls Tryz.prog 27 #[.string ⟨#[115, 116, 100, 118, 97, 114, 95, 111, 118, 101, 114, 95, 116, 105, 109, 101]⟩, Wn a n c F T N, v, .slice aa args.length ca] w (RB w (varF (vls ss n))) := by
  have HB : Hid (Below w.heap.size w (w.alloc (wnX a n c F T N))) := (Below.refl _ w).alloc (Nat.le_refl _) _
  obtain ⟨a2, c2, rfl, hm, hc3, hc4⟩ := hv.cap
  have hln : (vls ss n).length = n := vls_len ss n
  have h24 := h.2.2
  have h9 := And.intro hn (And.intro hA hl)
  clear h9
  have k1 := rvariance_any a2 c2 (vls ss n) (w.alloc (wnX a n c F T N)) (hm.below HB.out) (vls_wd h.2.1) (by rw [hln]; omega)
  rw [hln] at k1 ⊢
  generalize varF (vls ss n) = R at *
  clear h hn hv hA hm hc3 hc4 hln hl h24
  go_enter Tryz.func27, Tryz.ntmps27
  go_wp2_with fail
  go_fit k1
  rintro e w1 ⟨z, rfl, b1, hlz, hz⟩
  have B1 : Hid (Below w.heap.size w w1) := HB.out.trans (b1.mono HB.out.size)
  have HZ : Hid (cl z = R) := hz
  clear b1 hz k1 HB
  go_wp2
  go_ret
  exact ⟨z, rfl, B1.out, hlz, HZ.out⟩
set_option maxHeartbeats 4000000 in
set_option maxRecDepth 100000 in
theorem rplain_8 (a : Option Addr) (n c : Nat) (F T N : Int) (ss : Nat → Smp) (v : Value) (S : Nat) (aa : Option Addr) (ca : Nat) (args : List Nat) (w : World) (h : HypW a n ss w) (hn : 1 ≤ n) (hv : Fr w S v (vls ss n)) (hA : Fm w aa args) (hl : args.length = 0) : Calls Tryz.prog 27 #[.string ⟨#[109, 97, 120, 95, 111, 118, 101, 114, 95, 116, 105, 109, 101]⟩, Wn a n c F T N, v, .slice aa args.length ca] w (RB w (outI true (fun j => (ss j).v) (n - 1))) := by
  have HB : Hid (Below w.heap.size w (w.alloc (wnX a n c F T N))) := (Below.refl _ w).alloc (Nat.le_refl _) _
  obtain ⟨a2, c2, rfl, hm, hc3, hc4⟩ := hv.cap
  have hln : (vls ss n).length = n := vls_len ss n
  have h24 := h.2.2
  have h9 := And.intro hn (And.intro hA hl)
  clear h9
  have k1 := (routerT a2 c2 (vls ss n) (w.alloc (wnX a n c F T N)) (hm.below HB.out) (vls_wd h.2.1) (by rw [hln]; omega) (by rw [hln]; omega)).mono fun r w' hx => rf_rb hx
  rw [hln] at k1 ⊢
  rw [outI_congr true (fun j => (vls ss n).getD j 0) (fun j => (ss j).v) (n - 1) (fun j hj => vls_at ss n j (by omega))] at k1
  generalize outI true (fun j => (ss j).v) (n - 1) = R at *
  clear h hn hv hA hm hc3 hc4 hln hl h24
  go_enter Tryz.func27, Tryz.ntmps27
  go_wp2_with fail
  go_fit k1
  rintro e w1 ⟨z, rfl, b1, hlz, hz⟩
  have B1 : Hid (Below w.heap.size w w1) := HB.out.trans (b1.mono HB.out.size)
  have HZ : Hid (cl z = R) := hz
  clear b1 hz k1 HB
  go_wp2
  go_ret
  exact ⟨z, rfl, B1.out, hlz, HZ.out⟩
set_option maxHeartbeats 4000000 in
set_option maxRecDepth 100000 in
theorem rplain_9 (a : Option Addr) (n c : Nat) (F T N : Int) (ss : Nat → Smp) (v : Value) (S : Nat) (aa : Option Addr) (ca : Nat) (args : List Nat) (w : World) (h : HypW a n ss w) (hn : 1 ≤ n) (hv : Fr w S v (vls ss n)) (hA : Fm w aa args) (hl : args.length = 0) : Calls Tryz.prog 27 #[.string ⟨#[109, 105, 110, 95, 111, 118, 101, 114, 95, 116, 105, 109, 101]⟩, Wn a n c F T N, v, .slice aa args.length ca] w (RB w (outI false (fun j => (ss j).v) (n - 1))) := by
  have HB : Hid (Below w.heap.size w (w.alloc (wnX a n c F T N))) := (Below.refl _ w).alloc (Nat.le_refl _) _
  obtain ⟨a2, c2, rfl, hm, hc3, hc4⟩ := hv.cap
  have hln : (vls ss n).length = n := vls_len ss n
  have h24 := h.2.2
  have h9 := And.intro hn (And.intro hA hl)
  clear h9
  have k1 := (routerF a2 c2 (vls ss n) (w.alloc (wnX a n c F T N)) (hm.below HB.out) (vls_wd h.2.1) (by rw [hln]; omega) (by rw [hln]; omega)).mono fun r w' hx => rf_rb hx
  rw [hln] at k1 ⊢
  rw [outI_congr false (fun j => (vls ss n).getD j 0) (fun j => (ss j).v) (n - 1) (fun j hj => vls_at ss n j (by omega))] at k1
  generalize outI false (fun j => (ss j).v) (n - 1) = R at *
  clear h hn hv hA hm hc3 hc4 hln hl h24
  go_enter Tryz.func27, Tryz.ntmps27
  go_wp2_with fail
  go_fit k1
  rintro e w1 ⟨z, rfl, b1, hlz, hz⟩
  have B1 : Hid (Below w.heap.size w w1) := HB.out.trans (b1.mono HB.out.size)
  have HZ : Hid (cl z = R) := hz
  clear b1 hz k1 HB
  go_wp2
  go_ret
  exact ⟨z, rfl, B1.out, hlz, HZ.out⟩
set_option maxHeartbeats 4000000 in
set_option maxRecDepth 100000 in
theorem rplain_10 (a : Option Addr) (n c : Nat) (F T N : Int) (ss : Nat → Smp) (v : Value) (S : Nat) (aa : Option Addr) (ca : Nat) (args : List Nat) (w : World) (h : HypW a n ss w) (hn : 1 ≤ n) (hv : Fr w S v (vls ss n)) (hA : Fm w aa args) (hl : args.length = 1) (C : Option Nat) (hQ : ∀ xs, Wd xs → cs xs = cs (vls ss n) → ∀ W a c, Fm W a xs → xs.length ≤ c → c ≤ 9223372036854775807 → Calls Tryz.prog 40 #[.float .f64 (args.getD 0 0), .slice a xs.length c] W (RB W C)) : Calls Tryz.prog 27 #[.string ⟨#[113, 117, 97, 110, 116, 105, 108, 101, 95, 111, 118, 101, 114, 95, 116, 105, 109, 101]⟩, Wn a n c F T N, v, .slice aa args.length ca] w (RB w (C)) := by
  have HB : Hid (Below w.heap.size w (w.alloc (wnX a n c F T N))) := (Below.refl _ w).alloc (Nat.le_refl _) _
  obtain ⟨a2, c2, rfl, hm, hc3, hc4⟩ := hv.cap
  have hln : (vls ss n).length = n := vls_len ss n
  have h24 := h.2.2
  have h9 := And.intro hn (And.intro hA hl)
  clear h9
  have k1 := hQ (vls ss n) (vls_wd h.2.1) rfl (w.alloc (wnX a n c F T N)) a2 c2 (hm.below HB.out) hc3 hc4
  rw [hln] at k1 ⊢
  obtain ⟨ga, oa, rfl, hx⟩ := fm_at hA 0 (by omega) HB.out
  rw [Nat.add_zero] at hx
  generalize args.getD 0 0 = x at *
  rw [hl]
  clear hl hQ
  obtain ⟨R, hR⟩ : ∃ R, R = C := ⟨_, rfl⟩
  rw [← hR] at k1 ⊢
  clear hR
  clear h hn hv hA hm hc3 hc4 hln h24
  go_enter Tryz.func27, Tryz.ntmps27
  go_wp2_with fail
  go_fit k1
  rintro e w1 ⟨z, rfl, b1, hlz, hz⟩
  have B1 : Hid (Below w.heap.size w w1) := HB.out.trans (b1.mono HB.out.size)
  have HZ : Hid (cl z = R) := hz
  clear b1 hz k1 HB
  go_wp2
  go_ret
  exact ⟨z, rfl, B1.out, hlz, HZ.out⟩
set_option maxHeartbeats 4000000 in
set_option maxRecDepth 100000 in
theorem rplain_11 (a : Option Addr) (n c : Nat) (F T N : Int) (ss : Nat → Smp) (v : Value) (S : Nat) (aa : Option Addr) (ca : Nat) (args : List Nat) (w : World) (h : HypW a n ss w) (hn : 1 ≤ n) (hv : Fr w S v (vls ss n)) (hA : Fm w aa args) (hl : args.length = 0) (C1 C2 : Option Nat) (h1 : ∀ ys, Wd ys → cs ys = cs (vls ss n) → ∀ W a c, Fm W a ys → ys.length ≤ c → c ≤ 9223372036854775807 → Calls Tryz.prog 40 #[.float .f64 4602678819172646912, .slice a ys.length c] W (RB W C1)) (h2 : ∀ ys, Wd ys → cs ys = (List.range (vls ss n).length).map (dsF (vls ss n) C1) → ∀ W a c, Fm W a ys → ys.length ≤ c → c ≤ 9223372036854775807 → Calls Tryz.prog 40 #[.float .f64 4602678819172646912, .slice a ys.length c] W (RB W C2)) : Calls Tryz.prog 27 #[.string ⟨#[109, 97, 100, 95, 111, 118, 101, 114, 95, 116, 105, 109, 101]⟩, Wn a n c F T N, v, .slice aa args.length ca] w (RB w (C2)) := by
  have HB : Hid (Below w.heap.size w (w.alloc (wnX a n c F T N))) := (Below.refl _ w).alloc (Nat.le_refl _) _
  obtain ⟨a2, c2, rfl, hm, hc3, hc4⟩ := hv.cap
  have hln : (vls ss n).length = n := vls_len ss n
  have h24 := h.2.2
  have h9 := And.intro hn (And.intro hA hl)
  clear h9
  have k1 := roff_any a2 c2 (vls ss n) C1 C2 (w.alloc (wnX a n c F T N)) (hm.below HB.out) (vls_wd h.2.1) hc3 hc4 (by rw [hln]; omega) h1 h2
  rw [hln] at k1 ⊢
  clear h1 h2
  obtain ⟨R, hR⟩ : ∃ R, R = C2 := ⟨_, rfl⟩
  rw [← hR] at k1 ⊢
  clear hR
  clear h hn hv hA hm hc3 hc4 hln hl h24
  go_enter Tryz.func27, Tryz.ntmps27
  go_wp2_with fail
  go_fit k1
  rintro e w1 ⟨z, rfl, b1, hlz, hz⟩
  have B1 : Hid (Below w.heap.size w w1) := HB.out.trans (b1.mono HB.out.size)
  have HZ : Hid (cl z = R) := hz
  clear b1 hz k1 HB
  go_wp2
  go_ret
  exact ⟨z, rfl, B1.out, hlz, HZ.out⟩
set_option maxHeartbeats 4000000 in
set_option maxRecDepth 100000 in
theorem rplain_12 (a : Option Addr) (n c : Nat) (F T N : Int) (ss : Nat → Smp) (v : Value) (S : Nat) (aa : Option Addr) (ca : Nat) (args : List Nat) (w : World) (h : HypW a n ss w) (hn : 1 ≤ n) (hv : Fr w S v (vls ss n)) (hA : Fm w aa args) (hl : args.length = 0) : Calls Tryz.prog 27 #[.string ⟨#[99, 104, 97, 110, 103, 101, 115]⟩, Wn a n c F T N, v, .slice aa args.length ca] w (RB w (some (nW (ctI chB (fun j => (ss j).v) (n - 1))))) := by
  have HB : Hid (Below w.heap.size w (w.alloc (wnX a n c F T N))) := (Below.refl _ w).alloc (Nat.le_refl _) _
  obtain ⟨a2, c2, rfl, hm, hc3, hc4⟩ := hv.cap
  have hln : (vls ss n).length = n := vls_len ss n
  have h24 := h.2.2
  have h9 := And.intro hn (And.intro hA hl)
  clear h9
  have k1 := rpairs_any a2 c2 (vls ss n) (w.alloc (wnX a n c F T N)) (hm.below HB.out) (by rw [hln]; omega) (by rw [hln]; omega)
  rw [hln] at k1 ⊢
  rw [ctI_congr chB (fun j => (vls ss n).getD j 0) (fun j => (ss j).v) (n - 1) (fun j hj => vls_at ss n j (by omega)), ctI_congr (fun x y => ltB y x) (fun j => (vls ss n).getD j 0) (fun j => (ss j).v) (n - 1) (fun j hj => vls_at ss n j (by omega))] at k1
  generalize some (nW (ctI chB (fun j => (ss j).v) (n - 1))) = R1 at *
  generalize some (nW (ctI (fun x y => ltB y x) (fun j => (ss j).v) (n - 1))) = R2 at *
  clear h hn hv hA hm hc3 hc4 hln hl h24
  go_enter Tryz.func27, Tryz.ntmps27
  go_wp2_with fail
  go_fit k1
  rintro e w1 ⟨z1, z2, rfl, b1, hl1, hl2, hz1, hz2⟩
  have B1 : Hid (Below w.heap.size w w1) := HB.out.trans (b1.mono HB.out.size)
  have HZ : Hid (cl z1 = R1) := hz1
  clear b1 hz1 hz2 k1 HB
  go_wp2
  go_ret
  exact ⟨z1, rfl, B1.out, hl1, HZ.out⟩
set_option maxHeartbeats 4000000 in
set_option maxRecDepth 100000 in
theorem rplain_13 (a : Option Addr) (n c : Nat) (F T N : Int) (ss : Nat → Smp) (v : Value) (S : Nat) (aa : Option Addr) (ca : Nat) (args : List Nat) (w : World) (h : HypW a n ss w) (hn : 1 ≤ n) (hv : Fr w S v (vls ss n)) (hA : Fm w aa args) (hl : args.length = 0) : Calls Tryz.prog 27 #[.string ⟨#[114, 101, 115, 101, 116, 115]⟩, Wn a n c F T N, v, .slice aa args.length ca] w (RB w (some (nW (ctI (fun x y => ltB y x) (fun j => (ss j).v) (n - 1))))) := by
  have HB : Hid (Below w.heap.size w (w.alloc (wnX a n c F T N))) := (Below.refl _ w).alloc (Nat.le_refl _) _
  obtain ⟨a2, c2, rfl, hm, hc3, hc4⟩ := hv.cap
  have hln : (vls ss n).length = n := vls_len ss n
  have h24 := h.2.2
  have h9 := And.intro hn (And.intro hA hl)
  clear h9
  have k1 := rpairs_any a2 c2 (vls ss n) (w.alloc (wnX a n c F T N)) (hm.below HB.out) (by rw [hln]; omega) (by rw [hln]; omega)
  rw [hln] at k1 ⊢
  rw [ctI_congr chB (fun j => (vls ss n).getD j 0) (fun j => (ss j).v) (n - 1) (fun j hj => vls_at ss n j (by omega)), ctI_congr (fun x y => ltB y x) (fun j => (vls ss n).getD j 0) (fun j => (ss j).v) (n - 1) (fun j hj => vls_at ss n j (by omega))] at k1
  generalize some (nW (ctI chB (fun j => (ss j).v) (n - 1))) = R1 at *
  generalize some (nW (ctI (fun x y => ltB y x) (fun j => (ss j).v) (n - 1))) = R2 at *
  clear h hn hv hA hm hc3 hc4 hln hl h24
  go_enter Tryz.func27, Tryz.ntmps27
  go_wp2_with fail
  go_fit k1
  rintro e w1 ⟨z1, z2, rfl, b1, hl1, hl2, hz1, hz2⟩
  have B1 : Hid (Below w.heap.size w w1) := HB.out.trans (b1.mono HB.out.size)
  have HZ : Hid (cl z2 = R2) := hz2
  clear b1 hz1 hz2 k1 HB
  go_wp2
  go_ret
  exact ⟨z2, rfl, B1.out, hl2, HZ.out⟩
set_option maxHeartbeats 4000000 in
set_option maxRecDepth 100000 in
theorem rplain_21 (a : Option Addr) (n c : Nat) (F T N : Int) (ss : Nat → Smp) (v : Value) (S : Nat) (aa : Option Addr) (ca : Nat) (args : List Nat) (w : World) (h : HypW a n ss w) (hn : 1 ≤ n) (hv : Fr w S v (vls ss n)) (hA : Fm w aa args) (hl : args.length = 2) : Calls Tryz.prog 27 #[.string ⟨#[100, 111, 117, 98, 108, 101, 95, 101, 120, 112, 111, 110, 101, 110, 116, 105, 97, 108, 95, 115, 109, 111, 111, 116, 104, 105, 110, 103]⟩, Wn a n c F T N, v, .slice aa args.length ca] w (RB w (smoF (cl (args.getD 0 0)) (cl (args.getD 1 0)) (vls ss n))) := by
  have HB : Hid (Below w.heap.size w (w.alloc (wnX a n c F T N))) := (Below.refl _ w).alloc (Nat.le_refl _) _
  obtain ⟨a2, c2, rfl, hm, hc3, hc4⟩ := hv.cap
  have hln : (vls ss n).length = n := vls_len ss n
  have h24 := h.2.2
  have h9 := And.intro hn (And.intro hA hl)
  clear h9
  have HB2 : Hid (Below w.heap.size w (w.alloc (wnX a n c F T N)).drew) := HB.out.drew
  have k1 := (rsmooth_any a2 c2 (vls ss n) (args.getD 0 0) (args.getD 1 0) (w.alloc (wnX a n c F T N)).drew (hm.below HB2.out) (vls_wd h.2.1) (by rw [hln]; omega)).mono fun r w' hx => rf_rb hx
  obtain ⟨ga, oa, rfl, hx⟩ := fm_at hA 0 (by omega) HB.out
  obtain ⟨gb, ob, hgb, hy⟩ := fm_at hA 1 (by omega) HB.out
  obtain ⟨rfl, rfl⟩ : ga = gb ∧ oa = ob := by cases hgb; exact ⟨rfl, rfl⟩
  rw [Nat.add_zero] at hx
  rw [hln] at k1 ⊢
  generalize smoF (cl (args.getD 0 0)) (cl (args.getD 1 0)) (vls ss n) = R at *
  generalize args.getD 0 0 = x at *
  generalize args.getD 1 0 = y at *
  rw [hl]
  clear h hn hv hA hm hc3 hc4 hln hl hgb h24
  go_enter Tryz.func27, Tryz.ntmps27
  go_wp2_with fail
  refine region_tail 7 (by kernel_rfl) (by kernel_rfl) ?_
  simp only [List.take_succ_cons, List.take_zero, List.drop_succ_cons, List.drop_zero]
  repeat (go_big_quiet_step (fail))
  refine wpQuiet_nil ?_
  clear hx hy
  go_wp2_with fail
  go_fit k1
  rintro e w1 ⟨z, rfl, b1, hlz, hz⟩
  have B1 : Hid (Below w.heap.size w w1) := HB2.out.trans (b1.mono HB2.out.size)
  have HZ : Hid (cl z = R) := hz
  clear b1 hz k1 HB
  go_wp2
  go_ret
  exact ⟨z, rfl, B1.out, hlz, HZ.out⟩
set_option maxHeartbeats 4000000 in
set_option maxRecDepth 100000 in
theorem rplain_22 (a : Option Addr) (n c : Nat) (F T N : Int) (ss : Nat → Smp) (v : Value) (S : Nat) (aa : Option Addr) (ca : Nat) (args : List Nat) (w : World) (h : HypW a n ss w) (hn : 1 ≤ n) (hv : Fr w S v (vls ss n)) (hA : Fm w aa args) (hl : args.length = 1) : Calls Tryz.prog 27 #[.string ⟨#[98, 101, 97, 116, 95, 111, 118, 101, 114, 95, 116, 105, 109, 101]⟩, Wn a n c F T N, v, .slice aa args.length ca] w (RB w (btF ss n (cl (args.getD 0 0)))) := by
  have HB : Hid (Below w.heap.size w (w.alloc (wnX a n c F T N))) := (Below.refl _ w).alloc (Nat.le_refl _) _
  obtain ⟨a2, c2, rfl, hm, hc3, hc4⟩ := hv.cap
  have hln : (vls ss n).length = n := vls_len ss n
  have h24 := h.2.2
  have h9 := And.intro hn (And.intro hA hl)
  clear h9
  have hmu := @run_fmul Tryz.prog
  obtain ⟨ga, oa, rfl, hx⟩ := fm_at hA 0 (by omega) HB.out
  rw [Nat.add_zero] at hx
  have HC : Hid (∀ W, Below (w.alloc (wnX a n c F T N)).heap.size (w.alloc (wnX a n c F T N)) W → WnC a n c F T N w.heap.size W) := wnC_new a n c F T N w
  have HE : Hid (btF ss n (cl (args.getD 0 0)) = beF (fun j => df (ss j).t (ss 0).t) (fun j => (ss j).v) n (tiF (fb .mul (cl (args.getD 0 0)) (some 4652007308841189376)))) := rfl
  have kT : ∀ W W2, Calls Tryz.prog 44 #[.float .f64 (fz .mul (args.getD 0 0) 4652007308841189376 W)] W2 fun r w' => (∃ b, r = .returned (.tuple #[.int .i64 (tiF (fb .mul (cl (args.getD 0 0)) (some 4652007308841189376))), .bool b])) ∧ w' = W2 := fun W W2 => by
    have k := rtoInt_any (fz .mul (args.getD 0 0) 4652007308841189376 W) (fz_lt _ _ _ _) W2
    rw [cl_fz, cl_lit 4652007308841189376 (by decide)] at k
    exact k
  have kB : Hid (∀ W p, Below w.heap.size w W → Calls Tryz.prog 45 #[.slice a n c, .int .i64 p] W (RB W (beF (fun j => df (ss j).t (ss 0).t) (fun j => (ss j).v) n p))) := (show ∀ W p, _ → _ from fun W p b => rbeat_any a c n ss p W (h.below b).1 (by omega))
  rw [hln]
  generalize args.getD 0 0 = x at *
  generalize tiF (fb .mul (cl x) (some 4652007308841189376)) = p at *
  generalize btF ss n (cl x) = R at *
  rw [hl]
  clear h hn hv hA hm hc3 hc4 hln hl h24
  go_enter Tryz.func27, Tryz.ntmps27
  go_wp2_with fail
  go_fit (kT _ _)
  rintro e w1 ⟨⟨b, rfl⟩, rfl⟩
  have HB3 : Hid (Below w.heap.size w ((w.alloc (wnX a n c F T N)).drewN (fk .mul x 4652007308841189376))) := below_drewN HB.out _
  have k2 := kB.out _ p HB3.out
  obtain ⟨x0, x1, x2, x3⟩ := HC.out (w.alloc (wnX a n c F T N)) (Below.refl _ _)
  go_wp2_with fail
  go_fit k2
  rintro e w2 ⟨z, rfl, b1, hlz, hz⟩
  have B1 : Hid (Below w.heap.size w w2) := HB3.out.trans (b1.mono HB3.out.size)
  have HZ : Hid (cl z = R) := (show _ = _ by rw [hz, HE.out])
  clear b1 hz k2 HB x0 x1 x2 x3
  go_wp2
  go_ret
  exact ⟨z, rfl, B1.out, hlz, HZ.out⟩
end Go.Proofs.YtmjenemjbpimcabGreat
