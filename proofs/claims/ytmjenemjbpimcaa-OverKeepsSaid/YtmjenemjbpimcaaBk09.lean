/- A bundle of texts. -/
import Derived.Test.YtmjenemjbpimcaaBk07
import Derived.Test.YtmjenemjbpimcaaBk08
import Derived.Test.YtmjenemjbpimcaaBk02
/- Over: the functions of the table, those by steps; a window of four points; what is fixed. -/
namespace Go.Proofs.Ytmjenemjbpimcaa
open Go.RowKit

def HypW (a : Option Addr) (n : Nat) (ss : Nat → Smp) (w : World) : Prop := Sml w a ss n ∧ SW ss n ∧ 24 * n ≤ 140737488355328
theorem HypW.below {a : Option Addr} {n : Nat} {ss : Nat → Smp} {w W : World} (h : HypW a n ss w) (b : Below w.heap.size w W) : HypW a n ss W := ⟨h.1.below b, h.2.1, h.2.2⟩
theorem rb_up {w W w2 : World} {c : Option Nat} {r : Ending} (b : Below w.heap.size w W) (h : RB W c r w2) : RB w c r w2 := by
  obtain ⟨z, h1, h2, h3, h4⟩ := h
  exact ⟨z, h1, b.trans (h2.mono b.size), h3, h4⟩
set_option maxHeartbeats 4000000 in
set_option maxRecDepth 100000 in
theorem rate_fn (a : Option Addr) (n c : Nat) (F T N : Int) (ss : Nat → Smp) (av : Value) (w : World) (h : HypW a n ss w) (hn : 2 ≤ n) :
    Calls Try.prog 55 #[Wn a n c F T N, av] w (RB w (exF ss n F T true true)) := by
  have HB : Hid (Below w.heap.size w (w.alloc (wnX a n c F T N))) := (Below.refl _ w).alloc (Nat.le_refl _) _
  have k1 : Calls Try.prog 21 #[Wn a n c F T N, .bool true, .bool true] (w.alloc (wnX a n c F T N)) (RB (w.alloc (wnX a n c F T N)) (exF ss n F T true true)) := by
    rcases (h.below HB.out).1 with h0 | ⟨g, o, rfl, hg, hat⟩
    · omega
    · exact extrapolated_any g o n c F T N ss true true _ hat h.2.1 hg hn (by have := h.2.2; omega)
  generalize exF ss n F T true true = R at *
  clear h hn
  go_enter Try.func55, Try.ntmps55
  go_wp2_with fail
  go_fit k1
  rintro e w1 ⟨z, rfl, b1, hl, hz⟩
  have B1 : Hid (Below w.heap.size w w1) := HB.out.trans (b1.mono HB.out.size)
  have HZ : Hid (cl z = R) := hz
  clear b1 hz
  go_wp2
  go_ret
  exact ⟨z, rfl, B1.out, hl, HZ.out⟩
set_option maxHeartbeats 4000000 in
set_option maxRecDepth 100000 in
theorem increase_fn (a : Option Addr) (n c : Nat) (F T N : Int) (ss : Nat → Smp) (av : Value) (w : World) (h : HypW a n ss w) (hn : 2 ≤ n) :
    Calls Try.prog 56 #[Wn a n c F T N, av] w (RB w (exF ss n F T true false)) := by
  have HB : Hid (Below w.heap.size w (w.alloc (wnX a n c F T N))) := (Below.refl _ w).alloc (Nat.le_refl _) _
  have k1 : Calls Try.prog 21 #[Wn a n c F T N, .bool true, .bool false] (w.alloc (wnX a n c F T N)) (RB (w.alloc (wnX a n c F T N)) (exF ss n F T true false)) := by
    rcases (h.below HB.out).1 with h0 | ⟨g, o, rfl, hg, hat⟩
    · omega
    · exact extrapolated_any g o n c F T N ss true false _ hat h.2.1 hg hn (by have := h.2.2; omega)
  generalize exF ss n F T true false = R at *
  clear h hn
  go_enter Try.func56, Try.ntmps56
  go_wp2_with fail
  go_fit k1
  rintro e w1 ⟨z, rfl, b1, hl, hz⟩
  have B1 : Hid (Below w.heap.size w w1) := HB.out.trans (b1.mono HB.out.size)
  have HZ : Hid (cl z = R) := hz
  clear b1 hz
  go_wp2
  go_ret
  exact ⟨z, rfl, B1.out, hl, HZ.out⟩
set_option maxHeartbeats 4000000 in
set_option maxRecDepth 100000 in
theorem delta_fn (a : Option Addr) (n c : Nat) (F T N : Int) (ss : Nat → Smp) (av : Value) (w : World) (h : HypW a n ss w) (hn : 2 ≤ n) :
    Calls Try.prog 57 #[Wn a n c F T N, av] w (RB w (exF ss n F T false false)) := by
  have HB : Hid (Below w.heap.size w (w.alloc (wnX a n c F T N))) := (Below.refl _ w).alloc (Nat.le_refl _) _
  have k1 : Calls Try.prog 21 #[Wn a n c F T N, .bool false, .bool false] (w.alloc (wnX a n c F T N)) (RB (w.alloc (wnX a n c F T N)) (exF ss n F T false false)) := by
    rcases (h.below HB.out).1 with h0 | ⟨g, o, rfl, hg, hat⟩
    · omega
    · exact extrapolated_any g o n c F T N ss false false _ hat h.2.1 hg hn (by have := h.2.2; omega)
  generalize exF ss n F T false false = R at *
  clear h hn
  go_enter Try.func57, Try.ntmps57
  go_wp2_with fail
  go_fit k1
  rintro e w1 ⟨z, rfl, b1, hl, hz⟩
  have B1 : Hid (Below w.heap.size w w1) := HB.out.trans (b1.mono HB.out.size)
  have HZ : Hid (cl z = R) := hz
  clear b1 hz
  go_wp2
  go_ret
  exact ⟨z, rfl, B1.out, hl, HZ.out⟩
set_option maxHeartbeats 4000000 in
set_option maxRecDepth 100000 in
theorem irate_fn (a : Option Addr) (n c : Nat) (F T N : Int) (ss : Nat → Smp) (av : Value) (w : World) (h : HypW a n ss w) (hn : 2 ≤ n) :
    Calls Try.prog 58 #[Wn a n c F T N, av] w (RB w (inF ss n true)) := by
  have HB : Hid (Below w.heap.size w (w.alloc (wnX a n c F T N))) := (Below.refl _ w).alloc (Nat.le_refl _) _
  have k1 : Calls Try.prog 23 #[.slice a n c, .bool true] (w.alloc (wnX a n c F T N)) (RB (w.alloc (wnX a n c F T N)) (inF ss n true)) := by
    rcases (h.below HB.out).1 with h0 | ⟨g, o, rfl, hg, hat⟩
    · omega
    · exact instant_any g o n c ss true _ hat h.2.1 hg hn (by have := h.2.2; omega)
  generalize inF ss n true = R at *
  clear h hn
  go_enter Try.func58, Try.ntmps58
  go_wp2_with fail
  go_fit k1
  rintro e w1 ⟨z, rfl, b1, hl, hz⟩
  have B1 : Hid (Below w.heap.size w w1) := HB.out.trans (b1.mono HB.out.size)
  have HZ : Hid (cl z = R) := hz
  clear b1 hz
  go_wp2
  go_ret
  exact ⟨z, rfl, B1.out, hl, HZ.out⟩
set_option maxHeartbeats 4000000 in
set_option maxRecDepth 100000 in
theorem idelta_fn (a : Option Addr) (n c : Nat) (F T N : Int) (ss : Nat → Smp) (av : Value) (w : World) (h : HypW a n ss w) (hn : 2 ≤ n) :
    Calls Try.prog 59 #[Wn a n c F T N, av] w (RB w (inF ss n false)) := by
  have HB : Hid (Below w.heap.size w (w.alloc (wnX a n c F T N))) := (Below.refl _ w).alloc (Nat.le_refl _) _
  have k1 : Calls Try.prog 23 #[.slice a n c, .bool false] (w.alloc (wnX a n c F T N)) (RB (w.alloc (wnX a n c F T N)) (inF ss n false)) := by
    rcases (h.below HB.out).1 with h0 | ⟨g, o, rfl, hg, hat⟩
    · omega
    · exact instant_any g o n c ss false _ hat h.2.1 hg hn (by have := h.2.2; omega)
  generalize inF ss n false = R at *
  clear h hn
  go_enter Try.func59, Try.ntmps59
  go_wp2_with fail
  go_fit k1
  rintro e w1 ⟨z, rfl, b1, hl, hz⟩
  have B1 : Hid (Below w.heap.size w w1) := HB.out.trans (b1.mono HB.out.size)
  have HZ : Hid (cl z = R) := hz
  clear b1 hz
  go_wp2
  go_ret
  exact ⟨z, rfl, B1.out, hl, HZ.out⟩

set_option maxHeartbeats 4000000 in
set_option maxRecDepth 100000 in
theorem count_fn (a : Option Addr) (n c : Nat) (F T N : Int) (av : Value) (w : World) : Calls Try.prog 30 #[Wn a n c F T N, av] w (RB w (some (nW n))) := by
  have HB : Hid (Below w.heap.size w (w.alloc (wnX a n c F T N))) := (Below.refl _ w).alloc (Nat.le_refl _) _
  have hcv := cvm n
  go_enter Try.func30, Try.ntmps30
  go_wp2
  go_ret
  exact ⟨_, rfl, HB.out, nW_lt _, nW_num _⟩
set_option maxHeartbeats 4000000 in
theorem present_fn (a : Option Addr) (n c : Nat) (F T N : Int) (av : Value) (w : World) : Calls Try.prog 31 #[Wn a n c F T N, av] w (RB w (some 4607182418800017408)) := by
  have HB : Hid (Below w.heap.size w (w.alloc (wnX a n c F T N))) := (Below.refl _ w).alloc (Nat.le_refl _) _
  go_enter Try.func31, Try.ntmps31
  go_wp2
  go_ret
  exact ⟨_, rfl, HB.out, by omega, cl_lit _ (by decide)⟩
set_option maxHeartbeats 4000000 in
set_option maxRecDepth 100000 in
theorem first_fn (a : Option Addr) (n c : Nat) (F T N : Int) (ss : Nat → Smp) (av : Value) (w : World) (h : HypW a n ss w) (hn : 1 ≤ n) : Calls Try.prog 32 #[Wn a n c F T N, av] w (RB w (cl (ss 0).v)) := by
  have HB : Hid (Below w.heap.size w (w.alloc (wnX a n c F T N))) := (Below.refl _ w).alloc (Nat.le_refl _) _
  rcases h.1 with h0 | ⟨g, o, rfl, hg, hat⟩
  · omega
  have y1 := bcell HB.out (hat 0 (by omega)).2.1 hg
  have l1 : Hid ((ss 0).v < 18446744073709551616) := (h.2.1 0 (by omega)).2.2
  rw [show o + 0 * 3 + 1 = o + 1 by omega] at y1
  generalize (ss 0).v = x at *
  have p0 : (0 : Int) < (n : Int) := by omega
  clear h hat
  go_enter Try.func32, Try.ntmps32
  go_wp2
  go_ret
  exact ⟨_, rfl, HB.out, l1.out, rfl⟩
set_option maxHeartbeats 4000000 in
set_option maxRecDepth 100000 in
theorem last_fn (a : Option Addr) (n c : Nat) (F T N : Int) (ss : Nat → Smp) (av : Value) (w : World) (h : HypW a n ss w) (hn : 1 ≤ n) : Calls Try.prog 33 #[Wn a n c F T N, av] w (RB w (cl (ss (n - 1)).v)) := by
  have HB : Hid (Below w.heap.size w (w.alloc (wnX a n c F T N))) := (Below.refl _ w).alloc (Nat.le_refl _) _
  rcases h.1 with h0 | ⟨g, o, rfl, hg, hat⟩
  · omega
  obtain ⟨k, hk⟩ : ∃ k, n - 1 = k := ⟨_, rfl⟩
  have y1 := bcell HB.out (hat k (by omega)).2.1 hg
  have l1 : Hid ((ss k).v < 18446744073709551616) := (h.2.1 k (by omega)).2.2
  rw [hk]
  have w1 : IntKind.i64.wrap ((n : Int) - 1) = (k : Int) := by have := h.2.2; rw [IntKind.wrap_i64]; omega
  have p2 : (0 : Int) ≤ (k : Int) := by omega
  have p3 : (k : Int) < (n : Int) := by omega
  have p5 : ¬ (k : Int) < 0 := by omega
  generalize (ss k).v = x at *
  clear h hat hk hn
  go_enter Try.func33, Try.ntmps33
  go_wp2
  go_ret
  exact ⟨_, rfl, HB.out, l1.out, rfl⟩
set_option maxHeartbeats 4000000 in
set_option maxRecDepth 100000 in
theorem sum_fn (a : Option Addr) (n c : Nat) (F T N : Int) (ss : Nat → Smp) (av : Value) (w : World) (h : HypW a n ss w) : Calls Try.prog 34 #[Wn a n c F T N, av] w (RB w (sumF (cs (vls ss n)))) := by
  have HB : Hid (Below w.heap.size w (w.alloc (wnX a n c F T N))) := (Below.refl _ w).alloc (Nat.le_refl _) _
  have k1 := values_any a n c ss (w.alloc (wnX a n c F T N)) (h.below HB.out).1 (by have := h.2.2; omega)
  have HS : Hid (∀ W v S, Fr W S v (vls ss n) → Calls Try.prog 35 #[v] W (RB W (sumF (cs (vls ss n))))) := (show ∀ W v S, _ → _ from fun W v S hf => by
    obtain ⟨a', c', rfl, hm⟩ := hf.fm
    exact (sum_any a' c' (vls ss n) W hm (vls_wd h.2.1) (by rw [vls_len]; have := h.2.2; omega)).mono (fun r w' x => x.rb))
  generalize sumF (cs (vls ss n)) = R at *
  clear h
  go_enter Try.func34, Try.ntmps34
  go_wp2_with fail
  go_fit k1
  rintro e w1 ⟨v, rfl, hf, b1⟩
  have k2 := HS.out w1 v _ hf
  have B1 : Hid (Below w.heap.size w w1) := HB.out.trans (b1.mono HB.out.size)
  clear hf b1 k1 HS HB
  go_wp2_with fail
  go_fit k2
  rintro e w2 ⟨z, rfl, b2, hl, hz⟩
  have B2 : Hid (Below w.heap.size w w2) := B1.out.trans (b2.mono B1.out.size)
  have HZ : Hid (cl z = R) := hz
  clear b2 hz k2
  go_wp2
  go_ret
  exact ⟨z, rfl, B2.out, hl, HZ.out⟩
end Go.Proofs.Ytmjenemjbpimcaa
/- Mean on both sides. -/
namespace Go.Proofs.Ytmjenemjbpimcaa
open Go.RowKit

/-- Is one of the first i infinite? -/
def anyI (xs : List Nat) (i : Nat) : Bool := (List.range i).any fun j => infB (cl (xs.getD j 0))
theorem anyI_succ (xs : List Nat) (i : Nat) : anyI xs (i + 1) = (anyI xs i || infB (cl (xs.getD i 0))) := by
  unfold anyI
  rw [List.range_succ, List.any_append]
  simp
/-- The parts. -/
def ptF (xs : List Nat) (n : Option Nat) (j : Nat) : Option Nat := fb .quo (cl (xs.getD j 0)) n
def meanF (xs : List Nat) : Option Nat :=
  if xs.length = 0 then none
  else if infB (sumF (cs xs)) = true then
    if anyI xs xs.length = true then fb .quo (sumF (cs xs)) (some (nW xs.length)) else sumF ((List.range xs.length).map (ptF xs (some (nW xs.length))))
  else fb .quo (sumF (cs xs)) (some (nW xs.length))

set_option maxHeartbeats 400000 in
theorem isInfinite_any (x : Nat) (hx : x < 18446744073709551616) (w : World) : Calls Try.prog 72 #[.float .f64 x] w fun r w' => r = .returned (.bool (infB (cl x))) ∧ w' = w := by
  have k1 := isInf_any x hx w
  generalize infB (cl x) = B at *
  go_enter Try.func72, Try.ntmps72
  go_wp2_with fail
  go_fit k1
  rintro r w' ⟨rfl, rfl⟩
  go_wp2
  go_ret
  exact ⟨rfl, rfl⟩

theorem anyI_hit (xs : List Nat) (i n : Nat) (hi : i < n) (h : infB (cl (xs.getD i 0)) = true) : anyI xs n = true := by
  unfold anyI
  exact List.any_eq_true.2 ⟨i, List.mem_range.2 hi, h⟩

set_option maxHeartbeats 2000000 in
set_option maxRecDepth 100000 in
theorem index_any (a : Option Addr) (c : Nat) (xs : List Nat) (w : World) (hf : Fm w a xs) (hw : Wd xs) (hl : xs.length ≤ 9223372036854775807) :
    Calls Try.prog 87 #[.slice a xs.length c, .func (.func 72) #[] #[]] w fun r w' => (∃ n : Int, r = .returned (.int .i64 n) ∧ Hid (anyI xs xs.length = decide (0 ≤ n))) ∧ w' = w := by
  have HF : Hid (Fm w a xs) := hf
  have HW : Hid (Wd xs) := hw
  have HS : Hid (∀ i, anyI xs (i + 1) = (anyI xs i || infB (cl (xs.getD i 0)))) := anyI_succ xs
  have HH : Hid (∀ i n, i < n → infB (cl (xs.getD i 0)) = true → anyI xs n = true) := anyI_hit xs
  clear hf hw
  go_enter Try.func87, Try.ntmps87
  go_wp2
  go_loopw [8] (fun iv w' => ∃ (i : Nat), iv = .int .i64 (i : Int) ∧ i ≤ xs.length ∧ Hid (anyI xs i = false) ∧ w' = w) (fun iv _ => xs.length - (RowKit.intOf iv).toNat)
  case atStart => exact ⟨0, rfl, by omega, (rfl : anyI xs 0 = false), rfl⟩
  case round =>
    obtain ⟨i, rfl, hi, hst, rfl⟩ := hrel
    by_cases hlt : i < xs.length
    · have hii : (i : Int) < xs.length := by omega
      rcases HF.out with h0 | ⟨g, o, rfl, hg, hat⟩
      · rw [h0] at hlt; simp at hlt
      have hcell := hat i hlt
      have hv := HW.out i hlt
      have H1 : Hid (anyI xs (i + 1) = infB (cl (xs.getD i 0))) := by
        show _ = _
        rw [HS.out, hst.out]; rfl
      have H2 : Hid (infB (cl (xs.getD i 0)) = true → anyI xs xs.length = true) := HH.out i _ hlt
      have HI : Hid (i + 1 ≤ xs.length) := hlt
      clear hat
      generalize xs.getD i 0 = v at *
      have kI := fun w => isInfinite_any v hv w
      go_wp2_with fail
      go_fit (kI _)
      rintro r w' ⟨rfl, rfl⟩
      cases hinf : infB (cl v)
      · go_wp2
        exact ⟨⟨i + 1, by go_num, HI, (by show _ = _; rw [H1.out, hinf] : Hid _), trivial⟩, by simp [RowKit.intOf]; omega⟩
      · have H3 := H2.out hinf
        have H4 : Hid (anyI xs xs.length = decide (0 ≤ (i : Int))) := by show _ = _; rw [H3]; exact (decide_eq_true (by omega)).symm
        clear H3
        go_wp2
        go_ret
        exact ⟨⟨_, rfl, H4⟩, rfl⟩
    · have hii : ¬ (i : Int) < xs.length := by omega
      have H4 : Hid (anyI xs xs.length = decide (0 ≤ (-1 : Int))) := by
        show _ = _
        rw [show xs.length = i by omega, hst.out]; rfl
      go_wp2
      go_ret
      exact ⟨⟨_, rfl, H4⟩, rfl⟩

set_option maxHeartbeats 400000 in
theorem contains_any (a : Option Addr) (c : Nat) (xs : List Nat) (w : World) (hf : Fm w a xs) (hw : Wd xs) (hl : xs.length ≤ 9223372036854775807) :
    Calls Try.prog 71 #[.slice a xs.length c, .func (.func 72) #[] #[]] w fun r w' => r = .returned (.bool (anyI xs xs.length)) ∧ w' = w := by
  have k1 := index_any a c xs w hf hw hl
  generalize anyI xs xs.length = B at *
  go_enter Try.func71, Try.ntmps71
  go_wp2_with fail
  go_fit k1
  rintro r w' ⟨⟨n, rfl, hn⟩, rfl⟩
  go_wp2
  go_ret
  exact ⟨by rw [hn.out]; rfl, rfl⟩

set_option maxHeartbeats 2000000 in
set_option maxRecDepth 100000 in
theorem parted_any (a : Option Addr) (c : Nat) (xs : List Nat) (n : Nat) (w : World) (hf : Fm w a xs) (hl : 8 * xs.length ≤ 140737488355328) :
    Calls Try.prog 73 #[.slice a xs.length c, .float .f64 n] w (RL w xs.length (ptF xs (cl n))) := by
  have hq := @run_fquo Try.prog
  have hsf := @run_store_float Try.prog
  obtain ⟨w1, r1, o1, b1⟩ := make_f w xs.length (by omega)
  have HF : Hid (Fm w a xs) := hf
  have O1 : Hid (Fr w1 w.heap.size (.slice (some ⟨w.heap.size, 0, none⟩) xs.length xs.length) (List.replicate xs.length 0)) := o1
  have HP : Hid (∀ j, ptF xs (cl n) j = fb .quo (cl (xs.getD j 0)) (cl n)) := fun j => rfl
  clear hf o1
  generalize ptF xs (cl n) = F at *
  obtain ⟨G, hG⟩ : ∃ G, G = w.heap.size := ⟨_, rfl⟩
  have HG : Hid (G = w.heap.size) := hG
  rw [← hG] at r1 O1 b1
  clear hG
  go_enter Try.func73, Try.ntmps73
  go_wp2
  go_loopw [13] (fun iv w' => ∃ (i : Nat) (ys : List Nat), iv = .int .i64 (i : Int) ∧ i ≤ xs.length ∧ Hid (ys.length = xs.length) ∧ Hid (Fr w' G (.slice (some ⟨G, 0, none⟩) xs.length xs.length) ys) ∧ Hid (Ls ys i F) ∧ Below G w w') (fun iv _ => xs.length - (RowKit.intOf iv).toNat)
  case atStart => exact ⟨0, _, rfl, by omega, (by simp : _ = _), O1, Ls.nil _ _, b1⟩
  case round =>
    obtain ⟨i, ys, rfl, hi, hyl, o, hls, hb⟩ := hrel
    by_cases hlt : i < xs.length
    · have hii : (i : Int) < xs.length := by omega
      rcases HF.out with h0 | ⟨g, o', rfl, hg, hat⟩
      · rw [h0] at hlt; simp at hlt
      have hcell := (hb.cell (p := ⟨g, o' + i, none⟩) (by rw [HG.out]; exact hg)).trans (hat i hlt)
      have HI : Hid (i + 1 ≤ xs.length) := hlt
      have hfi := HP.out i
      clear hat
      generalize xs.getD i 0 = v at *
      have o2 := o.out
      rw [← hyl.out] at o2
      have hc2 := o2.cell i (by rw [hyl.out]; exact hlt)
      have hf2 := o2.froz i
      have o3 := (o2.drew (fk .quo v n)).set i (fz .quo v n wr)
      have hl3 := hls.out.set (by rw [hyl.out]; exact hlt) (fz .quo v n wr) (by rw [cl_fz, hfi]) (fz_lt _ _ _ _)
      rw [hyl.out] at o3
      have O3 : Hid _ := o3
      have L3 : Hid _ := hl3
      have Y3 : Hid ((ys.set i (fz .quo v n wr)).length = xs.length) := by show _ = _; rw [List.length_set, hyl.out]
      have hb3 : Below G w ((wr.drewN (fk .quo v n)).setCell ⟨G, i, none⟩ (.float .f64 (fz .quo v n wr))) := (below_drewN hb _).setCell (p := ⟨G, i, none⟩) (Nat.le_refl _) _
      generalize ys.getD i 0 = old at *
      clear o2 o3 hl3 hfi
      go_wp2
      exact ⟨⟨i + 1, _, by go_num, HI, Y3, O3, L3, hb3⟩, by simp [RowKit.intOf]; omega⟩
    · have hii : ¬ (i : Int) < xs.length := by omega
      have O3 : Hid (Fr wr G (.slice (some ⟨G, 0, none⟩) xs.length xs.length) ys) := o
      have L3 : Hid (Ls ys xs.length F) := by
        show Ls _ _ _
        rw [show xs.length = i by omega]
        exact hls
      go_wp2
      go_ret
      exact ⟨_, ys, rfl, by rw [← HG.out]; exact O3, hyl, L3, by rw [← HG.out]; exact hb⟩
end Go.Proofs.Ytmjenemjbpimcaa
/- Mean on both sides: the walks. -/
namespace Go.Proofs.Ytmjenemjbpimcaa
open Go.RowKit

theorem mean0 {xs : List Nat} (h : xs.length = 0) : meanF xs = none := if_pos h
theorem mean1 {xs : List Nat} (h : ¬ xs.length = 0) (h1 : infB (sumF (cs xs)) = false) : meanF xs = fb .quo (sumF (cs xs)) (some (nW xs.length)) := by
  unfold meanF; rw [if_neg h, if_neg (by rw [h1]; decide)]
theorem mean2 {xs : List Nat} (h : ¬ xs.length = 0) (h1 : infB (sumF (cs xs)) = true) (h2 : anyI xs xs.length = true) : meanF xs = fb .quo (sumF (cs xs)) (some (nW xs.length)) := by
  unfold meanF; rw [if_neg h, if_pos h1, if_pos h2]
theorem mean3 {xs : List Nat} (h : ¬ xs.length = 0) (h1 : infB (sumF (cs xs)) = true) (h2 : anyI xs xs.length = false) : meanF xs = sumF ((List.range xs.length).map (ptF xs (some (nW xs.length)))) := by
  unfold meanF; rw [if_neg h, if_pos h1, if_neg (by rw [h2]; decide)]

set_option maxHeartbeats 2000000 in
set_option maxRecDepth 100000 in
theorem mean_any (a : Option Addr) (c : Nat) (xs : List Nat) (w : World) (hf : Fm w a xs) (hw : Wd xs) (hl : 8 * xs.length ≤ 140737488355328) :
    Calls Try.prog 38 #[.slice a xs.length c] w (RB w (meanF xs)) := by
  have hq := @run_fquo Try.prog
  have hcv := cvn xs.length
  have kN := nan_any w
  have kS := sum_any a c xs w hf hw (by omega)
  have kC := fun k => contains_any a c xs (w.drewN k) (hf.drew k) hw (by omega)
  have kP := fun k => parted_any a c xs (nW xs.length) (w.drewN k) (hf.drew k) hl
  have hb0 := Below.refl w.heap.size w
  have HF : Hid (Fm w a xs) := hf
  have HW : Hid (Wd xs) := hw
  clear hf hw
  by_cases h0 : xs.length = 0
  · have HM : Hid (meanF xs = none) := mean0 h0
    have h0' : (xs.length : Int) = 0 := by omega
    go_enter Try.func38, Try.ntmps38
    go_wp2_with fail
    go_fit kN
    rintro r w ⟨rfl, rfl⟩
    go_wp2
    go_ret
    exact ⟨_, rfl, hb0, by decide, by rw [HM.out]; exact cl_theNaN⟩
  · have h0' : ¬ (xs.length : Int) = 0 := by omega
    have M1 : Hid (infB (sumF (cs xs)) = false → meanF xs = fb .quo (sumF (cs xs)) (some (nW xs.length))) := mean1 h0
    have M2 : Hid (infB (sumF (cs xs)) = true → anyI xs xs.length = true → meanF xs = fb .quo (sumF (cs xs)) (some (nW xs.length))) := mean2 h0
    have M3 : Hid (infB (sumF (cs xs)) = true → anyI xs xs.length = false → meanF xs = sumF ((List.range xs.length).map (ptF xs (some (nW xs.length))))) := mean3 h0
    go_enter Try.func38, Try.ntmps38
    go_wp2_with fail
    go_fit kS
    rintro r w1 ⟨z, k, rfl, rfl, hz, hcz⟩
    have kI := fun w => isInf_any z hz w
    have HC : Hid (cl z = sumF (cs xs)) := hcz
    clear hcz
    go_wp2_with fail
    go_fit (kI _)
    rintro r w2 ⟨rfl, rfl⟩
    cases hinf : infB (cl z)
    · go_wp2
      go_ret
      exact ⟨_, rfl, below_drewN hb0 _, fz_lt _ _ _ _, by rw [cl_fz, M1.out (by rw [← HC.out]; exact hinf), HC.out, nW_num]⟩
    · go_wp2_with fail
      go_fit (kC k)
      rintro r w3 ⟨rfl, rfl⟩
      cases hany : anyI xs xs.length
      · go_wp2_with fail
        go_fit (kP k)
        rintro r w4 ⟨v, ys, rfl, o, hyl, hls, hb⟩
        rw [← hyl] at hls
        obtain ⟨a2, c2, rfl, hf2⟩ := o.fm
        have kS2 := sum_any a2 c2 ys w4 hf2 hls.wd (by omega)
        have HB : Hid (Below w.heap.size w w4) := (below_drewN hb0 k).trans hb
        have HE : Hid (sumF (cs ys) = meanF xs) := by
          show _ = _
          rw [M3.out (by rw [← HC.out]; exact hinf) hany, hls.cs, hyl, nW_num]
        clear o hb hls hf2 kS kC kP hyl
        go_wp2_with fail
        go_fit kS2
        rintro r w5 ⟨z2, k2, rfl, rfl, hz2, hcz2⟩
        have HZ : Hid (cl z2 = meanF xs) := hcz2.trans HE.out
        clear hcz2
        go_wp2
        go_ret
        exact ⟨_, rfl, below_drewN HB.out _, hz2, HZ.out⟩
      · go_wp2
        go_ret
        exact ⟨_, rfl, below_drewN hb0 _, fz_lt _ _ _ _, by rw [cl_fz, M2.out (by rw [← HC.out]; exact hinf) hany, HC.out, nW_num]⟩

end Go.Proofs.Ytmjenemjbpimcaa
/- Variance and Spread on both sides. -/
namespace Go.Proofs.Ytmjenemjbpimcaa
open Go.RowKit

/-- The squares. -/
def sqF (xs : List Nat) (m : Option Nat) (j : Nat) : Option Nat := fb .mul (fb .sub (cl (xs.getD j 0)) m) (fb .sub (cl (xs.getD j 0)) m)
def varF (xs : List Nat) : Option Nat := if xs.length = 0 then none else fb .quo (sumF ((List.range xs.length).map (sqF xs (meanF xs)))) (some (nW xs.length))
theorem var0 {xs : List Nat} (h : xs.length = 0) : varF xs = none := if_pos h
theorem var1 {xs : List Nat} (h : ¬ xs.length = 0) : varF xs = fb .quo (sumF ((List.range xs.length).map (sqF xs (meanF xs)))) (some (nW xs.length)) := if_neg h

set_option maxHeartbeats 2000000 in
set_option maxRecDepth 100000 in
theorem variance_any (a : Option Addr) (c : Nat) (xs : List Nat) (w : World) (hf : Fm w a xs) (hw : Wd xs) (hl : 8 * xs.length ≤ 140737488355328) :
    Calls Try.prog 42 #[.slice a xs.length c] w (RB w (varF xs)) := by
  have hq := @run_fquo Try.prog
  have hs := @run_fsub Try.prog
  have hm := @run_fmul Try.prog
  have hsf := @run_store_float Try.prog
  have hcv := cvn xs.length
  have kN := nan_any w
  have kM := mean_any a c xs w hf hw hl
  have hb0 := Below.refl w.heap.size w
  have HF : Hid (Fm w a xs) := hf
  clear hf hw
  by_cases h0 : xs.length = 0
  · have HM : Hid (varF xs = none) := var0 h0
    have h0' : (xs.length : Int) = 0 := by omega
    go_enter Try.func42, Try.ntmps42
    go_wp2_with fail
    go_fit kN
    rintro r w ⟨rfl, rfl⟩
    go_wp2
    go_ret
    exact ⟨_, rfl, hb0, by decide, by rw [HM.out]; exact cl_theNaN⟩
  · have h0' : ¬ (xs.length : Int) = 0 := by omega
    have HV : Hid (varF xs = fb .quo (sumF ((List.range xs.length).map (sqF xs (meanF xs)))) (some (nW xs.length))) := var1 h0
    have HP : Hid (∀ j, sqF xs (meanF xs) j = fb .mul (fb .sub (cl (xs.getD j 0)) (meanF xs)) (fb .sub (cl (xs.getD j 0)) (meanF xs))) := fun j => rfl
    generalize sqF xs (meanF xs) = F at *
    go_enter Try.func42, Try.ntmps42
    go_wp2_with fail
    go_fit kM
    rintro r w0 ⟨m, rfl, hbm, hml, hcm⟩
    obtain ⟨w1, r1, o1, b1⟩ := make_f w0 xs.length (by omega)
    have O1 : Hid (Fr w1 w0.heap.size (.slice (some ⟨w0.heap.size, 0, none⟩) xs.length xs.length) (List.replicate xs.length 0)) := o1
    have HF0 : Hid (Fm w0 a xs) := HF.out.below hbm
    have HCM : Hid (cl m = meanF xs) := hcm
    have HBM : Hid (Below w.heap.size w w0) := hbm
    obtain ⟨G, hG⟩ : ∃ G, G = w0.heap.size := ⟨_, rfl⟩
    have HG : Hid (G = w0.heap.size) := hG
    rw [← hG] at r1 O1 b1
    clear hG o1 hcm hbm kM kN
    go_wp2
    go_loopw [19] (fun iv w' => ∃ (i : Nat) (ys : List Nat), iv = .int .i64 (i : Int) ∧ i ≤ xs.length ∧ Hid (ys.length = xs.length) ∧ Hid (Fr w' G (.slice (some ⟨G, 0, none⟩) xs.length xs.length) ys) ∧ Hid (Ls ys i F) ∧ Below G w0 w') (fun iv _ => xs.length - (RowKit.intOf iv).toNat)
    case atStart => exact ⟨0, _, rfl, by omega, (by simp : _ = _), O1, Ls.nil _ _, b1⟩
    case round =>
      obtain ⟨i, ys, rfl, hi, hyl, o, hls, hb⟩ := hrel
      by_cases hlt : i < xs.length
      · have hii : (i : Int) < xs.length := by omega
        rcases HF0.out with h0 | ⟨g, o', rfl, hg, hat⟩
        · rw [h0] at hlt; simp at hlt
        have hcell := (hb.cell (p := ⟨g, o' + i, none⟩) (by rw [HG.out]; exact hg)).trans (hat i hlt)
        have HI : Hid (i + 1 ≤ xs.length) := hlt
        have hfi := HP.out i
        clear hat
        generalize xs.getD i 0 = v at *
        obtain ⟨d, hd⟩ : ∃ d, d = fz .sub v m wr := ⟨_, rfl⟩
        have hcd : cl d = fb .sub (cl v) (meanF xs) := by rw [hd, cl_fz, HCM.out]
        rw [← hcd] at hfi
        have e1 : ∀ t, (binOp .sub t (.float .f64 v) (.float .f64 m)).run Try.prog wr = .ok (.float .f64 d) (wr.drewN (fk .sub v m)) := fun t => by rw [run_fsub, hd]
        have o2 := o.out
        rw [← hyl.out] at o2
        have hc2 := o2.cell i (by rw [hyl.out]; exact hlt)
        have hf2 := o2.froz i
        have o3 := (o2.drew (fk .sub v m + fk .mul d d)).set i (fz .mul d d (wr.drewN (fk .sub v m)))
        have hl3 := hls.out.set (by rw [hyl.out]; exact hlt) (fz .mul d d (wr.drewN (fk .sub v m))) (by rw [cl_fz, hfi]) (fz_lt _ _ _ _)
        rw [hyl.out] at o3
        have O3 : Hid _ := o3
        have L3 : Hid _ := hl3
        have Y3 : Hid ((ys.set i (fz .mul d d (wr.drewN (fk .sub v m)))).length = xs.length) := by show _ = _; rw [List.length_set, hyl.out]
        have hb3 : Below G w0 ((wr.drewN (fk .sub v m + fk .mul d d)).setCell ⟨G, i, none⟩ (.float .f64 (fz .mul d d (wr.drewN (fk .sub v m))))) := (below_drewN hb _).setCell (p := ⟨G, i, none⟩) (Nat.le_refl _) _
        generalize ys.getD i 0 = old at *
        clear o2 o3 hl3 hfi hd hcd hs
        go_wp2
        exact ⟨⟨i + 1, _, by go_num, HI, Y3, O3, L3, hb3⟩, by simp [RowKit.intOf]; omega⟩
      · have hii : ¬ (i : Int) < xs.length := by omega
        obtain rfl : i = xs.length := by omega
        obtain ⟨a2, c2, e2, hf2⟩ := o.out.fm
        rw [hyl.out] at e2
        cases e2
        have kS2 := sum_any (some ⟨G, 0, none⟩) xs.length ys wr hf2 (by have := hls.out; rw [← hyl.out] at this; exact this.wd) (by have := hyl.out; omega)
        rw [hyl.out] at kS2
        have HE : Hid (sumF (cs ys) = sumF ((List.range xs.length).map F)) := by
          have := hls.out
          rw [← hyl.out] at this ⊢
          show _ = _
          rw [this.cs]
        have HB : Hid (Below w.heap.size w wr) := HBM.out.trans (hb.mono (by rw [HG.out]; exact HBM.out.size))
        clear hf2
        go_wp2_with fail
        go_fit kS2
        rintro r w3 ⟨z2, k2, rfl, rfl, hz2, hcz2⟩
        have HZ : Hid (cl z2 = sumF ((List.range xs.length).map F)) := hcz2.trans HE.out
        clear hcz2
        go_wp2
        go_ret
        exact ⟨_, rfl, below_drewN HB.out _, fz_lt _ _ _ _, by rw [cl_fz, HV.out, HZ.out, nW_num]⟩

end Go.Proofs.Ytmjenemjbpimcaa
/- Spread on both sides; CalcSums: the law's walk. -/
namespace Go.Proofs.Ytmjenemjbpimcaa
open Go.RowKit

def sprF (xs : List Nat) : Option Nat := fsq (varF xs)
set_option maxHeartbeats 400000 in
theorem spread_any (a : Option Addr) (c : Nat) (xs : List Nat) (w : World) (hf : Fm w a xs) (hw : Wd xs) (hl : 8 * xs.length ≤ 140737488355328) :
    Calls Try.prog 40 #[.slice a xs.length c] w (RB w (sprF xs)) := by
  have kV := variance_any a c xs w hf hw hl
  go_enter Try.func40, Try.ntmps40
  go_wp2_with fail
  go_fit kV
  rintro r w1 ⟨z, rfl, hb, hz, hc⟩
  have kQ := sqrt_any z w1
  go_wp2_with fail
  go_fit kQ
  rintro r w2 ⟨z2, k2, rfl, rfl, hz2, hc2⟩
  have HC : Hid (cl z2 = sprF xs) := by
    show _ = _
    rw [hc2, hc]; rfl
  clear hc hc2
  go_wp2
  go_ret
  exact ⟨_, rfl, below_drewN hb _, hz2, HC.out⟩
end Go.Proofs.Ytmjenemjbpimcaa
