/- CalcHistograms: the law's walk. -/
import Derived.Test.YtfjfpplemgjcmaaCm
namespace Go.Proofs.Ytfjfpplemgjcmaa
open Go.RowKit

/-- The quantile of buckets, by a part or beyond. -/
def DQ (q : Nat) (bs : Nat → Bk) (n : Nat) (d : Option Nat) : Prop := (Pt q ∧ BuV bs n (cl q) d) ∨ byP q d
theorem byP.one {q : Nat} {c d : Option Nat} (h : byP q c) (h' : byP q d) : c = d := by
  rcases h with ⟨a, rfl⟩ | ⟨a, b, rfl⟩ | ⟨a, b, rfl⟩ <;> rcases h' with ⟨a', rfl⟩ | ⟨a', b', rfl⟩ | ⟨a', b', rfl⟩
  all_goals first | rfl | (rw [a] at a'; cases a'; done) | omega
theorem byP.not {q : Nat} {c : Option Nat} (h : byP q c) (h' : Pt q) : False := by
  rcases h with ⟨a, _⟩ | ⟨_, b, _⟩ | ⟨_, b, _⟩
  · rw [h'.1] at a; cases a
  · have := h'.2.1; omega
  · have := h'.2.2; omega
theorem DQ.one {q : Nat} {bs : Nat → Bk} {n : Nat} {c d : Option Nat} (h : DQ q bs n c) (h' : DQ q bs n d) : c = d := by
  rcases h with ⟨p, h⟩ | h <;> rcases h' with ⟨p', h'⟩ | h'
  · exact h.one h'
  · exact (h'.not p).elim
  · exact (h.not p').elim
  · exact h.one h'
theorem rf_rb {w w' : World} {d : Option Nat} {r : Ending} (h : RF w d r w') : RB w d r w' := by
  obtain ⟨z, k, h1, rfl, h2, h3⟩ := h
  exact ⟨z, h1, below_drewN (Below.refl _ _) k, h2, h3⟩
theorem bu_prog (q : Nat) (a : Option Addr) (c n : Nat) (bs : Nat → Bk) (w : World) (hf : Bml w a bs n) (hw : BW bs n) (hl : 16 * n ≤ 140737488355328) :
    Calls Try.prog 14 #[.float .f64 q, .slice a n c] w fun r w' => ∃ d, DQ q bs n d ∧ RB w d r w' := by
  rcases part_or q with hq | ⟨d, hq⟩
  · exact (buckets_part q hq a c n bs w hf hw hl).mono fun r w' ⟨d, h1, h2⟩ => ⟨d, .inl ⟨hq, h1⟩, h2⟩
  · exact (buckets_beyond q d hq _ w).mono fun r w' h => ⟨d, .inr hq, rf_rb h⟩
theorem rsort_seg (a : Option Addr) (c n : Nat) (bs : Nat → Bk) (w : World) (hf : Bml w a bs n) (hw : BW bs n) (hl : 16 * n ≤ 140737488355328) (hc : n ≤ c) (hc2 : c ≤ 4611686018427387904) :
    Calls Try.prog 61 #[.slice a n c] w (SoB w (seg bs 0 n)) := by
  by_cases h0 : n = 0
  · subst h0
    exact rsortB_nil a c w
  · rcases hf with h | ⟨g, o, rfl, hg, hat⟩
    · exact absurd h h0
    · have hlen : (seg bs 0 n).length = n := seg_length _ _ _
      have hget : ∀ j, j < n → gB (seg bs 0 n) j = bs j := fun j hj => by
        have e := seg_gB (seg bs 0 n)
        rw [hlen] at e
        obtain ⟨_, h⟩ := seg_at (gB (seg bs 0 n)) bs n n 0 e
        have := h j hj
        rw [Nat.zero_add] at this
        exact this
      have := rsortB_any n g o c (seg bs 0 n) w (by omega) (fun e => by rw [e] at hlen; exact h0 hlen.symm) (by omega) hc2 hg (fun j hj => by
        rw [hlen] at hj
        rw [hget j hj]
        exact hat j hj) (fun u hu => by
        obtain ⟨j, _, hj, rfl⟩ := (mem_seg _ _ _ _).1 hu
        exact hw j (by omega)) (by omega)
      rw [hlen] at this
      exact this
theorem bu_ref (q : Nat) (a : Option Addr) (c n : Nat) (bs : Nat → Bk) (w : World) (hf : Bml w a bs n) (hw : BW bs n) (hl : 16 * n ≤ 140737488355328) (hc : n ≤ c) (hc2 : c ≤ 4611686018427387904) :
    Calls Try.prog 19 #[.float .f64 q, .slice a n c] w fun r w' => ∃ d, DQ q bs n d ∧ RB w d r w' := by
  rcases part_or q with hq | ⟨d, hq⟩
  · exact (rbuckets_part q hq _ n bs w (steps_any a c n bs w (rsort_seg a c n bs w hf hw hl hc hc2) hl)).mono fun r w' ⟨d, h1, h2⟩ => ⟨d, .inl ⟨hq, h1⟩, h2⟩
  · exact (rbuckets_beyond q d hq _ w).mono fun r w' h => ⟨d, .inr hq, rf_rb h⟩
/-- The two buckets that are tried first. -/
def two : Nat → Bk := fun j => if j = 0 then (4607182418800017408, 4607182418800017408) else (9218868437227405312, 4611686018427387904)
theorem two_val : buC (cl 4602678819172646912) (jnI (fun j => ab' (two j)) 2) = some 4607182418800017408 := by decide +kernel
theorem two_part : Pt 4602678819172646912 := ⟨by decide, by decide, by decide⟩
theorem two_is (d : Option Nat) (h : DQ 4602678819172646912 two 2 d) : d = some 4607182418800017408 := by
  refine h.one (.inl ⟨two_part, 2, two, ?_, ?_, two_val.symm⟩)
  · have e : (seg two 0 2).filter nn = seg two 0 2 := by decide +kernel
    rw [e]; exact Sim.refl _
  · refine List.pairwise_cons.2 ⟨fun y hy => ?_, List.pairwise_singleton _ _⟩
    rw [List.mem_singleton.1 hy]
    decide +kernel
abbrev cells4 : Obj := .cells #[.float .f64 4607182418800017408, .float .f64 4607182418800017408, .float .f64 9218868437227405312, .float .f64 4611686018427387904] 34
theorem two_mem (w : World) : Bml (w.alloc cells4) (some ⟨w.heap.size, 0, none⟩) two 2 := by
  refine .inr ⟨w.heap.size, 0, rfl, by simp, fun j hj => ?_⟩
  have e : (w.alloc cells4).heap[w.heap.size]? = some cells4 := heap_alloc_new w _
  have : j = 0 ∨ j = 1 := by omega
  rcases this with rfl | rfl <;> (unfold World.cell?; rw [e]; exact ⟨rfl, rfl⟩)
theorem two_words : BW two 2 := fun j _ => by
  unfold two
  split <;> exact ⟨by decide, by decide⟩
set_option maxHeartbeats 2000000 in
set_option maxRecDepth 100000 in
theorem histograms_walk (q : Nat) (a : Option Addr) (c n : Nat) (bs : Nat → Bk) (w : World) (hf : Bml w a bs n) (hw : BW bs n) (hl : 16 * n ≤ 140737488355328) (hc : n ≤ c) (hc2 : c ≤ 4611686018427387904) :
    Calls Try.prog 7 #[.float .f64 q, .slice a n c] w fun r w' => r = .returned (.bool true) ∧ Below w.heap.size w w' := by
  have kI := inf1_any
  have k0 := bu_prog 4602678819172646912 (some ⟨w.heap.size, 0, none⟩) 2 2 two (w.alloc cells4) (two_mem w) two_words (by decide)
  have e0 : FloatKind.f64.format.order 4607182418800017408 4607182418800017408 = some .eq := by decide
  have hb0 : Below w.heap.size w (w.alloc cells4) := (Below.refl _ _).alloc (Nat.le_refl _) _
  have k1 : Hid (∀ w1, Below w.heap.size w w1 → Calls Try.prog 19 #[.float .f64 q, .slice a n c] w1 fun r w' => ∃ d, DQ q bs n d ∧ RB w1 d r w') := fun w1 hb => bu_ref q a c n bs w1 (hf.below hb) hw hl hc hc2
  have k2 : Hid (∀ w1, Below w.heap.size w w1 → Calls Try.prog 14 #[.float .f64 q, .slice a n c] w1 fun r w' => ∃ d, DQ q bs n d ∧ RB w1 d r w') := fun w1 hb => bu_prog q a c n bs w1 (hf.below hb) hw hl
  clear hf hw
  go_enter Try.func7, Try.ntmps7
  go_wp2_with fail
  go_fit (kI _)
  rintro r w0 ⟨rfl, rfl⟩
  go_wp2_with fail
  go_fit k0
  rintro r w1 ⟨d, hd, z, rfl, hb, _, hz⟩
  rw [two_is d hd] at hz
  obtain ⟨rfl, _⟩ := cl_some hz
  have b1 := hb0.trans (hb.mono hb0.size)
  have kA := k1.out w1 b1
  clear hb hz k0 hd hb0
  go_wp2_with fail
  go_fit kA
  rintro r w2 ⟨d1, hd1, z1, rfl, hb2, _, hz1⟩
  have b2 := b1.trans (hb2.mono b1.size)
  have kB := k2.out w2 b2
  have D1 : Hid (DQ q bs n d1) := hd1
  have Z1 : Hid (cl z1 = d1) := hz1
  clear hb2 hd1 hz1 kA
  go_wp2_with fail
  go_fit kB
  rintro r w3 ⟨d2, hd2, z2, rfl, hb3, _, hz2⟩
  have b3 := b2.trans (hb3.mono b2.size)
  have kC := fun w' => alike_any z2 z1 (by rw [hz2, Z1.out]; exact hd2.one D1.out) w'
  clear hb3 hd2 hz2 kB
  go_wp2_with fail
  go_fit (kC _)
  rintro r w4 ⟨rfl, rfl⟩
  go_wp2
  go_ret
  exact ⟨rfl, b3⟩
end Go.Proofs.Ytfjfpplemgjcmaa
