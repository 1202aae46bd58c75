/- ChunkGrows: sorted, bit. -/
import Derived.Test.YtedlmjieclaojaaDoorDi
namespace Go.Proofs.YtedlmjieclaojaaDoor
open Go.RowKit

/-- The samples whose times rise. -/
def stp (acc : List Smp) (x : Smp) : List Smp := if (decide (acc.length = 0) || decide ((fin t0 acc).tm < x.t)) = true then acc ++ [x] else acc
def srt (l : List Smp) : List Smp := l.foldl stp []
theorem stp_rs (acc : List Smp) (x : Smp) (h : rsB acc = true) : rsB (stp acc x) = true := by
  unfold stp
  by_cases hc : (decide (acc.length = 0) || decide ((fin t0 acc).tm < x.t)) = true
  · rw [if_pos hc, rsB_snoc, h, hc]; rfl
  · rw [if_neg hc]; exact h
theorem stp_sok (acc : List Smp) (x : Smp) (h : ∀ y ∈ acc, Sok y) (hx : Sok x) : ∀ y ∈ stp acc x, Sok y := by
  unfold stp
  split
  · intro y hy
    rcases List.mem_append.1 hy with hy | hy
    · exact h y hy
    · rw [List.mem_singleton.1 hy]; exact hx
  · exact h
theorem fold_ok (l : List Smp) : ∀ acc, rsB acc = true → (∀ y ∈ acc, Sok y) → (∀ x ∈ l, Sok x) → rsB (l.foldl stp acc) = true ∧ ∀ y ∈ l.foldl stp acc, Sok y := by
  induction l with
  | nil => intro acc h1 h2 _; exact ⟨h1, h2⟩
  | cons x l ih => intro acc h1 h2 h3; exact ih _ (stp_rs acc x h1) (stp_sok acc x h2 (h3 x (List.mem_cons_self ..))) (fun y hy => h3 y (List.mem_cons_of_mem _ hy))
theorem srt_ok (l : List Smp) (h : ∀ x ∈ l, Sok x) : rsB (srt l) = true ∧ ∀ y ∈ srt l, Sok y := fold_ok l [] rfl (fun y hy => by cases hy) h
theorem stp_len (acc : List Smp) (x : Smp) : (stp acc x).length ≤ acc.length + 1 := by unfold stp; split <;> simp
/-- One sample behind a row that has room for it. -/
theorem append_fit (w : World) (S g q C : Nat) (l : List Smp) (x : Smp) (hS : S ≤ w.heap.size) (hq : q + 1 ≤ C) (o : w.ownsRow S 38 3 (.slice (some ⟨g, 0, none⟩) q C) q (smc l)) :
    ∃ w', (Builtin.append_ #[22, 22] 22 #[.slice (some ⟨g, 0, none⟩) q C, .slice (some ⟨w.heap.size, 0, none⟩) 1 1]).run Tryd.prog (w.alloc (smX x)) = .ok (.slice (some ⟨g, 0, none⟩) (q + 1) C) w' ∧
      w'.ownsRow S 38 3 (.slice (some ⟨g, 0, none⟩) (q + 1) C) (q + 1) (smc (l ++ [x])) ∧ Below S w w' := by
  obtain ⟨i0, hi, hz0, hz1, hz2⟩ := info_parts info38
  have o0 := o.alloc (smX x)
  obtain ⟨w', r, o', g'⟩ := run_append_fits (P := Tryd.prog) (w.alloc (smX x)) S 22 22 38 i0 3 Tryd.underlying22 hi hz1 g q C (smc l) o0 ⟨w.heap.size, 0, none⟩ 1 1 (c3 x) (by rfl)
    (fun j u hj => by
      rw [Go.WideShapes.add_plain, Nat.zero_add]
      unfold World.cell?
      rw [show (w.alloc (smX x)).heap[w.heap.size]? = some (smX x) from heap_alloc_new w _]
      simpa [c3] using hj) (by intro u hu; simp [c3] at hu; rcases hu with rfl | rfl | rfl <;> rfl) hq
  refine ⟨w', r, ?_, ?_⟩
  · rw [smc_snoc]; exact o'
  · exact ((Below.refl S w).alloc hS _).grown g' (by simp; omega) (fun k hk => by
      obtain rfl := Option.some.inj hk
      exact (o.lt _ rfl).1)
set_option maxHeartbeats 2000000 in
set_option maxRecDepth 100000 in
theorem sorted_any (a : Option Addr) (c : Nat) (l : List Smp) (w : World) (hm : Sm w a l) (hl : l.length * 24 ≤ 140737488355328) :
    Calls Tryd.prog 10 #[.slice a l.length c] w fun e w' => ∃ G C, e = .returned (.slice (some ⟨G, 0, none⟩) (srt l).length C) ∧ w'.ownsRow w.heap.size 38 3 (.slice (some ⟨G, 0, none⟩) (srt l).length C) (srt l).length (smc (srt l)) ∧ Below w.heap.size w w' := by
  obtain ⟨i0, hi, hz0, hz1, hz2⟩ := info_parts info38
  obtain ⟨w2, r2, o2, g2⟩ := run_make_own (P := Tryd.prog) w w.heap.size 22 38 i0 _ 3 Tryd.underlying22 hi hz0 hz1 .i64 .i64 l.length (by rw [hz2]; omega) (by unfold maxLen; omega) (Nat.le_refl _)
  have hb2 : Below w.heap.size w w2 := (Below.refl _ _).grown g2 (Nat.le_refl _) (fun k hk => by cases hk)
  have HM : Hid (Sm w a l) := hm
  have HO : Hid (w2.ownsRow w.heap.size 38 3 (.slice (some ⟨w.heap.size, 0, none⟩) 0 l.length) 0 []) := o2
  have HB2 : Hid _ := hb2
  have HSR : Hid (srt l = l.foldl stp []) := rfl
  obtain ⟨n, hn⟩ : ∃ n, n = l.length := ⟨_, rfl⟩
  rw [← hn] at hl r2 HO ⊢
  have HN : Hid (n = l.length) := hn
  have hni : (n : Int) ≤ 140737488355328 := by omega
  obtain ⟨B, hB⟩ : ∃ B, B = w.heap.size := ⟨_, rfl⟩
  have HBB : Hid (B = w.heap.size) := hB
  rw [← hB] at r2 HO
  clear hm o2 hb2 g2 hi hz0 hz1 hz2 hn hB
  go_enter Tryd.func10, Tryd.ntmps10
  go_wp2_with fail
  clear r2
  go_loopw [3, 4] (fun sv iv w' => ∃ i q : Nat, iv = .int .i64 (i : Nat) ∧ i ≤ n ∧ q ≤ i ∧ sv = .slice (some ⟨B, 0, none⟩) q n ∧ Hid (((l.take i).foldl stp []).length = q) ∧ Hid (w'.ownsRow w.heap.size 38 3 (.slice (some ⟨B, 0, none⟩) q n) q (smc ((l.take i).foldl stp []))) ∧ Hid (Below w.heap.size w w')) (fun _ iv _ => n - (RowKit.intOf iv).toNat)
  case atStart => exact ⟨0, 0, rfl, Nat.zero_le _, Nat.le_refl _, rfl, rfl, by rw [← HBB.out]; exact HO, HB2⟩
  case round =>
    obtain ⟨i, q, rfl, hi, hq, rfl, hlen, ho, hbw⟩ := hrel
    by_cases hlt : i < n
    · have hii : (i : Int) < (n : Int) := by omega
      obtain ⟨x, hx⟩ : ∃ x, l[i]? = some x := ⟨l[i]'(by have := HN.out; omega), List.getElem?_eq_getElem _⟩
      obtain ⟨g, o, rfl, hg, hcs⟩ : ∃ g o, a = some ⟨g, o, none⟩ ∧ g < w.heap.size ∧ _ := by
        rcases HM.out with h | h
        · have := HN.out; rw [h] at this; simp at this; omega
        · exact h
      obtain ⟨x0, x1, x2⟩ := hcs i x hx
      have htk : (l.take (i + 1)).foldl stp [] = stp ((l.take i).foldl stp []) x := by
        rw [List.take_add_one, hx]
        show (l.take i ++ [x]).foldl stp [] = _
        rw [List.foldl_append]
        rfl
      have HTK : Hid (_ = _) := htk
      clear hcs hx htk
      generalize (l.take i).foldl stp [] = acc at *
      have y0 := (hbw.out.cell (p := ⟨g, o + i * 3, none⟩) hg).trans x0
      have y1 := (hbw.out.cell (p := ⟨g, o + i * 3 + 1, none⟩) hg).trans x1
      have y2 := (hbw.out.cell (p := ⟨g, o + i * 3 + 2, none⟩) hg).trans x2
      clear x0 x1 x2
      obtain ⟨t, vv, s⟩ := x
      dsimp only at y0 y1 y2
      have HPUSH : Hid (∀ W, Below wr.heap.size wr W → stp acc ⟨t, vv, s⟩ = acc ++ [⟨t, vv, s⟩] → ∃ w', (Builtin.append_ #[22, 22] 22 #[.slice (some ⟨B, 0, none⟩) q n, .slice (some ⟨W.heap.size, 0, none⟩) 1 1]).run Tryd.prog (W.alloc (smX ⟨t, vv, s⟩)) = .ok (.slice (some ⟨B, 0, none⟩) (q + 1) n) w' ∧ Hid ((stp acc ⟨t, vv, s⟩).length = q + 1) ∧ Hid (w'.ownsRow w.heap.size 38 3 (.slice (some ⟨B, 0, none⟩) (q + 1) n) (q + 1) (smc (stp acc ⟨t, vv, s⟩))) ∧ Hid (Below w.heap.size w w')) := fun W hW hst => by
        have hbW : Below w.heap.size w W := hbw.out.trans (hW.mono hbw.out.size)
        obtain ⟨w', r, o', b'⟩ := append_fit W w.heap.size B q n acc ⟨t, vv, s⟩ hbW.size (by omega) (Kp.row (M := fun _ => False) (Kp.of hW) ho.out (fun _ _ => id))
        refine ⟨w', r, ?_, ?_, hbW.trans b'⟩
        · show _ = _
          rw [hst, List.length_append, hlen.out]; rfl
        · rw [hst]; exact o'
      cases q with
      | zero =>
        have HST : Hid (stp acc ⟨t, vv, s⟩ = acc ++ [⟨t, vv, s⟩]) := by show _ = _; unfold stp; rw [hlen.out]; rfl
        go_wp2_with fail
        go_big_quiet (fail)
        have hbD := bdrew (Below.refl wr.heap.size wr) nq
        have z0 := bcell2 hbD y0
        have z1 := bcell2 hbD y1
        have z2 := bcell2 hbD y2
        obtain ⟨w5, r5, h5a, h5b, h5c⟩ := HPUSH.out _ hbD HST.out
        rw [← HTK.out] at h5a h5b
        clear HST HPUSH hlen ho hbw HTK y0 y1 y2 hbD
        generalize wr.drewN nq = W2 at *
        go_wp2_with (at_builtin; refine wpList_append_run rfl (.tmp 32) (.tmp 37) 22 22 rfl _ _ rfl rfl r5 ?_)
        exact ⟨⟨i + 1, _, by go_num, by omega, by omega, rfl, h5a, h5b, h5c⟩, by simp [RowKit.intOf]; omega⟩
      | succ q =>
        obtain ⟨acc', y, hacc⟩ : ∃ acc' y, acc = acc' ++ [y] := by
          have : acc ≠ [] := fun e => by have := hlen.out; rw [e] at this; simp at this
          exact ⟨acc.dropLast, acc.getLast this, (List.dropLast_concat_getLast this).symm⟩
        have hl' : acc'.length = q := by have := hlen.out; rw [hacc, List.length_append] at this; simpa using this
        have c0 : wr.cell? ⟨B, q * 3, none⟩ = some (.int .i64 y.t) := by
          have h1 := (smc_get acc q y (by rw [hacc, List.getElem?_append_right (by omega)]; simp [hl'])).1
          have := ho.out.cells (g := B) rfl _ _ h1
          rw [Go.WideShapes.add_plain, Nat.zero_add] at this
          exact this
        have htm : (fin t0 acc).tm = y.t := by rw [hacc, fin_tm]
        have HST0 : Hid (stp acc ⟨t, vv, s⟩ = if y.t < t then acc ++ [⟨t, vv, s⟩] else acc) := by
          show _ = _
          unfold stp
          rw [hlen.out, htm]
          by_cases h : y.t < t <;> simp [h]
        generalize y.t = ty at *
        have hqn : (q : Int) < (n : Int) := by omega
        have hq1 : ((q : Int) + 1 == 0) = false := by simp; omega
        have hq2 : IntKind.i64.wrap ((q : Int) + 1 - 1) = (q : Nat) := by rw [IntKind.wrap_i64]; omega
        have hq3 : IntKind.i64.wrap (q : Int) = (q : Nat) := by rw [IntKind.wrap_i64]; omega
        clear hacc hl' htm
        by_cases hty : ty < t
        · have HST : Hid (stp acc ⟨t, vv, s⟩ = acc ++ [⟨t, vv, s⟩]) := by have := HST0.out; rw [if_pos hty] at this; exact this
          have hgt : decide (t > ty) = true := by simpa using hty
          clear HST0
          go_wp2_with fail
          go_big_quiet (fail)
          have hbD := bdrew (Below.refl wr.heap.size wr) nq
          have z0 := bcell2 hbD y0
          have z1 := bcell2 hbD y1
          have z2 := bcell2 hbD y2
          obtain ⟨w5, r5, h5a, h5b, h5c⟩ := HPUSH.out _ hbD HST.out
          rw [← HTK.out] at h5a h5b
          clear HST HPUSH hlen ho hbw HTK y0 y1 y2 hbD
          generalize wr.drewN nq = W2 at *
          go_wp2_with (at_builtin; refine wpList_append_run rfl (.tmp 32) (.tmp 37) 22 22 rfl _ _ rfl rfl r5 ?_)
          exact ⟨⟨i + 1, _, by go_num, by omega, by omega, rfl, h5a, h5b, h5c⟩, by simp [RowKit.intOf]; omega⟩
        · have HST : Hid (stp acc ⟨t, vv, s⟩ = acc) := by have := HST0.out; rw [if_neg hty] at this; exact this
          have hgt : decide (t > ty) = false := by simpa using hty
          clear HST0
          go_wp2_with fail
          go_big_quiet (fail)
          have h5a : Hid (((l.take (i + 1)).foldl stp []).length = q + 1) := by rw [HTK.out, HST.out]; exact hlen
          have hbD := bdrew (Below.refl wr.heap.size wr) nq
          have h5b : Hid ((wr.drewN nq).ownsRow w.heap.size 38 3 (.slice (some ⟨B, 0, none⟩) (q + 1) n) (q + 1) (smc ((l.take (i + 1)).foldl stp []))) := by
            rw [HTK.out, HST.out]
            exact Kp.row (M := fun _ => False) (Kp.of hbD) ho.out (fun _ _ => id)
          have h5c : Hid (Below w.heap.size w (wr.drewN nq)) := hbw.out.trans (hbD.mono hbw.out.size)
          clear HST HPUSH hlen ho hbw HTK y0 y1 y2 hbD c0
          go_wp2
          exact ⟨⟨i + 1, q + 1, by go_num, by omega, by omega, rfl, h5a, h5b, h5c⟩, by simp [RowKit.intOf]; omega⟩
    · have hii : ¬ (i : Int) < (n : Int) := by omega
      have htk : l.take i = l := List.take_of_length_le (by have := HN.out; omega)
      rw [htk] at hlen ho
      have HFin : Hid (∃ G C, Ending.returned (.slice (some ⟨B, 0, none⟩) q n) = .returned (.slice (some ⟨G, 0, none⟩) (srt l).length C) ∧ wr.ownsRow w.heap.size 38 3 (.slice (some ⟨G, 0, none⟩) (srt l).length C) (srt l).length (smc (srt l)) ∧ Below w.heap.size w wr) := by
        have e : (srt l).length = q := by rw [HSR.out]; exact hlen.out
        rw [e]
        exact ⟨B, n, rfl, ho.out, hbw.out⟩
      clear htk hlen ho hbw
      go_wp2
      go_ret
      exact HFin.out
end Go.Proofs.YtedlmjieclaojaaDoor
