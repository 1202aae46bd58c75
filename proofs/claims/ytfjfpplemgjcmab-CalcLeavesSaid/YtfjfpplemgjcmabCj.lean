/- Buckets in memory; rows that a call makes of them; the sort of an empty row. -/
import Derived.Test.YtfjfpplemgjcmabCd
import Derived.Test.YtfjfpplemgjcmabBa
import Derived.Test.YtfjfpplemgjcmabSa
import Derived.Test.YtfjfpplemgjcmabEx
import Derived.Test.YtfjfpplemgjcmabQg
namespace Go.Proofs.Ytfjfpplemgjcmab
open Go.RowKit

/-- Buckets in memory. -/
def BAt (w : World) (g o : Nat) (bs : Nat → Bk) (n : Nat) : Prop := ∀ j, j < n → w.cell? ⟨g, o + j * 2, none⟩ = some (.float .f64 (bs j).1) ∧ w.cell? ⟨g, o + j * 2 + 1, none⟩ = some (.float .f64 (bs j).2)
def Bml (w : World) (a : Option Addr) (bs : Nat → Bk) (n : Nat) : Prop := n = 0 ∨ ∃ g o, a = some ⟨g, o, none⟩ ∧ g < w.heap.size ∧ BAt w g o bs n
def BW (bs : Nat → Bk) (n : Nat) : Prop := ∀ j, j < n → (bs j).1 < 18446744073709551616 ∧ (bs j).2 < 18446744073709551616
theorem Bml.below {w w' : World} {a : Option Addr} {bs : Nat → Bk} {n : Nat} (h : Bml w a bs n) (hb : Below w.heap.size w w') : Bml w' a bs n := by
  rcases h with h | ⟨g, o, rfl, hg, h⟩
  · exact .inl h
  · refine .inr ⟨g, o, rfl, Nat.lt_of_lt_of_le hg hb.size, fun j hj => ?_⟩
    obtain ⟨h1, h2⟩ := h j hj
    exact ⟨(hb.cell (p := ⟨g, o + j * 2, none⟩) hg).trans h1, (hb.cell (p := ⟨g, o + j * 2 + 1, none⟩) hg).trans h2⟩
/-- A row of buckets that a call made, the empty one too. -/
def Br (w : World) (S : Nat) (v : Value) (n : Nat) (f : Nat → Bk) : Prop := w.ownsRow S 40 2 v n (bc f n)
theorem Br.nil (w : World) (S : Nat) (f : Nat → Bk) : Br w S (.slice none 0 0) 0 f := World.ownsRow_nil w S 40 2
theorem Br.below {w w' : World} {S n : Nat} {v : Value} {f : Nat → Bk} (h : Br w S v n f) (hb : Below w.heap.size w w') : Br w' S v n f := by
  refine ⟨h.1, ?_⟩
  rcases h.2 with h0 | ⟨g, cap, cur, hv, hB, hg, r⟩
  · exact .inl h0
  · exact .inr ⟨g, cap, cur, hv, hB, (hb.block g (Array.getElem?_eq_some_iff.1 hg).1).trans hg, r⟩
theorem Br.drew {w : World} {S n : Nat} {v : Value} {f : Nat → Bk} (h : Br w S v n f) (k : Nat) : Br (w.drewN k) S v n f := h
theorem Br.parts {w : World} {S n : Nat} {v : Value} {f : Nat → Bk} (h : Br w S v n f) : (v = .slice none 0 0 ∧ n = 0) ∨ ∃ g c, v = .slice (some ⟨g, 0, none⟩) n c ∧ Rb w S g c n f ∧ n ≤ c := by
  rcases h.2 with ⟨rfl, h0⟩ | ⟨g, c, cur, rfl, h1, h2, h3, h4⟩
  · exact .inl ⟨rfl, h0⟩
  · exact .inr ⟨g, c, rfl, h, h3⟩
theorem Br.bml {w : World} {S n : Nat} {v : Value} {f : Nat → Bk} (h : Br w S v n f) : ∃ a c, v = .slice a n c ∧ Bml w a f n ∧ n ≤ c := by
  rcases h.parts with ⟨rfl, rfl⟩ | ⟨g, c, rfl, hr, hc⟩
  · exact ⟨none, 0, rfl, .inl rfl, Nat.le_refl _⟩
  · refine ⟨_, c, rfl, .inr ⟨g, 0, rfl, hr.lt, fun j hj => ?_⟩, hc⟩
    rw [Nat.zero_add]
    exact ⟨hr.cellU j hj, hr.cellC j hj⟩
theorem Br.congr {w : World} {S n : Nat} {v : Value} {f f' : Nat → Bk} (h : Br w S v n f) (e : ∀ j, j < n → f j = f' j) : Br w S v n f' := by
  unfold Br
  rw [← bc_congr f f' n e]
  exact h
theorem up_bc (f : Nat → Bk) (n : Nat) (u : Bk) : bc (up f n u) (n + 1) = bc f n ++ b2 u := by
  rw [bc_succ, bc_congr (up f n u) f n fun j hj => if_neg (by omega)]
  congr 2
  exact if_pos rfl
theorem seg_up {E : Type} (f : Nat → E) (n : Nat) (u : E) : seg (up f n u) 0 (n + 1) = seg f 0 n ++ [u] := by
  rw [seg_add, seg_congr (up f n u) f 0 0 n fun j hj => if_neg (by omega)]
  congr 1
  rw [seg, seg]
  congr 1
  exact if_pos (by omega)
theorem bk_cell (w : World) (u : Bk) (j : Nat) (v : Value) (h : (b2 u)[j]? = some v) : (w.alloc (.cells #[.float .f64 u.1, .float .f64 u.2] 40)).cell? ⟨w.heap.size, j, none⟩ = some v := by
  unfold World.cell?
  rw [show (w.alloc (.cells #[.float .f64 u.1, .float .f64 u.2] 40)).heap[w.heap.size]? = some (.cells #[.float .f64 u.1, .float .f64 u.2] 40) from heap_alloc_new w _]
  simpa [b2] using h
theorem append_b (w : World) (S : Nat) (v : Value) (n : Nat) (f : Nat → Bk) (u : Bk) (hS : S ≤ w.heap.size) (hn : (n + 1) * 16 ≤ 140737488355328) (o : Br w S v n f) :
    ∃ v' w', (Builtin.append_ #[38, 38] 38 #[v, .slice (some ⟨w.heap.size, 0, none⟩) 1 1]).run Try.prog (w.alloc (.cells #[.float .f64 u.1, .float .f64 u.2] 40)) = .ok v' w' ∧ Br w' S v' (n + 1) (up f n u) ∧ Below S w w' := by
  obtain ⟨i0, hi, hz0, hz1, hz2⟩ := info_parts info34
  have o0 := World.ownsRow.alloc o (.cells #[.float .f64 u.1, .float .f64 u.2] 40)
  obtain ⟨v', w', r, o', g, _⟩ := run_append_own (P := Try.prog) (w.alloc (.cells #[.float .f64 u.1, .float .f64 u.2] 40)) S 38 38 40 i0 (.agg #[.float .f64 0, .float .f64 0]) 2 16 Try.underlying38 hi hz0 hz1 hz2 rfl (by decide) _ n (bc f n) o0 ⟨w.heap.size, 0, none⟩ 1 1 (b2 u) (by rfl)
    (fun j x hj => by
      rw [Go.WideShapes.add_plain, Nat.zero_add]
      exact bk_cell w u j x hj) (by intro x hx; simp [b2] at hx; rcases hx with rfl | rfl <;> rfl) (by unfold maxLen; omega) hn (by simp; omega)
  refine ⟨v', w', r, ?_, ?_⟩
  · unfold Br
    rw [up_bc]; exact o'
  · exact ((Below.refl S w).alloc hS _).grown g (by simp; omega) (fun k hk => (World.ownsRow.lt o k hk).1)
set_option maxHeartbeats 1000000 in
set_option maxRecDepth 100000 in
theorem insNil_any (w : World) : Calls Try.prog 124 #[.slice none 0 0, .int .i64 0, .int .i64 0, cvB] w fun r w' => r = .returned (.tuple #[]) ∧ w' = w := by
  go_enter Try.func124, Try.ntmps124
  go_wp2
  go_loopw [8, 9] (fun iv _ w' => iv = .int .i64 1 ∧ w' = w) (fun _ _ _ => 0)
  case atStart => exact ⟨rfl, rfl⟩
  case round =>
    obtain ⟨rfl, rfl⟩ := hrel
    go_wp2
    go_end0
    exact ⟨rfl, rfl⟩
set_option maxHeartbeats 1000000 in
set_option maxRecDepth 100000 in
theorem stableNil_any (w : World) : Calls Try.prog 118 #[.slice none 0 0, .int .i64 0, cvB] w fun r w' => r = .returned (.tuple #[]) ∧ w' = w := by
  have k := insNil_any
  go_enter Try.func118, Try.ntmps118
  go_wp2
  go_loopw [7, 8] (fun av bv w' => av = .int .i64 0 ∧ bv = .int .i64 20 ∧ w' = w) (fun _ _ _ => 0)
  case atStart => exact ⟨rfl, rfl, rfl⟩
  case round =>
    obtain ⟨rfl, rfl, rfl⟩ := hrel
    go_wp2_with fail
    go_fit (k _)
    rintro r w ⟨rfl, rfl⟩
    go_wp2
    go_loopw [6] (fun sv w' => sv = .int .i64 20 ∧ w' = w) (fun _ _ => 0)
    case atStart => exact ⟨rfl, rfl⟩
    case round =>
      obtain ⟨rfl, rfl⟩ := hrel
      go_wp2
      go_end0
      exact ⟨rfl, rfl⟩
set_option maxHeartbeats 400000 in
theorem sortNil_any (w : World) : Calls Try.prog 106 #[.slice none 0 0, cvB] w fun r w' => r = .returned (.tuple #[]) ∧ w' = w := by
  have k1 := stableNil_any
  go_enter Try.func106, Try.ntmps106
  go_wp2_with fail
  go_fit (k1 _)
  rintro r w ⟨rfl, rfl⟩
  go_wp2
  go_end0
  exact ⟨rfl, rfl⟩
end Go.Proofs.Ytfjfpplemgjcmab
/- inOrder. -/
namespace Go.Proofs.Ytfjfpplemgjcmab
open Go.RowKit

/-- Has the bucket a bound? -/
def nn (u : Bk) : Bool := !nanB u.1
set_option maxHeartbeats 2000000 in
set_option maxRecDepth 100000 in
theorem inOrder_any (a : Option Addr) (c n : Nat) (bs : Nat → Bk) (w : World) (hf : Bml w a bs n) (hl : 16 * n ≤ 140737488355328) :
    Calls Try.prog 72 #[.slice a n c] w fun r w' => ∃ v k f, r = .returned v ∧ Br w' w.heap.size v k f ∧ k ≤ n ∧ Sim kb ((seg bs 0 n).filter nn) (seg f 0 k) ∧ Up kb (seg f 0 k) ∧ Below w.heap.size w w' := by
  have hsf := @run_store_float Try.prog
  have HF : Hid (Bml w a bs n) := hf
  obtain ⟨G, hG⟩ : ∃ G, G = w.heap.size := ⟨_, rfl⟩
  rw [← hG]
  have HG : Hid (G = w.heap.size) := hG
  clear hf hG
  go_enter Try.func72, Try.ntmps72
  go_wp2
  go_loopw [3, 8] (fun ov iv w' => ∃ (i k : Nat) (f : Nat → Bk) (A : Option Addr) (C : Nat), iv = .int .i64 (i : Int) ∧ i ≤ n ∧ k ≤ i ∧ ov = .slice A k C ∧ Hid (Br w' G (.slice A k C) k f) ∧ Hid (seg f 0 k = (seg bs 0 i).filter nn) ∧ Below G w w') (fun _ iv _ => n - (RowKit.intOf iv).toNat)
  case atStart => exact ⟨0, 0, bs, none, 0, rfl, by omega, by omega, rfl, Br.nil _ _ _, rfl, by rw [HG.out]; exact Below.refl _ _⟩
  case round =>
    obtain ⟨i, k, f, A, C, rfl, hi, hk, rfl, o, hs, hb⟩ := hrel
    have hGw : G ≤ wr.heap.size := by rw [HG.out]; rw [HG.out] at hb; exact hb.size
    by_cases hlt : i < n
    · have hii : (i : Int) < n := by omega
      rcases HF.out with h0 | ⟨g, of_, rfl, hg, hat⟩
      · omega
      rw [← HG.out] at hg
      obtain ⟨f1, f2⟩ := hat i hlt
      have q1 := (hb.cell (p := ⟨g, of_ + i * 2, none⟩) hg).trans f1
      have q2 := (hb.cell (p := ⟨g, of_ + i * 2 + 1, none⟩) hg).trans f2
      have HI : Hid (i + 1 ≤ n) := hlt
      have hseg : seg bs 0 (i + 1) = seg bs 0 i ++ [bs i] := by rw [seg_add, Nat.zero_add]; rfl
      obtain ⟨u, hu⟩ : ∃ u, bs i = u := ⟨_, rfl⟩
      rw [hu] at q1 q2 hseg
      have kN := isNaN_any u.1
      clear f1 f2 hat hu
      cases hn : nanB u.1
      · rw [hn] at kN
        obtain ⟨v', w', r1, o', b'⟩ := append_b (wr.alloc (.cells #[.float .f64 u.1, .float .f64 u.2] 40)) G (.slice A k C) k f u (by simp; omega) (by omega) (World.ownsRow.alloc o.out _)
        have hs2 : Hid (seg (up f k u) 0 (k + 1) = (seg bs 0 (i + 1)).filter nn) := by
          show _ = _
          have : nn u = true := by unfold nn; rw [hn]; rfl
          rw [seg_up, hs.out, hseg, List.filter_append]
          simp [this]
        obtain ⟨A', C', rfl, _, _⟩ := o'.bml
        have O' : Hid _ := o'
        have B' : Hid (Below G w w') := (hb.alloc hGw _).trans b'
        clear o' b' hseg o
        obtain ⟨xu, xc⟩ := u
        dsimp only at q1 q2 r1 kN
        have hsz : (wr.alloc (.cells #[.float .f64 xu, .float .f64 xc] 40)).heap.size = wr.heap.size + 1 := by simp
        rw [hsz] at r1
        clear hsz
        go_wp2_with fail
        go_fit (kN _)
        rintro r w2 ⟨rfl, rfl⟩
        go_wp2_with (at_builtin; refine wpList_append_run rfl (.tmp 16) (.tmp 18) 38 38 rfl _ _ rfl rfl r1 ?_)
        exact ⟨⟨i + 1, k + 1, up f k (xu, xc), A', C', by go_num, HI, by omega, rfl, O', hs2, B'.out⟩, by simp [RowKit.intOf]; omega⟩
      · rw [hn] at kN
        have hs2 : Hid (seg f 0 k = (seg bs 0 (i + 1)).filter nn) := by
          show _ = _
          have : nn u = false := by unfold nn; rw [hn]; rfl
          rw [hs.out, hseg, List.filter_append]
          simp [this]
        have O' : Hid (Br (wr.alloc (.cells #[.float .f64 u.1, .float .f64 u.2] 40)) G (.slice A k C) k f) := World.ownsRow.alloc o.out _
        have B' : Hid (Below G w (wr.alloc (.cells #[.float .f64 u.1, .float .f64 u.2] 40))) := hb.alloc hGw _
        clear hseg o
        obtain ⟨xu, xc⟩ := u
        dsimp only at q1 q2 kN O' B'
        go_wp2_with fail
        go_fit (kN _)
        rintro r w2 ⟨rfl, rfl⟩
        go_wp2
        exact ⟨⟨i + 1, k, f, A, C, by go_num, HI, by omega, rfl, O', hs2, B'.out⟩, by simp [RowKit.intOf]; omega⟩
    · have hii : ¬ (i : Int) < n := by omega
      have e : i = n := by omega
      subst e
      rcases o.out.parts with ⟨hv, h0⟩ | ⟨g, c2, hv, hr, hc⟩
      · cases hv
        have kS := sortNil_any
        have HS0 : Hid ([] = (seg bs 0 i).filter nn) := hs.out
        go_wp2_with fail
        go_fit (kS _)
        rintro r w2 ⟨rfl, rfl⟩
        go_wp2
        go_ret
        exact ⟨_, 0, bs, rfl, Br.nil _ _ _, Nat.zero_le _, by rw [← HS0.out]; exact Sim.refl _, List.Pairwise.nil, hb⟩
      · cases hv
        have kS := sortStableB_any G g C k f wr hr (by omega)
        have HS0 : Hid (seg f 0 k = (seg bs 0 i).filter nn) := hs.out
        clear hr hc hs o
        go_wp2_with fail
        go_fit kS
        rintro r w2 ⟨rfl, ⟨f', h1, h2, h3⟩, hb2⟩
        have FIN : Hid (Br w2 G (.slice (some ⟨g, 0, none⟩) k C) k f' ∧ Sim kb ((seg bs 0 i).filter nn) (seg f' 0 k) ∧ Up kb (seg f' 0 k)) := by
          refine ⟨h1, ?_, ?_⟩
          · rw [← HS0.out]
            have := h2.2
            rw [Nat.sub_zero] at this
            exact this
          · exact Srt.up (by rw [Nat.zero_add]; exact h3)
        have B2 := hb.trans hb2
        clear h1 h2 h3 hb2 kS
        go_wp2
        go_ret
        exact ⟨_, k, f', rfl, FIN.out.1, hk, FIN.out.2.1, FIN.out.2.2, B2⟩
end Go.Proofs.Ytfjfpplemgjcmab
/- joined. -/
namespace Go.Proofs.Ytfjfpplemgjcmab
open Go.RowKit

/-- A bucket's bound and its count's class. -/
abbrev Ab := Nat × Option Nat
def ab' (u : Bk) : Ab := (u.1, cl u.2)
/-- The row, the last one first. -/
def rsg (f : Nat → Bk) : Nat → List Ab
  | 0 => []
  | n + 1 => ab' (f n) :: rsg f n
theorem rsg_congr (f g : Nat → Bk) (n : Nat) (h : ∀ j, j < n → ab' (f j) = ab' (g j)) : rsg f n = rsg g n := by
  induction n with
  | zero => rfl
  | succ n ih => rw [rsg, rsg, ih fun j hj => h j (by omega), h n (by omega)]
theorem rsg_len (f : Nat → Bk) (n : Nat) : (rsg f n).length = n := by
  induction n with
  | zero => rfl
  | succ n ih => rw [rsg, List.length_cons, ih]
theorem rsg_at (f g : Nat → Bk) : ∀ n m, rsg f n = rsg g m → n = m ∧ ∀ j, j < n → ab' (f j) = ab' (g j)
  | 0, 0, _ => ⟨rfl, fun j hj => by omega⟩
  | 0, m + 1, h => by cases h
  | n + 1, 0, h => by cases h
  | n + 1, m + 1, h => by
    rw [rsg, rsg] at h
    injection h with h1 h2
    obtain ⟨e, hj⟩ := rsg_at f g n m h2
    subst e
    refine ⟨rfl, fun j hjn => ?_⟩
    by_cases he : j = n
    · subst he; exact h1
    · exact hj j (by omega)
/-- One bucket more. -/
def jnR : List Ab → Ab → List Ab
  | [], u => [u]
  | (p, c) :: r, u => if (FloatKind.f64.format.order p u.1 == some .eq) = true then (p, fb .add c u.2) :: r else u :: (p, c) :: r
def jnI (t : Nat → Ab) : Nat → List Ab
  | 0 => []
  | i + 1 => jnR (jnI t i) (t i)
theorem jnI_congr (t s : Nat → Ab) (n : Nat) (h : ∀ j, j < n → t j = s j) : jnI t n = jnI s n := by
  induction n with
  | zero => rfl
  | succ n ih => rw [jnI, jnI, ih fun j hj => h j (by omega), h n (by omega)]
theorem bc_setC (f : Nat → Bk) (j : Nat) (z : Nat) : ∀ n, j < n → (bc f n).set (j * 2 + 1) (.float .f64 z) = bc (up f j ((f j).1, z)) n
  | 0, h => by omega
  | n + 1, h => by
    rw [bc_succ, bc_succ]
    by_cases hj : j < n
    · rw [List.set_append_left _ _ (by rw [bc_len]; omega), bc_setC f j z n hj]
      congr 1
      congr 1
      exact (if_neg (by omega)).symm
    · obtain rfl : j = n := by omega
      rw [List.set_append_right _ _ (by rw [bc_len]; omega), bc_len, show j * 2 + 1 - j * 2 = 1 by omega]
      congr 1
      · exact bc_congr _ _ _ fun i hi => (if_neg (by omega)).symm
      · have : up f j ((f j).1, z) j = ((f j).1, z) := if_pos rfl
        rw [this]
        rfl
theorem Rb.setC {w : World} {S g c n : Nat} {f : Nat → Bk} (h : Rb w S g c n f) (j : Nat) (hj : j < n) (z : Nat) : Rb (w.setCell ⟨g, j * 2 + 1, none⟩ (.float .f64 z)) S g c n (up f j ((f j).1, z)) := by
  unfold Rb
  rw [← bc_setC f j z n hj]
  exact (World.ownsRow.stored h (j * 2 + 1) (.float .f64 z)).1
theorem BW.up {f : Nat → Bk} {n : Nat} (h : BW f n) (j : Nat) (u : Bk) (h1 : u.1 < 18446744073709551616) (h2 : u.2 < 18446744073709551616) : BW (up f j u) n := fun i hi => by
  unfold Go.Proofs.Ytfjfpplemgjcmab.up
  split
  · exact ⟨h1, h2⟩
  · exact h i hi
theorem BW.push {f : Nat → Bk} {n : Nat} (h : BW f n) (u : Bk) (h1 : u.1 < 18446744073709551616) (h2 : u.2 < 18446744073709551616) : BW (Go.Proofs.Ytfjfpplemgjcmab.up f n u) (n + 1) := fun i hi => by
  unfold Go.Proofs.Ytfjfpplemgjcmab.up
  split
  · exact ⟨h1, h2⟩
  · exact h i (by omega)
theorem rsg_push (f : Nat → Bk) (n : Nat) (u : Bk) : rsg (up f n u) (n + 1) = ab' u :: rsg f n := by
  rw [rsg, rsg_congr (up f n u) f n fun j hj => by rw [show up f n u j = f j from if_neg (by omega)]]
  rw [show up f n u n = u from if_pos rfl]
/-- What a function that makes a row of buckets answers. -/
def RBk (w : World) (S n : Nat) (X : List Ab) (r : Ending) (w' : World) : Prop := ∃ v m f, r = .returned v ∧ Br w' S v m f ∧ BW f m ∧ m ≤ n ∧ rsg f m = X ∧ Below S w w'
set_option maxHeartbeats 2000000 in
set_option maxRecDepth 100000 in
theorem joined_any (a : Option Addr) (c n : Nat) (bs : Nat → Bk) (w : World) (hf : Bml w a bs n) (hw : BW bs n) (hl : 16 * n ≤ 140737488355328) :
    Calls Try.prog 71 #[.slice a n c] w (RBk w w.heap.size n (jnI (fun j => ab' (bs j)) n)) := by
  have hsf := @run_store_float Try.prog
  have ha := @run_fadd Try.prog
  have HF : Hid (Bml w a bs n) := hf
  have HW : Hid (BW bs n) := hw
  obtain ⟨G, hG⟩ : ∃ G, G = w.heap.size := ⟨_, rfl⟩
  rw [← hG]
  have HG : Hid (G = w.heap.size) := hG
  clear hf hG hw
  go_enter Try.func71, Try.ntmps71
  go_wp2
  go_loopw [3, 9] (fun ov iv w' => ∃ (i m : Nat) (f : Nat → Bk) (A : Option Addr) (C : Nat), iv = .int .i64 (i : Int) ∧ i ≤ n ∧ m ≤ i ∧ ov = .slice A m C ∧ Hid (Br w' G (.slice A m C) m f) ∧ Hid (BW f m) ∧ Hid (rsg f m = jnI (fun j => ab' (bs j)) i) ∧ Below G w w') (fun _ iv _ => n - (RowKit.intOf iv).toNat)
  case atStart => exact ⟨0, 0, bs, none, 0, rfl, by omega, by omega, rfl, Br.nil _ _ _, fun j hj => absurd hj (by omega), rfl, by rw [HG.out]; exact Below.refl _ _⟩
  case round =>
    obtain ⟨i, m, f, A, C, rfl, hi, hm, rfl, o, hbw, hs, hb⟩ := hrel
    have hGw : G ≤ wr.heap.size := by rw [HG.out]; rw [HG.out] at hb; exact hb.size
    by_cases hlt : i < n
    · have hii : (i : Int) < n := by omega
      rcases HF.out with h0 | ⟨g, of_, rfl, hg, hat⟩
      · omega
      rw [← HG.out] at hg
      obtain ⟨f1, f2⟩ := hat i hlt
      have q1 := (hb.cell (p := ⟨g, of_ + i * 2, none⟩) hg).trans f1
      have q2 := (hb.cell (p := ⟨g, of_ + i * 2 + 1, none⟩) hg).trans f2
      have HI : Hid (i + 1 ≤ n) := hlt
      have hjn : jnI (fun j => ab' (bs j)) (i + 1) = jnR (jnI (fun j => ab' (bs j)) i) (ab' (bs i)) := rfl
      rw [← hs.out] at hjn
      have hul := HW.out i hlt
      obtain ⟨u, hu⟩ : ∃ u, bs i = u := ⟨_, rfl⟩
      rw [hu] at q1 q2 hjn hul
      clear f1 f2 hat hu hs
      generalize hJ : jnI (fun j => ab' (bs j)) (i + 1) = J at *
      obtain ⟨xu, xc⟩ := u
      dsimp only at q1 q2
      have n0 := bk_cell wr (xu, xc) 0 (.float .f64 xu) rfl
      have n1 := bk_cell wr (xu, xc) 1 (.float .f64 xc) rfl
      dsimp only at n0 n1
      have ob : Br (wr.alloc (.cells #[.float .f64 xu, .float .f64 xc] 40)) G (.slice A m C) m f := World.ownsRow.alloc o.out _
      have bb : Below G w (wr.alloc (.cells #[.float .f64 xu, .float .f64 xc] 40)) := hb.alloc hGw _
      have hsz : (wr.alloc (.cells #[.float .f64 xu, .float .f64 xc] 40)).heap.size = wr.heap.size + 1 := by simp
      by_cases hm0 : m = 0
      · subst hm0
        have hneg : decide ((0 : Int) ≤ ((0 : Nat) : Int) - 1) = false := by decide
        have HJ : Hid ([ab' (xu, xc)] = jnI (fun j => ab' (bs j)) (i + 1)) := by show _ = _; rw [hJ, hjn]; rfl
        have HOB : Hid _ := ob
        have HBB : Hid _ := bb
        clear hjn o hb ob bb
        go_wp2_with fail
        go_quiet (fail)
        have oz : Br ((wr.alloc (.cells #[.float .f64 xu, .float .f64 xc] 40)).drewN nq) G (.slice A 0 C) 0 f := HOB.out
        have bz := below_drewN HBB.out nq
        have m0 : ((wr.alloc (.cells #[.float .f64 xu, .float .f64 xc] 40)).drewN nq).cell? ⟨wr.heap.size, 0, none⟩ = some (.float .f64 xu) := n0
        have m1 : ((wr.alloc (.cells #[.float .f64 xu, .float .f64 xc] 40)).drewN nq).cell? ⟨wr.heap.size, 1, none⟩ = some (.float .f64 xc) := n1
        have hsz2 : ((wr.alloc (.cells #[.float .f64 xu, .float .f64 xc] 40)).drewN nq).heap.size = wr.heap.size + 1 := hsz
        clear n0 n1 q1 q2 hsz HOB HBB
        generalize (wr.alloc (.cells #[.float .f64 xu, .float .f64 xc] 40)).drewN nq = W2 at *
        obtain ⟨v', w', r1, o', b'⟩ := append_b W2 G (.slice A 0 C) 0 f (xu, xc) (by omega) (by omega) oz
        obtain ⟨A', C', rfl, _, _⟩ := o'.bml
        have O' : Hid _ := o'
        have B' : Hid (Below G w w') := bz.trans b'
        have BW' : Hid (BW (up f 0 (xu, xc)) 1) := BW.push hbw.out _ hul.1 hul.2
        have J' : Hid (rsg (up f 0 (xu, xc)) 1 = jnI (fun j => ab' (bs j)) (i + 1)) := HJ.out
        dsimp only at r1
        clear o' b' oz bz hsz2
        go_wp2_with (at_builtin; refine wpList_append_run rfl (.tmp 38) (.tmp 40) 38 38 rfl _ _ rfl rfl r1 ?_)
        exact ⟨⟨i + 1, 1, _, A', C', by go_num, HI, by omega, rfl, O', BW', J', B'.out⟩, by simp [RowKit.intOf]; omega⟩
      · obtain ⟨p, rfl⟩ : ∃ p, m = p + 1 := ⟨m - 1, by omega⟩
        rcases ob.parts with ⟨hv, h0⟩ | ⟨g2, c2, hv, hr, hc⟩
        · omega
        cases hv
        have hlast : ((p + 1 : Nat) : Int) - 1 = (p : Int) := by omega
        have hnn : (0 : Int) ≤ (p : Int) := by omega
        have hpC : p < p + 1 := by omega
        have c1 := hr.cellU p hpC
        have c2 := hr.cellC p hpC
        have z1 := hr.froz (p * 2 + 1)
        rw [rsg] at hjn
        have HR : Hid (Rb (wr.alloc (.cells #[.float .f64 xu, .float .f64 xc] 40)) G g2 C (p + 1) f) := hr
        have hup : rsg f (p + 1) = ab' (f p) :: rsg f p := rfl
        have HBB : Hid _ := bb
        obtain ⟨⟨yu, yc⟩, hy⟩ : ∃ y, f p = y := ⟨_, rfl⟩
        rw [hy] at c1 c2 hjn
        dsimp only at c1 c2
        cases heq : (FloatKind.f64.format.order yu xu == some .eq)
        · have HJ : Hid (ab' (xu, xc) :: rsg f (p + 1) = jnI (fun j => ab' (bs j)) (i + 1)) := by
            show _ = _
            rw [hJ, hjn, hup, hy]
            unfold jnR ab'
            dsimp only
            rw [heq]
            rfl
          clear hjn o hb ob bb hup hr hc
          go_wp2_with fail
          go_quiet (fail)
          have oz : Rb ((wr.alloc (.cells #[.float .f64 xu, .float .f64 xc] 40)).drewN nq) G g2 C (p + 1) f := HR.out
          have bz := below_drewN HBB.out nq
          have m0 : ((wr.alloc (.cells #[.float .f64 xu, .float .f64 xc] 40)).drewN nq).cell? ⟨wr.heap.size, 0, none⟩ = some (.float .f64 xu) := n0
          have m1 : ((wr.alloc (.cells #[.float .f64 xu, .float .f64 xc] 40)).drewN nq).cell? ⟨wr.heap.size, 1, none⟩ = some (.float .f64 xc) := n1
          have m2 : ((wr.alloc (.cells #[.float .f64 xu, .float .f64 xc] 40)).drewN nq).cell? ⟨g2, p * 2 + 1, none⟩ = some (.float .f64 yc) := c2
          have m3 : ((wr.alloc (.cells #[.float .f64 xu, .float .f64 xc] 40)).drewN nq).frozen? ⟨g2, p * 2 + 1, none⟩ = false := z1
          have hsz2 : ((wr.alloc (.cells #[.float .f64 xu, .float .f64 xc] 40)).drewN nq).heap.size = wr.heap.size + 1 := hsz
          clear n0 n1 q1 q2 hsz HR HBB c1 c2 z1
          generalize (wr.alloc (.cells #[.float .f64 xu, .float .f64 xc] 40)).drewN nq = W2 at *
          obtain ⟨v', w', r1, o', b'⟩ := append_b W2 G (.slice (some ⟨g2, 0, none⟩) (p + 1) C) (p + 1) f (xu, xc) (by omega) (by omega) oz
          obtain ⟨A', C', rfl, _, _⟩ := o'.bml
          have O' : Hid _ := o'
          have B' : Hid (Below G w w') := bz.trans b'
          have BW' : Hid (BW (up f (p + 1) (xu, xc)) (p + 1 + 1)) := BW.push hbw.out _ hul.1 hul.2
          have J' : Hid (rsg (up f (p + 1) (xu, xc)) (p + 1 + 1) = jnI (fun j => ab' (bs j)) (i + 1)) := by show _ = _; rw [rsg_push]; exact HJ.out
          dsimp only at r1
          clear o' b' oz bz hsz2 m2 m3 hy
          go_wp2_with (at_builtin; refine wpList_append_run rfl (.tmp 38) (.tmp 40) 38 38 rfl _ _ rfl rfl r1 ?_)
          exact ⟨⟨i + 1, p + 1 + 1, _, A', C', by go_num, HI, by omega, rfl, O', BW', J', B'.out⟩, by simp [RowKit.intOf]; omega⟩
        · have HJ : Hid (∀ z, cl z = fb .add (cl yc) (cl xc) → (yu, cl z) :: rsg f p = jnI (fun j => ab' (bs j)) (i + 1)) := fun z hz => by
            rw [hJ, hjn]
            unfold jnR ab'
            dsimp only
            rw [heq, if_pos rfl, hz]
          clear hjn o hb ob bb hup hr hc
          go_wp2_with fail
          go_quiet (fail)
          have oz : Rb ((wr.alloc (.cells #[.float .f64 xu, .float .f64 xc] 40)).drewN nq) G g2 C (p + 1) f := HR.out
          have bz := below_drewN HBB.out nq
          have m0 : ((wr.alloc (.cells #[.float .f64 xu, .float .f64 xc] 40)).drewN nq).cell? ⟨wr.heap.size, 0, none⟩ = some (.float .f64 xu) := n0
          have m1 : ((wr.alloc (.cells #[.float .f64 xu, .float .f64 xc] 40)).drewN nq).cell? ⟨wr.heap.size, 1, none⟩ = some (.float .f64 xc) := n1
          have m2 : ((wr.alloc (.cells #[.float .f64 xu, .float .f64 xc] 40)).drewN nq).cell? ⟨g2, p * 2 + 1, none⟩ = some (.float .f64 yc) := c2
          have m3 : ((wr.alloc (.cells #[.float .f64 xu, .float .f64 xc] 40)).drewN nq).frozen? ⟨g2, p * 2 + 1, none⟩ = false := z1
          have hsz2 : ((wr.alloc (.cells #[.float .f64 xu, .float .f64 xc] 40)).drewN nq).heap.size = wr.heap.size + 1 := hsz
          clear n0 n1 q1 q2 hsz HR HBB c1 c2 z1
          generalize (wr.alloc (.cells #[.float .f64 xu, .float .f64 xc] 40)).drewN nq = W2 at *
          have o4 := Rb.setC (oz.drew (1 + fk .add yc xc)) p hpC (fz .add yc xc W2.drew)
          have b4 := (below_drewN bz (1 + fk .add yc xc)).setCell (p := ⟨g2, p * 2 + 1, none⟩) oz.ge (.float .f64 (fz .add yc xc W2.drew))
          have O4 : Hid _ := o4
          have J4 : Hid (rsg (up f p ((f p).1, fz .add yc xc W2.drew)) (p + 1) = jnI (fun j => ab' (bs j)) (i + 1)) := by
            show _ = _
            rw [rsg_push, hy]
            exact HJ.out _ (cl_fz _ _ _ _)
          have BW4 : Hid (BW (up f p ((f p).1, fz .add yc xc W2.drew)) (p + 1)) := BW.up hbw.out p _ (hbw.out p hpC).1 (fz_lt _ _ _ _)
          have HB4 : Hid _ := b4
          clear o4 b4 oz bz hy
          go_wp2_with fail
          go_region
          go_wp2
          exact ⟨⟨i + 1, p + 1, _, _, C, by go_num, HI, by omega, rfl, O4, BW4, J4, HB4.out⟩, by simp [RowKit.intOf]; omega⟩
    · have hii : ¬ (i : Int) < n := by omega
      have e : i = n := by omega
      subst e
      go_wp2
      go_ret
      exact ⟨_, m, f, rfl, o.out, hbw.out, hm, hs.out, hb⟩
end Go.Proofs.Ytfjfpplemgjcmab
/- raise; the first bucket of a rank. -/
namespace Go.Proofs.Ytfjfpplemgjcmab
open Go.RowKit

/-- The greatest count ahead. -/
def tpI (A : Nat → Ab) : Nat → Option Nat
  | 0 => (A 0).2
  | i + 1 => if fo (A i).2 (tpI A i) = some .gt then (A i).2 else tpI A i
/-- The counts that don't fall. -/
def rzI (A : Nat → Ab) (i : Nat) : Ab := ((A i).1, if fo (A i).2 (tpI A i) = some .lt then tpI A i else (A i).2)
/-- What raise leaves. -/
def Rz (S g c m : Nat) (A : Nat → Ab) (w : World) (r : Ending) (w' : World) : Prop := r = .returned (.tuple #[]) ∧ (∃ f', Rb w' S g c m f' ∧ BW f' m ∧ ∀ j, j < m → ab' (f' j) = rzI A j) ∧ Below S w w'
set_option maxHeartbeats 2000000 in
set_option maxRecDepth 100000 in
theorem raise_any (S g c m : Nat) (f : Nat → Bk) (w : World) (h : Rb w S g c m f) (hw : BW f m) (hm : 0 < m) (hl : m ≤ 2305843009213693952) :
    Calls Try.prog 73 #[.slice (some ⟨g, 0, none⟩) m c] w (Rz S g c m (fun j => ab' (f j)) w) := by
  have hsf := @run_store_float Try.prog
  have H0 : Hid (Rb w S g c m f) := h
  have HW : Hid (BW f m) := hw
  have c0 := h.cellC 0 hm
  rw [Nat.zero_mul, Nat.zero_add] at c0
  obtain ⟨A, hA⟩ : ∃ A, A = fun j => ab' (f j) := ⟨_, rfl⟩
  rw [← hA]
  have HA : Hid (∀ j, A j = ab' (f j)) := fun j => by rw [hA]
  have HT0 : Hid (cl (f 0).2 = tpI A 0) := by show _ = _; rw [hA]; rfl
  have HL0 : Hid ((f 0).2 < 18446744073709551616) := (hw 0 hm).2
  clear h hw hA
  generalize (f 0).2 = t0 at *
  go_enter Try.func73, Try.ntmps73
  go_wp2
  go_loopw [2, 10] (fun tv iv w' => ∃ (i t : Nat) (f' : Nat → Bk), tv = .float .f64 t ∧ iv = .int .i64 (i : Int) ∧ i ≤ m ∧ t < 18446744073709551616 ∧ Hid (cl t = tpI A i) ∧ Hid (Rb w' S g c m f') ∧ Hid (BW f' m) ∧ Hid ((∀ j, j < i → ab' (f' j) = rzI A j) ∧ ∀ j, i ≤ j → f' j = f j) ∧ Below S w w') (fun _ iv _ => m - (RowKit.intOf iv).toNat)
  case atStart => exact ⟨0, t0, f, rfl, rfl, by omega, HL0, HT0, H0, HW, ⟨fun j hj => absurd hj (by omega), fun j _ => rfl⟩, Below.refl _ _⟩
  case round =>
    obtain ⟨i, t, f', rfl, rfl, hi, htl, ht, o, hbw, hf, hb⟩ := hrel
    by_cases hlt : i < m
    · have hii : (i : Int) < m := by omega
      have HI : Hid (i + 1 ≤ m) := hlt
      have c1 := o.out.cellC i hlt
      have z1 := o.out.froz (i * 2 + 1)
      have hfi : f' i = f i := hf.out.2 i (Nat.le_refl _)
      have hAi : A i = ab' (f' i) := by rw [hfi]; exact HA.out i
      obtain ⟨⟨xu, xc⟩, hx⟩ : ∃ x, f' i = x := ⟨_, rfl⟩
      rw [hx] at c1 hAi
      have hxl := hbw.out i hlt
      rw [hx] at hxl
      dsimp only at c1 hxl
      have hoc : FloatKind.f64.format.order xc t = fo (A i).2 (tpI A i) := by rw [fo_cl, ht.out, hAi]; rfl
      by_cases h1 : FloatKind.f64.format.order xc t = some .lt
      · have o4 := o.out.setC i hlt t
        have b4 := hb.setCell (p := ⟨g, i * 2 + 1, none⟩) o.out.ge (.float .f64 t)
        have F4 : Hid ((∀ j, j < i + 1 → ab' (up f' i ((f' i).1, t) j) = rzI A j) ∧ ∀ j, i + 1 ≤ j → up f' i ((f' i).1, t) j = f j) := by
          refine ⟨fun j hj => ?_, fun j hj => ?_⟩
          · by_cases e : j = i
            · subst e
              rw [show up f' j ((f' j).1, t) j = ((f' j).1, t) from if_pos rfl]
              unfold rzI
              rw [← hoc, if_pos h1, hAi, hx, ← ht.out]
              rfl
            · rw [show up f' i ((f' i).1, t) j = f' j from if_neg e]
              exact hf.out.1 j (by omega)
          · rw [show up f' i ((f' i).1, t) j = f' j from if_neg (by omega)]
            exact hf.out.2 j (by omega)
        have T4 : Hid (cl t = tpI A (i + 1)) := by
          show _ = _
          rw [tpI, ← hoc, h1, if_neg (by decide)]
          exact ht.out
        have W4 : Hid (BW (up f' i ((f' i).1, t)) m) := BW.up hbw.out i _ (hbw.out i hlt).1 htl
        have O4 : Hid _ := o4
        clear o4 o hf hoc hx hAi
        go_wp2
        exact ⟨⟨i + 1, t, _, rfl, by go_num, HI, htl, T4, O4, W4, F4, b4⟩, by simp [RowKit.intOf]; omega⟩
      · have h1' : (FloatKind.f64.format.order xc t == some .lt) = false := beq_eq_false_iff_ne.2 h1
        have F4 : Hid ((∀ j, j < i + 1 → ab' (f' j) = rzI A j) ∧ ∀ j, i + 1 ≤ j → f' j = f j) := by
          refine ⟨fun j hj => ?_, fun j hj => hf.out.2 j (by omega)⟩
          by_cases e : j = i
          · subst e
            unfold rzI
            rw [← hoc, if_neg h1, hAi, hx]
          · exact hf.out.1 j (by omega)
        by_cases h2 : FloatKind.f64.format.order xc t = some .gt
        · have T4 : Hid (cl xc = tpI A (i + 1)) := by
            show _ = _
            rw [tpI, ← hoc, if_pos h2, hAi]; rfl
          clear hf hoc hx hAi h1
          go_wp2
          exact ⟨⟨i + 1, xc, f', rfl, by go_num, HI, hxl.2, T4, o, hbw, F4, hb⟩, by simp [RowKit.intOf]; omega⟩
        · have h2' : (FloatKind.f64.format.order xc t == some .gt) = false := beq_eq_false_iff_ne.2 h2
          have T4 : Hid (cl t = tpI A (i + 1)) := by
            show _ = _
            rw [tpI, ← hoc, if_neg h2]
            exact ht.out
          clear hf hoc hx hAi h1 h2
          go_wp2
          exact ⟨⟨i + 1, t, f', rfl, by go_num, HI, htl, T4, o, hbw, F4, hb⟩, by simp [RowKit.intOf]; omega⟩
    · have hii : ¬ (i : Int) < m := by omega
      have F4 : Hid (∀ j, j < m → ab' (f' j) = rzI A j) := fun j hj => hf.out.1 j (by omega)
      clear hf
      go_wp2
      go_end0
      exact ⟨rfl, ⟨f', o.out, hbw.out, F4.out⟩, hb⟩
/-- Not below. -/
def nbB (c r : Option Nat) : Bool := (fo c r == some .gt) || (fo c r == some .eq)
abbrev cvR (B : Nat) : Value := .func (.func 109) #[] #[.pointer (some ⟨B, 0, none⟩)]
set_option maxHeartbeats 1000000 in
set_option maxRecDepth 100000 in
theorem at1_any (u : Bk) (B r : Nat) (w : World) (hB : w.cell? ⟨B, 0, none⟩ = some (.float .f64 r)) (hlt : B < w.heap.size) : Calls Try.prog 109 #[bv u, .pointer (some ⟨B, 0, none⟩)] w fun e w' => e = .returned (.bool (nbB (cl u.2) (cl r))) ∧ Below w.heap.size w w' := by
  have e : nbB (cl u.2) (cl r) = ((FloatKind.f64.format.order u.2 r == some .gt) || (FloatKind.f64.format.order u.2 r == some .eq)) := by
    unfold nbB
    rw [← fo_cl]
  rw [e]
  obtain ⟨xu, xc⟩ := u
  have n0 := bk_cell w (xu, xc) 0 (.float .f64 xu) rfl
  have n1 := bk_cell w (xu, xc) 1 (.float .f64 xc) rfl
  have hb : Below w.heap.size w (w.alloc (.cells #[.float .f64 xu, .float .f64 xc] 40)) := (Below.refl _ _).alloc (Nat.le_refl _) _
  have n2 := (hb.cell (p := ⟨B, 0, none⟩) hlt).trans hB
  dsimp only at n0 n1
  show Calls Try.prog 109 #[.agg #[.float .f64 xu, .float .f64 xc], .pointer (some ⟨B, 0, none⟩)] w _
  dsimp only
  have HB : Hid _ := hb
  obtain ⟨X, hX⟩ : ∃ X, ((FloatKind.f64.format.order xc r == some .gt) || (FloatKind.f64.format.order xc r == some .eq)) = X := ⟨_, rfl⟩
  rw [hX]
  go_enter Try.func109, Try.ntmps109
  go_wp2
  go_ret
  exact ⟨rfl, HB.out⟩

/-- The first place of a kind, or -1. -/
def fstI (P : Nat → Bool) : Nat → Nat → Int
  | 0, _ => -1
  | k + 1, i => if P i = true then (i : Int) else fstI P k (i + 1)
set_option maxHeartbeats 1000000 in
set_option maxRecDepth 100000 in
theorem idx_any (a : Option Addr) (c L : Nat) (f : Nat → Bk) (B r : Nat) (w : World) (hf : Bml w a f L) (hB : w.cell? ⟨B, 0, none⟩ = some (.float .f64 r)) (hlt : B < w.heap.size) (hl : L ≤ 2305843009213693952) :
    Calls Try.prog 108 #[.slice a L c, cvR B] w fun e w' => e = .returned (.int .i64 (fstI (fun j => nbB (cl (f j).2) (cl r)) L 0)) ∧ Below w.heap.size w w' := by
  have HF : Hid (Bml w a f L) := hf
  have HB : Hid (w.cell? ⟨B, 0, none⟩ = some (.float .f64 r)) := hB
  obtain ⟨G, hG⟩ : ∃ G, G = w.heap.size := ⟨_, rfl⟩
  rw [← hG] at hlt ⊢
  have HG : Hid (G = w.heap.size) := hG
  obtain ⟨P, hP⟩ : ∃ P, P = fun j => nbB (cl (f j).2) (cl r) := ⟨_, rfl⟩
  rw [← hP]
  have HP : Hid (∀ j, P j = nbB (cl (f j).2) (cl r)) := fun j => by rw [hP]
  generalize hR : fstI P L 0 = R
  have HR : Hid (fstI P L 0 = R) := hR
  clear hf hB hG hP hR
  go_enter Try.func108, Try.ntmps108
  go_wp2
  go_loopw [8] (fun iv w' => ∃ (i : Nat), iv = .int .i64 (i : Int) ∧ i ≤ L ∧ Hid (fstI P (L - i) i = R) ∧ Below G w w') (fun iv _ => L - (RowKit.intOf iv).toNat)
  case atStart => exact ⟨0, rfl, by omega, HR, by rw [HG.out]; exact Below.refl _ _⟩
  case round =>
    obtain ⟨i, rfl, hi, hr, hb⟩ := hrel
    by_cases hlt2 : i < L
    · have hii : (i : Int) < L := by omega
      rcases HF.out with h0 | ⟨g, of_, rfl, hg, hat⟩
      · omega
      rw [← HG.out] at hg
      obtain ⟨f1, f2⟩ := hat i hlt2
      have q1 := (hb.cell (p := ⟨g, of_ + i * 2, none⟩) hg).trans f1
      have q2 := (hb.cell (p := ⟨g, of_ + i * 2 + 1, none⟩) hg).trans f2
      have HI : Hid (i + 1 ≤ L) := hlt2
      have hGw : G ≤ wr.heap.size := by rw [HG.out]; rw [HG.out] at hb; exact hb.size
      have q3 := (hb.cell (p := ⟨B, 0, none⟩) hlt).trans HB.out
      have k1 := at1_any (f i) B r wr q3 (Nat.lt_of_lt_of_le hlt hGw)
      rw [← HP.out i] at k1
      have hst : fstI P (L - i) i = if P i = true then (i : Int) else fstI P (L - (i + 1)) (i + 1) := by
        rw [show L - i = (L - (i + 1)) + 1 by omega]; rfl
      rw [hr.out] at hst
      obtain ⟨⟨xu, xc⟩, hx⟩ : ∃ x, f i = x := ⟨_, rfl⟩
      rw [hx] at q1 q2 k1
      dsimp only at q1 q2 k1
      clear f1 f2 hat hx hr
      cases hp : P i
      · rw [hp] at k1 hst
        have HR2 : Hid (fstI P (L - (i + 1)) (i + 1) = R) := by show _ = _; rw [hst]; rfl
        clear hst
        go_wp2_with fail
        go_fit k1
        rintro e w2 ⟨rfl, hb2⟩
        have B2 := hb.trans (hb2.mono hGw)
        clear hb2
        go_wp2
        exact ⟨⟨i + 1, by go_num, HI, HR2, B2⟩, by simp [RowKit.intOf]; omega⟩
      · rw [hp] at k1 hst
        have HR2 : R = (i : Int) := by rw [hst]; rfl
        subst HR2
        clear hst
        go_wp2_with fail
        go_fit k1
        rintro e w2 ⟨rfl, hb2⟩
        have B2 := hb.trans (hb2.mono hGw)
        clear hb2
        go_wp2
        go_ret
        exact ⟨rfl, B2⟩
    · have hii : ¬ (i : Int) < L := by omega
      have HR2 : R = -1 := by
        rw [← hr.out, show L - i = 0 by omega]; rfl
      subst HR2
      go_wp2
      go_ret
      exact ⟨rfl, hb⟩
end Go.Proofs.Ytfjfpplemgjcmab
/- atRank. -/
namespace Go.Proofs.Ytfjfpplemgjcmab
open Go.RowKit

theorem fstI_bd (P : Nat → Bool) : ∀ k i, fstI P k i = -1 ∨ ((i : Int) ≤ fstI P k i ∧ fstI P k i < ((i + k : Nat) : Int))
  | 0, _ => .inl rfl
  | k + 1, i => by
    unfold fstI
    split
    · right; omega
    · rcases fstI_bd P k (i + 1) with h | h
      · exact .inl h
      · right; omega
/-- Along a straight line. -/
def lnK (u c rk pu pc : Option Nat) : Option Nat := fb .add pu (fb .mul (fb .sub u pu) (fb .quo (fb .sub rk pc) (fb .sub c pc)))
/-- The value up to which rank things lie. -/
def anC (Z : Nat → Ab) (m : Nat) (rk : Option Nat) : Option Nat :=
  match fstI (fun j => nbB (Z j).2 rk) (m - 1) 0 with
  | .negSucc _ => cl (Z (m - 2)).1
  | .ofNat 0 => if fo (cl (Z 0).1) (some 0) = some .lt ∨ fo (cl (Z 0).1) (some 0) = some .eq then cl (Z 0).1 else lnK (cl (Z 0).1) (Z 0).2 rk (some 0) (some 0)
  | .ofNat (k + 1) => lnK (cl (Z (k + 1)).1) (Z (k + 1)).2 rk (cl (Z k).1) (Z k).2
set_option maxHeartbeats 4000000 in
set_option maxRecDepth 100000 in
theorem atRank_any (g c L : Nat) (f : Nat → Bk) (rk : Nat) (w : World) (hg : g < w.heap.size) (hf : BAt w g 0 f (L + 1)) (hw : BW f (L + 1)) (hL : 1 ≤ L) (hc : L + 1 ≤ c) (hl : L ≤ 1152921504606846976) :
    Calls Try.prog 74 #[.slice (some ⟨g, 0, none⟩) ((L + 1 : Nat)) c, .float .f64 rk] w (RB w (anC (fun j => ab' (f j)) (L + 1) (cl rk))) := by
  have hsf := @run_store_float Try.prog
  have hb1 : Below w.heap.size w (w.alloc (.cells #[.float .f64 rk] 23)) := (Below.refl _ _).alloc (Nat.le_refl _) _
  have hB : (w.alloc (.cells #[.float .f64 rk] 23)).cell? ⟨w.heap.size, 0, none⟩ = some (.float .f64 rk) := by
    unfold World.cell?
    rw [show (w.alloc (.cells #[.float .f64 rk] 23)).heap[w.heap.size]? = some (.cells #[.float .f64 rk] 23) from heap_alloc_new w _]
    rfl
  have hsz : (w.alloc (.cells #[.float .f64 rk] 23)).heap.size = w.heap.size + 1 := by simp
  have HSZ : Hid ((w.alloc (.cells #[.float .f64 rk] 23)).heap.size = w.heap.size + 1) := hsz
  have k1 := idx_any (some ⟨g, 0, none⟩) c L f w.heap.size rk (w.alloc (.cells #[.float .f64 rk] 23)) (.inr ⟨g, 0, rfl, by omega, fun j hj => by
    obtain ⟨h1, h2⟩ := hf j (by omega)
    exact ⟨(hb1.cell (p := ⟨g, 0 + j * 2, none⟩) hg).trans h1, (hb1.cell (p := ⟨g, 0 + j * 2 + 1, none⟩) hg).trans h2⟩⟩) hB (by omega) (by omega)
  have HF : Hid (∀ j, j < L + 1 → w.cell? ⟨g, j * 2, none⟩ = some (.float .f64 (f j).1) ∧ w.cell? ⟨g, j * 2 + 1, none⟩ = some (.float .f64 (f j).2)) := fun j hj => by
    have := hf j hj
    rw [Nat.zero_add] at this
    exact this
  have HW : Hid (BW f (L + 1)) := hw
  have hbd := fstI_bd (fun j => nbB (cl (f j).2) (cl rk)) L 0
  have HAN : Hid (anC (fun j => ab' (f j)) (L + 1) (cl rk) = anC (fun j => ab' (f j)) (L + 1) (cl rk)) := rfl
  generalize hR : anC (fun j => ab' (f j)) (L + 1) (cl rk) = R
  have HR : Hid (anC (fun j => ab' (f j)) (L + 1) (cl rk) = R) := hR
  clear hR HAN hf hw
  unfold anC at HR
  dsimp only at HR
  rw [show L + 1 - 1 = L from rfl, show L + 1 - 2 = L - 1 by omega] at HR
  have hP : (fun j => nbB (ab' (f j)).2 (cl rk)) = fun j => nbB (cl (f j).2) (cl rk) := rfl
  rw [hP] at HR
  generalize fstI (fun j => nbB (cl (f j).2) (cl rk)) L 0 = X at *
  clear hP
  have hlast : ((L + 1 : Nat) : Int) - 1 = (L : Int) := by omega
  have hwl : IntKind.i64.wrap (L : Int) = (L : Int) := by rw [IntKind.wrap_i64]; omega
  obtain ⟨G, hG⟩ : ∃ G, G = w.heap.size := ⟨_, rfl⟩
  have HG : Hid (G = w.heap.size) := hG
  obtain ⟨M, hM⟩ : ∃ M, L + 1 = M := ⟨_, rfl⟩
  rw [hM] at hlast HF HW hc ⊢
  have HM : Hid (L + 1 = M) := hM
  have hLc : (L : Int) ≤ (c : Int) := by omega
  have hL0 : (0 : Int) ≤ (L : Int) := by omega
  clear hM hG
  go_enter Try.func74, Try.ntmps74
  go_wp2_with fail
  go_fit k1
  rintro r w2 ⟨rfl, hb2⟩
  have B2 := hb1.trans (hb2.mono (by have h2 := HSZ.out; omega))
  have hrk := (hb2.cell (p := ⟨w.heap.size, 0, none⟩) (by have h2 := HSZ.out; show w.heap.size < _; omega)).trans hB
  have HC : Hid (∀ j, j < M → w2.cell? ⟨g, j * 2, none⟩ = some (.float .f64 (f j).1) ∧ w2.cell? ⟨g, j * 2 + 1, none⟩ = some (.float .f64 (f j).2)) := fun j hj => by
    obtain ⟨h1, h2⟩ := HF.out j hj
    exact ⟨(B2.cell (p := ⟨g, j * 2, none⟩) hg).trans h1, (B2.cell (p := ⟨g, j * 2 + 1, none⟩) hg).trans h2⟩
  have hsz2 : w.heap.size + 1 ≤ w2.heap.size := by have := hb2.size; have h2 := HSZ.out; omega
  clear hb2 hB hsz HSZ k1 HF hb1
  obtain ⟨K, hK⟩ : ∃ K, L = K + 1 := ⟨L - 1, by omega⟩
  rcases hbd with hX | ⟨hX1, hX2⟩
  · subst hX
    have HR2 : Hid (cl (f K).1 = R) := by
      have := HR.out
      rw [show L - 1 = K by omega] at this
      exact this
    obtain ⟨c1, _⟩ := HC.out K (by have := HM.out; omega)
    have hul := (HW.out K (by have := HM.out; omega)).1
    have hKi : (L : Int) - 1 = (K : Int) := by omega
    have hKM : K < M := by have := HM.out; omega
    clear HR HC hK
    generalize (f K).1 = ku at *
    go_wp2
    go_ret
    exact ⟨_, rfl, B2, hul, HR2.out⟩
  · obtain ⟨k, rfl⟩ : ∃ k : Nat, X = k := ⟨X.toNat, by omega⟩
    have hkM : k < M := by have := HM.out; omega
    cases k with
    | zero =>
      obtain ⟨c1, c2⟩ := HC.out 0 hkM
      rw [Nat.zero_mul] at c1 c2
      rw [Nat.zero_add] at c2
      have hul := (HW.out 0 hkM).1
      have HR2 : Hid ((if fo (cl (f 0).1) (some 0) = some .lt ∨ fo (cl (f 0).1) (some 0) = some .eq then cl (f 0).1 else lnK (cl (f 0).1) (cl (f 0).2) (cl rk) (some 0) (some 0)) = R) := HR.out
      have hoo : FloatKind.f64.format.order (f 0).1 0 = fo (cl (f 0).1) (some 0) := by rw [fo_cl, cl_lit 0 (by decide)]
      rw [← hoo] at HR2
      clear HR HC hoo
      generalize (f 0).1 = ku at *
      generalize (f 0).2 = kc at *
      have hz0 : ((0 : Nat) : Int) = 0 := rfl
      rw [hz0]
      by_cases ho : FloatKind.f64.format.order ku 0 = some .lt ∨ FloatKind.f64.format.order ku 0 = some .eq
      · rw [if_pos ho] at HR2
        rcases ho with ho | ho
        · go_wp2
          go_ret
          exact ⟨_, rfl, B2, hul, HR2.out⟩
        · go_wp2
          go_ret
          exact ⟨_, rfl, B2, hul, HR2.out⟩
      · rw [if_neg ho] at HR2
        have ho1 : (FloatKind.f64.format.order ku 0 == some .lt) = false := beq_eq_false_iff_ne.2 fun h => ho (.inl h)
        have ho2 : (FloatKind.f64.format.order ku 0 == some .eq) = false := beq_eq_false_iff_ne.2 fun h => ho (.inr h)
        clear ho
        have hA : Below w2.heap.size w2 (w2.alloc (.cells #[.float .f64 0, .float .f64 0] 40)) := (Below.refl _ _).alloc (Nat.le_refl _) _
        have B3 := B2.trans (hA.mono (by omega))
        have hg2 : g < w2.heap.size := by omega
        have d1 := (hA.cell (p := ⟨g, 0, none⟩) hg2).trans c1
        have d2 := (hA.cell (p := ⟨g, 1, none⟩) hg2).trans c2
        have d3 := (hA.cell (p := ⟨w.heap.size, 0, none⟩) (by show w.heap.size < _; omega)).trans hrk
        have n0 := bk_cell w2 (0, 0) 0 (.float .f64 0) rfl
        have n1 := bk_cell w2 (0, 0) 1 (.float .f64 0) rfl
        dsimp only at n0 n1
        have hLK : (K : Int) + 1 = (L : Int) := by omega
        clear hLK hK
        go_wp2_with fail
        refine wp_region_loose (by kernel_rfl) (by kernel_rfl) ?_
        iterate 7 (refine wpLoose_quiet rfl rfl ?_; intro K hK; go_big_quiet_op; go_big_quiet_on)
        refine wpLoose_float .sub (.inr (.inl rfl)) 23 23 _ _ rfl rfl _ _ rfl rfl (by rintro _ k' ⟨n', rfl⟩; first | exact ⟨n' + k', World.drewN_drewN _ _ _⟩ | exact ⟨n' + k', by simp [Nat.add_assoc]⟩) ?_
        intro zc zcl zch
        go_simp
        iterate 1 (refine wpLoose_quiet rfl rfl ?_; intro K hK; go_big_quiet_op; go_big_quiet_on)
        refine wpLoose_nil ?_
        intro n1
        have ZC : Hid _ := zch
        clear zch
        go_wp2_with fail
        refine wp_region_loose (by kernel_rfl) (by kernel_rfl) ?_
        iterate 9 (refine wpLoose_quiet rfl rfl ?_; intro K hK; go_big_quiet_op; go_big_quiet_on)
        refine wpLoose_float .sub (.inr (.inl rfl)) 23 23 _ _ rfl rfl _ _ rfl rfl (by rintro _ k' ⟨n', rfl⟩; first | exact ⟨n' + k', World.drewN_drewN _ _ _⟩ | exact ⟨n' + k', by simp [Nat.add_assoc]⟩) ?_
        intro z1 z1l z1h
        go_simp
        have Z1 : Hid _ := z1h
        clear z1h
        iterate 3 (refine wpLoose_quiet rfl rfl ?_; intro K hK; go_big_quiet_op; go_big_quiet_on)
        refine wpLoose_float .sub (.inr (.inl rfl)) 23 23 _ _ rfl rfl _ _ rfl rfl (by rintro _ k' ⟨n', rfl⟩; first | exact ⟨n' + k', World.drewN_drewN _ _ _⟩ | exact ⟨n' + k', by simp [Nat.add_assoc]⟩) ?_
        intro z2 z2l z2h
        go_simp
        have Z2 : Hid _ := z2h
        clear z2h
        iterate 1 (refine wpLoose_quiet rfl rfl ?_; intro K hK; go_big_quiet_op; go_big_quiet_on)
        refine wpLoose_float .quo (.inr (.inr (.inr rfl))) 23 23 _ _ rfl rfl _ _ rfl rfl (by rintro _ k' ⟨n', rfl⟩; first | exact ⟨n' + k', World.drewN_drewN _ _ _⟩ | exact ⟨n' + k', by simp [Nat.add_assoc]⟩) ?_
        intro z3 z3l z3h
        go_simp
        have Z3 : Hid _ := z3h
        clear z3h
        refine wpLoose_float .mul (.inr (.inr (.inl rfl))) 23 23 _ _ rfl rfl _ _ rfl rfl (by rintro _ k' ⟨n', rfl⟩; first | exact ⟨n' + k', World.drewN_drewN _ _ _⟩ | exact ⟨n' + k', by simp [Nat.add_assoc]⟩) ?_
        intro z4 z4l z4h
        go_simp
        have Z4 : Hid _ := z4h
        clear z4h
        refine wpLoose_float .add (.inl rfl) 23 23 _ _ rfl rfl _ _ rfl rfl (by rintro _ k' ⟨n', rfl⟩; first | exact ⟨n' + k', World.drewN_drewN _ _ _⟩ | exact ⟨n' + k', by simp [Nat.add_assoc]⟩) ?_
        intro z5 z5l z5h
        go_simp
        have Z5 : Hid _ := z5h
        clear z5h
        iterate 1 (refine wpLoose_quiet rfl rfl ?_; intro K hK; go_big_quiet_op; go_big_quiet_on)
        refine wpLoose_nil ?_
        intro n2
        go_wp2
        go_ret
        refine ⟨_, rfl, below_drewN B3 _, z5l, ?_⟩
        rw [Z5.out, Z4.out, Z3.out, Z2.out, Z1.out, ZC.out, cl_lit 0 (by decide)]
        exact HR2.out
    | succ k =>
      obtain ⟨c1, c2⟩ := HC.out (k + 1) hkM
      obtain ⟨c3, c4⟩ := HC.out k (by omega)
      have HR2 : Hid (lnK (cl (f (k + 1)).1) (cl (f (k + 1)).2) (cl rk) (cl (f k).1) (cl (f k).2) = R) := HR.out
      clear HR HC
      obtain ⟨j, hj⟩ : ∃ j, k + 1 = j := ⟨_, rfl⟩
      rw [hj] at c1 c2 HR2 hkM ⊢
      have hjk : (j : Int) - 1 = (k : Int) := by omega
      have hj0 : ¬ (j : Int) < 0 := by omega
      have hj1 : ((j : Int) == 0) = false := beq_eq_false_iff_ne.2 (by omega)
      have hj2 : (0 : Int) < (j : Int) := by omega
      have hkM2 : k < M := by omega
      have HJ : Hid (k + 1 = j) := hj
      generalize (f j).1 = ku at *
      generalize (f j).2 = kc at *
      generalize (f k).1 = pu at *
      generalize (f k).2 = pc at *
      clear hj
      have hA : Below w2.heap.size w2 (w2.alloc (.cells #[.float .f64 0, .float .f64 0] 40)) := (Below.refl _ _).alloc (Nat.le_refl _) _
      have hg2 : g < w2.heap.size := by omega
      have d3 := (hA.cell (p := ⟨g, k * 2, none⟩) hg2).trans c3
      have d4 := (hA.cell (p := ⟨g, k * 2 + 1, none⟩) hg2).trans c4
      have hA2 : Below w2.heap.size w2 (w2.alloc (.cells #[.float .f64 pu, .float .f64 pc] 40)) := (Below.refl _ _).alloc (Nat.le_refl _) _
      have B3 := B2.trans (hA2.mono (by omega))
      have e1 := (hA2.cell (p := ⟨g, j * 2, none⟩) hg2).trans c1
      have e2 := (hA2.cell (p := ⟨g, j * 2 + 1, none⟩) hg2).trans c2
      have e3 := (hA2.cell (p := ⟨w.heap.size, 0, none⟩) (by show w.heap.size < _; omega)).trans hrk
      have n0 := bk_cell w2 (pu, pc) 0 (.float .f64 pu) rfl
      have n1 := bk_cell w2 (pu, pc) 1 (.float .f64 pc) rfl
      dsimp only at n0 n1
      clear hK
      go_wp2_with fail
      refine wp_region_loose (by kernel_rfl) (by kernel_rfl) ?_
      iterate 7 (refine wpLoose_quiet rfl rfl ?_; intro K hK; go_big_quiet_op; go_big_quiet_on)
      refine wpLoose_float .sub (.inr (.inl rfl)) 23 23 _ _ rfl rfl _ _ rfl rfl (by rintro _ k' ⟨n', rfl⟩; first | exact ⟨n' + k', World.drewN_drewN _ _ _⟩ | exact ⟨n' + k', by simp [Nat.add_assoc]⟩) ?_
      intro zc zcl zch
      go_simp
      iterate 1 (refine wpLoose_quiet rfl rfl ?_; intro K hK; go_big_quiet_op; go_big_quiet_on)
      refine wpLoose_nil ?_
      intro n1
      have ZC : Hid _ := zch
      clear zch
      go_wp2_with fail
      refine wp_region_loose (by kernel_rfl) (by kernel_rfl) ?_
      iterate 9 (refine wpLoose_quiet rfl rfl ?_; intro K hK; go_big_quiet_op; go_big_quiet_on)
      refine wpLoose_float .sub (.inr (.inl rfl)) 23 23 _ _ rfl rfl _ _ rfl rfl (by rintro _ k' ⟨n', rfl⟩; first | exact ⟨n' + k', World.drewN_drewN _ _ _⟩ | exact ⟨n' + k', by simp [Nat.add_assoc]⟩) ?_
      intro z1 z1l z1h
      go_simp
      have Z1 : Hid _ := z1h
      clear z1h
      iterate 3 (refine wpLoose_quiet rfl rfl ?_; intro K hK; go_big_quiet_op; go_big_quiet_on)
      refine wpLoose_float .sub (.inr (.inl rfl)) 23 23 _ _ rfl rfl _ _ rfl rfl (by rintro _ k' ⟨n', rfl⟩; first | exact ⟨n' + k', World.drewN_drewN _ _ _⟩ | exact ⟨n' + k', by simp [Nat.add_assoc]⟩) ?_
      intro z2 z2l z2h
      go_simp
      have Z2 : Hid _ := z2h
      clear z2h
      iterate 1 (refine wpLoose_quiet rfl rfl ?_; intro K hK; go_big_quiet_op; go_big_quiet_on)
      refine wpLoose_float .quo (.inr (.inr (.inr rfl))) 23 23 _ _ rfl rfl _ _ rfl rfl (by rintro _ k' ⟨n', rfl⟩; first | exact ⟨n' + k', World.drewN_drewN _ _ _⟩ | exact ⟨n' + k', by simp [Nat.add_assoc]⟩) ?_
      intro z3 z3l z3h
      go_simp
      have Z3 : Hid _ := z3h
      clear z3h
      refine wpLoose_float .mul (.inr (.inr (.inl rfl))) 23 23 _ _ rfl rfl _ _ rfl rfl (by rintro _ k' ⟨n', rfl⟩; first | exact ⟨n' + k', World.drewN_drewN _ _ _⟩ | exact ⟨n' + k', by simp [Nat.add_assoc]⟩) ?_
      intro z4 z4l z4h
      go_simp
      have Z4 : Hid _ := z4h
      clear z4h
      refine wpLoose_float .add (.inl rfl) 23 23 _ _ rfl rfl _ _ rfl rfl (by rintro _ k' ⟨n', rfl⟩; first | exact ⟨n' + k', World.drewN_drewN _ _ _⟩ | exact ⟨n' + k', by simp [Nat.add_assoc]⟩) ?_
      intro z5 z5l z5h
      go_simp
      have Z5 : Hid _ := z5h
      clear z5h
      iterate 1 (refine wpLoose_quiet rfl rfl ?_; intro K hK; go_big_quiet_op; go_big_quiet_on)
      refine wpLoose_nil ?_
      intro n2
      go_wp2
      go_ret
      refine ⟨_, rfl, below_drewN B3 _, z5l, ?_⟩
      rw [Z5.out, Z4.out, Z3.out, Z2.out, Z1.out, ZC.out]
      exact HR2.out
end Go.Proofs.Ytfjfpplemgjcmab
/- Buckets. -/
namespace Go.Proofs.Ytfjfpplemgjcmab
open Go.RowKit

/-- Without an end? -/
def upB (x : Nat) : Bool := FloatKind.f64.format.order x 9218868437227405311 == some .gt
set_option maxHeartbeats 400000 in
theorem isInf1_any (x : Nat) (w : World) : Calls Try.prog 43 #[.float .f64 x, .int .i64 1] w fun r w' => r = .returned (.bool (upB x)) ∧ w' = w := by
  unfold upB
  generalize hX : (FloatKind.f64.format.order x 9218868437227405311 == some .gt) = X
  go_enter Try.func43, Try.ntmps43
  go_wp2
  go_ret
  exact ⟨rfl, rfl⟩
theorem rsg_getD (f : Nat → Bk) (m : Nat) : ∀ j, j < m → (rsg f m).getD (m - 1 - j) (0, none) = ab' (f j) := by
  induction m with
  | zero => intro j hj; omega
  | succ m ih =>
    intro j hj
    rw [rsg]
    by_cases e : j = m
    · subst e
      rw [show j + 1 - 1 - j = 0 by omega]; rfl
    · rw [show m + 1 - 1 - j = (m - 1 - j) + 1 by omega]
      exact ih j (by omega)
theorem tpI_congr (A B : Nat → Ab) (m : Nat) (h : ∀ j, j < m → A j = B j) : ∀ i, i < m → tpI A i = tpI B i
  | 0, hi => by rw [tpI, tpI, h 0 hi]
  | i + 1, hi => by rw [tpI, tpI, tpI_congr A B m h i (by omega), h i (by omega)]
theorem rzI_congr (A B : Nat → Ab) (m : Nat) (h : ∀ j, j < m → A j = B j) (i : Nat) (hi : i < m) : rzI A i = rzI B i := by
  unfold rzI
  rw [tpI_congr A B m h i hi, h i hi]
theorem fstI_congr (P Q : Nat → Bool) : ∀ k i, (∀ j, i ≤ j → j < i + k → P j = Q j) → fstI P k i = fstI Q k i
  | 0, _, _ => rfl
  | k + 1, i, h => by
    unfold fstI
    rw [h i (Nat.le_refl _) (by omega), fstI_congr P Q k (i + 1) fun j h1 h2 => h j (by omega) (by omega)]
theorem anC_congr (Z Y : Nat → Ab) (m : Nat) (rk : Option Nat) (hm : 2 ≤ m) (h : ∀ j, j < m → Z j = Y j) : anC Z m rk = anC Y m rk := by
  unfold anC
  have e := fstI_congr (fun j => nbB (Z j).2 rk) (fun j => nbB (Y j).2 rk) (m - 1) 0 fun j _ hj => by
    show nbB (Z j).2 rk = nbB (Y j).2 rk
    rw [h j (by omega)]
  have hb := fstI_bd (fun j => nbB (Y j).2 rk) (m - 1) 0
  rw [e]
  generalize fstI (fun j => nbB (Y j).2 rk) (m - 1) 0 = X at *
  cases X with
  | negSucc k =>
    dsimp only
    rw [h (m - 2) (by omega)]
  | ofNat k =>
    cases k with
    | zero =>
      dsimp only
      rw [h 0 (by omega)]
    | succ k =>
      have hk : k + 1 < m := by
        rcases hb with hb | hb
        · cases hb
        · have := hb.2
          have e2 : Int.ofNat (k + 1) = ((k + 1 : Nat) : Int) := rfl
          rw [e2] at this
          omega
      dsimp only
      rw [h (k + 1) hk, h k (by omega)]
/-- The row out of the list. -/
def atX (X : List Ab) (j : Nat) : Ab := X.getD (X.length - 1 - j) (0, none)
/-- The quantile's class, of the buckets joined. -/
def buC (q : Option Nat) (X : List Ab) : Option Nat :=
  if X.length < 2 ∨ upB (atX X (X.length - 1)).1 = false then none
  else if fo (rzI (atX X) (X.length - 1)).2 (some 0) = some .gt then anC (rzI (atX X)) X.length (fb .mul q (rzI (atX X) (X.length - 1)).2) else none
/-- .. of the buckets as they stand. -/
def BuV (bs : Nat → Bk) (n : Nat) (q c : Option Nat) : Prop := ∃ k f, Sim kb ((seg bs 0 n).filter nn) (seg f 0 k) ∧ Up kb (seg f 0 k) ∧ c = buC q (jnI (fun j => ab' (f j)) k)
theorem seg_at {E : Type} (f g : Nat → E) : ∀ n m a, seg f a n = seg g a m → n = m ∧ ∀ j, j < n → f (a + j) = g (a + j)
  | 0, 0, _, _ => ⟨rfl, fun j hj => by omega⟩
  | 0, m + 1, _, h => by cases h
  | n + 1, 0, _, h => by cases h
  | n + 1, m + 1, a, h => by
    rw [seg, seg] at h
    injection h with h1 h2
    obtain ⟨e, hj⟩ := seg_at f g n m (a + 1) h2
    subst e
    refine ⟨rfl, fun j hjn => ?_⟩
    cases j with
    | zero => exact h1
    | succ j =>
      have := hj j (by omega)
      rw [show a + 1 + j = a + (j + 1) by omega] at this
      exact this
theorem BuV.one {bs : Nat → Bk} {n : Nat} {q c d : Option Nat} (h : BuV bs n q c) (h' : BuV bs n q d) : c = d := by
  obtain ⟨k, f, s1, u1, rfl⟩ := h
  obtain ⟨k', f', s2, u2, rfl⟩ := h'
  have e := sim_one (s1.symm.trans s2) u1 u2
  obtain ⟨rfl, hj⟩ := seg_at f f' k k' 0 e
  congr 1
  refine jnI_congr _ _ _ fun j hjk => ?_
  have := hj j hjk
  rw [Nat.zero_add] at this
  rw [this]
theorem at_rsg (f : Nat → Bk) (m j : Nat) (hj : j < m) : atX (rsg f m) j = ab' (f j) := by
  unfold atX
  rw [rsg_len]
  exact rsg_getD f m j hj
theorem buC_lt (q : Option Nat) (f : Nat → Bk) (m : Nat) (h : m < 2) : buC q (rsg f m) = none := by
  unfold buC
  rw [rsg_len, if_pos (.inl h)]
theorem buC_fin (q : Option Nat) (f : Nat → Bk) (L : Nat) (h : upB (f L).1 = false) : buC q (rsg f (L + 1)) = none := by
  unfold buC
  rw [rsg_len, if_pos]
  right
  rw [show L + 1 - 1 = L from rfl, at_rsg f (L + 1) L (by omega)]
  exact h
theorem buC_val (q : Option Nat) (f : Nat → Bk) (L : Nat) (hL : 1 ≤ L) (h : upB (f L).1 = true) :
    buC q (rsg f (L + 1)) = if fo (rzI (fun j => ab' (f j)) L).2 (some 0) = some .gt then anC (rzI (fun j => ab' (f j))) (L + 1) (fb .mul q (rzI (fun j => ab' (f j)) L).2) else none := by
  have hz : ∀ j, j < L + 1 → rzI (atX (rsg f (L + 1))) j = rzI (fun j => ab' (f j)) j := fun j hj => rzI_congr _ _ (L + 1) (fun i hi => at_rsg f (L + 1) i hi) j hj
  unfold buC
  rw [rsg_len, if_neg, show L + 1 - 1 = L from rfl, hz L (by omega), anC_congr _ _ (L + 1) _ (by omega) hz]
  rintro (h1 | h1)
  · omega
  · rw [show L + 1 - 1 = L from rfl, at_rsg f (L + 1) L (by omega)] at h1
    have h2 : upB (f L).1 = false := h1
    rw [h] at h2
    cases h2
set_option maxHeartbeats 4000000 in
set_option maxRecDepth 100000 in
theorem buckets_part (q : Nat) (hq : Pt q) (a : Option Addr) (c n : Nat) (bs : Nat → Bk) (w : World) (hf : Bml w a bs n) (hw : BW bs n) (hl : 16 * n ≤ 140737488355328) :
    Calls Try.prog 22 #[.float .f64 q, .slice a n c] w fun r w' => ∃ d, BuV bs n (cl q) d ∧ RB w d r w' := by
  have kP := isPart_yes q hq
  have kN := nan_any
  have hm := @run_fmul Try.prog
  have kI := inOrder_any a c n bs w hf hl
  have HW : Hid (BW bs n) := hw
  clear hf hw
  go_enter Try.func22, Try.ntmps22
  go_wp2_with fail
  go_fit (kP _)
  rintro r w ⟨rfl, rfl⟩
  go_wp2_with fail
  go_fit kI
  rintro r w1 ⟨v, k, f, rfl, o1, hk, hs, hu, hb1⟩
  obtain ⟨a1, c1, rfl, m1, hc1⟩ := o1.bml
  have hbw1 : BW f k := fun j hj => by
    have hmem : f j ∈ seg f 0 k := (mem_seg _ _ _ _).2 ⟨j, Nat.zero_le _, by omega, rfl⟩
    have h2 := (hs.symm.mem _ hmem)
    obtain ⟨i, _, hi, e⟩ := (mem_seg _ _ _ _).1 (List.mem_filter.1 h2).1
    rw [e]
    exact HW.out i (by omega)
  have kJ := joined_any a1 c1 k f w1 m1 hbw1 (by omega)
  have HS : Hid (∀ d, d = buC (cl q) (jnI (fun j => ab' (f j)) k) → BuV bs n (cl q) d) := fun d hd => ⟨k, f, hs, hu, hd⟩
  clear o1 m1 hc1 hbw1 hs hu kI
  go_wp2_with fail
  go_fit kJ
  rintro r w2 ⟨v, m, f2, rfl, o2, hbw2, hmk, hX, hb2⟩
  have B2 := hb1.trans (hb2.mono hb1.size)
  clear kJ hb2
  rw [← hX] at HS
  clear hX
  by_cases hm2 : m < 2
  · have HD : Hid (BuV bs n (cl q) none) := HS.out none (buC_lt _ _ _ hm2).symm
    have hmi : (m : Int) < 2 := by omega
    have hdt : decide ((m : Int) < 2) = true := decide_eq_true hmi
    obtain ⟨a2, c2, rfl, _, _⟩ := o2.bml
    clear o2 hbw2 HS
    go_wp2_with fail
    go_fit (kN _)
    rintro r w ⟨rfl, rfl⟩
    go_wp2
    go_ret
    exact ⟨none, HD.out, _, rfl, B2, by decide, cl_theNaN⟩
  · obtain ⟨L, rfl⟩ : ∃ L, m = L + 1 := ⟨m - 1, by omega⟩
    have hL : 1 ≤ L := by omega
    rcases o2.parts with ⟨hv, h0⟩ | ⟨g2, c2, hv, hr, hc⟩
    · omega
    cases hv
    have hmi : ¬ ((L + 1 : Nat) : Int) < 2 := by omega
    have hdf : decide (((L + 1 : Nat) : Int) < 2) = false := decide_eq_false hmi
    have hlast : ((L + 1 : Nat) : Int) - 1 = (L : Int) := by omega
    have cu := hr.cellU L (by omega)
    have kF := isInf1_any (f2 L).1
    have hLL : L < L + 1 := by omega
    cases hup : upB (f2 L).1
    · have HD : Hid (BuV bs n (cl q) none) := HS.out none (buC_fin _ _ _ hup).symm
      rw [hup] at kF
      clear o2 hbw2 HS hr hup
      generalize (f2 L).1 = lu at *
      obtain ⟨M, hM⟩ : ∃ M, L + 1 = M := ⟨_, rfl⟩
      rw [hM] at hmi hdf hlast hLL hc ⊢
      clear hM
      go_wp2_with fail
      go_fit (kF _)
      rintro r w ⟨rfl, rfl⟩
      go_wp2_with fail
      go_fit (kN _)
      rintro r w ⟨rfl, rfl⟩
      go_wp2
      go_ret
      exact ⟨none, HD.out, _, rfl, B2, by decide, cl_theNaN⟩
    · rw [hup] at kF
      have kR := raise_any w1.heap.size g2 c2 (L + 1) f2 w2 hr hbw2 (by omega) (by omega)
      have HV : Hid (∀ d, d = (if fo (rzI (fun j => ab' (f2 j)) L).2 (some 0) = some .gt then anC (rzI (fun j => ab' (f2 j))) (L + 1) (fb .mul (cl q) (rzI (fun j => ab' (f2 j)) L).2) else none) → BuV bs n (cl q) d) := fun d hd => HS.out d (by rw [buC_val _ _ _ hL hup]; exact hd)
      clear o2 hbw2 HS hr hup
      generalize (f2 L).1 = lu at *
      obtain ⟨M, hM⟩ : ∃ M, L + 1 = M := ⟨_, rfl⟩
      have HM : Hid (L + 1 = M) := hM
      rw [hM] at hmi hdf hlast hLL hc kR ⊢
      clear hM
      go_wp2_with fail
      go_fit (kF _)
      rintro r w ⟨rfl, rfl⟩
      go_wp2_with fail
      go_fit kR
      rintro r w3 ⟨rfl, ⟨f3, hr3, hbw3, hz3⟩, hb3⟩
      have B3 := B2.trans (hb3.mono hb1.size)
      clear kR hb3
      have cc := hr3.cellC L hLL
      have hal : cl (f3 L).2 = (rzI (fun j => ab' (f2 j)) L).2 := congrArg Prod.snd (hz3 L hLL)
      have HAN : Hid (∀ rk, anC (fun j => ab' (f3 j)) (L + 1) rk = anC (rzI (fun j => ab' (f2 j))) (L + 1) rk) := fun rk => anC_congr _ _ (L + 1) rk (by omega) fun j hj => hz3 j (by rw [← HM.out]; exact hj)
      have hoz : FloatKind.f64.format.order (f3 L).2 0 = fo (rzI (fun j => ab' (f2 j)) L).2 (some 0) := by rw [fo_cl, hal, cl_lit 0 (by decide)]
      rw [← hoz, ← hal] at HV
      have kA := atRank_any g2 c2 L f3 (fz .mul q (f3 L).2 w3) (w3.drewN (fk .mul q (f3 L).2)) hr3.lt (fun j hj => by
        rw [HM.out] at hj
        rw [Nat.zero_add]
        exact ⟨hr3.cellU j hj, hr3.cellC j hj⟩) (by rw [HM.out]; exact hbw3) hL (by rw [HM.out]; exact hc) (by omega)
      rw [HM.out] at kA
      generalize (f3 L).2 = al at *
      clear hoz hal
      by_cases hgt : FloatKind.f64.format.order al 0 = some .gt
      · rw [if_pos hgt, ← HAN.out, HM.out] at HV
        have HD : Hid (BuV bs n (cl q) (anC (fun j => ab' (f3 j)) M (fb .mul (cl q) (cl al)))) := HV.out _ rfl
        rw [cl_fz] at kA
        generalize anC (fun j => ab' (f3 j)) M (fb .mul (cl q) (cl al)) = R at *
        clear HV HAN hr3 hbw3 hz3
        go_wp2_with fail
        go_fit kA
        rintro r w4 ⟨z, rfl, hb4, hzl, hzc⟩
        have B4 := (below_drewN B3 (fk .mul q al)).trans (hb4.mono B3.size)
        have HZ : Hid (cl z = R) := hzc
        clear hb4 hzc kA
        go_wp2
        go_ret
        exact ⟨R, HD.out, _, rfl, B4, hzl, HZ.out⟩
      · have hgf : (FloatKind.f64.format.order al 0 == some .gt) = false := beq_eq_false_iff_ne.2 hgt
        rw [if_neg hgt] at HV
        have HD : Hid (BuV bs n (cl q) none) := HV.out _ rfl
        clear HV HAN hr3 hbw3 hz3 hgt kA
        go_wp2_with fail
        go_fit (kN _)
        rintro r w ⟨rfl, rfl⟩
        go_wp2
        go_ret
        exact ⟨none, HD.out, _, rfl, B3, by decide, cl_theNaN⟩
set_option maxHeartbeats 1000000 in
theorem buckets_beyond (q : Nat) (d : Option Nat) (hq : byP q d) (v : Value) (w : World) : Calls Try.prog 22 #[.float .f64 q, v] w (RF w d) := by
  have k1 := isPart_no q d hq
  have k2 := beyond_any q d hq
  go_enter Try.func22, Try.ntmps22
  go_wp2_with fail
  go_fit (k1 _)
  rintro r w ⟨rfl, rfl⟩
  go_wp2_with fail
  go_fit (k2 _)
  rintro r w2 ⟨z, k, rfl, rfl, hzl, hzc⟩
  have HZ : Hid (cl z = d) := hzc
  clear hzc
  go_wp2
  go_ret
  exact ⟨_, _, rfl, rfl, hzl, HZ.out⟩
end Go.Proofs.Ytfjfpplemgjcmab
