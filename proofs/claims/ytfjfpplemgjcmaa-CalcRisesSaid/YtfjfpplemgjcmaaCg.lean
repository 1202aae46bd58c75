/- joined. -/
import Derived.Test.YtfjfpplemgjcmaaCf
namespace Go.Proofs.Ytfjfpplemgjcmaa
open Go.RowKit

/-- A bucket's bound and its count's class. -/
abbrev Ab := Nat × Option Nat
def ab' (u : Bk) : Ab := (u.1, cl u.2)
/-- The row, the last one first. -/
def rsg (f : Nat → Bk) : Nat → List Ab
  | 0 => []
  | n + 1 => ab' (f n) :: rsg f n
theorem rsg_congr (f g : Nat → Bk) (n : Nat) (h : ∀ j, j < n → ab' (f j) = ab' (g j)) : rsg f n = rsg g n := by
  induction n with
  | zero => rfl
  | succ n ih => rw [rsg, rsg, ih fun j hj => h j (by omega), h n (by omega)]
theorem rsg_len (f : Nat → Bk) (n : Nat) : (rsg f n).length = n := by
  induction n with
  | zero => rfl
  | succ n ih => rw [rsg, List.length_cons, ih]
theorem rsg_at (f g : Nat → Bk) : ∀ n m, rsg f n = rsg g m → n = m ∧ ∀ j, j < n → ab' (f j) = ab' (g j)
  | 0, 0, _ => ⟨rfl, fun j hj => by omega⟩
  | 0, m + 1, h => by cases h
  | n + 1, 0, h => by cases h
  | n + 1, m + 1, h => by
    rw [rsg, rsg] at h
    injection h with h1 h2
    obtain ⟨e, hj⟩ := rsg_at f g n m h2
    subst e
    refine ⟨rfl, fun j hjn => ?_⟩
    by_cases he : j = n
    · subst he; exact h1
    · exact hj j (by omega)
/-- One bucket more. -/
def jnR : List Ab → Ab → List Ab
  | [], u => [u]
  | (p, c) :: r, u => if (FloatKind.f64.format.order p u.1 == some .eq) = true then (p, fb .add c u.2) :: r else u :: (p, c) :: r
def jnI (t : Nat → Ab) : Nat → List Ab
  | 0 => []
  | i + 1 => jnR (jnI t i) (t i)
theorem jnI_congr (t s : Nat → Ab) (n : Nat) (h : ∀ j, j < n → t j = s j) : jnI t n = jnI s n := by
  induction n with
  | zero => rfl
  | succ n ih => rw [jnI, jnI, ih fun j hj => h j (by omega), h n (by omega)]
theorem bc_setC (f : Nat → Bk) (j : Nat) (z : Nat) : ∀ n, j < n → (bc f n).set (j * 2 + 1) (.float .f64 z) = bc (up f j ((f j).1, z)) n
  | 0, h => by omega
  | n + 1, h => by
    rw [bc_succ, bc_succ]
    by_cases hj : j < n
    · rw [List.set_append_left _ _ (by rw [bc_len]; omega), bc_setC f j z n hj]
      congr 1
      congr 1
      exact (if_neg (by omega)).symm
    · obtain rfl : j = n := by omega
      rw [List.set_append_right _ _ (by rw [bc_len]; omega), bc_len, show j * 2 + 1 - j * 2 = 1 by omega]
      congr 1
      · exact bc_congr _ _ _ fun i hi => (if_neg (by omega)).symm
      · have : up f j ((f j).1, z) j = ((f j).1, z) := if_pos rfl
        rw [this]
        rfl
theorem Rb.setC {w : World} {S g c n : Nat} {f : Nat → Bk} (h : Rb w S g c n f) (j : Nat) (hj : j < n) (z : Nat) : Rb (w.setCell ⟨g, j * 2 + 1, none⟩ (.float .f64 z)) S g c n (up f j ((f j).1, z)) := by
  unfold Rb
  rw [← bc_setC f j z n hj]
  exact (World.ownsRow.stored h (j * 2 + 1) (.float .f64 z)).1
theorem BW.up {f : Nat → Bk} {n : Nat} (h : BW f n) (j : Nat) (u : Bk) (h1 : u.1 < 18446744073709551616) (h2 : u.2 < 18446744073709551616) : BW (up f j u) n := fun i hi => by
  unfold Go.Proofs.Ytfjfpplemgjcmaa.up
  split
  · exact ⟨h1, h2⟩
  · exact h i hi
theorem BW.push {f : Nat → Bk} {n : Nat} (h : BW f n) (u : Bk) (h1 : u.1 < 18446744073709551616) (h2 : u.2 < 18446744073709551616) : BW (Go.Proofs.Ytfjfpplemgjcmaa.up f n u) (n + 1) := fun i hi => by
  unfold Go.Proofs.Ytfjfpplemgjcmaa.up
  split
  · exact ⟨h1, h2⟩
  · exact h i (by omega)
theorem rsg_push (f : Nat → Bk) (n : Nat) (u : Bk) : rsg (up f n u) (n + 1) = ab' u :: rsg f n := by
  rw [rsg, rsg_congr (up f n u) f n fun j hj => by rw [show up f n u j = f j from if_neg (by omega)]]
  rw [show up f n u n = u from if_pos rfl]
/-- What a function that makes a row of buckets answers. -/
def RBk (w : World) (S n : Nat) (X : List Ab) (r : Ending) (w' : World) : Prop := ∃ v m f, r = .returned v ∧ Br w' S v m f ∧ BW f m ∧ m ≤ n ∧ rsg f m = X ∧ Below S w w'
set_option maxHeartbeats 2000000 in
set_option maxRecDepth 100000 in
theorem joined_any (a : Option Addr) (c n : Nat) (bs : Nat → Bk) (w : World) (hf : Bml w a bs n) (hw : BW bs n) (hl : 16 * n ≤ 140737488355328) :
    Calls Try.prog 37 #[.slice a n c] w (RBk w w.heap.size n (jnI (fun j => ab' (bs j)) n)) := by
  have hsf := @run_store_float Try.prog
  have ha := @run_fadd Try.prog
  have HF : Hid (Bml w a bs n) := hf
  have HW : Hid (BW bs n) := hw
  obtain ⟨G, hG⟩ : ∃ G, G = w.heap.size := ⟨_, rfl⟩
  rw [← hG]
  have HG : Hid (G = w.heap.size) := hG
  clear hf hG hw
  go_enter Try.func37, Try.ntmps37
  go_wp2
  go_loopw [3, 9] (fun ov iv w' => ∃ (i m : Nat) (f : Nat → Bk) (A : Option Addr) (C : Nat), iv = .int .i64 (i : Int) ∧ i ≤ n ∧ m ≤ i ∧ ov = .slice A m C ∧ Hid (Br w' G (.slice A m C) m f) ∧ Hid (BW f m) ∧ Hid (rsg f m = jnI (fun j => ab' (bs j)) i) ∧ Below G w w') (fun _ iv _ => n - (RowKit.intOf iv).toNat)
  case atStart => exact ⟨0, 0, bs, none, 0, rfl, by omega, by omega, rfl, Br.nil _ _ _, fun j hj => absurd hj (by omega), rfl, by rw [HG.out]; exact Below.refl _ _⟩
  case round =>
    obtain ⟨i, m, f, A, C, rfl, hi, hm, rfl, o, hbw, hs, hb⟩ := hrel
    have hGw : G ≤ wr.heap.size := by rw [HG.out]; rw [HG.out] at hb; exact hb.size
    by_cases hlt : i < n
    · have hii : (i : Int) < n := by omega
      rcases HF.out with h0 | ⟨g, of_, rfl, hg, hat⟩
      · omega
      rw [← HG.out] at hg
      obtain ⟨f1, f2⟩ := hat i hlt
      have q1 := (hb.cell (p := ⟨g, of_ + i * 2, none⟩) hg).trans f1
      have q2 := (hb.cell (p := ⟨g, of_ + i * 2 + 1, none⟩) hg).trans f2
      have HI : Hid (i + 1 ≤ n) := hlt
      have hjn : jnI (fun j => ab' (bs j)) (i + 1) = jnR (jnI (fun j => ab' (bs j)) i) (ab' (bs i)) := rfl
      rw [← hs.out] at hjn
      have hul := HW.out i hlt
      obtain ⟨u, hu⟩ : ∃ u, bs i = u := ⟨_, rfl⟩
      rw [hu] at q1 q2 hjn hul
      clear f1 f2 hat hu hs
      generalize hJ : jnI (fun j => ab' (bs j)) (i + 1) = J at *
      obtain ⟨xu, xc⟩ := u
      dsimp only at q1 q2
      have n0 := bk_cell wr (xu, xc) 0 (.float .f64 xu) rfl
      have n1 := bk_cell wr (xu, xc) 1 (.float .f64 xc) rfl
      dsimp only at n0 n1
      have ob : Br (wr.alloc (.cells #[.float .f64 xu, .float .f64 xc] 34)) G (.slice A m C) m f := World.ownsRow.alloc o.out _
      have bb : Below G w (wr.alloc (.cells #[.float .f64 xu, .float .f64 xc] 34)) := hb.alloc hGw _
      have hsz : (wr.alloc (.cells #[.float .f64 xu, .float .f64 xc] 34)).heap.size = wr.heap.size + 1 := by simp
      by_cases hm0 : m = 0
      · subst hm0
        have hneg : decide ((0 : Int) ≤ ((0 : Nat) : Int) - 1) = false := by decide
        have HJ : Hid ([ab' (xu, xc)] = jnI (fun j => ab' (bs j)) (i + 1)) := by show _ = _; rw [hJ, hjn]; rfl
        have HOB : Hid _ := ob
        have HBB : Hid _ := bb
        clear hjn o hb ob bb
        go_wp2_with fail
        go_quiet (fail)
        have oz : Br ((wr.alloc (.cells #[.float .f64 xu, .float .f64 xc] 34)).drewN nq) G (.slice A 0 C) 0 f := HOB.out
        have bz := below_drewN HBB.out nq
        have m0 : ((wr.alloc (.cells #[.float .f64 xu, .float .f64 xc] 34)).drewN nq).cell? ⟨wr.heap.size, 0, none⟩ = some (.float .f64 xu) := n0
        have m1 : ((wr.alloc (.cells #[.float .f64 xu, .float .f64 xc] 34)).drewN nq).cell? ⟨wr.heap.size, 1, none⟩ = some (.float .f64 xc) := n1
        have hsz2 : ((wr.alloc (.cells #[.float .f64 xu, .float .f64 xc] 34)).drewN nq).heap.size = wr.heap.size + 1 := hsz
        clear n0 n1 q1 q2 hsz HOB HBB
        generalize (wr.alloc (.cells #[.float .f64 xu, .float .f64 xc] 34)).drewN nq = W2 at *
        obtain ⟨v', w', r1, o', b'⟩ := append_b W2 G (.slice A 0 C) 0 f (xu, xc) (by omega) (by omega) oz
        obtain ⟨A', C', rfl, _, _⟩ := o'.bml
        have O' : Hid _ := o'
        have B' : Hid (Below G w w') := bz.trans b'
        have BW' : Hid (BW (up f 0 (xu, xc)) 1) := BW.push hbw.out _ hul.1 hul.2
        have J' : Hid (rsg (up f 0 (xu, xc)) 1 = jnI (fun j => ab' (bs j)) (i + 1)) := HJ.out
        dsimp only at r1
        clear o' b' oz bz hsz2
        go_wp2_with (at_builtin; refine wpList_append_run rfl (.tmp 38) (.tmp 40) 36 36 rfl _ _ rfl rfl r1 ?_)
        exact ⟨⟨i + 1, 1, _, A', C', by go_num, HI, by omega, rfl, O', BW', J', B'.out⟩, by simp [RowKit.intOf]; omega⟩
      · obtain ⟨p, rfl⟩ : ∃ p, m = p + 1 := ⟨m - 1, by omega⟩
        rcases ob.parts with ⟨hv, h0⟩ | ⟨g2, c2, hv, hr, hc⟩
        · omega
        cases hv
        have hlast : ((p + 1 : Nat) : Int) - 1 = (p : Int) := by omega
        have hnn : (0 : Int) ≤ (p : Int) := by omega
        have hpC : p < p + 1 := by omega
        have c1 := hr.cellU p hpC
        have c2 := hr.cellC p hpC
        have z1 := hr.froz (p * 2 + 1)
        rw [rsg] at hjn
        have HR : Hid (Rb (wr.alloc (.cells #[.float .f64 xu, .float .f64 xc] 34)) G g2 C (p + 1) f) := hr
        have hup : rsg f (p + 1) = ab' (f p) :: rsg f p := rfl
        have HBB : Hid _ := bb
        obtain ⟨⟨yu, yc⟩, hy⟩ : ∃ y, f p = y := ⟨_, rfl⟩
        rw [hy] at c1 c2 hjn
        dsimp only at c1 c2
        cases heq : (FloatKind.f64.format.order yu xu == some .eq)
        · have HJ : Hid (ab' (xu, xc) :: rsg f (p + 1) = jnI (fun j => ab' (bs j)) (i + 1)) := by
            show _ = _
            rw [hJ, hjn, hup, hy]
            unfold jnR ab'
            dsimp only
            rw [heq]
            rfl
          clear hjn o hb ob bb hup hr hc
          go_wp2_with fail
          go_quiet (fail)
          have oz : Rb ((wr.alloc (.cells #[.float .f64 xu, .float .f64 xc] 34)).drewN nq) G g2 C (p + 1) f := HR.out
          have bz := below_drewN HBB.out nq
          have m0 : ((wr.alloc (.cells #[.float .f64 xu, .float .f64 xc] 34)).drewN nq).cell? ⟨wr.heap.size, 0, none⟩ = some (.float .f64 xu) := n0
          have m1 : ((wr.alloc (.cells #[.float .f64 xu, .float .f64 xc] 34)).drewN nq).cell? ⟨wr.heap.size, 1, none⟩ = some (.float .f64 xc) := n1
          have m2 : ((wr.alloc (.cells #[.float .f64 xu, .float .f64 xc] 34)).drewN nq).cell? ⟨g2, p * 2 + 1, none⟩ = some (.float .f64 yc) := c2
          have m3 : ((wr.alloc (.cells #[.float .f64 xu, .float .f64 xc] 34)).drewN nq).frozen? ⟨g2, p * 2 + 1, none⟩ = false := z1
          have hsz2 : ((wr.alloc (.cells #[.float .f64 xu, .float .f64 xc] 34)).drewN nq).heap.size = wr.heap.size + 1 := hsz
          clear n0 n1 q1 q2 hsz HR HBB c1 c2 z1
          generalize (wr.alloc (.cells #[.float .f64 xu, .float .f64 xc] 34)).drewN nq = W2 at *
          obtain ⟨v', w', r1, o', b'⟩ := append_b W2 G (.slice (some ⟨g2, 0, none⟩) (p + 1) C) (p + 1) f (xu, xc) (by omega) (by omega) oz
          obtain ⟨A', C', rfl, _, _⟩ := o'.bml
          have O' : Hid _ := o'
          have B' : Hid (Below G w w') := bz.trans b'
          have BW' : Hid (BW (up f (p + 1) (xu, xc)) (p + 1 + 1)) := BW.push hbw.out _ hul.1 hul.2
          have J' : Hid (rsg (up f (p + 1) (xu, xc)) (p + 1 + 1) = jnI (fun j => ab' (bs j)) (i + 1)) := by show _ = _; rw [rsg_push]; exact HJ.out
          dsimp only at r1
          clear o' b' oz bz hsz2 m2 m3 hy
          go_wp2_with (at_builtin; refine wpList_append_run rfl (.tmp 38) (.tmp 40) 36 36 rfl _ _ rfl rfl r1 ?_)
          exact ⟨⟨i + 1, p + 1 + 1, _, A', C', by go_num, HI, by omega, rfl, O', BW', J', B'.out⟩, by simp [RowKit.intOf]; omega⟩
        · have HJ : Hid (∀ z, cl z = fb .add (cl yc) (cl xc) → (yu, cl z) :: rsg f p = jnI (fun j => ab' (bs j)) (i + 1)) := fun z hz => by
            rw [hJ, hjn]
            unfold jnR ab'
            dsimp only
            rw [heq, if_pos rfl, hz]
          clear hjn o hb ob bb hup hr hc
          go_wp2_with fail
          go_quiet (fail)
          have oz : Rb ((wr.alloc (.cells #[.float .f64 xu, .float .f64 xc] 34)).drewN nq) G g2 C (p + 1) f := HR.out
          have bz := below_drewN HBB.out nq
          have m0 : ((wr.alloc (.cells #[.float .f64 xu, .float .f64 xc] 34)).drewN nq).cell? ⟨wr.heap.size, 0, none⟩ = some (.float .f64 xu) := n0
          have m1 : ((wr.alloc (.cells #[.float .f64 xu, .float .f64 xc] 34)).drewN nq).cell? ⟨wr.heap.size, 1, none⟩ = some (.float .f64 xc) := n1
          have m2 : ((wr.alloc (.cells #[.float .f64 xu, .float .f64 xc] 34)).drewN nq).cell? ⟨g2, p * 2 + 1, none⟩ = some (.float .f64 yc) := c2
          have m3 : ((wr.alloc (.cells #[.float .f64 xu, .float .f64 xc] 34)).drewN nq).frozen? ⟨g2, p * 2 + 1, none⟩ = false := z1
          have hsz2 : ((wr.alloc (.cells #[.float .f64 xu, .float .f64 xc] 34)).drewN nq).heap.size = wr.heap.size + 1 := hsz
          clear n0 n1 q1 q2 hsz HR HBB c1 c2 z1
          generalize (wr.alloc (.cells #[.float .f64 xu, .float .f64 xc] 34)).drewN nq = W2 at *
          have o4 := Rb.setC (oz.drew (1 + fk .add yc xc)) p hpC (fz .add yc xc W2.drew)
          have b4 := (below_drewN bz (1 + fk .add yc xc)).setCell (p := ⟨g2, p * 2 + 1, none⟩) oz.ge (.float .f64 (fz .add yc xc W2.drew))
          have O4 : Hid _ := o4
          have J4 : Hid (rsg (up f p ((f p).1, fz .add yc xc W2.drew)) (p + 1) = jnI (fun j => ab' (bs j)) (i + 1)) := by
            show _ = _
            rw [rsg_push, hy]
            exact HJ.out _ (cl_fz _ _ _ _)
          have BW4 : Hid (BW (up f p ((f p).1, fz .add yc xc W2.drew)) (p + 1)) := BW.up hbw.out p _ (hbw.out p hpC).1 (fz_lt _ _ _ _)
          have HB4 : Hid _ := b4
          clear o4 b4 oz bz hy
          go_wp2_with fail
          go_region
          go_wp2
          exact ⟨⟨i + 1, p + 1, _, _, C, by go_num, HI, by omega, rfl, O4, BW4, J4, HB4.out⟩, by simp [RowKit.intOf]; omega⟩
    · have hii : ¬ (i : Int) < n := by omega
      have e : i = n := by omega
      subst e
      go_wp2
      go_ret
      exact ⟨_, m, f, rfl, o.out, hbw.out, hm, hs.out, hb⟩
end Go.Proofs.Ytfjfpplemgjcmaa
