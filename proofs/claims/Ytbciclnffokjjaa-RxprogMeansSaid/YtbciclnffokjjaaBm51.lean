/- A bundle of texts. -/
import Derived.Test.YtbciclnffokjjaaBm45
import Derived.Test.YtbciclnffokjjaaBm47
import Derived.Test.YtbciclnffokjjaaBm50
import Derived.Test.YtbciclnffokjjaaBm27
import Derived.Test.YtbciclnffokjjaaBm29
import Derived.Test.YtbciclnffokjjaaBm28
/- The reference's Matches. -/
namespace Go.Proofs.Ytbciclnffokjjaa
open Go.RowKit Go.Lib

theorem sheet_any : ∀ m, LyK m
  | 0 => fun t op s s1 _ _ _ _ _ _ _ _ _ _ h => by cases h
  | m + 1 => lay_of m (sheet_any m)
/-- A sheet that is laid is a sheet. -/
theorem LyT.sht {H S n : Nat} {y : Lyd} {nv : Value} {sa : Option Addr} {sc : Nat} {W0 w : World} {r : Nat → Int} (F : Nat → Nat → Nat → Bool) (h : LyT H S n y nv (.slice sa n sc) (fun _ => False) w) (hg : LyG H W0 y 0 y.N) (hb : Below H W0 w) (hN : 0 < y.N) (rr : n = 0 ∨ ∃ g o, sa = some ⟨g, o, none⟩ ∧ g < H ∧ ∀ j, j < n → w.cell? ⟨g, o + j, none⟩ = some (.int .i32 (r j))) :
    ∃ gn cN, ShT ⟨H, gn, cN, y.N, n, sa, sc, r, y.D, y.ka, y.kc, y.kd, y.gs, F⟩ w (fun _ => False) := by
  obtain ⟨gn, cN, hnv⟩ : ∃ gn cN, nv = .slice (some ⟨gn, 0, none⟩) y.N cN := by
    rcases h.row.2 with ⟨_, h0⟩ | ⟨g, cap, cur, e, _⟩
    · omega
    · exact ⟨g, cap, e⟩
  subst hnv
  have hHs : H < w.heap.size := Nat.lt_of_lt_of_le h.hH h.hS
  have hH := h.hH
  have hgn := h.row.lt gn rfl
  have low : ∀ g, g < S → g < w.heap.size → Okb ⟨H, gn, cN, y.N, n, sa, sc, r, y.D, y.ka, y.kc, y.kd, y.gs, F⟩ w (fun _ => False) g := fun g h1 h2 => ⟨id, fun ⟨k, hk, e⟩ => by have := (h.sn k hk).1.1; have e' : g = y.gs k := e; omega, h2⟩
  refine ⟨gn, cN, h.h0, h.h1, low H h.hH hHs, ⟨id, fun ⟨k, hk, e⟩ => (h.sn k hk).1.2.2.1 (by have e' : gn = y.gs k := e; rw [← e']; rfl), hgn.2⟩, fun k hk => ?_, fun k hk => ?_, fun k hk => ?_, fun k i hk hi => ?_, h.two, ?_, fun k hk => ?_⟩
  · have hcell : ∀ q u, q < 11 → (lyC n y k)[q]? = some u → w.cell? ⟨gn, k * 11 + q, none⟩ = some u := fun q u hq hu => by
      have hk' : k < y.N := hk
      rw [World.ownsRow.cellAt h.row (k * 11 + q) (by omega), nR_get (lyC_len n y) y.N k q hk hq]
      exact hu
    refine ⟨⟨hcell 0 _ (by omega) rfl, hcell 1 _ (by omega) rfl, hcell 2 _ (by omega) rfl, hcell 3 _ (by omega) rfl, hcell 4 _ (by omega) rfl, hcell 5 _ (by omega) rfl, hcell 6 _ (by omega) rfl, hcell 7 _ (by omega) rfl, hcell 8 _ (by omega) rfl⟩, ?_, hcell 10 _ (by omega) rfl⟩
    have := hcell 9 _ (by omega) rfl
    rw [((hg k (Nat.zero_le _) hk).1).2.1] at this
    exact this
  · rcases h.kd k hk with e | ⟨g, e, ⟨a1, a2, a3, a4, a5⟩, hc⟩
    · exact .inl (by rw [← ((hg k (Nat.zero_le _) hk).1).2.1]; exact e)
    · refine .inr ⟨g, 0, e, ⟨id, fun ⟨k', hk', e'⟩ => a5 k' hk' e'.symm, a2⟩, fun j hj => ?_⟩
      rw [Nat.zero_add]
      exact hc j (by rw [((hg k (Nat.zero_le _) hk).1).2.1]; exact hj)
  · obtain ⟨⟨a1, a2, a3, a4⟩, a5, a6⟩ := h.sn k hk
    exact ⟨id, a2, a5⟩
  · exact .inl ((h.sn k hk).2.2 i hi)
  · exact rr.imp id (fun ⟨g, o, e, hg', hc⟩ => ⟨g, o, e, low g (by omega) (by omega), hc⟩)
  · obtain ⟨e1, _, _, e4⟩ := (hg k (Nat.zero_le _) hk).1
    have hr := (e4.below hb).ranges
    rw [← e1] at hr
    exact hr.imp id (fun ⟨g, o, e, hg', hc⟩ => ⟨g, o, e, low g (by omega) (by omega), hc⟩)
/-- An empty sheet. -/
theorem sheet_new (w : World) (n : Nat) (sa : Option Addr) (sc : Nat) : LyT w.heap.size (w.heap.size + 1) n ⟨0, fun _ => nd0, fun _ => none, fun _ => 0, fun _ => 0, fun _ _ => 0, fun _ => 0, fun _ _ => nd0, fun _ => 0⟩ (.slice none 0 0) (.slice sa n sc) (fun _ => False) (w.alloc (.cells #[.slice none 0 0, .slice sa n sc] 71)) := by
  have e : (w.alloc (.cells #[.slice none 0 0, .slice sa n sc] 71)).heap[w.heap.size]? = some (.cells #[.slice none 0 0, .slice sa n sc] 71) := heap_alloc_new w _
  refine ⟨?_, ?_, ?_, Nat.lt_succ_self _, by simp, ⟨id, fun _ _ => id⟩, World.ownsRow_nil _ _ _ _, fun k hk => absurd hk (Nat.not_lt_zero _), fun k _ hk => absurd hk (Nat.not_lt_zero _), fun k hk => absurd hk (Nat.not_lt_zero _)⟩
  · unfold World.cell?; rw [e]; rfl
  · unfold World.cell?; rw [e]; rfl
  · unfold World.frozen?; rw [e]; rfl

set_option maxHeartbeats 2000000 in
set_option maxRecDepth 100000 in
open Classical in
theorem matches_any (t : Tr) (s : ByteArray) (w : World) (b0 : Bool) (ht : Tat w.heap.size w t) (hok : okT t = true) (hs : s.size ≤ 128) (hgd : gdF s (s.size + 1) 0) (hb0 : b0 = true ↔ Mn s 8195 t 0 s.size) :
    Calls Try.prog 15 #[ndV (t []), .string s] w fun e w' => e = .returned (.bool b0) ∧ Below w.heap.size w w' := by
  obtain ⟨hvl, P, hP⟩ := rnp_ex hgd
  obtain ⟨s1, hs1⟩ : ∃ s1, vd 8195 t 0 s0 = some s1 := by
    unfold okT svd at hok
    cases h : vd 8195 t 0 s0 with
    | none => rw [h] at hok; cases hok
    | some s1 => exact ⟨s1, rfl⟩
  have hs1k := vd_k _ _ _ _ _ hs1
  have hwf := WF_ok hok
  have hns := hP.size
  obtain ⟨W, hW⟩ : ∃ W, W = w.alloc (ndX (t [])) := ⟨_, rfl⟩
  have HW : Hid (W = w.alloc (ndX (t []))) := hW
  have hbW : Below w.heap.size w W := by rw [hW]; exact (Below.refl _ w).alloc (Nat.le_refl _) _
  have hc0 : Cs W w.heap.size 0 (t []) := ndX_cells (w := w) (t []) (by rw [hW]; exact Below.refl _ _)
  have hzW : w.heap.size < W.heap.size := by rw [hW]; simp
  have htW : Tat W.heap.size W t := (ht.below hbW).mono hbW.size
  have kR := rrunes_any s W (by omega)
  have er : rl s = rns s s.size 0 := by unfold rl; rw [if_pos hvl]
  have ee : re s = 0 := by unfold re; rw [if_pos hvl]
  rw [er, ee] at kR
  obtain ⟨rs, hrs⟩ : ∃ rs, rs = rns s s.size 0 := ⟨_, rfl⟩
  rw [← hrs] at kR hP hns
  obtain ⟨n, hn⟩ : ∃ n, n = rs.length := ⟨_, rfl⟩
  rw [← hn] at kR hP hns
  have HL : Hid (∀ (w1 : World) (sa : Option Addr) (sc : Nat), Below W.heap.size W w1 → w1.ownsRow W.heap.size 21 1 (.slice sa n sc) n (rcells rs) → Cs (w1.alloc (.cells #[.slice none 0 0, .slice sa n sc] 71)) w.heap.size 0 (t []) ∧ Calls Try.prog 33 #[.pointer (some ⟨w1.heap.size, 0, none⟩), ndV (t [])] (w1.alloc (.cells #[.slice none 0 0, .slice sa n sc] 71)) fun e w4 => e = .returned (.int .i64 0) ∧ Hid (Calls Try.prog 34 #[.pointer (some ⟨w1.heap.size, 0, none⟩), .int .i64 0, .int .i64 0] w4 fun e w5 => (∃ a c, e = .returned (.slice a (n + 1) c) ∧ (∃ g o, a = some ⟨g, o, none⟩ ∧ w5.cell? ⟨g, o + n, none⟩ = some (.bool b0))) ∧ Hid (Below w.heap.size w w5))) := fun w1 sa sc b1 o1 => by
    have hal : Below w1.heap.size w1 (w1.alloc (.cells #[.slice none 0 0, .slice sa n sc] 71)) := (Below.refl _ w1).alloc (Nat.le_refl _) _
    have b3 : Below W.heap.size W (w1.alloc (.cells #[.slice none 0 0, .slice sa n sc] 71)) := b1.trans (hal.mono b1.size)
    have hT1 : Tat w1.heap.size w1 t := (htW.below b1).mono b1.size
    refine ⟨hc0.below b3 hzW, ?_⟩
    refine (sheet_any 8195 t 0 s0 s1 w1.heap.size (w1.heap.size + 1) n _ _ sa sc w1 _ (fun _ => False) hs1 hwf hT1 hal (sheet_new w1 n sa sc) (fun _ e => e.elim) rfl (by omega)).mono ?_
    rintro e w4 ⟨rfl, hp⟩
    refine ⟨rfl, ?_⟩
    obtain ⟨y, nv, l, eN, _, g, ⟨t1, t2, t3⟩, k, _⟩ := hp.out
    have k14 : Below w1.heap.size w1 w4 := hal.trans (k.below (by simp) (fun b hb e => by
      rcases e with e | e
      · omega
      · cases e))
    have hrr : n = 0 ∨ ∃ g o, sa = some ⟨g, o, none⟩ ∧ g < w1.heap.size ∧ ∀ j, j < n → w4.cell? ⟨g, o + j, none⟩ = some (.int .i32 (rs.getD j 0)) := by
      rcases o1.2 with ⟨_, h0⟩ | ⟨g, cap, cur, e, _, hh, _⟩
      · exact .inl h0
      · cases e
        refine .inr ⟨g, 0, rfl, (Array.getElem?_eq_some_iff.1 hh).1, fun j hj => ?_⟩
        have hc := World.ownsRow.cellAt o1 j (by omega)
        have hj2 : (rcells rs)[j]? = some (.int .i32 (rs.getD j 0)) := by
          unfold rcells
          rw [List.getElem?_map, List.getD_eq_getElem?_getD, List.getElem?_eq_getElem (by omega)]
          rfl
        rw [hj2] at hc
        rw [Nat.zero_add]
        exact (k14.cell (p := ⟨g, j, none⟩) (Array.getElem?_eq_some_iff.1 hh).1).trans hc
    obtain ⟨gn, cN, hsh⟩ := l.sht (r := fun k => rs.getD k 0) (fun k i j => decide (Mn s (y.FU k) (y.TT k) (P i) (P j))) g k14 t1 hrr
    have hM : ShM ⟨w1.heap.size, gn, cN, y.N, n, sa, sc, fun k => rs.getD k 0, y.D, y.ka, y.kc, y.kd, y.gs, fun k i j => decide (Mn s (y.FU k) (y.TT k) (P i) (P j))⟩ s P y.FU y.TT := by
      refine ⟨hP, fun k hk => ((g k (Nat.zero_le _) hk).1).1, fun k hk => ((g k (Nat.zero_le _) hk).1).2.2.1, fun k q hk hq => (g k (Nat.zero_le _) hk).2 q hq, fun k i j _ _ _ => decide_eq_true_iff, fun k hk => ?_⟩
      have := ((g k (Nat.zero_le _) hk).1).2.2.2.node.1
      rw [← ((g k (Nat.zero_le _) hk).1).1] at this
      show (y.D k).rn ≤ _
      omega
    have hf := fr_all hM (by show y.N ≤ _; omega) (by show n ≤ _; omega) _ 0 t1 rfl 0 w4 (fun _ => False) (Nat.succ_pos _) hsh (fun _ e => e.elim)
    refine hf.mono ?_
    rintro e w5 ⟨⟨a, c, rfl, HB⟩, HS⟩
    have hbm := HB.out.1
    refine ⟨⟨a, c, rfl, ?_⟩, ?_⟩
    · obtain ⟨ga, oa, e1, _, e3⟩ := hbm.at n (Nat.lt_succ_self _)
      refine ⟨ga, oa, e1, ?_⟩
      have e4 : decide (Mn s (y.FU 0) (y.TT 0) (P 0) (P n)) = b0 := by
        have q1 : y.TT 0 = t := t2
        have q2 : y.FU 0 = 8195 := t3
        rw [q1, q2, hP.z, hP.e, Bool.eq_iff_iff, decide_eq_true_iff, hb0]
      rw [e3]
      show some (Value.bool (decide (Mn s (y.FU 0) (y.TT 0) (P 0) (P n)))) = _
      rw [e4]
    · have k2 := HS.out.2
      have b45 : Below w1.heap.size w4 w5 := k2.below k14.size (fun b hb ⟨q, hq, e⟩ => by
        have := (l.sn q hq).1.1
        have e' : b = y.gs q := e
        omega)
      have b1w : Below w.heap.size w w1 := hbW.trans (b1.mono hbW.size)
      exact b1w.trans ((k14.trans b45).mono b1w.size)
  have hnI : (n : Int) ≤ 128 := by omega
  have HRS : Hid (rs.length = n) := hn.symm
  clear ht hok hgd hb0 hvl hP hs1 hs1k hwf hns hW hbW hzW htW er ee hrs hn hc0
  generalize t [] = d at *
  go_enter Try.func15, Try.ntmps15
  go_upto_region 1 with fail
  rw [← HW.out]
  go_wp2_with fail
  go_fit kR
  rintro e w1 ⟨v, rfl, o1, b1⟩
  obtain ⟨sa, sc, rfl⟩ := Sp.form o1
  obtain ⟨⟨c0, c1, c2, c3, c4, c5, c6, c7, c8⟩, kL⟩ := HL.out w1 sa sc b1 o1
  simp only [Nat.zero_add] at c0 c1 c2 c3 c4 c5 c6 c7 c8
  clear kR HL o1 b1
  go_wp2_with fail
  go_fit kL
  rintro e w4 ⟨rfl, HF⟩
  have kF := HF.out
  clear kL HF
  go_wp2_with fail
  go_fit kF
  rintro e w5 ⟨⟨a, c, rfl, g, o, rfl, hc⟩, HB⟩
  clear kF
  go_wp2
  go_ret
  exact ⟨rfl, HB.out⟩
end Go.Proofs.Ytbciclnffokjjaa
/- RxprogMeans: the tree a. -/
namespace Go.Proofs.Ytbciclnffokjjaa
open Go.RowKit Go.Lib

def laN : Nd := ⟨2, 97, none, 0, 0, fun _ => (0, 0), 0, 0, false, 0, ⟨#[]⟩, none, 0, 0⟩
def laT : Tr := topT laN (fun _ _ => nd0)
theorem laT_root : laT [] = laN := rfl
theorem laN_ok : ndB laN = true := by kernel_rfl
theorem vd_la : vd 8195 laT 0 s0 = some { s0 with k := 1 } := by
  show vd (8194 + 1) laT 0 s0 = _
  unfold vd
  rw [laT_root, if_neg (by
    rintro (h1 | h1 | h1)
    · exact absurd h1 (by decide)
    · exact absurd h1 (by decide)
    · rw [laN_ok] at h1; cases h1)]
  rfl
theorem ok_la : okT laT = true := by
  unfold okT svd
  rw [vd_la]
  rfl
theorem len_la : lenF 8195 laT = 1 := by
  show lenF (8194 + 1) laT = 1
  unfold lenF
  rw [laT_root]
  have : lenK laN (sumN (fun j => lenF 8194 (kid laT j)) laN.kn) = 1 := by
    unfold lenK
    rw [if_neg (by show ¬ ((2 : Int) = 1 ∨ (2 : Int) = 4); decide), if_neg (by show ¬ (2 : Int) = 5; decide), if_neg (by show ¬ (2 : Int) = 7; decide), if_neg (by show ¬ (2 : Int) = 6; decide)]
  rw [this]
  decide
theorem siz_la : sizF laT = 2 := by
  unfold sizF
  rw [if_pos ok_la, len_la]
  decide
theorem la_at (B : Nat) (W : World) : Tat B W laT :=
  topT_at ⟨by show 0 * 8 ≤ 140737488351232; decide, by show 0 * 8 ≤ 140737488351232; decide, by show (0 : Nat) ≤ 140737488351232; decide, by show 0 ≤ 0; decide⟩ (.inl rfl) (.inl rfl) (fun j hj => absurd hj (Nat.not_lt_zero _))
theorem mn_la (s : ByteArray) (i j : Nat) : Mn s 8195 laT i j ↔ TkR s [(97, 97)] i j := by
  show Mn s (8194 + 1) laT i j ↔ _
  unfold Mn
  rw [laT_root, if_pos (by rfl)]
  exact Iff.rfl
theorem r_a : rnR ⟨#[97]⟩ 0 = 97 := by kernel_rfl
theorem r_b : rnR ⟨#[98]⟩ 0 = 98 := by kernel_rfl
theorem bad_a : rnBad ⟨#[97]⟩ 0 = false := by unfold rnBad; rw [r_a]; rfl
theorem bad_b : rnBad ⟨#[98]⟩ 0 = false := by unfold rnBad; rw [r_b]; rfl
theorem enc_a : (Utf8.encode 97).size = 1 := by kernel_rfl
theorem enc_b : (Utf8.encode 98).size = 1 := by kernel_rfl
theorem gd_a : gdF ⟨#[97]⟩ 2 0 := fun _ => ⟨bad_a, fun h => by rw [r_a, enc_a] at h; exact absurd h (by decide)⟩
theorem gd_b : gdF ⟨#[98]⟩ 2 0 := fun _ => ⟨bad_b, fun h => by rw [r_b, enc_b] at h; exact absurd h (by decide)⟩
theorem tk_a {v : Int} (h : TkM laT ⟨#[97]⟩ v) : v = 1 := by
  rcases h with ⟨_, h⟩ | ⟨_, ⟨h, _⟩ | ⟨_, h⟩⟩
  · exact absurd gd_a h
  · exact h
  · exact absurd ((mn_la _ _ _).2 ⟨by decide, bad_a, ⟨(97, 97), List.mem_singleton.2 rfl, by rw [r_a]; decide, by rw [r_a]; decide⟩, by rw [r_a, enc_a]; rfl⟩) h
theorem tk_b {v : Int} (h : TkM laT ⟨#[98]⟩ v) : v = 0 := by
  rcases h with ⟨_, h⟩ | ⟨_, ⟨_, h⟩ | ⟨h, _⟩⟩
  · exact absurd gd_b h
  · obtain ⟨_, _, ⟨x, hx, h1, h2⟩, _⟩ := (mn_la _ _ _).1 h
    rcases List.mem_singleton.1 hx with rfl
    rw [r_b] at h1 h2
    exact absurd h2 (by decide)
  · exact h
set_option maxHeartbeats 1000000 in
set_option maxRecDepth 100000 in
theorem lit_la (w : World) : Calls Try.prog 11 #[.int .i32 97] w fun e w' => e = .returned (ndV laN) ∧ Below w.heap.size w w' := by
  go_enter Try.func11, Try.ntmps11
  go_wp2
  have hc := ndX_cells (w := w) laN (W := w.alloc (ndX laN)) (Below.refl _ _)
  obtain ⟨q0, q1, q2, q3, q4, q5, q6, q7, q8⟩ := hc
  simp only [Nat.zero_add, laN, ndX, rxX] at q0 q1 q2 q3 q4 q5 q6 q7 q8
  refine bodyPost_ret (v := ndV laN) (by simp [results, Try.results11, go_sem, q0, q1, q2, q3, q4, q5, q6, q7, q8, laN]) rfl ⟨rfl, (Below.refl _ _).alloc (Nat.le_refl _) _⟩
theorem roM {S : Nat} {w : World} {a : Option Addr} {n c : Nat} {rs : List Rg} {M : Nat → Prop} (h : RoW S w (.slice a n c) rs) (hM : ∀ b, (Value.slice a n c).ownBlock = some b → ¬ M b) : Ro w M a n rs := by
  unfold RoW at h
  rcases h.2 with ⟨e1, e2⟩ | ⟨g, cap, cur, e1, _⟩
  · cases e1
    exact ⟨e2.symm, .inl rfl⟩
  · cases e1
    refine ⟨rfl, ?_⟩
    by_cases h0 : rs.length = 0
    · exact .inl h0
    · have hlt := (h.lt g rfl).2
      refine .inr ⟨g, 0, rfl, hlt, hM g rfl, fun j x hx => ?_⟩
      have hj : j < rs.length := (List.getElem?_eq_some_iff.1 hx).1
      obtain ⟨g', o', e', _, c0, c1⟩ := (Rml.of_row h hlt).at j hj
      cases e'
      have ex : rs.getD j (0, 0) = x := by simp [List.getD, hx]
      rw [ex] at c0 c1
      exact ⟨c0, c1⟩
theorem owM {S : Nat} {w w' : World} {v : Value} {c : List Ia} {M : Nat → Prop} (h : OwA S w v c) (k : Kp M w w') (hM : ∀ b, S ≤ b → b < w.heap.size → ¬ M b) : OwA S w' v c := by
  obtain ⟨g, cc, f, rfl, hrow, hi, ha⟩ := h
  have hget : ∀ j, j < c.length → ∃ x, c[j]? = some x := fun j hj => ⟨_, List.getElem?_eq_getElem hj⟩
  have hb : ∀ j b, j < c.length → (rgV (f j)).ownBlock = some b → ¬ M b := fun j b hj e => by
    obtain ⟨x, hx⟩ := hget j hj
    have := (ha.row j x hj hx).1.lt b e
    exact hM b this.1 this.2
  refine ⟨g, cc, f, rfl, k.row hrow (fun b e => hM b (hrow.lt b e).1 (hrow.lt b e).2), fun j i hj => ?_, ha.kp k hb⟩
  have hjl : j < c.length := (List.getElem?_eq_some_iff.1 hj).1
  obtain ⟨a1, a2, a3, a4, _⟩ := hi j i hj
  have hr := ha.row j i hjl hj
  exact ⟨a1, a2, a3, a4, roM (k.row hr.1 (fun b e => hb j b hjl e)) (fun b e e2 => hr.2 (by rw [← (show b = g from e2)]; exact e))⟩
/-- Compile of a tree, and what taken then says, also where blocks of before were written to. -/
theorem comp_tk (t : Tr) (w : World) (ht : Tat w.heap.size w t) (h0 : ¬ sizF t = 0) (h1 : sizF t ≤ 10000) :
    Calls Try.prog 10 #[ndV (t [])] w fun e w' => (∃ a n cc gr na nn nc, e = .returned (.tuple #[prV a n cc 0 gr na nn nc, .int .i64 0]) ∧ Hid (∀ x : ByteArray, x.size ≤ 140737488351232 → ∀ w5, Kp (fun b => b < w.heap.size) w' w5 → Calls Try.prog 12 #[prV a n cc 0 gr na nn nc, .string x] w5 fun e w'' => (∃ v, e = .returned (.int .i64 v) ∧ TkM t x v) ∧ Below w5.heap.size w5 w'')) ∧ Below w.heap.size w w' := by
  refine (compile_own t w ht h0 h1).mono fun e w' ⟨⟨iv, nv, s1, S', he, _, _, hS', _, how, hnv⟩, hbw⟩ => ?_
  obtain ⟨a, cc, hiv, _⟩ := how.ow.pg
  obtain ⟨na, nc, hnf⟩ := Sp.form hnv
  rw [hiv, hnf] at he
  refine ⟨⟨a, _, cc, _, na, _, nc, he, fun x hx w5 k5 => ?_⟩, hbw⟩
  have how5 : Ow w.heap.size w5 iv (prgC t) := by
    obtain ⟨g, c2, f, e1, e2, e3⟩ := (owM how k5 (fun b h1 h2 h3 => by have h4 : b < w.heap.size := h3; omega)).ow
    exact ⟨g, c2, f, e1, row_mono e2 hS', e3⟩
  have hn5 : w5.ownsRow w.heap.size 9 1 nv s1.n (sc s1.f s1.n) := k5.row hnv (fun b e e2 => by have := (hnv.lt b e).1; have e3 : b < w.heap.size := e2; omega)
  have := taken_tree (t := t) (S := w.heap.size) (W := w) (w := w5) (iv := iv) (nv := nv) (gr := (s1.n : Int)) x ht h0 h1 how5 hn5 (by omega)
  rw [hiv, hnf] at this
  exact this
end Go.Proofs.Ytbciclnffokjjaa
