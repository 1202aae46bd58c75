
/- Sorted over strings: the walk's state. -/
import Derived.Test.YtcgpjmpppajfdaaWr
import Derived.Test.YtcgpjmpppajfdaaWl
import Derived.Test.YtcgpjmpppajfdaaSc
namespace Go.Proofs.Ytcgpjmpppajfdaa.Ws
open Go.RowKit Go.Shelf

attribute [local go_sem] Oper.semAt_some

theorem drain_any (pt : Option Addr) (w : World) : Calls Try.prog 46 #[.pointer pt] w fun r w' => r = .returned (.func (.func 66) #[] #[.pointer (some ⟨w.heap.size, 0, none⟩)]) ∧ w' = w.alloc (.cells #[.pointer pt] 81) := by
  go_enter Try.func46, Try.ntmps46
  go_wp2
  go_ret
  exact ⟨rfl, rfl⟩

theorem Pl.lenAt {w : World} {b bx n m : Nat} {lv v : Value} {f : Nat → Wk} (h : Pl w b bx lv v n f m) : lenAt b w = n := by
  obtain ⟨a, c, rfl⟩ := slice_of h.hp.row
  unfold Ytcgpjmpppajfdaa.lenAt
  rw [h.hp.ls]

/-- The things that come out, in their order. -/
def outL (A : Wk → Wk → Bool) : Nat → (Nat → Wk) → List ByteArray
  | 0, _ => []
  | p + 1, f => (f 0).1 :: outL A p (sinkF A p (up f 0 (f p)) 0)
/-- What is in a pile when all of a list have been put in. -/
def inF (A : Wk → Wk → Bool) (f0 : Nat → Wk) (xs : Nat → ByteArray) : Nat → Nat → Wk
  | 0 => f0
  | n + 1 => riseF A (up (inF A f0 xs n) n (xs n, ((n : Nat) : Int))) n
/-- make([]Item, 0, n) -/
theorem make0_i (w : World) (S n : Nat) (hS : S ≤ w.heap.size) (hn : 16 * n ≤ 281474976710656) (f : Nat → ByteArray) :
    ∃ w', (Instr.makeSlice 41 (.int .i64 0) (.int .i64 (n : Int))).run Try.prog w = .ok (.slice (some ⟨w.heap.size, 0, none⟩) 0 n) w' ∧ Ir w' S (.slice (some ⟨w.heap.size, 0, none⟩) 0 n) 0 f ∧ Below w.heap.size w w' := by
  obtain ⟨i0, hi, hz0, hz1, hz2⟩ := info_parts infI
  obtain ⟨w', r, o, g⟩ := run_make_own (P := Try.prog) w S 41 9 i0 (.string ⟨#[]⟩) 1 Try.underlying41 hi hz0 hz1 .i64 .i64 n (by rw [hz2]; exact hn) (by unfold maxLen; omega) hS
  exact ⟨w', r, o, (Below.refl _ w).grown g (Nat.le_refl _) (fun k hk => by cases hk)⟩
theorem Pl.turned {X Y : World} {b bx n m : Nat} {lv v : Value} {f : Nat → Wk} (h : Pl X b bx lv v n f m) (t : Turned X Y) : Pl Y b bx lv v n f m := by
  obtain ⟨M, k, hm⟩ := t.kp
  exact h.kp k (fun x => not_cells h.cm (hm _ x)) (fun x => not_cells h.hp.bxc (hm _ x)) (fun j e x => not_row h.hp.row e (hm _ x))
/-- A list's things. -/
def lk (l : List ByteArray) (j : Nat) : ByteArray := l.getD j ⟨#[]⟩
theorem lk_push (l : List ByteArray) (x : ByteArray) (j : Nat) (h : j < l.length + 1) : up (lk l) l.length x j = lk (l ++ [x]) j := by
  unfold lk
  by_cases hj : j = l.length
  · subst hj
    rw [up_same]
    simp
  · rw [up_other _ _ _ _ hj]
    simp [List.getD, List.getElem?_append_left (show j < l.length by omega)]

/-- Where a draining stands. -/
structure SS (w : World) (G S Bp Bo : Nat) (lv : Value) (A : Wk → Wk → Bool) (m : Nat) (W : World) (p : Nat) (pre ys : List ByteArray) (v vo : Value) (f : Nat → Wk) : Prop where
  pl : Pl W (G + 1) G lv v p f m
  out : outL A p f = ys
  bo : Boxed W Bo 41 vo
  bp : Boxed W Bp 81 (.pointer (some ⟨G + 1, 0, none⟩))
  row : Ir W S vo pre.length (lk pre)
  hS : G + 2 ≤ S
  hBo : G + 2 ≤ Bo
  hBp : G + 2 ≤ Bp
  hpo : Bp ≠ Bo
  hv : ∀ k, v.ownBlock = some k → G ≤ k
  below : Below G w W
theorem outL_len (A : Wk → Wk → Bool) : ∀ (p : Nat) (f : Nat → Wk), (outL A p f).length = p
  | 0, _ => rfl
  | p + 1, f => by rw [outL, List.length_cons, outL_len A p]
section
variable {w : World} {G S Bp Bo m : Nat} {lv : Value} {A : Wk → Wk → Bool}
theorem SS.turned {X Y : World} {p : Nat} {pre ys : List ByteArray} {v vo : Value} {f : Nat → Wk} (h : SS w G S Bp Bo lv A m X p pre ys v vo f) (t : Turned X Y) (hb : Below G w Y) : SS w G S Bp Bo lv A m Y p pre ys v vo f :=
  ⟨h.pl.turned t, h.out, box_turned h.bo t, box_turned h.bp t, row_turned h.row t, h.hS, h.hBo, h.hBp, h.hpo, h.hv, hb⟩
theorem SS.gw {X : World} {p : Nat} {pre ys : List ByteArray} {v vo : Value} {f : Nat → Wk} (h : SS w G S Bp Bo lv A m X p pre ys v vo f) : G ≤ X.heap.size := by
  have : G + 1 < X.heap.size := World.block_lt_of_cell? X _ h.pl.cm
  omega
/-- A draining's state, things taken and things to come. -/
def S1 (w : World) (G S Bp Bo : Nat) (lv : Value) (A : Wk → Wk → Bool) (m : Nat) (p : Nat) (pre ys : List ByteArray) (W : World) : Prop := ∃ v vo f, SS w G S Bp Bo lv A m W p pre ys v vo f
theorem S1.own {p : Nat} {pre ys : List ByteArray} {B : Nat} (hG : G ≤ w.heap.size) (hB : G ≤ B) : OwnFrom B (fun (_ : Unit) => S1 w G S Bp Bo lv A m p pre ys) := fun s X Y row hs hg hr => by
  obtain ⟨v, vo, f, h⟩ := hs
  exact ⟨v, vo, f, h.turned ⟨row, hg, fun r e => (hr r e).2⟩ (ownFrom_below (β := Unit) hG hB s X Y row h.below hg hr)⟩
theorem S1.lenAt {p : Nat} {pre ys : List ByteArray} {W : World} (h : S1 w G S Bp Bo lv A m p pre ys W) : lenAt (G + 1) W = p := by
  obtain ⟨v, vo, f, h⟩ := h
  exact h.pl.lenAt
theorem S1.pop (hA : AhC lv A) {p B : Nat} {pre ys : List ByteArray} {W : World} (h : S1 w G S Bp Bo lv A m (p + 1) pre ys W) (hn : p + 1 ≤ 1152921504606846976) :
    ∃ x ys', ys = x :: ys' ∧ Calls Try.prog 67 #[.pointer (some ⟨G + 1, 0, none⟩)] W fun r w' => r = .returned (.tuple #[iv x, .bool true]) ∧ S1 w G S Bp Bo lv A m p pre ys' w' ∧ KeepsFrom B W w' := by
  obtain ⟨v, vo, f, h⟩ := h
  obtain ⟨g, c, rfl⟩ : ∃ g c, v = .slice (some ⟨g, 0, none⟩) (p + 1) c := by
    rcases h.pl.hp.row.2 with ⟨_, e⟩ | ⟨g, c, _, e, _⟩
    · omega
    · exact ⟨g, c, e⟩
  refine ⟨(f 0).1, outL A p (sinkF A p (up f 0 (f p)) 0), by rw [← h.out]; rfl, ?_⟩
  refine (ppop_some A (G + 1) G g c p m lv f W hA h.pl hn).mono fun r w' ⟨hr, p', k⟩ => ⟨hr, ⟨.slice (some ⟨g, 0, none⟩) p c, vo, sinkF A p (up f 0 (f p)) 0, ?_⟩, ?_⟩
  · have hgG : G ≤ g := h.hv g rfl
    refine ⟨p', rfl, box_kp h.bo k ?_, box_kp h.bp k ?_, k.row h.row ?_, h.hS, h.hBo, h.hBp, h.hpo, h.hv, h.below.trans (k.below h.gw (fun j hj e => by rcases e with e | e <;> omega))⟩
    · rintro (e | e)
      · have := h.hBo; omega
      · exact row_tag h.pl.hp.row h.bo (by decide) rfl e.symm
    · rintro (e | e)
      · have := h.hBp; omega
      · exact row_tag h.pl.hp.row h.bp (by decide) rfl e.symm
    · rintro j e (x | x)
      · have := (World.ownsRow.lt h.row j e).1
        have := h.hS
        omega
      · exact row_tags h.row h.pl.hp.row (by decide) e (by rw [x]; rfl)
  · refine keeps_kp k fun j o e ho => ?_
    cases hc : o.isCells with
    | true => rfl
    | false =>
      rcases e with e | e
      · exact absurd ⟨o, by rw [← e]; exact ho, hc⟩ (not_cells h.pl.cm)
      · exact absurd ⟨o, by rw [← e]; exact ho, hc⟩ (not_row h.pl.hp.row rfl)
/-- A thing put behind those that were taken. -/
theorem SS.app {p : Nat} {pre ys : List ByteArray} {W : World} {v vo : Value} {f : Nat → Wk} (h : SS w G S Bp Bo lv A m W p pre ys v vo f) (x : ByteArray) (hn : (pre.length + 1) * 16 ≤ 140737488355328) (hS : S ≤ W.heap.size) :
    ∃ g c w', (Builtin.append_ #[41, 41] 41 #[vo, .slice (some ⟨W.heap.size, 0, none⟩) 1 1]).run Try.prog (W.alloc (iX x)) = .ok (.slice (some ⟨g, 0, none⟩) (pre.length + 1) c) w' ∧ Boxed w' Bo 41 vo ∧
      SS w G S Bp Bo lv A m (w'.setCell ⟨Bo, 0, none⟩ (.slice (some ⟨g, 0, none⟩) (pre.length + 1) c)) p (pre ++ [x]) ys v (.slice (some ⟨g, 0, none⟩) (pre.length + 1) c) f ∧ (∀ B, KeepsFrom B W (w'.setCell ⟨Bo, 0, none⟩ (.slice (some ⟨g, 0, none⟩) (pre.length + 1) c))) := by
  obtain ⟨g, c, w', r, o', k, hg⟩ := append_i W S vo pre.length (lk pre) x hS hn h.row
  have nb : ∀ B, vo.ownBlock = some B → S ≤ B := fun B e => (World.ownsRow.lt h.row B e).1
  have hgS : S ≤ g := (World.ownsRow.lt o' g rfl).1
  have hSS := h.hS
  have b0 := box_kp h.bo k (fun e => row_tag h.row h.bo (by decide) e rfl)
  have b1 := box_kp h.bp k (fun e => row_tag h.row h.bp (by decide) e rfl)
  have pl' := h.pl.kp k (fun e => by have := nb _ e; omega) (fun e => by have := nb _ e; omega) (fun j e x => row_tags h.pl.hp.row h.row (by decide) e x)
  have k2 : Kp (· = Bo) w' (w'.setCell ⟨Bo, 0, none⟩ (.slice (some ⟨g, 0, none⟩) (pre.length + 1) c)) := (Kp.refl (· = Bo) w').setCell (p := ⟨Bo, 0, none⟩) rfl _
  have hl : (pre ++ [x]).length = pre.length + 1 := by simp
  refine ⟨g, c, w', r, b0, ⟨pl'.kp k2 (fun (e : G + 1 = Bo) => by have := h.hBo; omega) (fun (e : G = Bo) => by have := h.hBo; omega) (fun j e (x : j = Bo) => row_tag pl'.hp.row b0 (by decide) e x), h.out, b0.set _, box_kp b1 k2 h.hpo, ?_, h.hS, h.hBo, h.hBp, h.hpo, h.hv, ?_⟩, fun B => ?_⟩
  · rw [hl]
    exact Ir.congr (k2.row o' (fun j e (x : j = Bo) => row_tag o' b0 (by decide) e x)) (lk_push pre x)
  · refine (h.below.trans (k.below h.gw (fun j hj e => by have := nb _ e; omega))).setCell (p := ⟨Bo, 0, none⟩) (by show G ≤ Bo; have := h.hBo; omega) _
  · refine (keeps_kp k fun j o e ho => ?_).trans ((KeepsOthers.setCell _ _ _).from _)
    cases hc : o.isCells with
    | true => rfl
    | false => exact absurd ⟨o, ho, hc⟩ (not_row h.row e)
theorem S1.below {p : Nat} {pre ys : List ByteArray} {W W' : World} (h : S1 w G S Bp Bo lv A m p pre ys W) (b : Below W.heap.size W W') : S1 w G S Bp Bo lv A m p pre ys W' := by
  obtain ⟨v, vo, f, h⟩ := h
  have k : Kp (fun _ => False) W W' := Kp.of b
  exact ⟨v, vo, f, h.pl.below b, h.out, box_kp h.bo k id, box_kp h.bp k id, h.row.below b, h.hS, h.hBo, h.hBp, h.hpo, h.hv, h.below.trans (b.mono h.gw)⟩
end
end Go.Proofs.Ytcgpjmpppajfdaa.Ws
/- Sorted: the walk. -/
namespace Go.Proofs.Ytcgpjmpppajfdaa.Ws
open Go.RowKit Go.Shelf

attribute [local go_sem] Oper.semAt_some

set_option maxRecDepth 100000 in
set_option maxHeartbeats 4000000 in
theorem sorted_any (A : Wk → Wk → Bool) (lv lp : Value) (f0 : Nat → Wk) (hN : ∀ w, Calls Try.prog 44 #[lp] w fun r w' => r = .returned (.pointer (some ⟨w.heap.size + 1, 0, none⟩)) ∧ Pl w' (w.heap.size + 1) w.heap.size lv (.slice none 0 0) 0 f0 0 ∧ Below w.heap.size w w')
    (hA : AhC lv A) (a : Option Addr) (c n : Nat) (xs : Nat → ByteArray) (w : World) (hf : Iml w a xs n) (hl : n * 24 ≤ 140737488355328) :
    Calls Try.prog 21 #[.slice a n c, lp] w fun r w' => ∃ v, r = .returned v ∧ Ir w' w.heap.size v n (lk (outL A n (inF A f0 xs n))) ∧ Below w.heap.size w w' := by
  refine (callsIn_wide (n := 3)).1 ?_
  have kN := hN w
  have HF : Hid (Iml w a xs n) := hf
  have HA : Hid (AhC lv A) := hA
  have HL : Hid (n * 24 ≤ 140737488355328) := hl
  obtain ⟨G, hG⟩ : ∃ G, G = w.heap.size := ⟨_, rfl⟩
  have HG : Hid (G = w.heap.size) := hG
  rw [← hG] at kN ⊢
  have hnb : n ≤ 1152921504606846976 := by omega
  clear hG hf hA hl hN
  refine callsIn_of_wp_marks Try.func21 rfl trivial ?_ rfl
  simp only [Try.ntmps21, List.size_toArray, List.length_cons, List.length_nil, Nat.reduceAdd, Nat.reduceSub, Array.replicate_succ, Array.replicate_zero, List.push_toArray, List.append_toArray, List.nil_append, List.cons_append]
  gi_wp2_with (refine ⟨trivial, ?_⟩; gi_at_call 44; refine (callsIn_wide.2 kN).mono ?_; rintro r w1 ⟨rfl, p1, b1⟩; have P1 : Hid _ := p1; have B1 : Hid (Below G w w1) := b1; clear p1 b1 kN)
  gi_loopw [14] (fun ivv w' => ∃ (i : Nat) (v : Value), ivv = .int .i64 (i : Int) ∧ i ≤ n ∧ Hid (Pl w' (G + 1) G lv v i (inF A f0 xs i) i) ∧ Hid (∀ k, v.ownBlock = some k → G ≤ k) ∧ Hid (Below G w w')) (fun ivv _ => n - (RowKit.intOf ivv).toNat)
  case atStart => exact ⟨0, _, rfl, by omega, P1, (fun k e => by cases e), B1⟩
  case round =>
    obtain ⟨i, v, rfl, hi, pl, hv, hb⟩ := hrel
    have hGw : G ≤ wr.heap.size := by rw [HG.out]; exact (HG.out ▸ hb.out).size
    by_cases hlt : i < n
    · have hii : (i : Int) < n := by omega
      rcases HF.out with h0 | ⟨g, o, rfl, hg, hat⟩
      · omega
      rw [← HG.out] at hg
      have q1 := (hb.out.cell (p := ⟨g, o + i, none⟩) hg).trans (hat i hlt)
      have HI : Hid (i + 1 ≤ n) := hlt
      have pl2 := pl.out
      have kP := ppush_any A (G + 1) G i i lv v _ (xs i) _ HA.out pl2 (by have := HL.out; omega) (by have := HL.out; omega)
      have HFF : Hid (riseF A (up (inF A f0 xs i) i (xs i, (i : Int))) i = inF A f0 xs (i + 1)) := rfl
      rw [HFF.out] at kP
      have HB2 : Hid (Below G w wr) := hb
      obtain ⟨FF, hFF⟩ : ∃ FF, FF = inF A f0 xs (i + 1) := ⟨_, rfl⟩
      rw [← hFF] at kP
      have HFE : Hid (FF = inF A f0 xs (i + 1)) := hFF
      clear hat pl2 HFF hFF
      obtain ⟨x, hx⟩ : ∃ x, xs i = x := ⟨_, rfl⟩
      rw [hx] at q1 kP
      gi_wp2_with (refine ⟨trivial, ?_⟩; gi_at_call 45; refine (callsIn_wide.2 kP).mono ?_; rintro r w2 ⟨rfl, g2, c2, p2, k2, hg2⟩; have P2 : Hid _ := p2; have K2 : Hid _ := k2; have G2 : Hid _ := hg2; clear p2 k2 hg2)
      refine ⟨⟨i + 1, _, by go_num, HI.out, by rw [← HFE.out]; exact P2, fun k e => ?_, HB2.out.trans (K2.out.below (by omega) (fun k hk e => ?_))⟩, by simp [RowKit.intOf]; omega⟩
      · have e' : g2 = k := Option.some.inj e
        rcases G2.out with h | h
        · exact e' ▸ hv.out g2 h
        · omega
      · rcases e with e | e
        · omega
        · have := hv.out k e
          omega
    · have hii : ¬ (i : Int) < n := by omega
      obtain rfl : i = n := by omega
      obtain ⟨w2, rmk, omk, bmk⟩ := make0_i wr wr.heap.size i (Nat.le_refl _) (by have := HL.out; omega) (lk [])
      gi_wp2_with (refine ⟨trivial, ?_⟩; gi_at_call 46; refine (callsIn_wide.2 (drain_any _ _)).mono ?_; rintro r w3 ⟨rfl, rfl⟩)
      have b3 : Below wr.heap.size wr ((w2.alloc (.cells #[.slice (some ⟨wr.heap.size, 0, none⟩) 0 i] 41)).alloc (.cells #[.pointer (some ⟨G + 1, 0, none⟩)] 81)) := (bmk.alloc bmk.size _).alloc (Nat.le_trans bmk.size (by simp)) _
      have hGr : G + 1 < wr.heap.size := World.block_lt_of_cell? wr _ pl.out.cm
      have hs2 : wr.heap.size ≤ w2.heap.size := bmk.size
      have bo := (Boxed.new w2 41 (.slice (some ⟨wr.heap.size, 0, none⟩) 0 i)).alloc (.cells #[.pointer (some ⟨G + 1, 0, none⟩)] 81)
      have bp := Boxed.new (w2.alloc (.cells #[.slice (some ⟨wr.heap.size, 0, none⟩) 0 i] 41)) 81 (.pointer (some ⟨G + 1, 0, none⟩))
      rw [World.size_alloc] at bp
      obtain ⟨W0, hW0⟩ : ∃ W0, W0 = (w2.alloc (.cells #[.slice (some ⟨wr.heap.size, 0, none⟩) 0 i] 41)).alloc (.cells #[.pointer (some ⟨G + 1, 0, none⟩)] 81) := ⟨_, rfl⟩
      have hsz : W0.heap.size = w2.heap.size + 2 := by rw [hW0]; simp
      obtain ⟨T, hT⟩ : ∃ T, T = outL A i (inF A f0 xs i) := ⟨_, rfl⟩
      have hTl : T.length = i := by rw [hT]; exact outL_len A i _
      have s0 : S1 w G wr.heap.size (w2.heap.size + 1) w2.heap.size lv A i i [] T W0 := by
        rw [hW0]
        exact ⟨v, _, _, pl.out.below b3, hT.symm, bo, bp, (World.ownsRow.alloc (World.ownsRow.alloc omk _) _), by omega, by omega, by omega, by omega, hv.out, hb.out.trans (b3.mono hGw)⟩
      have HS : Hid (S1 w G wr.heap.size (w2.heap.size + 1) w2.heap.size lv A i i [] T W0) := s0
      have hGw0 : G ≤ w.heap.size := by rw [HG.out]; exact Nat.le_refl _
      have HT0 : Hid (T = outL A i (inF A f0 xs i)) := hT
      rw [← hW0]
      clear hT hW0 s0 bo bp b3 rmk omk bmk pl hv hb
      refine wpIn_rangeDrain (by omega) (by omega) (Bp := w2.heap.size + 1) rfl rfl (lenAt (G + 1)) (lenAt_put (G + 1))
        (fun W => ∃ p pre ys, S1 w G wr.heap.size (w2.heap.size + 1) w2.heap.size lv A i p pre ys W ∧ pre ++ ys = T ∧ p ≤ i)
        (S1 w G wr.heap.size (w2.heap.size + 1) w2.heap.size lv A i 0 T [])
        (fun x k W => ∃ p pre ys, k = p + 1 ∧ S1 w G wr.heap.size (w2.heap.size + 1) w2.heap.size lv A i p pre ys W ∧ pre ++ x :: ys = T ∧ p + 1 ≤ i)
        (fun _ _ => False)
        (fun s X Y row hs hg hr => by obtain ⟨p, pre, ys, h, e⟩ := hs; exact ⟨p, pre, ys, S1.own hGw0 (by omega) s X Y row h hg hr, e⟩)
        (S1.own hGw0 (by omega))
        (fun x k s X Y row hs hg hr => by obtain ⟨p, pre, ys, e1, h, e⟩ := hs; exact ⟨p, pre, ys, e1, S1.own hGw0 (by omega) s X Y row h hg hr, e⟩)
        (fun _ _ _ _ _ h _ _ => h) ⟨i, [], T, HS.out, rfl, Nat.le_refl _⟩ ?pop
        (fun x a' _ => a' = { tmps := #[.slice a i c, lp, undef, undef, .slice none 0 0, .pointer (some ⟨G + 1, 0, none⟩), undef, u7, .pointer (some ⟨w2.heap.size, 0, none⟩), .string x, lp, .pointer (some ⟨G + 1, 0, none⟩), .slice a i c, .int .i64 (i : Int), .int .i64 (i : Int), .bool false, u16, u17, u18, u19, u20, u21, .slice a i c, .int .i64 (i : Int), .slice (some ⟨wr.heap.size, 0, none⟩) 0 i, .pointer (some ⟨G + 1, 0, none⟩), .func (.func 66) #[] #[.pointer (some ⟨w2.heap.size + 1, 0, none⟩)], iv x, undef, undef, undef, undef, undef], defers := [] })
        (fun _ _ _ _ _ _ hs _ _ => hs) ?assign ?body ?done (fun _ _ _ _ h _ => h.elim)
      case pop =>
        rintro W ⟨p, pre, ys, h, hT, hp⟩
        refine ⟨some ⟨G + 1, 0, none⟩, ?_, ?_⟩
        · obtain ⟨v, vo, f, ss⟩ := h
          exact ss.bp.cell
        · cases p with
          | zero =>
            left
            have e0 : ys = [] := by obtain ⟨v, vo, f, ss⟩ := h; exact ss.out.symm
            subst e0
            rw [List.append_nil] at hT
            subst hT
            obtain ⟨v, vo, f, ss⟩ := id h
            exact (ppop_none (G + 1) G i lv v f W ss.pl).mono fun e W' ⟨he, hb⟩ => ⟨he, h.below hb, keeps_below hb⟩
          | succ p =>
            right
            obtain ⟨x, ys', rfl, k⟩ := h.pop (B := W0.heap.size) HA.out (by have := HL.out; omega)
            exact ⟨x, k.mono fun e W' ⟨he, hs, hk⟩ => ⟨he, ⟨p, pre, ys', by rw [h.lenAt], hs, hT, hp⟩, hk⟩⟩
      case assign =>
        rintro l x k W K ⟨p, pre, ys, hk, hs, hT, hp⟩ hK
        have HS2 : Hid _ := hs
        have HT2 : Hid (pre ++ x :: ys = T) := hT
        clear hs hT
        gi_wp2
        exact hK _ _ (keeps_below (Below.refl _ W)) ⟨p, pre, ys, hk, HS2.out, HT2.out, hp⟩ rfl
      case body =>
        rintro l x k a' W ⟨p, pre, ys, hk, ⟨v, vo, f, ss⟩, hT, hp⟩ rfl
        have hpl : pre.length + 1 ≤ i := by
          have := congrArg List.length hT
          simp at this
          omega
        obtain ⟨g', c', w', r, b0, ss', kf⟩ := ss.app x (by have := HL.out; omega) (by have := ss.bo.lt; omega)
        have hc := ss.bo.cell
        have d0 := b0.cell
        have z0 := b0.frozen
        have SS' : Hid _ := ss'
        have KF : Hid _ := kf
        have HT2 : Hid (pre ++ x :: ys = T) := hT
        clear ss' kf hT ss b0
        gi_wp2_with (gi_at_builtin; refine wpIn_append_run rfl (.tmp 28) (.tmp 30) 41 41 rfl _ _ rfl rfl r ?_)
        exact ⟨KF.out _, ⟨p, pre ++ [x], ys, ⟨v, _, f, SS'.out⟩, by rw [← HT2.out]; simp, by omega⟩, by rw [SS'.out.pl.lenAt]; omega⟩
      case done =>
        rintro D W hD ⟨v, vo, f, ss⟩ hK
        have hc := ss.bo.cell
        have HSS : Hid _ := ss
        clear ss
        gi_wp2
        refine ⟨by simp, .inl ⟨_, _, rfl, run_takeDeferred hK, ?_⟩⟩
        refine ⟨_, results_tmp rfl _ _ _, vo, rfl, ?_, ?_⟩
        · have := HSS.out.row
          rw [hTl] at this
          rw [← HT0.out]
          exact ownsRow_putObj (row_base this (by omega)) _ hK rfl
        · exact HSS.out.below.trans (belowK_b (w := w) hGw0 W D _ _ (by have := HG.out; omega) hK rfl rfl)
end Go.Proofs.Ytcgpjmpppajfdaa.Ws
