/- A bundle of texts. -/
import Derived.Test.YtbciclnffokjjaaBm49
import Derived.Deep.QuietTactic
import Derived.BigQuiet
import Derived.Laws.IdiomStrings
import Derived.WideShapes
import Derived.Laws.AppendOwn
import Derived.OwnWalk
import Derived.Deep.AppendSrc
/- UtfAlls: what a text's places and runes are, and the walk of the reference's All. -/
namespace Go.Proofs.Ytbciclnffokjjaa
open Go.RowKit Go.Lib

/-- The places at which runes begin, with the runes, from a place on, up to the first fault. -/
def alF (s : ByteArray) : Nat → Nat → List (Int × Int)
  | 0, _ => []
  | f + 1, p => if p < s.size ∧ (nxt s p).2 ≠ 0 then ((p : Int), (nxt s p).1) :: alF s f (p + (Utf8.decode s p).2) else []
def al (s : ByteArray) : List (Int × Int) := alF s s.size 0
theorem alF_stop (s : ByteArray) (f p : Nat) (h : ¬ (p < s.size ∧ (nxt s p).2 ≠ 0)) : alF s f p = [] := by
  cases f with
  | zero => rfl
  | succ f => unfold alF; rw [if_neg h]
theorem alF_go (s : ByteArray) (f p : Nat) (h : p < s.size) (hz : (nxt s p).2 ≠ 0) : alF s (f + 1) p = ((p : Int), (nxt s p).1) :: alF s f (p + (Utf8.decode s p).2) := by
  rw [alF, if_pos ⟨h, hz⟩]
theorem alF_len (s : ByteArray) : ∀ f p, (alF s f p).length ≤ f
  | 0, _ => Nat.le_refl _
  | f + 1, p => by
    unfold alF
    split
    · have := alF_len s f (p + (Utf8.decode s p).2)
      simp
      omega
    · simp
def pcells (L : List (Int × Int)) : List Value := L.map (fun x => .int .i64 x.1)
def qcells (L : List (Int × Int)) : List Value := L.map (fun x => .int .i32 x.2)

theorem wp_append_run {P : Program} {ops : Array Oper} {rest : List Oper} {o : Oper} {a : Act} {w w' : World} {v' : Value} {Q : Exit → Act → World → Prop} (hw : Region.wanted o (yielded ops a.tmps) = true) (s x : Operand) (t tx : TypeId)
    (ho : o.op = .call { callee := .builtin .append, args := #[s, x], argTypes := #[t, tx] }) (vs vx : Value) (hs : a.eval s = vs) (hx : a.eval x = vx)
    (hr : (Builtin.append_ #[t, tx] o.type #[vs, vx]).run P w = .ok v' w') (h : wpList P ops Q rest (a.put o.dst v') w') : wpList P ops Q (o :: rest) a w := by
  unfold wpList
  rw [if_pos hw]
  left
  unfold Oper.wp execOp
  simp only [ho, resolve, invoke, builtin, Sem.run_bind, Sem.run_pure, Result.andThen_ok, List.map_toArray, List.map_cons, List.map_nil, hs, hx, hr]
  exact h

theorem inf21 : (Try.prog.info? 21).map (fun i => (i.zero, i.size, i.bytes)) = some (some (.int .i32 0), 1, 4) := by kernel_rfl
theorem inf3 : (Try.prog.info? 3).map (fun i => (i.zero, i.size, i.bytes)) = some (some (.int .i64 0), 1, 8) := by kernel_rfl

/-- Rows of different types are different rows. -/
theorem row_apart {w : World} {B B' e e' n n' : Nat} {v v' : Value} {xs xs' : List Value} (h : w.ownsRow B e 1 v n xs) (h' : w.ownsRow B' e' 1 v' n' xs') (hne : e ≠ e') : v'.ownBlock = none ∨ v'.ownBlock ≠ v.ownBlock := by
  rcases h'.2 with ⟨rfl, _⟩ | ⟨g', cap', cur', rfl, _, hg', _⟩
  · exact .inl rfl
  · rcases h.2 with ⟨rfl, _⟩ | ⟨g, cap, cur, rfl, _, hg, _⟩
    · exact .inr (by simp [Value.ownBlock])
    · refine .inr fun e1 => ?_
      obtain rfl : g' = g := by simpa [Value.ownBlock] using e1
      rw [hg] at hg'
      simp at hg'
      exact hne hg'.2

/-- One more behind a row of the call's own. -/
theorem app_one (t e : Nat) (zero : Value) (by1 : Nat) (ht : Try.prog.underlying t = some (.slice e)) (hinf : (Try.prog.info? e).map (fun i => (i.zero, i.size, i.bytes)) = some (some zero, 1, by1)) (hzc : zero.cells.size = 1) (hb1 : 1 ≤ by1)
    (w : World) (B : Nat) (v : Value) (xs : List Value) (u : Value) (hu : u.oneCell' = true) (hB : B ≤ w.heap.size) (hn : (xs.length + 1) * by1 ≤ 140737488355328) (o : w.ownsRow B e 1 v xs.length xs) :
    ∃ v' w', (Builtin.append_ #[t, t] t #[v, .slice (some ⟨w.heap.size, 0, none⟩) 1 1]).run Try.prog (w.alloc (.cells #[u] e)) = .ok v' w' ∧
      w'.ownsRow B e 1 v' (xs ++ [u]).length (xs ++ [u]) ∧ Below B w w' ∧ (w.alloc (.cells #[u] e)).grownBy w' v.ownBlock := by
  obtain ⟨i0, hi, hz0, hz1, hz2⟩ := info_parts hinf
  have o0 := o.alloc (.cells #[u] e)
  have hle : xs.length + 1 ≤ (xs.length + 1) * by1 := Nat.le_mul_of_pos_right _ hb1
  obtain ⟨v', w', r, o', g, _⟩ := run_append_own (P := Try.prog) (w.alloc (.cells #[u] e)) B t t e i0 zero 1 by1 ht hi hz0 hz1 hz2 hzc (by decide) _ xs.length xs o0 ⟨w.heap.size, 0, none⟩ 1 1 [u] rfl
    (fun j x hj => by
      match j, hj with
      | 0, hj =>
        have hx : x = u := by simpa using hj.symm
        subst hx
        rw [Go.WideShapes.add_plain]
        unfold World.cell?
        rw [show (w.alloc (.cells #[x] e)).heap[w.heap.size]? = some (.cells #[x] e) from heap_alloc_new w _]
        simp) (fun x hx => by
      have : x = u := by simpa using hx
      subst this; exact hu) (by unfold maxLen; omega) hn (by simp; omega)
  refine ⟨v', w', r, ?_, ?_, g⟩
  · rw [List.length_append]; exact o'
  · exact ((Below.refl B w).alloc hB _).grown g (by simp; omega) (fun k hk => (o.lt k hk).1)
end Go.Proofs.Ytbciclnffokjjaa
/- UtfAlls: the walk of the reference's All. -/
namespace Go.Proofs.Ytbciclnffokjjaa
open Go.RowKit Go.Lib

theorem pcells_app (L : List (Int × Int)) (x : Int × Int) : pcells (L ++ [x]) = pcells L ++ [.int .i64 x.1] := by simp [pcells]
theorem qcells_app (L : List (Int × Int)) (x : Int × Int) : qcells (L ++ [x]) = qcells L ++ [.int .i32 x.2] := by simp [qcells]
theorem pcells_len (L : List (Int × Int)) : (pcells L).length = L.length := by simp [pcells]
theorem qcells_len (L : List (Int × Int)) : (qcells L).length = L.length := by simp [qcells]

/-- A place and a rune put behind their rows. -/
theorem app_two (w : World) (B : Nat) (v1 v2 : Value) (L : List (Int × Int)) (a r : Int) (hB : B ≤ w.heap.size) (hn : L.length ≤ 4294967296) (o1 : w.ownsRow B 3 1 v1 L.length (pcells L)) (o2 : w.ownsRow B 21 1 v2 L.length (qcells L)) :
    ∃ v1' w1 v2' w2, (Builtin.append_ #[57, 57] 57 #[v1, .slice (some ⟨w.heap.size, 0, none⟩) 1 1]).run Try.prog (w.alloc (.cells #[.int .i64 a] 3)) = .ok v1' w1 ∧
      (Builtin.append_ #[65, 65] 65 #[v2, .slice (some ⟨w1.heap.size, 0, none⟩) 1 1]).run Try.prog (w1.alloc (.cells #[.int .i32 r] 21)) = .ok v2' w2 ∧
      w2.ownsRow B 3 1 v1' (L ++ [(a, r)]).length (pcells (L ++ [(a, r)])) ∧ w2.ownsRow B 21 1 v2' (L ++ [(a, r)]).length (qcells (L ++ [(a, r)])) ∧ Below B w w2 := by
  have o1' : w.ownsRow B 3 1 v1 (pcells L).length (pcells L) := by rw [pcells_len]; exact o1
  obtain ⟨v1', w1, r1, p1, b1, g1⟩ := app_one 57 3 _ 8 Try.underlying57 inf3 rfl (by omega) w B v1 (pcells L) (.int .i64 a) rfl hB (by rw [pcells_len]; omega) o1'
  have o2a := (o2.alloc (.cells #[.int .i64 a] 3)).kept g1 (row_apart (o1.alloc (.cells #[.int .i64 a] 3)) (o2.alloc (.cells #[.int .i64 a] 3)) (by decide))
  have o2' : w1.ownsRow B 21 1 v2 (qcells L).length (qcells L) := by rw [qcells_len]; exact o2a
  obtain ⟨v2', w2, r2, p2, b2, g2⟩ := app_one 65 21 _ 4 Try.underlying65 inf21 rfl (by omega) w1 B v2 (qcells L) (.int .i32 r) rfl (Nat.le_trans hB b1.size) (by rw [qcells_len]; omega) o2'
  have p1' := (p1.alloc (.cells #[.int .i32 r] 21)).kept g2 (row_apart (o2a.alloc (.cells #[.int .i32 r] 21)) (p1.alloc (.cells #[.int .i32 r] 21)) (by decide))
  refine ⟨v1', w1, v2', w2, r1, r2, ?_, ?_, b1.trans b2⟩
  · rw [pcells_app, List.length_append]
    rw [List.length_append, pcells_len] at p1'
    exact p1'
  · rw [qcells_app, List.length_append]
    rw [List.length_append, qcells_len] at p2
    exact p2

set_option maxHeartbeats 4000000 in
set_option maxRecDepth 100000 in
set_option maxRecDepth 100000 in
theorem rall_any (s : ByteArray) (w : World) (hs : s.size ≤ 1048576) :
    Calls Try.prog 56 #[.string s] w fun e w' => ∃ v1 v2, e = .returned (.tuple #[v1, v2]) ∧ w'.ownsRow w.heap.size 3 1 v1 (al s).length (pcells (al s)) ∧ w'.ownsRow w.heap.size 21 1 v2 (al s).length (qcells (al s)) ∧ Below w.heap.size w w' := by
  generalize hA : al s = A
  have HA : Hid (alF s s.size 0 = A) := hA
  have HS : Hid (s.size ≤ 1048576) := hs
  have hsi : (s.size : Int) ≤ 1048576 := by omega
  clear hA
  go_enter Try.func56, Try.ntmps56
  go_wp2
  go_loopw [4, 5, 6] (fun t4 t5 t6 w' => ∃ (p f : Nat) (pre : List (Int × Int)), t6 = .int .i64 p ∧ p ≤ s.size ∧ s.size ≤ p + f ∧ Hid (pre ++ alF s f p = A) ∧ pre.length ≤ p ∧ w'.ownsRow w.heap.size 3 1 t4 pre.length (pcells pre) ∧ w'.ownsRow w.heap.size 21 1 t5 pre.length (qcells pre) ∧ Below w.heap.size w w') (fun _ _ t6 _ => s.size - (RowKit.intOf t6).toNat)
  case atStart => exact ⟨0, s.size, [], rfl, by omega, by omega, HA, by simp, World.ownsRow_nil _ _ _ _, World.ownsRow_nil _ _ _ _, Below.refl _ _⟩
  case round =>
    obtain ⟨p, f, pre, rfl, hp, hf, hpre, hpl, o1, o2, hbw⟩ := hrel
    by_cases hlt : p < s.size
    · have kn := rnext_in s p wr (by unfold maxLen; omega) hlt
      by_cases hz : (nxt s p).2 = 0
      · have HE : Hid (pre = A) := by
          have := hpre.out
          rw [alF_stop s f p (fun x => x.2 hz), List.append_nil] at this
          exact this
        rw [hz] at kn
        have HO1 : Hid (wr.ownsRow w.heap.size 3 1 u4 pre.length (pcells pre)) := o1
        have HO2 : Hid (wr.ownsRow w.heap.size 21 1 u5 pre.length (qcells pre)) := o2
        clear o1 o2 hz
        generalize (nxt s p).1 = R at *
        go_wp2_with (go_at_call 74; go_fit kn; rintro e w1 ⟨rfl, b1⟩)
        go_ret2
        have g1 : wr.grownBy w1 none := ⟨b1.os, b1.tape, b1.output, b1.size, fun k hk _ => b1.block k hk⟩
        refine ⟨u4, u5, rfl, ?_, ?_, hbw.trans (b1.mono hbw.size)⟩
        · rw [← HE.out]; exact HO1.out.kept g1 (by cases u4.ownBlock <;> simp)
        · rw [← HE.out]; exact HO2.out.kept g1 (by cases u5.ownBlock <;> simp)
      · obtain ⟨f', rfl⟩ : ∃ f', f = f' + 1 := ⟨f - 1, by omega⟩
        obtain ⟨e1, e2⟩ := nxt_width s p hz
        have hds := dec_size s p hlt
        have hdw := (decode_width s p).1
        have HP : Hid ((pre ++ [((p : Int), (nxt s p).1)]) ++ alF s f' (p + (Utf8.decode s p).2) = A) := by
          have := hpre.out
          rw [alF_go s f' p hlt hz] at this
          show _ = _
          rw [← this]
          simp
        have HX : Hid (∀ w1, Below wr.heap.size wr w1 → ∃ v1' w2 v2' w3, (Builtin.append_ #[57, 57] 57 #[u4, .slice (some ⟨w1.heap.size, 0, none⟩) 1 1]).run Try.prog (w1.alloc (.cells #[.int .i64 p] 3)) = .ok v1' w2 ∧
            (Builtin.append_ #[65, 65] 65 #[u5, .slice (some ⟨w2.heap.size, 0, none⟩) 1 1]).run Try.prog (w2.alloc (.cells #[.int .i32 (nxt s p).1] 21)) = .ok v2' w3 ∧
            w3.ownsRow w.heap.size 3 1 v1' (pre ++ [((p : Int), (nxt s p).1)]).length (pcells (pre ++ [((p : Int), (nxt s p).1)])) ∧ w3.ownsRow w.heap.size 21 1 v2' (pre ++ [((p : Int), (nxt s p).1)]).length (qcells (pre ++ [((p : Int), (nxt s p).1)])) ∧ Below w.heap.size w1 w3) := fun w1 b1 => by
          have g1 : wr.grownBy w1 none := ⟨b1.os, b1.tape, b1.output, b1.size, fun k hk _ => b1.block k hk⟩
          exact app_two w1 w.heap.size u4 u5 pre p (nxt s p).1 (Nat.le_trans hbw.size b1.size) (by omega) (o1.kept g1 (by cases u4.ownBlock <;> simp)) (o2.kept g1 (by cases u5.ownBlock <;> simp))
        have hzb : ((nxt s p).2 == 0) = false := by rw [beq_eq_false_iff_ne]; exact hz
        have e1' : (nxt s p).2 = ((Utf8.decode s p).2 : Int) := e1
        rw [e1'] at kn hzb
        have HD : Hid (p + (Utf8.decode s p).2 ≤ s.size) := hds
        have hdi : ((p : Int) + (Utf8.decode s p).2) ≤ s.size := by omega
        have hpl2 : (pre ++ [((p : Int), (nxt s p).1)]).length ≤ p + (Utf8.decode s p).2 := by simp; omega
        clear hpre o1 o2 hz e1 e1' e2 hds
        generalize (nxt s p).1 = R at *
        generalize (Utf8.decode s p).2 = D at *
        go_wp2_with fail
        go_fit kn
        rintro e w1 ⟨rfl, b1⟩
        obtain ⟨v1', w2, v2', w3, r1, r2, p1, p2, b3⟩ := HX.out w1 b1
        clear HX kn
        go_wp2_with (first | (at_builtin; refine wp_append_run rfl (.tmp 21) (.tmp 23) 57 57 rfl _ _ rfl rfl r1 ?_) | (at_builtin; refine wp_append_run rfl (.tmp 25) (.tmp 27) 65 65 rfl _ _ rfl rfl r2 ?_))
        go_roundw
        case rel => exact ⟨p + D, f', pre ++ [((p : Int), R)], by go_num, HD.out, by omega, HP, hpl2, p1, p2, (hbw.trans (b1.mono hbw.size)).trans b3⟩
        case measure => simp [RowKit.intOf]; omega
    · have HE : Hid (pre = A) := by
        have := hpre.out
        rw [alF_stop s f p (fun x => hlt x.1), List.append_nil] at this
        exact this
      have HO1 : Hid (wr.ownsRow w.heap.size 3 1 u4 pre.length (pcells pre)) := o1
      have HO2 : Hid (wr.ownsRow w.heap.size 21 1 u5 pre.length (qcells pre)) := o2
      clear o1 o2
      go_wp2
      go_ret2
      exact ⟨u4, u5, rfl, by rw [← HE.out]; exact HO1.out, by rw [← HE.out]; exact HO2.out, hbw⟩
end Go.Proofs.Ytbciclnffokjjaa
/- The reference: Runes. -/
namespace Go.Proofs.Ytbciclnffokjjaa
open Go.RowKit Go.Lib

def rcells (xs : List Int) : List Value := xs.map (Value.int .i32)
theorem al_rns (s : ByteArray) : ∀ f p, s.size ≤ p + f → vld s f p = true → (alF s f p).map (·.2) = rns s f p
  | 0, _, _, _ => rfl
  | f + 1, p, h, hv => by
    by_cases hl : p < s.size
    · obtain ⟨hg, hv2⟩ := (vld_step s f p hl).1 hv
      have hz := (good_iff s p hl).1 hg
      obtain ⟨e1, e2⟩ := nxt_width s p hz
      have hw := (decode_width s p).1
      rw [alF_go s f p hl hz, List.map_cons, al_rns s f _ (by omega) hv2, e2]
      unfold rns
      rw [if_pos hl]
      cases f <;> rfl
    · rw [alF_stop s (f + 1) p (fun x => hl x.1), rns_end s (f + 1) p hl]
      rfl
/-- The runes that a text has, and the error. -/
def rl (s : ByteArray) : List Int := if vld s s.size 0 = true then rns s s.size 0 else []
def re (s : ByteArray) : Int := if vld s s.size 0 = true then 0 else 4
theorem qc_rns (s : ByteArray) (hv : vld s s.size 0 = true) : qcells (al s) = rcells (rns s s.size 0) ∧ (al s).length = (rns s s.size 0).length := by
  have := al_rns s s.size 0 (by omega) hv
  unfold al
  rw [← this]
  exact ⟨by simp [qcells, rcells], by simp⟩
set_option maxHeartbeats 1000000 in
set_option maxRecDepth 100000 in
theorem rrunes_any (s : ByteArray) (w : World) (hs : s.size ≤ 1048576) :
    Calls Try.prog 32 #[.string s] w fun e w' => ∃ v, e = .returned (.tuple #[v, .int .i64 (re s)]) ∧ w'.ownsRow w.heap.size 21 1 v (rl s).length (rcells (rl s)) ∧ Below w.heap.size w w' := by
  have k1 := rUtf_any s w (by unfold maxLen; omega)
  have k2 := fun w' => rall_any s w' hs
  unfold re rl
  cases hv : vld s s.size 0 with
  | true =>
    rw [if_pos rfl, if_pos rfl]
    rw [hv] at k1
    obtain ⟨e1, e2⟩ := qc_rns s hv
    rw [e1, e2] at k2
    clear hv e1 e2
    generalize rns s s.size 0 = xs at *
    go_enter Try.func32, Try.ntmps32
    go_wp2_with fail
    go_fit k1
    rintro e w1 ⟨rfl, b1⟩
    go_wp2_with fail
    go_fit (k2 _)
    rintro e w2 ⟨v1, v2, rfl, _, o2, b2⟩
    have HO : Hid (w2.ownsRow w1.heap.size 21 1 v2 xs.length (rcells xs)) := o2
    clear o2
    go_wp2
    go_ret2
    refine ⟨v2, rfl, ?_, b1.trans (b2.mono b1.size)⟩
    refine ⟨HO.out.1, ?_⟩
    rcases HO.out.2 with h0 | ⟨g, cap, cur, hv, hb, r⟩
    · exact .inl h0
    · exact .inr ⟨g, cap, cur, hv, Nat.le_trans b1.size hb, r⟩
  | false =>
    rw [if_neg (by simp), if_neg (by simp)]
    rw [hv] at k1
    clear hv k2
    go_enter Try.func32, Try.ntmps32
    go_wp2_with fail
    go_fit k1
    rintro e w1 ⟨rfl, b1⟩
    go_wp2
    go_ret2
    exact ⟨_, rfl, World.ownsRow_nil _ _ _ _, b1⟩
end Go.Proofs.Ytbciclnffokjjaa
