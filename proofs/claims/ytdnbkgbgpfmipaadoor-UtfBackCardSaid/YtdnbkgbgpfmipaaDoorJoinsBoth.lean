/- The walk of the law UtfJoins where both texts are UTF-8. -/
import Derived.Test.YtdnbkgbgpfmipaaDoorJoinsWalk
namespace Go.Proofs.YtdnbkgbgpfmipaaDoor
open Go.RowKit Go.Lib

theorem info21 : (Tryd.prog.info? 21).map (fun i => (i.zero, i.size, i.bytes)) = some (some (.int .i32 0), 1, 4) := by kernel_rfl

theorem runes_from (w : World) (hT : Lib.Utf8Tabs 0 1 w) (s : ByteArray) (hs : s.size ≤ 1048576) (hv : vld s s.size 0 = true) (w1 : World) (hb : Below w.heap.size w w1) :
    Calls Tryd.prog 11 #[.string s] w1 fun e w' => ∃ g cap, e = .returned (.tuple #[.slice (some ⟨g, 0, none⟩) (rns s s.size 0).length cap, .int .i64 0]) ∧
      w'.ownsRow w.heap.size 21 1 (.slice (some ⟨g, 0, none⟩) (rns s s.size 0).length cap) (rns s s.size 0).length (rcells (rns s s.size 0)) ∧ Below w1.heap.size w1 w' := by
  refine (runes_ok s w1 (by omega) (tabs_below hT (tabs_size hT) hb) hv).mono ?_
  rintro e w' ⟨g, cap, he, ho, hb'⟩
  refine ⟨g, cap, he, ⟨ho.1, ?_⟩, hb'⟩
  rcases ho.2 with h0 | ⟨g', cap', cur, hv', hB, r⟩
  · exact .inl h0
  · exact .inr ⟨g', cap', cur, hv', Nat.le_trans hb.size hB, r⟩

/-- An append whose run is known, guarded or not. -/
theorem wpList_append_run {P : Program} {ops : Array Oper} {rest : List Oper} {o : Oper} {a : Act} {w w' : World} {v' : Value} {Q : Exit → Act → World → Prop} (hw : Region.wanted o (yielded ops a.tmps) = true) (s x : Operand) (t : TypeId)
    (ho : o.op = .call { callee := .builtin .append, args := #[s, x], argTypes := #[t, t] }) (vs vx : Value) (hs : a.eval s = vs) (hx : a.eval x = vx)
    (hr : (Builtin.append_ #[t, t] o.type #[vs, vx]).run P w = .ok v' w') (h : wpList P ops Q rest (a.put o.dst v') w') : wpList P ops Q (o :: rest) a w := by
  unfold wpList
  rw [if_pos hw]
  left
  unfold Oper.wp execOp
  simp only [ho, resolve, invoke, builtin, Sem.run_bind, Sem.run_pure, Result.andThen_ok, List.map_toArray, List.map_cons, List.map_nil, hs, hx, hr]
  exact h

theorem rcells_one (xs : List Int) : ∀ u ∈ rcells xs, u.oneCell' = true := by
  intro u hu
  obtain ⟨x, _, rfl⟩ := List.mem_map.1 hu
  rfl

/-- Two lists of runes put behind an empty one: both appends, and what is left. -/
theorem two_appends (w : World) (B ga ca gb cb gw cw : Nat) (xa xb : List Int) (hla : xa.length ≤ 1048576) (hlb : xb.length ≤ 1048576)
    (oa : w.ownsRow B 21 1 (.slice (some ⟨ga, 0, none⟩) xa.length ca) xa.length (rcells xa)) (ob : w.ownsRow B 21 1 (.slice (some ⟨gb, 0, none⟩) xb.length cb) xb.length (rcells xb))
    (ow : w.ownsRow B 21 1 (.slice (some ⟨gw, 0, none⟩) (xa ++ xb).length cw) (xa ++ xb).length (rcells (xa ++ xb))) :
    ∃ v1 w1 v2 w2, (Builtin.append_ #[25, 25] 25 #[.slice (some ⟨w.heap.size, 0, none⟩) 0 0, .slice (some ⟨ga, 0, none⟩) xa.length ca]).run Tryd.prog (w.alloc (.cells #[] 21)) = .ok v1 w1 ∧
      (Builtin.append_ #[25, 25] 25 #[v1, .slice (some ⟨gb, 0, none⟩) xb.length cb]).run Tryd.prog w1 = .ok v2 w2 ∧
      w2.ownsRow B 21 1 (.slice (some ⟨gw, 0, none⟩) (xa ++ xb).length cw) (xa ++ xb).length (rcells (xa ++ xb)) ∧ w2.ownsRow w.heap.size 21 1 v2 (xa ++ xb).length (rcells (xa ++ xb)) ∧ Below w.heap.size w w2 := by
  obtain ⟨i0, hi, hz0, hz1, hz2⟩ := info_parts info21
  have lt := fun {v : Value} {n : Nat} {xs : List Value} (h : w.ownsRow B 21 1 v n xs) => h.lt
  have la := (lt oa ga rfl).2
  have lb := (lt ob gb rfl).2
  have lw := (lt ow gw rfl).2
  have o0 := World.ownsRow_made (base := w.heap.size) (e := 21) (size := 1) w #[] 0 (Nat.le_refl _) (Nat.zero_le _) rfl
  have ca' := (oa.alloc (.cells #[] 21)).cells (g := ga) rfl
  obtain ⟨v1, w1, r1, o1, g1, _⟩ := run_append_own (P := Tryd.prog) (w.alloc (.cells #[] 21)) w.heap.size 25 25 21 i0 (.int .i32 0) 1 4 Tryd.underlying25 hi hz0 hz1 hz2 rfl (by decide) _ 0 [] o0 ⟨ga, 0, none⟩ xa.length ca (rcells xa) (by simp [rcells]) ca' (rcells_one xa) (by unfold maxLen; omega) (by omega) (by simp)
  have ob1 := (ob.alloc (.cells #[] 21)).kept g1 (.inr (by simp only [Value.ownBlock, ne_eq, Option.some.injEq]; omega))
  have ow1 := (ow.alloc (.cells #[] 21)).kept g1 (.inr (by simp only [Value.ownBlock, ne_eq, Option.some.injEq]; omega))
  have cb' := ob1.cells (g := gb) rfl
  have hs1 : w.heap.size ≤ w1.heap.size := by have := g1.size; simp at this; omega
  rw [Nat.zero_add, List.nil_append] at o1
  obtain ⟨v2, w2, r2, o2, g2, _⟩ := run_append_own (P := Tryd.prog) w1 w.heap.size 25 25 21 i0 (.int .i32 0) 1 4 Tryd.underlying25 hi hz0 hz1 hz2 rfl (by decide) _ xa.length (rcells xa) o1 ⟨gb, 0, none⟩ xb.length cb (rcells xb) (by simp [rcells]) cb' (rcells_one xb) (by unfold maxLen; omega) (by omega) hs1
  have hne : ∀ k, v1.ownBlock = some k → w.heap.size ≤ k := fun k hk => (o1.lt k hk).1
  have ow2 := ow1.kept g2 (.inr (by
    intro hq
    have := hne gw hq.symm
    omega))
  refine ⟨v1, w1, v2, w2, r1, r2, ow2, ?_, ?_⟩
  · rw [List.length_append]
    have : rcells (xa ++ xb) = rcells xa ++ rcells xb := by simp [rcells]
    rw [this]; exact o2
  · exact (((Below.refl w.heap.size w).alloc (Nat.le_refl _) _).grown g1 (by simp) (fun k hk => by simp [Value.ownBlock] at hk; omega)).grown g2 hs1 hne

set_option maxHeartbeats 2000000 in
theorem joins_both (a b : ByteArray) (w : World) (hs : a.size + b.size ≤ 1048576) (hT : Lib.Utf8Tabs 0 1 w) (ha : vld a a.size 0 = true) (hb0 : vld b b.size 0 = true) :
    Calls Tryd.prog 3 #[.string a, .string b] w fun e w' => e = .returned (.bool true) ∧ Below w.heap.size w w' := by
  have V1 := valid_from w hT ⟨#[97]⟩ (by decide)
  have V2 := valid_from w hT ⟨#[255]⟩ (by decide)
  rw [j1] at V1
  rw [j2] at V2
  have hsz : (a ++ b).size = a.size + b.size := by simp
  have NX := next_from w hT (a ++ b) (by omega) (a.size : Int)
  have VW := valid_from w hT (a ++ b) (by omega)
  have VA := valid_from w hT a (by omega)
  have VB := valid_from w hT b (by omega)
  obtain ⟨hw, hr⟩ := joins_ok a b ha hb0
  have hcut := joins_cut a b hw
  have VW2 := fun (w1 : World) (hb : Below w.heap.size w w1) => valid_any (a ++ b) w1 (by unfold maxLen; omega) (tabs_below hT (tabs_size hT) hb)
  have RA := runes_from w hT a (by omega) ha
  have RB := runes_from w hT b (by omega) hb0
  have RW := runes_from w hT (a ++ b) (by omega) hw
  have la := rns_len a a.size 0
  have lb := rns_len b b.size 0
  rw [hr] at RW
  rw [hw] at VW VW2
  rw [ha] at VA hcut
  rw [hb0] at VB hcut
  have n1 : ¬ 9223372036854775807 < a.size + b.size := by omega
  generalize (nxtZ (a ++ b) (a.size : Int)).1 = X at *
  generalize (nxtZ (a ++ b) (a.size : Int)).2 = Y at *
  generalize rns a a.size 0 = xa at *
  generalize rns b b.size 0 = xb at *
  have hla : xa.length ≤ 1048576 := by omega
  have hlb : xb.length ≤ 1048576 := by omega
  clear hT la lb hr hw ha hb0
  have he0 : b.toList.isEmpty = decide (b.size = 0) := by
    rw [Lib.toList_data]
    have : b.size = b.data.toList.length := by simp
    rw [this]
    cases b.data.toList <;> simp
  rw [← he0] at hcut
  clear he0
  have hb := Below.refl w.heap.size w
  have hcase : decide (0 < Y) = true ∨ (decide (0 < Y) = false ∧ b.toList.isEmpty = true) := by
    cases h1 : decide (0 < Y)
    · right; rw [h1] at hcut; exact ⟨rfl, by simpa using hcut⟩
    · left; rfl
  clear hcut
  rcases hcase with hc1 | ⟨hc1, hc2⟩
  · go_enter Tryd.func3, Tryd.ntmps3
    go_wp2_with fail
    go_fit (V1 _ hb)
    clear hb
    rintro e w1 ⟨rfl, hb⟩
    go_wp2_with fail
    go_fit (V2 _ hb)
    clear hb
    rintro e w2 ⟨rfl, hb⟩
    go_wp2_with fail
    go_fit (NX _ hb)
    clear hb
    rintro e w3 ⟨rfl, hb⟩
    go_wp2_with fail
    go_fit (VW _ hb)
    clear hb
    rintro e w4 ⟨rfl, hb⟩
    go_wp2_with fail
    go_fit (VA _ hb)
    clear hb
    rintro e w5 ⟨rfl, hb⟩
    go_wp2_with fail
    go_fit (VB _ hb)
    clear hb
    rintro e w6 ⟨rfl, hb⟩
    go_wp2_with fail
    go_fit (VA _ hb)
    clear hb
    rintro e w7 ⟨rfl, hb⟩
    go_wp2_with fail
    go_fit (VB _ hb)
    clear hb
    rintro e w8 ⟨rfl, hb⟩
    go_wp2_with fail
    go_fit (RA _ hb)
    rintro e w9 ⟨ga, ca, rfl, oa, hb9⟩
    have hb' := hb.trans (hb9.mono hb.size)
    clear hb hb9
    go_wp2_with fail
    go_fit (RB _ hb')
    rintro e w10 ⟨gb, cb, rfl, ob, hb10⟩
    have oa' := owns_below oa hb10
    have hb := hb'.trans (hb10.mono hb'.size)
    clear hb' hb10 oa
    go_wp2_with fail
    go_fit (RW _ hb)
    rintro e w11 ⟨gw, cw, rfl, ow, hb11⟩
    have oa := owns_below oa' hb11
    have ob' := owns_below ob hb11
    have hb' := hb.trans (hb11.mono hb.size)
    clear hb hb11 oa' ob
    go_wp2_with fail
    go_fit (VW2 _ hb')
    rintro e w12 ⟨rfl, hb12⟩
    have oa' := owns_below oa hb12
    have ob := owns_below ob' hb12
    have ow' := owns_below ow hb12
    have hb := hb'.trans (hb12.mono hb'.size)
    clear hb' hb12 oa ob' ow
    obtain ⟨v1, w13, v2, w14, r1, r2, ow2, o2, hb14⟩ := two_appends w12 w.heap.size ga ca gb cb gw cw xa xb hla hlb oa' ob ow'
    have SM := same_owned _ _ _ _ (xa ++ xb) w14 ow2 o2 (by rw [List.length_append]; unfold maxLen; omega)
    have hbz := hb.trans (hb14.mono hb.size)
    clear oa' ob ow' ow2 o2 hb14 hb
    rw [List.length_append] at SM
    go_wp2_with (first | (at_builtin; refine wpList_append_run rfl (.tmp 87) (.tmp 88) 25 rfl _ _ rfl rfl r1 ?_) | (at_builtin; refine wpList_append_run rfl (.tmp 89) (.tmp 90) 25 rfl _ _ rfl rfl r2 ?_) | (go_at_call 12; go_fit SM; rintro e w15 ⟨rfl, hb15⟩))
    go_ret
    exact ⟨rfl, hbz.trans (hb15.mono hbz.size)⟩
  · go_enter Tryd.func3, Tryd.ntmps3
    go_wp2_with fail
    go_fit (V1 _ hb)
    clear hb
    rintro e w1 ⟨rfl, hb⟩
    go_wp2_with fail
    go_fit (V2 _ hb)
    clear hb
    rintro e w2 ⟨rfl, hb⟩
    go_wp2_with fail
    go_fit (NX _ hb)
    clear hb
    rintro e w3 ⟨rfl, hb⟩
    go_wp2_with fail
    go_fit (VW _ hb)
    clear hb
    rintro e w4 ⟨rfl, hb⟩
    go_wp2_with fail
    go_fit (VA _ hb)
    clear hb
    rintro e w5 ⟨rfl, hb⟩
    go_wp2_with fail
    go_fit (VB _ hb)
    clear hb
    rintro e w6 ⟨rfl, hb⟩
    go_wp2_with fail
    go_fit (VA _ hb)
    clear hb
    rintro e w7 ⟨rfl, hb⟩
    go_wp2_with fail
    go_fit (VB _ hb)
    clear hb
    rintro e w8 ⟨rfl, hb⟩
    go_wp2_with fail
    go_fit (RA _ hb)
    rintro e w9 ⟨ga, ca, rfl, oa, hb9⟩
    have hb' := hb.trans (hb9.mono hb.size)
    clear hb hb9
    go_wp2_with fail
    go_fit (RB _ hb')
    rintro e w10 ⟨gb, cb, rfl, ob, hb10⟩
    have oa' := owns_below oa hb10
    have hb := hb'.trans (hb10.mono hb'.size)
    clear hb' hb10 oa
    go_wp2_with fail
    go_fit (RW _ hb)
    rintro e w11 ⟨gw, cw, rfl, ow, hb11⟩
    have oa := owns_below oa' hb11
    have ob' := owns_below ob hb11
    have hb' := hb.trans (hb11.mono hb.size)
    clear hb hb11 oa' ob
    go_wp2_with fail
    go_fit (VW2 _ hb')
    rintro e w12 ⟨rfl, hb12⟩
    have oa' := owns_below oa hb12
    have ob := owns_below ob' hb12
    have ow' := owns_below ow hb12
    have hb := hb'.trans (hb12.mono hb'.size)
    clear hb' hb12 oa ob' ow
    obtain ⟨v1, w13, v2, w14, r1, r2, ow2, o2, hb14⟩ := two_appends w12 w.heap.size ga ca gb cb gw cw xa xb hla hlb oa' ob ow'
    have SM := same_owned _ _ _ _ (xa ++ xb) w14 ow2 o2 (by rw [List.length_append]; unfold maxLen; omega)
    have hbz := hb.trans (hb14.mono hb.size)
    clear oa' ob ow' ow2 o2 hb14 hb
    rw [List.length_append] at SM
    go_wp2_with (first | (at_builtin; refine wpList_append_run rfl (.tmp 87) (.tmp 88) 25 rfl _ _ rfl rfl r1 ?_) | (at_builtin; refine wpList_append_run rfl (.tmp 89) (.tmp 90) 25 rfl _ _ rfl rfl r2 ?_) | (go_at_call 12; go_fit SM; rintro e w15 ⟨rfl, hb15⟩))
    go_ret
    exact ⟨rfl, hbz.trans (hb15.mono hbz.size)⟩
end Go.Proofs.YtdnbkgbgpfmipaaDoor
