/- The reference's Keep. -/
import Derived.Test.YtjmninjaoemhjaaKh
import Derived.Carry
import Derived.WideMake
namespace Go.Proofs.Ytjmninjaoemhjaa
open Go.RowKit Go.Lib

attribute [local go_sem] Oper.semAt_some

abbrev lbX (x : Lb) : Obj := .cells #[.string x.1, .string x.2] 25
/-- But for the blocks of M all is as it was. -/
structure Kp (M : Nat → Prop) (w w' : World) : Prop where
  os : w'.os = w.os
  tape : w'.tape = w.tape
  output : w'.output = w.output
  size : w.heap.size ≤ w'.heap.size
  block : ∀ k, k < w.heap.size → ¬ M k → w'.heap[k]? = w.heap[k]?
namespace Kp
variable {M N : Nat → Prop} {a b c w w' : World}
theorem refl (M : Nat → Prop) (w : World) : Kp M w w := ⟨rfl, rfl, rfl, Nat.le_refl _, fun _ _ _ => rfl⟩
theorem trans (h : Kp M a b) (k : Kp M b c) : Kp M a c := ⟨k.os.trans h.os, k.tape.trans h.tape, k.output.trans h.output, Nat.le_trans h.size k.size, fun i hi hm => (k.block i (Nat.lt_of_lt_of_le hi h.size) hm).trans (h.block i hi hm)⟩
theorem of (h : Below w.heap.size w w') : Kp M w w' := ⟨h.os, h.tape, h.output, h.size, fun k hk _ => h.block k hk⟩
theorem below {B : Nat} (h : Kp M w w') (hB : B ≤ w.heap.size) (hm : ∀ k, k < B → ¬ M k) : Below B w w' := ⟨h.os, h.tape, h.output, h.size, fun k hk => h.block k (by omega) (hm k hk)⟩
theorem grown {row : Option Nat} (h : Kp M a w) (hg : w.grownBy w' row) (hr : ∀ k, row = some k → k < w.heap.size → M k) : Kp M a w' :=
  h.trans ⟨hg.os, hg.tape, hg.output, hg.size, fun k hk hm => hg.block k hk (fun e => hm (hr k e.symm hk))⟩
theorem row {S e s n : Nat} {v : Value} {xs : List Value} (h : Kp M w w') (o : w.ownsRow S e s v n xs) (hm : ∀ k, v.ownBlock = some k → ¬ M k) : w'.ownsRow S e s v n xs := by
  refine ⟨o.1, ?_⟩
  rcases o.2 with h0 | ⟨g, cap, cur, hv, hB, hg, r⟩
  · exact .inl h0
  · exact .inr ⟨g, cap, cur, hv, hB, (h.block g (Array.getElem?_eq_some_iff.1 hg).1 (hm g (by rw [hv]; rfl))).trans hg, r⟩
end Kp
theorem infL : (Try.prog.info? 25).map (fun i => (i.zero, i.size, i.bytes)) = some (some (.agg #[.string ⟨#[]⟩, .string ⟨#[]⟩]), 2, 32) := by kernel_rfl
theorem own_bd {S e s n : Nat} {w : World} {v : Value} {xs : List Value} (h : w.ownsRow S e s v n xs) : ∀ G, v.ownBlock = some G → S ≤ G ∧ G < w.heap.size := by
  intro G hG
  rcases h.2 with ⟨rfl, _⟩ | ⟨g, cap, cur, rfl, hg, hh, _⟩
  · cases hG
  · have : g = G := Option.some.inj hG
    subst this
    exact ⟨hg, (Array.getElem?_eq_some_iff.1 hh).1⟩
/-- An append whose run is known. -/
theorem wpList_append_run {P : Program} {ops : Array Oper} {rest : List Oper} {o : Oper} {a : Act} {w w' : World} {v' : Value} {Q : Exit → Act → World → Prop} (hw : Region.wanted o (yielded ops a.tmps) = true) (s x : Operand) (t tx : TypeId)
    (ho : o.op = .call { callee := .builtin .append, args := #[s, x], argTypes := #[t, tx] }) (vs vx : Value) (hs : a.eval s = vs) (hx : a.eval x = vx)
    (hr : (Builtin.append_ #[t, tx] o.type #[vs, vx]).run P w = .ok v' w') (h : wpList P ops Q rest (a.put o.dst v') w') : wpList P ops Q (o :: rest) a w := by
  unfold wpList
  rw [if_pos hw]
  left
  unfold Oper.wp execOp
  simp only [ho, resolve, invoke, builtin, Sem.run_bind, Sem.run_pure, Result.andThen_ok, List.map_toArray, List.map_cons, List.map_nil, hs, hx, hr]
  exact h
/-- One label behind a row of one's own. -/
theorem ap_lb (w : World) (S : Nat) (v : Value) (n : Nat) (xs : List Value) (x : Lb) (hS : S ≤ w.heap.size) (hn : (n + 1) * 32 ≤ 140737488355328) (o : w.ownsRow S 25 2 v n xs) :
    ∃ g c w', (Builtin.append_ #[26, 26] 26 #[v, .slice (some ⟨w.heap.size, 0, none⟩) 1 1]).run Try.prog (w.alloc (lbX x)) = .ok (.slice (some ⟨g, 0, none⟩) (n + 1) c) w' ∧ w'.ownsRow S 25 2 (.slice (some ⟨g, 0, none⟩) (n + 1) c) (n + 1) (xs ++ l2 x) ∧ Kp (fun k => v.ownBlock = some k) w w' := by
  obtain ⟨i0, hi, hz0, hz1, hz2⟩ := info_parts infL
  have o0 := World.ownsRow.alloc o (lbX x)
  have e : (w.alloc (lbX x)).heap[w.heap.size]? = some (lbX x) := heap_alloc_new w _
  obtain ⟨v', w', r, o', g, _, _⟩ := run_append_own_at (P := Try.prog) (w.alloc (lbX x)) S 26 26 25 i0 _ 2 32 Try.underlying26 hi hz0 hz1 hz2 rfl (by decide) _ n xs o0 ⟨w.heap.size, 0, none⟩ 1 1 (l2 x) (by rfl)
    (fun j u hj => by
      rw [Go.WideShapes.add_plain, Nat.zero_add]
      unfold World.cell?
      rw [e]
      simpa [l2] using hj) (by intro u hu; simp [l2] at hu; rcases hu with rfl | rfl <;> rfl) (by unfold maxLen; omega) hn (by simp; omega)
  rcases o'.2 with ⟨_, h0⟩ | ⟨G, C, cur, rfl, _⟩
  · omega
  · exact ⟨G, C, w', r, o', ((Kp.refl _ w).trans (Kp.of ((Below.refl _ w).alloc (Nat.le_refl _) _))).grown g (fun k hk _ => hk)⟩

/-- Labels of a list, as cells. -/
def lcL (ls : List Lb) : List Value := ls.flatMap l2
def gL (ls : List Lb) : Nat → Lb := fun j => ls.getD j (⟨#[]⟩, ⟨#[]⟩)
theorem ll_gL (ls : List Lb) : ll (gL ls) ls.length = ls := by
  apply List.ext_getElem (by simp [ll])
  intro i h1 h2
  simp [ll, gL, List.getD, List.getElem?_eq_getElem h2]
theorem lc_ll (f : Nat → Lb) (n : Nat) : lc f n = lcL (ll f n) := by unfold lc lcL ll; rw [List.flatMap_map]
theorem lcL_lc (ls : List Lb) : lcL ls = lc (gL ls) ls.length := by rw [lc_ll, ll_gL]
theorem keptL_succ (f : Nat → Lb) (xs : List ByteArray) (wo : Bool) (n : Nat) : keptL f xs wo (n + 1) = keptL f xs wo n ++ if stay xs wo (f n).1 then [f n] else [] := by
  unfold keptL
  rw [ll_succ, List.filter_append]
  congr 1
  split <;> rename_i h <;> simp [h]
theorem keptL_le (f : Nat → Lb) (xs : List ByteArray) (wo : Bool) (n : Nat) : (keptL f xs wo n).length ≤ n := by
  have := List.length_filter_le (fun l : Lb => stay xs wo l.1) (ll f n)
  rw [ll_len] at this
  exact this
theorem mb_succ (nf : Nat → ByteArray) (j : Nat) (x : ByteArray) : mb (lf nf (j + 1)) x = (mb (lf nf j) x || (nf j).toList == x.toList) := by
  unfold mb
  rw [lf_succ]
  unfold sl
  rw [List.map_append, Lib.toList_data, Lib.toList_data, Bool.eq_iff_iff]
  simp
  constructor
  · rintro (h | h)
    · exact .inl h
    · exact .inr h.symm
  · rintro (h | h)
    · exact .inl h
    · exact .inr h.symm
set_option maxRecDepth 100000 in
set_option maxHeartbeats 8000000 in
theorem rkeep_any (a na : Option Addr) (f : Nat → Lb) (nf : Nat → ByteArray) (n c N nc : Nat) (wo : Bool) (w : World) (hn : n ≤ 4398046511104) (hN : N ≤ 8796093022208) (hL : Lm w a f n) (hR : Smb w.heap.size w na nf N) :
    Calls Try.prog 11 #[.slice a n c, .slice na N nc, .bool wo] w fun e w' => ∃ v, e = .returned v ∧ w'.ownsRow w.heap.size 25 2 v (keptL f (lf nf N) wo n).length (lcL (keptL f (lf nf N) wo n)) ∧ Below w.heap.size w w' := by
  have HL : Hid (Lm w a f n) := hL
  have HR : Hid (Smb w.heap.size w na nf N) := hR
  have hnI : (n : Int) ≤ 4398046511104 := by omega
  have hNI : (N : Int) ≤ 8796093022208 := by omega
  clear hL hR
  go_enter Try.func11, Try.ntmps11
  go_wp2
  go_loopw [7, 8] (fun sv ivv w' => ∃ i : Nat, ivv = .int .i64 (i : Int) ∧ i ≤ n ∧ Hid (w'.ownsRow w.heap.size 25 2 sv (keptL f (lf nf N) wo i).length (lcL (keptL f (lf nf N) wo i))) ∧ Hid (Below w.heap.size w w')) (fun _ ivv _ => n - (RowKit.intOf ivv).toNat)
  case atStart => exact ⟨0, rfl, by omega, World.ownsRow_nil _ _ _ _, Below.refl _ _⟩
  case round =>
    obtain ⟨i, rfl, hi, hrow, hbw⟩ := hrel
    by_cases hlt : i < n
    · have hii : (i : Int) < n := by omega
      obtain ⟨g, o, rfl, hg, c0, c1⟩ := HL.out.at i hlt
      obtain ⟨⟨x1, x2⟩, hx⟩ : ∃ x, f i = x := ⟨_, rfl⟩
      rw [hx] at c0 c1
      dsimp only at c0 c1
      have HC : Hid (∀ w2, Below w.heap.size w w2 → w2.cell? ⟨g, o + i * 2, none⟩ = some (.string x1) ∧ w2.cell? ⟨g, o + i * 2 + 1, none⟩ = some (.string x2)) := fun w2 h2 => ⟨(h2.cell (p := ⟨g, o + i * 2, none⟩) hg).trans c0, (h2.cell (p := ⟨g, o + i * 2 + 1, none⟩) hg).trans c1⟩
      have HK : Hid (keptL f (lf nf N) wo (i + 1) = keptL f (lf nf N) wo i ++ if stay (lf nf N) wo x1 then [(x1, x2)] else []) := by unfold Hid; rw [keptL_succ, hx]
      have hkl := keptL_le f (lf nf N) wo i
      generalize keptL f (lf nf N) wo i = ks at hrow HK hkl
      have HST : Hid (stay (lf nf N) wo x1 = if wo then !mb (lf nf N) x1 && !(x1.toList == nmL) else mb (lf nf N) x1) := rfl
      have HF : Hid (∀ j, mb (lf nf (j + 1)) x1 = (mb (lf nf j) x1 || (nf j).toList == x1.toList)) := fun j => mb_succ nf j x1
      clear hx c0 c1
      rename World => W0
      go_wp2
      go_loopw [9, 10] (fun bv jv w' => ∃ j : Nat, bv = .bool (mb (lf nf j) x1) ∧ jv = .int .i64 (j : Int) ∧ j ≤ N ∧ Hid (∃ q, w' = W0.drewN q)) (fun _ jv _ => N - (RowKit.intOf jv).toNat)
      case atStart => exact ⟨0, rfl, rfl, by omega, 0, rfl⟩
      case round =>
        obtain ⟨j, rfl, rfl, hj, hq⟩ := hrel
        have hbr : Below w.heap.size w wr := by
          obtain ⟨q, e⟩ := hq.out
          rw [e]
          exact below_drewN hbw.out q
        obtain ⟨c0, c1⟩ := HC.out wr hbr
        by_cases hjl : j < N
        · have hjj : (j : Int) < N := by omega
          obtain ⟨g2, o2, rfl, hg2, n0⟩ := (HR.out.below hbr).at j hjl
          have HJ : Hid (mb (lf nf (j + 1)) x1 = (mb (lf nf j) x1 || (nf j).toList == x1.toList)) := HF.out j
          have HQ2 : Hid (∀ k, ∃ q, wr.drewN k = W0.drewN q) := fun k => by
            obtain ⟨q, e⟩ := hq.out
            exact ⟨q + k, by rw [e, World.drewN_drewN]⟩
          generalize mb (lf nf j) x1 = bj at HJ ⊢
          obtain ⟨y, hy⟩ : ∃ y, nf j = y := ⟨_, rfl⟩
          rw [hy] at n0 HJ
          clear hy hbr hq HC HF hrow HK HST hbw HR HL
          cases hyx : (y.toList == x1.toList)
          · rw [hyx] at HJ
            go_wp2_with fail
            go_big_quiet (fail)
            have HB3 : Hid _ := HQ2.out nq
            generalize wr.drewN nq = W6 at *
            go_wp2
            exact ⟨⟨j + 1, by rw [HJ.out]; simp, by go_num, by omega, HB3⟩, by simp [RowKit.intOf]; omega⟩
          · rw [hyx] at HJ
            go_wp2_with fail
            go_big_quiet (fail)
            have HB3 : Hid _ := HQ2.out nq
            generalize wr.drewN nq = W6 at *
            go_wp2
            exact ⟨⟨j + 1, by rw [HJ.out]; simp, by go_num, by omega, HB3⟩, by simp [RowKit.intOf]; omega⟩
        · obtain rfl : j = N := by omega
          have hjj : ¬ (j : Int) < j := by omega
          have hrow2 : wr.ownsRow w.heap.size 25 2 u7 ks.length (lcL ks) := by
            obtain ⟨q, e⟩ := hq.out
            rw [e]
            exact hrow.out
          have HR2 : Hid (wr.ownsRow w.heap.size 25 2 u7 ks.length (lcL ks)) := hrow2
          have HBR : Hid (Below w.heap.size w wr) := hbr
          obtain ⟨G, cc, w6, r, o6, kp6⟩ := ap_lb wr w.heap.size u7 ks.length (lcL ks) (x1, x2) hbr.size (by omega) hrow2
          have HAP : Hid (Below w.heap.size w w6 ∧ w6.ownsRow w.heap.size 25 2 (.slice (some ⟨G, 0, none⟩) (ks.length + 1) cc) (ks ++ [(x1, x2)]).length (lcL (ks ++ [(x1, x2)]))) := by
            refine ⟨hbr.trans (kp6.below hbr.size (fun k hk e => by have := (own_bd hrow2 k e).1; omega)), ?_⟩
            have e1 : lcL (ks ++ [(x1, x2)]) = lcL ks ++ l2 (x1, x2) := by simp [lcL]
            rw [e1, List.length_append]
            exact o6
          have HKS : Hid (keptL f (lf nf j) wo (i + 1) = ks ++ if (if wo then !mb (lf nf j) x1 && !(x1.toList == nmL) else mb (lf nf j) x1) = true then [(x1, x2)] else []) := by
            unfold Hid
            rw [HK.out, HST.out]
          generalize mb (lf nf j) x1 = b at HKS ⊢
          obtain ⟨nq, hnq⟩ : ∃ nq, (x1.toList == [95, 95, 110, 97, 109, 101, 95, 95]) = nq := ⟨_, rfl⟩
          have HKS2 : Hid (keptL f (lf nf j) wo (i + 1) = ks ++ if (if wo then !b && !nq else b) = true then [(x1, x2)] else []) := by
            unfold Hid
            rw [← hnq]
            exact HKS.out
          clear HKS hq hbr hrow hrow2 o6 kp6 HK HST HF HC HR HL hbw
          cases wo
          · cases b
            · go_wp2
              have HKA : Hid (keptL f (lf nf j) false (i + 1) = ks ++ []) := HKS2.out
              exact ⟨⟨i + 1, by go_num, by omega, by unfold Hid; rw [HKA.out, List.append_nil]; exact HR2.out, HBR.out⟩, by simp [RowKit.intOf]; omega⟩
            · go_wp2_with (at_builtin; refine wpList_append_run rfl (.tmp 53) (.tmp 58) 26 26 rfl _ _ rfl rfl r ?_)
              have HKA : Hid (keptL f (lf nf j) false (i + 1) = ks ++ [(x1, x2)]) := HKS2.out
              exact ⟨⟨i + 1, by go_num, by omega, by unfold Hid; rw [HKA.out]; exact HAP.out.2, HAP.out.1⟩, by simp [RowKit.intOf]; omega⟩
          · cases b
            · cases nq
              · go_wp2_with (at_builtin; refine wpList_append_run rfl (.tmp 53) (.tmp 58) 26 26 rfl _ _ rfl rfl r ?_)
                have HKA : Hid (keptL f (lf nf j) true (i + 1) = ks ++ [(x1, x2)]) := HKS2.out
                exact ⟨⟨i + 1, by go_num, by omega, by unfold Hid; rw [HKA.out]; exact HAP.out.2, HAP.out.1⟩, by simp [RowKit.intOf]; omega⟩
              · go_wp2
                have HKA : Hid (keptL f (lf nf j) true (i + 1) = ks ++ []) := HKS2.out
                exact ⟨⟨i + 1, by go_num, by omega, by unfold Hid; rw [HKA.out, List.append_nil]; exact HR2.out, HBR.out⟩, by simp [RowKit.intOf]; omega⟩
            · go_wp2
              have HKA : Hid (keptL f (lf nf j) true (i + 1) = ks ++ []) := HKS2.out
              exact ⟨⟨i + 1, by go_num, by omega, by unfold Hid; rw [HKA.out, List.append_nil]; exact HR2.out, HBR.out⟩, by simp [RowKit.intOf]; omega⟩
    · obtain rfl : i = n := by omega
      have hii : ¬ (i : Int) < i := by omega
      go_wp2
      go_ret
      exact ⟨_, rfl, hrow.out, hbw.out⟩
end Go.Proofs.Ytjmninjaoemhjaa
