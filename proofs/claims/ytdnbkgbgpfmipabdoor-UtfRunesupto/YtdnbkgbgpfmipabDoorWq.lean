/- The walks of appendHex, writeQuoted and writeJson. -/
import Derived.Test.YtdnbkgbgpfmipabDoorIdx
import Derived.Test.YtdnbkgbgpfmipabDoorUnq
import Derived.Deep.RegionLaw
namespace Go.Proofs.YtdnbkgbgpfmipabDoor
open Go.RowKit Go.Lib

/-- An append whose run is known, at a step of a region that draws. -/
theorem step_append_run {P : Program} {ops : Array Oper} {o : Oper} {a : Act} {w w' : World} {v' : Value} {K : Act → World → Prop} {Q : Exit → Act → World → Prop} {E : Prop} (hgd : o.guard = none) (s x : Operand) (t tx : TypeId)
    (ho : o.op = .call { callee := .builtin .append, args := #[s, x], argTypes := #[t, tx] }) (vs vx : Value) (hs : a.eval s = vs) (hx : a.eval x = vx)
    (hr : (Builtin.append_ #[t, tx] o.type #[vs, vx]).run P w = .ok v' w') (h : K (a.put o.dst v') w') : if Region.wanted o (yielded ops a.tmps) = true then Oper.wp P o a w K Q else E := by
  have hw : Region.wanted o (yielded ops a.tmps) = true := by simp [Region.wanted, hgd]
  rw [if_pos hw]
  unfold Oper.wp execOp
  simp only [ho, resolve, invoke, builtin, Sem.run_bind, Sem.run_pure, Result.andThen_ok, List.map_toArray, List.map_cons, List.map_nil, hs, hx, hr]
  exact h

/-- The iterators over texts stay as they are. -/
def Its (w w' : World) : Prop := ∀ (k : Nat) (s : ByteArray) (p : Nat), w.heap[k]? = some (.stringIter s p) → w'.heap[k]? = some (.stringIter s p)
/-- What lies below stays, and the iterators do. -/
def BI (S : Nat) (w w' : World) : Prop := Below S w w' ∧ Its w w'
theorem BI.trans {S : Nat} {a b c : World} (h : BI S a b) (k : BI S b c) : BI S a c := ⟨h.1.trans k.1, fun i s p hp => k.2 i s p (h.2 i s p hp)⟩
theorem bi_of {S : Nat} {w w' : World} (hS : S ≤ w.heap.size) (h : Below w.heap.size w w') : BI S w w' :=
  ⟨h.mono hS, fun k s p hp => by rw [h.block k (Array.getElem?_eq_some_iff.1 hp).1]; exact hp⟩
theorem its_alloc (w : World) (o : Obj) : Its w (w.alloc o) := fun k s p hp => by
  rw [Below.heap_alloc w o k (Array.getElem?_eq_some_iff.1 hp).1]; exact hp
theorem its_grown {S n : Nat} {v : Value} {xs : List Value} {w w' : World} (o : w.ownsRow S 5 1 v n xs) (g : w.grownBy w' v.ownBlock) : Its w w' := fun k s p hp => by
  have hne : v.ownBlock ≠ some k := by
    rcases o.2 with ⟨rfl, _⟩ | ⟨b, cap, cur, rfl, _, hb, _⟩
    · simp [Value.ownBlock]
    · intro h
      simp [Value.ownBlock] at h
      subst h
      rw [hb] at hp
      cases hp
  rw [g.block k (Array.getElem?_eq_some_iff.1 hp).1 (Ne.symm hne)]; exact hp
theorem append_builtI (w : World) (S : Nat) (v : Value) (l xs : List Int) (hS : S ≤ w.heap.size) (hn : l.length + xs.length ≤ 140737488355328) (o : w.ownsRow S 5 1 v l.length (bc l)) :
    ∃ v' w', (Builtin.append_ #[29, 29] 29 #[v, .slice (some ⟨w.heap.size, 0, none⟩) xs.length xs.length]).run Tryd.prog (w.alloc (.cells (bc xs).toArray 5)) = .ok v' w' ∧
      w'.ownsRow S 5 1 v' (l ++ xs).length (bc (l ++ xs)) ∧ BI S w w' := by
  obtain ⟨i0, hi, hz0, hz1, hz2⟩ := info_parts info5
  have o0 := o.alloc (.cells (bc xs).toArray 5)
  obtain ⟨v', w', r, o', g, _⟩ := run_append_own (P := Tryd.prog) (w.alloc (.cells (bc xs).toArray 5)) S 29 29 5 i0 (.int .u8 0) 1 1 Tryd.underlying29 hi hz0 hz1 hz2 rfl (by decide) _ l.length (bc l) o0 ⟨w.heap.size, 0, none⟩ xs.length xs.length (bc xs) (by simp [bc])
    (fun j u hj => by
      rw [Go.WideShapes.add_plain]
      unfold World.cell?
      rw [show (w.alloc (.cells (bc xs).toArray 5)).heap[w.heap.size]? = some (.cells (bc xs).toArray 5) from heap_alloc_new w _]
      simpa using hj) (bc_one xs) (by unfold maxLen; omega) (by omega) (by simp; omega)
  refine ⟨v', w', r, ?_, ?_, ?_⟩
  · rw [List.length_append, bc_app]; exact o'
  · exact ((Below.refl S w).alloc hS _).grown g (by simp; omega) (fun k hk => (o.lt k hk).1)
  · exact fun k s p hp => its_grown o0 g k s p (its_alloc w _ k s p hp)
theorem append_strI (w : World) (S : Nat) (v : Value) (l xs : List Int) (hx : ∀ x ∈ xs, 0 ≤ x ∧ x ≤ 255) (hS : S ≤ w.heap.size) (hn : l.length + xs.length ≤ 140737488355328) (o : w.ownsRow S 5 1 v l.length (bc l)) :
    ∃ v' w', (Builtin.append_ #[29, 9] 29 #[v, .string (strOfNums xs)]).run Tryd.prog w = .ok v' w' ∧ w'.ownsRow S 5 1 v' (l ++ xs).length (bc (l ++ xs)) ∧ BI S w w' := by
  obtain ⟨i0, hi, hz0, hz1, hz2⟩ := info_parts info5
  have hsz : (strOfNums xs).size = xs.length := strOfNums_size xs
  obtain ⟨v', w', r, o', g, _⟩ := run_append_own_string (P := Tryd.prog) w S 29 9 29 5 i0 Tryd.underlying29 Tryd.underlying9 hi hz0 hz1 hz2 v l.length (bc l) o (strOfNums xs) (by unfold maxLen; omega) (by omega) hS
  refine ⟨v', w', r, ?_, ?_, ?_⟩
  · rw [List.length_append, bc_app, ← strCells_nums xs hx, ← hsz]; exact o'
  · exact (Below.refl S w).grown g hS (fun k hk => (o.lt k hk).1)
  · exact its_grown o g

theorem and15_fin : ∀ x : Fin 256, bits BinOp.and IntKind.u8 (x.val : Int) 15 = (x.val : Int) % 16 := by decide +kernel
theorem and15 (n : Int) (h0 : 0 ≤ n) (h1 : n ≤ 255) : bits BinOp.and IntKind.u8 n 15 = n % 16 := by
  have := and15_fin ⟨n.toNat, by omega⟩
  simp only [Int.toNat_of_nonneg h0] at this
  exact this
/-- The digits. -/
abbrev hexD : ByteArray := ⟨#[48, 49, 50, 51, 52, 53, 54, 55, 56, 57, 97, 98, 99, 100, 101, 102]⟩
theorem hexD_fin : ∀ x : Fin 16, ((hexD[x.val]'x.isLt).toNat : Int) = hx (x.val : Int) := by decide +kernel
theorem hexD_at (n : Int) (h0 : 0 ≤ n) (h : n.toNat < 16) : ((hexD[n.toNat]'h).toNat : Int) = hx n := by
  have := hexD_fin ⟨n.toNat, h⟩
  simp only [Int.toNat_of_nonneg h0] at this
  exact this

set_option maxHeartbeats 2000000 in
set_option maxRecDepth 100000 in
theorem appendHex_any (S : Nat) (v : Value) (l : List Int) (n : Int) (w : World) (h0 : 0 ≤ n) (h1 : n ≤ 255) (hS : S ≤ w.heap.size) (hn : l.length + 2 ≤ 140737488355328) (o : w.ownsRow S 5 1 v l.length (bc l)) :
    Calls Tryd.prog 51 #[v, .int .u8 n] w fun r w' => ∃ v', r = .returned v' ∧ w'.ownsRow S 5 1 v' (l ++ [hx (n / 16), hx (n % 16)]).length (bc (l ++ [hx (n / 16), hx (n % 16)])) ∧ BI S w w' := by
  have ea := and15 n h0 h1
  have i1 := hexD_at (n / 16) (by omega) (by omega)
  have i2 := hexD_at (n % 16) (by omega) (by omega)
  have q1 : 0 ≤ n / 16 := by omega
  have q2 : n / 16 < 16 := by omega
  have q3 : 0 ≤ n % 16 := by omega
  have q4 : n % 16 < 16 := by omega
  obtain ⟨v', w', r1, o1, b1⟩ := append_builtI w.drew S v l [hx (n / 16), hx (n % 16)] hS (by simp; omega) o.drew
  have HO1 : Hid (w'.ownsRow S 5 1 v' (l ++ [hx (n / 16), hx (n % 16)]).length (bc (l ++ [hx (n / 16), hx (n % 16)]))) := o1
  have HB1 : Hid (BI S w w') := BI.trans ⟨(Below.refl S w).drew, fun _ _ _ h => h⟩ b1
  have r1' : (Builtin.append_ #[29, 29] 29 #[v, .slice (some ⟨w.heap.size, 0, none⟩) 2 2]).run Tryd.prog (w.alloc (.cells #[.int .u8 (hx (n / 16)), .int .u8 (hx (n % 16))] 5)).drew = .ok v' w' := r1
  clear r1 o1 b1 o
  go_enter Tryd.func51, Tryd.ntmps51
  go_wp2
  go_region_law (refine step_append_run rfl (.tmp 5) (.tmp 12) 29 29 rfl _ _ rfl rfl r1' ?_)
  all_goals go_wp2
  all_goals go_ret
  all_goals exact ⟨v', rfl, HO1.out, HB1.out⟩
end Go.Proofs.YtdnbkgbgpfmipabDoor
