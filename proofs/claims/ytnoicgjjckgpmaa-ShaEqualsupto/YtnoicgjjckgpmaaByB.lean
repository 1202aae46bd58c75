/- Both sides' Hex. -/
import Derived.Test.YtnoicgjjckgpmaaByA
import Derived.Deep.RegionLaw
import Derived.Deep.AppendSrc
namespace Go.Proofs.Ytnoicgjjckgpmaa
open Go.RowKit

/-- An append whose run is known, at a step of a region that draws. -/
theorem step_append_run {P : Program} {ops : Array Oper} {o : Oper} {a : Act} {w w' : World} {v' : Value} {K : Act → World → Prop} {Q : Exit → Act → World → Prop} {E : Prop} (hgd : o.guard = none) (s x : Operand) (t tx : TypeId)
    (ho : o.op = .call { callee := .builtin .append, args := #[s, x], argTypes := #[t, tx] }) (vs vx : Value) (hs : a.eval s = vs) (hx : a.eval x = vx)
    (hr : (Builtin.append_ #[t, tx] o.type #[vs, vx]).run P w = .ok v' w') (h : K (a.put o.dst v') w') : if Region.wanted o (yielded ops a.tmps) = true then Oper.wp P o a w K Q else E := by
  have hw : Region.wanted o (yielded ops a.tmps) = true := by simp [Region.wanted, hgd]
  rw [if_pos hw]
  unfold Oper.wp execOp
  simp only [ho, resolve, invoke, builtin, Sem.run_bind, Sem.run_pure, Result.andThen_ok, List.map_toArray, List.map_cons, List.map_nil, hs, hx, hr]
  exact h

theorem owns_below {w w' : World} {S : Nat} {v : Value} {n : Nat} {xs : List Value} (h : w.ownsRow S 5 1 v n xs) (hb : Below w.heap.size w w') : w'.ownsRow S 5 1 v n xs := by
  refine ⟨h.1, ?_⟩
  rcases h.2 with h0 | ⟨g, cap, cur, hv, hB, hg, r⟩
  · exact .inl h0
  · exact .inr ⟨g, cap, cur, hv, hB, (hb.block g (Array.getElem?_eq_some_iff.1 hg).1).trans hg, r⟩

/-- Bytes just built put behind a row of the call's own. -/
theorem append_built (w : World) (S : Nat) (v : Value) (l xs : List Int) (hS : S ≤ w.heap.size) (hn : l.length + xs.length ≤ 140737488355328) (o : w.ownsRow S 5 1 v l.length (bc l)) :
    ∃ v' w', (Builtin.append_ #[24, 24] 24 #[v, .slice (some ⟨w.heap.size, 0, none⟩) xs.length xs.length]).run Try.prog (w.alloc (.cells (bc xs).toArray 5)) = .ok v' w' ∧
      w'.ownsRow S 5 1 v' (l ++ xs).length (bc (l ++ xs)) ∧ Below S w w' := by
  obtain ⟨i0, hi, hz0, hz1, hz2⟩ := info_parts info5
  have o0 := o.alloc (.cells (bc xs).toArray 5)
  obtain ⟨v', w', r, o', g, _⟩ := run_append_own (P := Try.prog) (w.alloc (.cells (bc xs).toArray 5)) S 24 24 5 i0 (.int .u8 0) 1 1 Try.underlying24 hi hz0 hz1 hz2 rfl (by decide) _ l.length (bc l) o0 ⟨w.heap.size, 0, none⟩ xs.length xs.length (bc xs) (by simp [bc])
    (fun j u hj => by
      rw [Go.WideShapes.add_plain]
      unfold World.cell?
      rw [show (w.alloc (.cells (bc xs).toArray 5)).heap[w.heap.size]? = some (.cells (bc xs).toArray 5) from heap_alloc_new w _]
      simpa using hj) (bc_one xs) (by unfold maxLen; omega) (by omega) (by simp; omega)
  refine ⟨v', w', r, ?_, ?_⟩
  · rw [List.length_append, bc_app]; exact o'
  · exact ((Below.refl S w).alloc hS _).grown g (by simp; omega) (fun k hk => (o.lt k hk).1)

theorem conv_owned (w : World) (S : Nat) (v : Value) (l : List Int) (o : w.ownsRow S 5 1 v l.length (bc l)) : (convert 24 9 v).run Try.prog w = .ok (.string (strOfNums l)) w := by
  have hc := fun g => o.cells (g := g)
  rcases o.2 with ⟨rfl, h0⟩ | ⟨g, c, cur, rfl, _⟩
  · have hl : l = [] := List.eq_nil_of_length_eq_zero h0
    subst hl
    have := run_convert_bytes_nil (P := Try.prog) w 24 5 Try.underlying24 Try.underlying5 0 0 9 Try.underlying9
    rw [this]
    rfl
  · exact run_convert_bytes_arg (P := Try.prog) w 24 5 Try.underlying24 Try.underlying5 g 0 l.length c l rfl (fun i hi => by
      have := hc g rfl i (.int .u8 (l.getD i 0)) (by simp [bc, List.getD, hi])
      rw [Go.WideShapes.add_plain] at this
      exact this) 9 Try.underlying9

/-- A digit. -/
def hx (n : Int) : Int := if n < 10 then 48 + n else 87 + n
theorem and15_fin : ∀ x : Fin 256, bits BinOp.and IntKind.u8 (x.val : Int) 15 = (x.val : Int) % 16 := by decide +kernel
theorem and15 (n : Int) (h0 : 0 ≤ n) (h1 : n ≤ 255) : bits BinOp.and IntKind.u8 n 15 = n % 16 := by
  have := and15_fin ⟨n.toNat, by omega⟩
  simp only [Int.toNat_of_nonneg h0] at this
  exact this
theorem u8div_fin : ∀ x : Fin 256, IntKind.u8.wrap ((x.val : Int).tdiv 16) = (x.val : Int) / 16 ∧ (x.val : Int).tmod 16 = (x.val : Int) % 16 := by decide +kernel
theorem u8div (c : Int) (h0 : 0 ≤ c) (h1 : c ≤ 255) : IntKind.u8.wrap (c.tdiv 16) = c / 16 ∧ c.tmod 16 = c % 16 := by
  have := u8div_fin ⟨c.toNat, by omega⟩
  simp only [Int.toNat_of_nonneg h0] at this
  exact this
/-- The digits. -/
abbrev hexD : ByteArray := ⟨#[48, 49, 50, 51, 52, 53, 54, 55, 56, 57, 97, 98, 99, 100, 101, 102]⟩
theorem hexD_fin : ∀ x : Fin 16, ((hexD[x.val]'x.isLt).toNat : Int) = hx (x.val : Int) := by decide +kernel
theorem hexD_at (n : Int) (h0 : 0 ≤ n) (h : n.toNat < 16) : ((hexD[n.toNat]'h).toNat : Int) = hx n := by
  have := hexD_fin ⟨n.toNat, h⟩
  simp only [Int.toNat_of_nonneg h0] at this
  exact this

/-- The digits of a list's first bytes. -/
def hl (xs : List Int) : Nat → List Int
  | 0 => []
  | k + 1 => hl xs k ++ [hx (xs.getD k 0 / 16), hx (xs.getD k 0 % 16)]
theorem hl_len (xs : List Int) : ∀ k, (hl xs k).length = 2 * k
  | 0 => rfl
  | k + 1 => by rw [hl, List.length_append, hl_len xs k]; simp; omega
/-- The text of a list in digits. -/
def hexS (xs : List Int) : ByteArray := strOfNums (hl xs xs.length)

theorem im_cell {w : World} {a : Option Addr} {xs : List Int} (h : Im w a xs) : ∀ j, j < xs.length → ∃ g o, a = some ⟨g, o, none⟩ ∧ g < w.heap.size ∧ w.cell? ⟨g, o + j, none⟩ = some (.int .u8 (xs.getD j 0)) := fun j hj => by
  rcases h with rfl | ⟨g, o, h1, hg, h2⟩
  · simp at hj
  · exact ⟨g, o, h1, hg, h2 j hj⟩

set_option maxHeartbeats 2000000 in
set_option maxRecDepth 100000 in
theorem hex_any (a : Option Addr) (c : Nat) (xs : List Int) (w : World) (hx_ : Im w a xs) (bx : By xs) (hn : xs.length ≤ 16777216) :
    Calls Try.prog 5 #[.slice a xs.length c] w fun r w' => r = .returned (.string (hexS xs)) ∧ Below w.heap.size w w' := by
  have HX : Hid _ := im_cell hx_
  have HB : Hid (∀ j, j < xs.length → 0 ≤ xs.getD j 0 ∧ xs.getD j 0 ≤ 255) := bx
  have HS : Hid (hexS xs = strOfNums (hl xs xs.length)) := rfl
  obtain ⟨i0, hi, hz0, hz1, hz2⟩ := info_parts info5
  obtain ⟨w2, r2, o2, g2⟩ := run_make_own (P := Try.prog) w w.heap.size 24 5 i0 _ 1 Try.underlying24 hi hz0 hz1 .i64 .i64 (2 * xs.length) (by rw [hz2]; omega) (by unfold maxLen; omega) (Nat.le_refl _)
  have hb2 : Below w.heap.size w w2 := (Below.refl _ _).grown g2 (Nat.le_refl _) (fun k hk => by cases hk)
  have r2' : (Instr.makeSlice 24 (.int .i64 0) (.int .i64 (2 * (xs.length : Int)))).run Try.prog w = .ok (.slice (some ⟨w.heap.size, 0, none⟩) 0 (2 * xs.length)) w2 := by
    rw [show (2 * (xs.length : Int)) = ((2 * xs.length : Nat) : Int) by omega]
    exact r2
  have HO2 : Hid (w2.ownsRow w.heap.size 5 1 (.slice (some ⟨w.heap.size, 0, none⟩) 0 (2 * xs.length)) (hl xs 0).length (bc (hl xs 0))) := o2
  have HL := hl_len xs
  have HLL : Hid (∀ k, (hl xs k).length = 2 * k) := HL
  generalize hexS xs = T at *
  clear hx_ bx r2 o2 g2 hi hz0 hz1 hz2 HL
  generalize hN : xs.length = n at *
  clear hN
  have hni : (n : Int) ≤ 16777216 := by omega
  go_enter Try.func5, Try.ntmps5
  go_wp2
  go_loopw [3, 12] (fun b t w' => ∃ i : Nat, Hid (w'.ownsRow w.heap.size 5 1 b (hl xs i).length (bc (hl xs i))) ∧ t = .int .i64 (i : Int) ∧ i ≤ n ∧ Below w.heap.size w w') (fun _ t _ => n - (RowKit.intOf t).toNat)
  case atStart => exact ⟨0, HO2, rfl, by omega, hb2⟩
  case round =>
    obtain ⟨i, hown, rfl, hi, hbw⟩ := hrel
    by_cases hlt : i < n
    · obtain ⟨g, o, rfl, hg, c1'⟩ := HX.out i hlt
      have c1 := (hbw.cell (p := ⟨g, o + i, none⟩) hg).trans c1'
      have hbd := HB.out i hlt
      clear c1'
      have hii : (i : Int) < n := by omega
      obtain ⟨v5, w5, r5, o5, b5⟩ := append_built wr.drew w.heap.size u3 (hl xs i) [hx (xs.getD i 0 / 16), hx (xs.getD i 0 % 16)] hbw.size (by rw [HLL.out i]; simp; omega) hown.out.drew
      have HO5 : Hid (w5.ownsRow w.heap.size 5 1 v5 (hl xs (i + 1)).length (bc (hl xs (i + 1)))) := o5
      have hb5 : Below w.heap.size w w5 := hbw.drew.trans b5
      have r5' : (Builtin.append_ #[24, 24] 24 #[u3, .slice (some ⟨wr.heap.size, 0, none⟩) 2 2]).run Try.prog (wr.alloc (.cells #[.int .u8 (hx (xs.getD i 0 / 16)), .int .u8 (hx (xs.getD i 0 % 16))] 5)).drew = .ok v5 w5 := r5
      clear r5 o5 b5
      generalize xs.getD i 0 = x at *
      have ea := and15 x hbd.1 hbd.2
      have i1 := hexD_at (x / 16) (by omega) (by omega)
      have i2 := hexD_at (x % 16) (by omega) (by omega)
      have q1 : 0 ≤ x / 16 := by omega
      have q2 : x / 16 < 16 := by omega
      have q3 : 0 ≤ x % 16 := by omega
      have q4 : x % 16 < 16 := by omega
      obtain ⟨h0, h1⟩ := hbd
      go_wp2
      go_region_law (refine step_append_run rfl (.tmp 16) (.tmp 23) 24 24 rfl _ _ rfl rfl r5' ?_)
      all_goals go_wp2
      all_goals exact ⟨⟨i + 1, HO5, by go_num, by omega, hb5⟩, by simp [RowKit.intOf]; omega⟩
    · have hji : ¬ (i : Int) < n := by omega
      obtain rfl : i = n := by omega
      have hcv := conv_owned wr w.heap.size u3 _ hown.out
      go_wp2
      go_ret
      exact ⟨by rw [HS.out]; rfl, hbw⟩

set_option maxHeartbeats 2000000 in
set_option maxRecDepth 100000 in
theorem rhex_any (a : Option Addr) (c : Nat) (xs : List Int) (w : World) (hx_ : Im w a xs) (bx : By xs) (hn : xs.length ≤ 16777216) :
    Calls Try.prog 9 #[.slice a xs.length c] w fun r w' => r = .returned (.string (hexS xs)) ∧ Below w.heap.size w w' := by
  have HX : Hid _ := im_cell hx_
  have HB : Hid (∀ j, j < xs.length → 0 ≤ xs.getD j 0 ∧ xs.getD j 0 ≤ 255) := bx
  have HS : Hid (hexS xs = strOfNums (hl xs xs.length)) := rfl
  have HO2 : Hid (w.ownsRow w.heap.size 5 1 (.slice none 0 0) (hl xs 0).length (bc (hl xs 0))) := World.ownsRow_nil _ _ _ _
  have HLL : Hid (∀ k, (hl xs k).length = 2 * k) := hl_len xs
  generalize hexS xs = T at *
  clear hx_ bx
  generalize hN : xs.length = n at *
  clear hN
  have hni : (n : Int) ≤ 16777216 := by omega
  go_enter Try.func9, Try.ntmps9
  go_wp2
  go_loopw [4, 5] (fun b t w' => ∃ i : Nat, Hid (w'.ownsRow w.heap.size 5 1 b (hl xs i).length (bc (hl xs i))) ∧ t = .int .i64 (i : Int) ∧ i ≤ n ∧ Below w.heap.size w w') (fun _ t _ => n - (RowKit.intOf t).toNat)
  case atStart => exact ⟨0, HO2, rfl, by omega, Below.refl _ _⟩
  case round =>
    obtain ⟨i, hown, rfl, hi, hbw⟩ := hrel
    by_cases hlt : i < n
    · obtain ⟨g, o, rfl, hg, c1'⟩ := HX.out i hlt
      have c1 := (hbw.cell (p := ⟨g, o + i, none⟩) hg).trans c1'
      have hbd := HB.out i hlt
      clear c1'
      have hii : (i : Int) < n := by omega
      obtain ⟨v5, w5, r5, o5, b5⟩ := append_built wr.drew w.heap.size u4 (hl xs i) [hx (xs.getD i 0 / 16), hx (xs.getD i 0 % 16)] hbw.size (by rw [HLL.out i]; simp; omega) hown.out.drew
      have HO5 : Hid (w5.ownsRow w.heap.size 5 1 v5 (hl xs (i + 1)).length (bc (hl xs (i + 1)))) := o5
      have hb5 : Below w.heap.size w w5 := hbw.drew.trans b5
      have r5' : (Builtin.append_ #[24, 24] 24 #[u4, .slice (some ⟨wr.heap.size, 0, none⟩) 2 2]).run Try.prog (wr.alloc (.cells #[.int .u8 (hx (xs.getD i 0 / 16)), .int .u8 (hx (xs.getD i 0 % 16))] 5)).drew = .ok v5 w5 := r5
      clear r5 o5 b5
      generalize xs.getD i 0 = x at *
      obtain ⟨h0, h1⟩ := hbd
      obtain ⟨d1, d2⟩ := u8div x h0 h1
      have i1 := hexD_at (x / 16) (by omega) (by omega)
      have i2 := hexD_at (x % 16) (by omega) (by omega)
      have q1 : 0 ≤ x / 16 := by omega
      have q2 : x / 16 < 16 := by omega
      have q3 : 0 ≤ x % 16 := by omega
      have q4 : x % 16 < 16 := by omega
      go_wp2
      go_region_law (refine step_append_run rfl (.tmp 12) (.tmp 27) 24 24 rfl _ _ rfl rfl r5' ?_)
      all_goals go_wp2
      all_goals exact ⟨⟨i + 1, HO5, by go_num, by omega, hb5⟩, by simp [RowKit.intOf]; omega⟩
    · have hji : ¬ (i : Int) < n := by omega
      obtain rfl : i = n := by omega
      have hcv := conv_owned wr w.heap.size u4 _ hown.out
      go_wp2
      go_ret
      exact ⟨by rw [HS.out]; rfl, hbw⟩
end Go.Proofs.Ytnoicgjjckgpmaa
