/- A bundle of texts. -/
import Derived.Test.YtbciclnffokjjaaGreatDoorBt27
/- The reference's lists of texts: with. -/
namespace Go.Proofs.YtbciclnffokjjaaGreatDoor
open Go.RowKit Go.Lib

abbrev lX (v : Value) (m : Bool) : Obj := .cells #[v, .bool m] 41
/-- A list as a value: what it shows. -/
def RlV (w : World) (v : Value) (m : Bool) (r : Sto) : Prop := (r = none ∧ m = true ∧ v = .slice none 0 0) ∨ ∃ L a c, r = some L ∧ m = false ∧ v = .slice a L.length c ∧ (L.length = 0 ∨ ∃ g o, a = some ⟨g, o, none⟩ ∧ g < w.heap.size ∧ ∀ j x, L[j]? = some x → w.cell? ⟨g, o + j, none⟩ = some (.string x))
theorem RlV.below {w w' : World} {v : Value} {m : Bool} {r : Sto} (h : RlV w v m r) (hb : Below w.heap.size w w') : RlV w' v m r := by
  rcases h with h | ⟨L, a, c, h1, h2, h3, h4⟩
  · exact .inl h
  · refine .inr ⟨L, a, c, h1, h2, h3, h4.imp id (fun ⟨g, o, e, hg, hc⟩ => ⟨g, o, e, Nat.lt_of_lt_of_le hg hb.size, fun j x hj => ?_⟩)⟩
    exact (hb.cell (p := ⟨g, o + j, none⟩) hg).trans (hc j x hj)
theorem lx_cells {w : World} {B : Nat} {v : Value} {m : Bool} (h : w.heap[B]? = some (lX v m)) : w.cell? ⟨B, 0, none⟩ = some v ∧ w.cell? ⟨B, 1, none⟩ = some (.bool m) ∧ w.frozen? ⟨B, 0, none⟩ = false ∧ w.frozen? ⟨B, 1, none⟩ = false := by
  refine ⟨?_, ?_, ?_, ?_⟩
  · unfold World.cell?; rw [h]; rfl
  · unfold World.cell?; rw [h]; rfl
  · unfold World.frozen?; rw [h]; rfl
  · unfold World.frozen?; rw [h]; rfl
theorem RlV.row {S : Nat} {w : World} {v : Value} {L : List ByteArray} (h : w.ownsRow S 9 1 v L.length (sv L)) : RlV w v false (some L) := by
  rcases h.2 with ⟨h1, h0⟩ | ⟨g, cap, cur, h1, hB, hg, hr⟩
  · refine .inr ⟨L, none, 0, rfl, rfl, by rw [h1, h0], .inl h0⟩
  · refine .inr ⟨L, some ⟨g, 0, none⟩, cap, rfl, rfl, h1, .inr ⟨g, 0, rfl, (Array.getElem?_eq_some_iff.1 hg).1, fun j x hj => ?_⟩⟩
    obtain ⟨g', c', e, hc⟩ := row_cell h hj
    rw [h1] at e
    cases e
    rw [Nat.zero_add]
    exact hc
theorem row_form {w : World} {S e m : Nat} {v : Value} {xs : List Value} (h : w.ownsRow S e 1 v m xs) : ∃ a c, v = .slice a m c := by
  rcases h.2 with ⟨e1, e2⟩ | ⟨g, cc, cur, e1, _⟩
  · exact ⟨none, 0, by rw [e1, e2]⟩
  · exact ⟨_, cc, e1⟩
theorem sv_app (L : List ByteArray) (x : ByteArray) : sv (L ++ [x]) = sv L ++ [.string x] := by simp [sv]
theorem append_v (w : World) (S : Nat) (v : Value) (L : List ByteArray) (x : ByteArray) (hS : S ≤ w.heap.size) (hn : (L.length + 1) * 16 ≤ 140737488355328) (o : w.ownsRow S 9 1 v L.length (sv L)) :
    ∃ g c w', (Builtin.append_ #[26, 26] 26 #[v, .slice (some ⟨w.heap.size, 0, none⟩) 1 1]).run Tryz.prog (w.alloc (.cells #[.string x] 9)) = .ok (.slice (some ⟨g, 0, none⟩) (L.length + 1) c) w' ∧ w'.ownsRow S 9 1 (.slice (some ⟨g, 0, none⟩) (L.length + 1) c) (L ++ [x]).length (sv (L ++ [x])) ∧ Kp (fun k => v.ownBlock = some k) w w' ∧ (v.ownBlock = some g ∨ w.heap.size ≤ g) := by
  obtain ⟨i0, hi, hz0, hz1, hz2⟩ := info_parts infS
  have o0 := World.ownsRow.alloc o (.cells #[.string x] 9)
  have e : (w.alloc (.cells #[.string x] 9)).heap[w.heap.size]? = some (.cells #[.string x] 9) := heap_alloc_new w _
  obtain ⟨v', w', r, o', g, _, h5⟩ := run_append_own_at (P := Tryz.prog) (w.alloc (.cells #[.string x] 9)) S 26 26 9 i0 (.string ⟨#[]⟩) 1 16 Tryz.underlying26 hi hz0 hz1 hz2 rfl (by decide) _ L.length (sv L) o0 ⟨w.heap.size, 0, none⟩ 1 1 [.string x] (by rfl)
    (fun j u hj => by
      rw [Go.WideShapes.add_plain, Nat.zero_add]
      unfold World.cell?
      rw [e]
      simpa using hj) (by intro u hu; simp at hu; subst hu; rfl) (by unfold maxLen; omega) hn (by simp; omega)
  rw [← sv_app] at o'
  rcases o'.2 with ⟨_, h0⟩ | ⟨G, C, cur, rfl, _⟩
  · omega
  · refine ⟨G, C, w', r, by rw [List.length_append]; exact o', ((Kp.refl _ w).alloc _).grown g (fun k hk _ => hk), ?_⟩
    rcases h5 with h5 | h5
    · exact .inl (h5.symm.trans rfl)
    · have h6 : G = (w.alloc (.cells #[.string x] 9)).heap.size := Option.some.inj h5
      rw [World.size_alloc] at h6
      exact .inr (by omega)
theorem ins_at (L : List ByteArray) (x : ByteArray) : (insS L x)[ahd L x]? = some x := by
  have := ahd_le L x
  unfold insS
  rw [List.getElem?_append_right (by rw [List.length_take]; omega), List.length_take, show ahd L x - min (ahd L x) L.length = 0 by omega]
  rfl
theorem ins_hi (L : List ByteArray) (x : ByteArray) {k : Nat} (hk : ahd L x ≤ k) : (insS L x)[k + 1]? = L[k]? := by
  have := ahd_le L x
  unfold insS
  rw [List.getElem?_append_right (by rw [List.length_take]; omega), List.length_take, show k + 1 - min (ahd L x) L.length = (k - ahd L x) + 1 by omega, List.getElem?_cons_succ, List.getElem?_drop]
  congr 1
  omega
theorem ins_lo (L : List ByteArray) (x : ByteArray) : (insS L x).take (ahd L x) = L.take (ahd L x) := by
  have := ahd_le L x
  unfold insS
  rw [List.take_append_of_le_length (by rw [List.length_take]; omega), List.take_take, Nat.min_self]
/-- with, as far as it has come: what it has put together. -/
def witL (L : List ByteArray) (x : ByteArray) (i : Nat) : List ByteArray := if ahd L x < i then (insS L x).take (i + 1) else L.take i
theorem witL_len {L : List ByteArray} {x : ByteArray} {i : Nat} (hi : i ≤ L.length) : (witL L x i).length = if ahd L x < i then i + 1 else i := by
  unfold witL
  split
  · rw [List.length_take, ins_len]; omega
  · rw [List.length_take]; omega
theorem witL_low {L : List ByteArray} {x y : ByteArray} {i : Nat} (h : i < ahd L x) (hy : L[i]? = some y) : witL L x (i + 1) = witL L x i ++ [y] := by
  unfold witL
  rw [if_neg (by omega), if_neg (by omega), List.take_add_one, hy]
  rfl
theorem witL_at {L : List ByteArray} {x y : ByteArray} (hy : L[ahd L x]? = some y) : witL L x (ahd L x + 1) = (witL L x (ahd L x) ++ [x]) ++ [y] := by
  unfold witL
  rw [if_pos (by omega), if_neg (by omega), List.take_add_one, ins_hi L x (Nat.le_refl _), hy, List.take_add_one, ins_at, ins_lo]
  rfl
theorem witL_hi {L : List ByteArray} {x y : ByteArray} {i : Nat} (h : ahd L x < i) (hy : L[i]? = some y) : witL L x (i + 1) = witL L x i ++ [y] := by
  unfold witL
  rw [if_pos (by omega), if_pos h, List.take_add_one, ins_hi L x (Nat.le_of_lt h), hy]
  rfl
theorem witL_end {L : List ByteArray} {x : ByteArray} : (ahd L x < L.length → witL L x L.length = insS L x) ∧ (¬ ahd L x < L.length → witL L x L.length ++ [x] = insS L x) := by
  have := ahd_le L x
  unfold witL
  constructor
  · intro h
    rw [if_pos h, List.take_of_length_le (by rw [ins_len]; omega)]
  · intro h
    rw [if_neg h]
    unfold insS
    rw [show ahd L x = L.length by omega, List.take_length, List.drop_length]
/-- What a call of with answers. -/
def LsP (w : World) (r : Sto) (e : Ending) (w' : World) : Prop := (∃ v m, e = .returned (.agg #[v, .bool m]) ∧ RlV w' v m r) ∧ Below w.heap.size w w'
/-- with under way: its two boxes, what it has put together. -/
structure WtI (w : World) (v : Value) (K : List ByteArray) (ov : Value) (w' : World) : Prop where
  bx : w'.heap[w.heap.size]? = some (lX v false)
  rs : w'.heap[w.heap.size + 1]? = some (lX (.slice none 0 0) false)
  row : w'.ownsRow (w.heap.size + 2) 9 1 ov K.length (sv K)
  lo : Below w.heap.size w w'
theorem WtI.app {w : World} {v : Value} {K : List ByteArray} {ov : Value} {w' : World} (h : WtI w v K ov w') (y : ByteArray) (hk : K.length ≤ 66) :
    ∃ g c w7, (Builtin.append_ #[26, 26] 26 #[ov, .slice (some ⟨w'.heap.size, 0, none⟩) 1 1]).run Tryz.prog (w'.alloc (.cells #[.string y] 9)) = .ok (.slice (some ⟨g, 0, none⟩) (K.length + 1) c) w7 ∧ WtI w v (K ++ [y]) (.slice (some ⟨g, 0, none⟩) (K.length + 1) c) w7 := by
  have h1 := (Array.getElem?_eq_some_iff.1 h.rs).1
  obtain ⟨g, c, w7, r7, o7, k7, _⟩ := append_v w' (w.heap.size + 2) ov K y (by omega) (by omega) h.row
  have nb : ∀ b, b < w.heap.size + 2 → ov.ownBlock ≠ some b := fun b hb e => by have := (h.row.lt b e).1; omega
  exact ⟨g, c, w7, r7, (k7.block _ (by omega) (nb _ (by omega))).trans h.bx, (k7.block _ (by omega) (nb _ (by omega))).trans h.rs, o7, h.lo.trans (k7.below h.lo.size (fun b hb => nb b (by omega)))⟩
/-- with at its end. -/
theorem WtI.fin {w : World} {v : Value} {K : List ByteArray} {ov : Value} {w' : World} (h : WtI w v K ov w') : RlV ((w'.setCell ⟨w.heap.size + 1, 0, none⟩ ov).setCell ⟨w.heap.size + 1, 1, none⟩ (.bool false)) ov false (some K) := by
  refine RlV.row (S := w.heap.size + 2) (((((Kp.refl (fun b => b = w.heap.size + 1) w').setCell (p := ⟨w.heap.size + 1, 0, none⟩) rfl ov).setCell (p := ⟨w.heap.size + 1, 1, none⟩) rfl (.bool false))).row h.row (fun b e e2 => ?_))
  have := (h.row.lt b e).1
  have e3 : b = w.heap.size + 1 := e2
  omega
theorem two_set {w W : World} {B : Nat} (h : Below w.heap.size w W) (hB : w.heap.size ≤ B) (u v : Value) : Below w.heap.size w ((W.setCell ⟨B, 0, none⟩ u).setCell ⟨B, 1, none⟩ v) :=
  h.trans ((((Kp.refl (fun b => b = B) W).setCell (p := ⟨B, 0, none⟩) rfl u).setCell (p := ⟨B, 1, none⟩) rfl v).below h.size (fun k hk e => by have e' : k = B := e; omega))
theorem two_kp (W : World) (B : Nat) (u v : Value) : Kp (fun b => b = B) W ((W.setCell ⟨B, 0, none⟩ u).setCell ⟨B, 1, none⟩ v) := ((Kp.refl (fun b => b = B) W).setCell (p := ⟨B, 0, none⟩) rfl u).setCell (p := ⟨B, 1, none⟩) rfl v
theorem add_in {L : List ByteArray} {x : ByteArray} (h : Srt L) (hx : x ∈ L) : addS (some L) x = some L := by
  simp only [addS, Option.bind_some]
  rw [if_pos ((ahd_mem h).1 hx)]
theorem add_out {L : List ByteArray} {x : ByteArray} (h : Srt L) (hx : x ∉ L) : addS (some L) x = if L.length = 64 then none else some (insS L x) := by
  simp only [addS, Option.bind_some]
  rw [if_neg (fun e => hx ((ahd_mem h).2 e))]
set_option maxHeartbeats 4000000 in
set_option maxRecDepth 100000 in
theorem with_any (v : Value) (m : Bool) (r : Sto) (x : ByteArray) (w : World) (hv : RlV w v m r) (hr : r.ok) : Calls Tryz.prog 64 #[.agg #[v, .bool m], .string x] w (LsP w (addS r x)) := by
  have hb1 : Below w.heap.size w ((w.alloc (lX v m)).alloc (lX (.slice none 0 0) false)) := ((Below.refl _ w).alloc (Nat.le_refl _) _).alloc (by simp) _
  obtain ⟨W, hW⟩ : ∃ W, W = (w.alloc (lX v m)).alloc (lX (.slice none 0 0) false) := ⟨_, rfl⟩
  have HW : Hid (W = (w.alloc (lX v m)).alloc (lX (.slice none 0 0) false)) := hW
  have hbx : W.heap[w.heap.size]? = some (lX v m) := by rw [hW]; exact (Below.heap_alloc _ _ _ (by simp)).trans (heap_alloc_new w _)
  have hrs : W.heap[w.heap.size + 1]? = some (lX (.slice none 0 0) false) := by
    rw [hW]
    have := heap_alloc_new (w.alloc (lX v m)) (lX (.slice none 0 0) false)
    rw [World.size_alloc] at this
    exact this
  have hWz : W.heap.size = w.heap.size + 2 := by rw [hW]; simp
  rw [← hW] at hb1
  rcases hv with ⟨rfl, rfl, rfl⟩ | ⟨L, a, c, rfl, rfl, rfl, hL⟩
  · obtain ⟨x0, x1, _, _⟩ := lx_cells hbx
    obtain ⟨y0, y1, z0, z1⟩ := lx_cells hrs
    have HB : Hid (Below w.heap.size w W) := hb1
    clear hbx hrs hW hb1 hr hWz
    go_enter Tryz.func64, Tryz.ntmps64
    go_upto_region 1 with fail
    rw [← HW.out]
    go_wp2
    exact bodyPost_ret (v := .agg #[.slice none 0 0, .bool true]) (by simp [results, Tryz.results64, go_sem, y0, y1]) rfl ⟨⟨_, _, rfl, .inl ⟨rfl, rfl, rfl⟩⟩, two_set HB.out (by omega) _ _⟩
  · obtain ⟨hsr, hl64⟩ := hr L rfl
    have HI0 : Hid (WtI w (.slice a L.length c) (witL L x 0) (.slice none 0 0) W) := by
      refine ⟨hbx, hrs, ?_, hb1⟩
      rw [show witL L x 0 = [] by unfold witL; rw [if_neg (by omega)]; rfl]
      exact World.ownsRow_nil _ _ _ _
    have HEL : Hid (∀ i y w', Below w.heap.size w w' → L[i]? = some y → ∃ g o, a = some ⟨g, o, none⟩ ∧ w'.cell? ⟨g, o + i, none⟩ = some (.string y)) := fun i y w' hb hy => by
      have hi := (List.getElem?_eq_some_iff.1 hy).1
      rcases hL with h0 | ⟨g, o, e, hg, hc⟩
      · omega
      · exact ⟨g, o, e, (hb.cell (p := ⟨g, o + i, none⟩) hg).trans (hc i y hy)⟩
    have HRI : Hid (RlV w (.slice a L.length c) false (some L)) := .inr ⟨L, a, c, rfl, rfl, rfl, hL⟩
    have HSR : Hid (Srt L) := hsr
    have hlI : (L.length : Int) ≤ 64 := by omega
    obtain ⟨x0, x1, _, _⟩ := lx_cells hbx
    obtain ⟨y0, y1, z0, z1⟩ := lx_cells hrs
    clear hbx hrs hW hb1 hr hWz hL hsr
    go_enter Tryz.func64, Tryz.ntmps64
    go_upto_region 1 with fail
    rw [← HW.out]
    go_wp2_with fail
    go_loopw [5, 6, 7] (fun ov pv ivv w' => ∃ i : Nat, ivv = .int .i64 (i : Int) ∧ i ≤ L.length ∧ pv = .bool (decide (ahd L x < i)) ∧ Hid (∀ j, j < i → L[j]? ≠ some x) ∧ Hid (WtI w (.slice a L.length c) (witL L x i) ov w')) (fun _ _ ivv _ => L.length - (RowKit.intOf ivv).toNat)
    case atStart => exact ⟨0, rfl, Nat.zero_le _, by rw [decide_eq_false (by omega)], fun j hj => by omega, HI0⟩
    case round =>
      clear x0 x1 y0 y1 z0 z1 HI0
      obtain ⟨i, rfl, hi, rfl, HN, hinv⟩ := hrel
      obtain ⟨x0, x1, _, _⟩ := lx_cells hinv.out.bx
      obtain ⟨y0, y1, z0, z1⟩ := lx_cells hinv.out.rs
      by_cases hlt : i < L.length
      · have hii : (i : Int) < L.length := by omega
        obtain ⟨y, hy⟩ : ∃ y, L[i]? = some y := ⟨_, List.getElem?_eq_getElem hlt⟩
        obtain ⟨g, o, rfl, hcy⟩ := HEL.out i y wr hinv.out.lo hy
        by_cases hyx : y = x
        · have heq : (y.toList == x.toList) = true := by rw [hyx]; simp
          have HE : Hid (addS (some L) x = some L) := add_in HSR.out (by rw [← hyx]; exact List.mem_of_getElem? hy)
          clear HEL HN
          have HLO : Hid (Below w.heap.size w wr) := hinv.out.lo
          generalize decide (ahd L x < i) = pb at *
          clear hinv hyx hy
          go_wp2
          refine bodyPost_ret (v := .agg #[.slice (some ⟨g, o, none⟩) L.length c, .bool false]) (by simp [results, Tryz.results64, go_sem, y0, y1]) rfl ⟨⟨_, _, rfl, ?_⟩, two_set HLO.out (by omega) _ _⟩
          rw [HE.out]
          exact HRI.out.below (two_set HLO.out (by omega) _ _)
        · have heq : (y.toList == x.toList) = false := by rw [toList_eq]; exact decide_eq_false hyx
          have HN' : Hid (∀ j, j < i + 1 → L[j]? ≠ some x) := fun j hj => by
            by_cases e : j = i
            · rw [e, hy]; exact fun e => hyx (Option.some.inj e)
            · exact HN.out j (by omega)
          have hKl := witL_len (x := x) (L := L) (i := i) hi
          rcases Nat.lt_trichotomy i (ahd L x) with hlo | hat | hhi
          · rw [if_neg (by omega)] at hKl
            obtain ⟨g7, c7, w7, r7, h7⟩ := hinv.out.app y (by omega)
            rw [← witL_low hlo hy] at h7
            have HI7 : Hid _ := h7
            have hgt : Op.bytesLess y.toList x.toList = true := ahd_lt hlo hy
            have HD : Hid (decide (ahd L x < i + 1) = false) := decide_eq_false (by omega)
            rw [show decide (ahd L x < i) = false from decide_eq_false (by omega)]
            clear hinv HEL HN hKl hyx hlo hy h7
            go_wp2_with (at_builtin; refine wpList_append_run rfl (.tmp 41) (.tmp 47) 26 26 rfl _ _ rfl rfl r7 ?_)
            exact ⟨⟨i + 1, by go_num, by omega, by rw [HD.out], HN', HI7⟩, by simp [RowKit.intOf]; omega⟩
          · rw [if_neg (by omega)] at hKl
            obtain ⟨g7, c7, w7, r7, h7⟩ := hinv.out.app x (by omega)
            obtain ⟨g8, c8, w8, r8, h8⟩ := h7.app y (by rw [List.length_append]; simp; omega)
            obtain ⟨p0, p1, _, _⟩ := lx_cells h7.bx
            obtain ⟨g', o', e', hcy7⟩ := HEL.out i y w7 h7.lo hy
            cases e'
            have e8 : witL L x (i + 1) = (witL L x i ++ [x]) ++ [y] := by rw [hat]; exact witL_at (by rw [← hat]; exact hy)
            rw [← e8] at h8
            have HI8 : Hid _ := h8
            have hgt : Op.bytesLess y.toList x.toList = false := ahd_ge HSR.out (x := x) (by omega) hy
            have HD : Hid (decide (ahd L x < i + 1) = true) := decide_eq_true (by omega)
            rw [show decide (ahd L x < i) = false from decide_eq_false (by omega)]
            have hl7 : (witL L x i ++ [x]).length = (witL L x i).length + 1 := by simp
            rw [hl7] at r8 HI8
            clear hinv HEL HN hKl hyx hat hy h7 h8 e8 hl7
            go_upto_region 13 with (at_builtin; refine wpList_append_run rfl (.tmp 37) (.tmp 39) 26 26 rfl _ _ rfl rfl r7 ?_)
            go_wp2_with (at_builtin; refine wpList_append_run rfl (.tmp 41) (.tmp 47) 26 26 rfl _ _ rfl rfl r8 ?_)
            exact ⟨⟨i + 1, by go_num, by omega, by rw [HD.out], HN', HI8⟩, by simp [RowKit.intOf]; omega⟩
          · rw [if_pos (by omega)] at hKl
            obtain ⟨g7, c7, w7, r7, h7⟩ := hinv.out.app y (by omega)
            rw [← witL_hi hhi hy] at h7
            have HI7 : Hid _ := h7
            have HD : Hid (decide (ahd L x < i + 1) = true) := decide_eq_true (by omega)
            rw [show decide (ahd L x < i) = true from decide_eq_true hhi]
            clear hinv HEL HN hKl hyx hhi hy h7
            go_wp2_with (at_builtin; refine wpList_append_run rfl (.tmp 41) (.tmp 47) 26 26 rfl _ _ rfl rfl r7 ?_)
            exact ⟨⟨i + 1, by go_num, by omega, by rw [HD.out], HN', HI7⟩, by simp [RowKit.intOf]; omega⟩
      · have hii : ¬ (i : Int) < L.length := by omega
        obtain rfl : i = L.length := by omega
        have hnx : x ∉ L := fun hx => by
          obtain ⟨j, hj⟩ := List.mem_iff_getElem?.1 hx
          exact HN.out j (List.getElem?_eq_some_iff.1 hj).1 hj
        have HA : Hid (addS (some L) x = if L.length = 64 then none else some (insS L x)) := add_out HSR.out hnx
        have hwl := ins_len L x
        by_cases hah : ahd L x < L.length
        · have e1 := witL_end.1 hah
          have h9 := hinv.out
          rw [e1] at h9
          obtain ⟨oa, oc, rfl⟩ := row_form h9.row
          rw [hwl] at h9
          have HI9 : Hid _ := h9
          have HLO : Hid (Below w.heap.size w wr) := h9.lo
          rw [show decide (ahd L x < L.length) = true from decide_eq_true hah, hwl]
          clear hinv HEL HN h9 e1 hnx
          by_cases h64 : L.length = 64
          · have h64b : (64 : Int) < (L.length : Int) + 1 := by omega
            have HA' : Hid (addS (some L) x = none) := by unfold Hid; rw [HA.out, if_pos h64]
            clear h64 HA hwl
            go_wp2
            exact bodyPost_ret (v := .agg #[.slice none 0 0, .bool true]) (by simp [results, Tryz.results64, go_sem, y0, y1]) rfl ⟨⟨_, _, rfl, .inl ⟨HA'.out, rfl, rfl⟩⟩, two_set HLO.out (by omega) _ _⟩
          · have h64b : ¬ (64 : Int) < (L.length : Int) + 1 := by omega
            have HA' : Hid (addS (some L) x = some (insS L x)) := by unfold Hid; rw [HA.out, if_neg h64]
            clear h64 HA hwl
            go_wp2
            refine bodyPost_ret (v := .agg #[.slice oa (L.length + 1) oc, .bool false]) (by simp [results, Tryz.results64, go_sem, y0, y1]) rfl ⟨⟨_, _, rfl, ?_⟩, two_set HLO.out (by omega) _ _⟩
            rw [HA'.out]
            exact HI9.out.fin
        · have e1 := witL_end.2 hah
          have hKl := witL_len (x := x) (L := L) (i := L.length) (Nat.le_refl _)
          rw [if_neg hah] at hKl
          obtain ⟨g7, c7, w7, r7, h9⟩ := hinv.out.app x (by omega)
          rw [e1] at h9
          rw [hKl] at r7 h9
          obtain ⟨p0, p1, f0, f1⟩ := lx_cells h9.rs
          have HI9 : Hid _ := h9
          have HLO : Hid (Below w.heap.size w w7) := h9.lo
          rw [show decide (ahd L x < L.length) = false from decide_eq_false hah]
          clear hinv HEL HN h9 e1 hnx hKl
          by_cases h64 : L.length = 64
          · have h64b : (64 : Int) < (L.length : Int) + 1 := by omega
            have HA' : Hid (addS (some L) x = none) := by unfold Hid; rw [HA.out, if_pos h64]
            clear h64 HA hwl
            go_wp2_with (at_builtin; refine wpList_append_run rfl (.tmp 51) (.tmp 53) 26 26 rfl _ _ rfl rfl r7 ?_)
            exact bodyPost_ret (v := .agg #[.slice none 0 0, .bool true]) (by simp [results, Tryz.results64, go_sem, p0, p1]) rfl ⟨⟨_, _, rfl, .inl ⟨HA'.out, rfl, rfl⟩⟩, two_set HLO.out (by omega) _ _⟩
          · have h64b : ¬ (64 : Int) < (L.length : Int) + 1 := by omega
            have HA' : Hid (addS (some L) x = some (insS L x)) := by unfold Hid; rw [HA.out, if_neg h64]
            clear h64 HA hwl
            go_wp2_with (at_builtin; refine wpList_append_run rfl (.tmp 51) (.tmp 53) 26 26 rfl _ _ rfl rfl r7 ?_)
            refine bodyPost_ret (v := .agg #[.slice (some ⟨g7, 0, none⟩) (L.length + 1) c7, .bool false]) (by simp [results, Tryz.results64, go_sem, p0, p1]) rfl ⟨⟨_, _, rfl, ?_⟩, two_set HLO.out (by omega) _ _⟩
            rw [HA'.out]
            exact HI9.out.fin
end Go.Proofs.YtbciclnffokjjaaGreatDoor
