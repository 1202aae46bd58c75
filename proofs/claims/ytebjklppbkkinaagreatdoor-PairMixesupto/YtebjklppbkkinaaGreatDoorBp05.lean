/- A bundle of texts. -/
import Derived.Test.YtebjklppbkkinaaGreatDoorBp04
import Derived.Shelf.SlSortCmp.NoneTotal
/- Vectors: which element is unsound; a list copied. -/
namespace Go.Proofs.YtebjklppbkkinaaGreatDoor
open Go.RowKit Go.Lib Go.Shelf Go.Sort

attribute [local go_sem] Oper.semAt_some

/-- An element whose labels lie in memory. -/
def Eo (w : World) (e : El) : Prop := Lm w e.a e.f e.n ∧ e.n ≤ 4294967296 ∧ ∀ j, j < e.n → (e.f j).1.size ≤ 140737488355328 ∧ (e.f j).2.size ≤ 140737488355328
theorem Eo.below {w w' : World} {e : El} (h : Eo w e) (b : Below w.heap.size w w') : Eo w' e := ⟨h.1.below b, h.2⟩
/-- Sound labels? -/
def okE (e : El) : Bool := vaF e.f e.n 0

set_option maxHeartbeats 1000000 in
theorem bad_any (x : El) (w : World) (h : Eo w x) (hT : Lib.Utf8Tabs 2 3 w) : Calls Tryz.prog 40 #[elV x] w fun e w' => e = .returned (.bool (!okE x)) ∧ Below w.heap.size w w' := by
  obtain ⟨xa, xn, xc, xf, xx⟩ := x
  have HB : Hid (Below w.heap.size w (w.alloc (.cells #[.slice xa xn xc, .float .f64 xx] 31))) := (Below.refl _ w).alloc (Nat.le_refl _) _
  have k := validL_any xa xf xn xc (w.alloc (.cells #[.slice xa xn xc, .float .f64 xx] 31)) (h.1.below HB.out) (by have := h.2.1; dsimp only at this; omega) h.2.2 (tabs_below hT (tabs_size hT) HB.out)
  show Calls Tryz.prog 40 #[.agg #[.slice xa xn xc, .float .f64 xx]] w fun e w' => e = .returned (.bool (!vaF xf xn 0)) ∧ _
  generalize vaF xf xn 0 = V at *
  clear h hT
  go_enter Tryz.func40, Tryz.ntmps40
  go_wp2_with fail
  go_fit k
  rintro e w1 ⟨rfl, b1⟩
  have B1 : Hid (Below w.heap.size w w1) := HB.out.trans (b1.mono HB.out.size)
  clear k b1
  go_wp2
  go_ret
  exact ⟨rfl, B1.out⟩
set_option maxHeartbeats 2000000 in
theorem index_el (a : Option Addr) (n c : Nat) (q : Nat → El) (w : World) (h : Em w a q n) (hE : ∀ j, j < n → Eo w (q j)) (hT : Lib.Utf8Tabs 2 3 w) (hn : n ≤ 9223372036854775807) :
    Calls Tryz.prog 71 #[.slice a n c, .func (.func 40) #[] #[]] w fun e w' => ∃ r : Int, e = .returned (.int .i64 r) ∧ (0 ≤ r ↔ ∃ j, j < n ∧ okE (q j) = false) ∧ Below w.heap.size w w' := by
  have HM : Hid (Em w a q n) := h
  have HK : Hid (∀ j, j < n → ∀ W, Below w.heap.size w W → Calls Tryz.prog 40 #[elV (q j)] W fun e w' => e = .returned (.bool (!okE (q j))) ∧ Below W.heap.size W w') := (show ∀ j, _ → ∀ W, _ → _ from fun j hj W b => bad_any (q j) W ((hE j hj).below b) (tabs_below hT (tabs_size hT) b))
  have hb0 : Hid (Below w.heap.size w w) := Below.refl _ _
  clear h hE hT
  go_enter Tryz.func71, Tryz.ntmps71
  go_wp2
  go_loopw [8] (fun t w' => ∃ i : Nat, t = .int .i64 (i : Int) ∧ i ≤ n ∧ Hid (∀ j, j < i → okE (q j) = true) ∧ Hid (Below w.heap.size w w')) (fun t _ => n - (RowKit.intOf t).toNat)
  case atStart => exact ⟨0, rfl, by omega, fun j hj => absurd hj (by omega), hb0⟩
  case round =>
    obtain ⟨i, rfl, hi, HI, HW⟩ := hrel
    by_cases hlt : i < n
    · have hii : (i : Int) < n := by omega
      have i0 : (0 : Int) ≤ (i : Int) := by omega
      obtain ⟨g, o, rfl, _, x0, x1⟩ := (HM.out.below HW.out).at i hlt
      have k := HK.out i hlt wr HW.out
      unfold elV at k
      have HD : Hid (okE (q i) = okE (q i)) := rfl
      generalize hV : okE (q i) = V at k
      have HV : Hid (okE (q i) = V) := hV
      have HL : Hid (i < n) := hlt
      clear hV HD
      generalize (q i).a = ea at *
      generalize (q i).n = en at *
      generalize (q i).c = ec at *
      generalize (q i).x = ex at *
      cases V
      · go_wp2_with fail
        go_fit k
        rintro e w2 ⟨rfl, b2⟩
        have B2 : Hid (Below w.heap.size w w2) := HW.out.trans (b2.mono HW.out.size)
        clear k b2
        go_wp2
        go_ret
        exact ⟨_, rfl, ⟨fun _ => ⟨i, HL.out, HV.out⟩, fun _ => by omega⟩, B2.out⟩
      · go_wp2_with fail
        go_fit k
        rintro e w2 ⟨rfl, b2⟩
        have B2 : Hid (Below w.heap.size w w2) := HW.out.trans (b2.mono HW.out.size)
        have HI2 : Hid (∀ j, j < i + 1 → okE (q j) = true) := (show ∀ j, _ → _ from fun j hj => by
          by_cases hji : j = i
          · rw [hji]; exact HV.out
          · exact HI.out j (by omega))
        clear k b2
        go_wp2
        exact ⟨⟨i + 1, by go_num, by omega, HI2, B2⟩, by simp [RowKit.intOf]; omega⟩
    · have hii : ¬ (i : Int) < n := by omega
      obtain rfl : i = n := by omega
      go_wp2
      go_ret
      exact ⟨-1, rfl, ⟨fun h => absurd h (by decide), fun ⟨j, hj, h⟩ => by rw [HI.out j hj] at h; cases h⟩, HW.out⟩
theorem contains_el (a : Option Addr) (n c : Nat) (q : Nat → El) (w : World) (h : Em w a q n) (hE : ∀ j, j < n → Eo w (q j)) (hT : Lib.Utf8Tabs 2 3 w) (hn : n ≤ 9223372036854775807) :
    Calls Tryz.prog 39 #[.slice a n c, .func (.func 40) #[] #[]] w fun e w' => ∃ b : Bool, e = .returned (.bool b) ∧ (b = true ↔ ∃ j, j < n ∧ okE (q j) = false) ∧ Below w.heap.size w w' := by
  have k := index_el a n c q w h hE hT hn
  clear h hE hT
  go_enter Tryz.func39, Tryz.ntmps39
  go_wp2_with fail
  go_fit k
  rintro e w1 ⟨r, rfl, hr, b1⟩
  have HR : Hid (0 ≤ r ↔ ∃ j, j < n ∧ okE (q j) = false) := hr
  have B1 : Hid (Below w.heap.size w w1) := b1
  clear hr b1 k
  go_wp2
  go_ret
  exact ⟨_, rfl, by rw [← HR.out]; simp, B1.out⟩

theorem ll_succ (f : Nat → Lb) (i : Nat) : K.ll f (i + 1) = K.ll f i ++ [f i] := by simp [K.ll, List.range_succ]
theorem ll_len (f : Nat → Lb) (i : Nat) : (K.ll f i).length = i := by simp [K.ll]
set_option maxRecDepth 100000 in
set_option maxHeartbeats 4000000 in
/-- copiedList. -/
theorem copiedList_any (a : Option Addr) (f : Nat → Lb) (n c : Nat) (w : World) (hL : Lm w a f n) (hn : n ≤ 4294967296) (hs : ∀ j, j < n → (f j).1.size ≤ 140737488355328 ∧ (f j).2.size ≤ 140737488355328) :
    Calls Tryz.prog 45 #[.slice a n c] w fun e w' => ∃ v, e = .returned v ∧ w'.ownsRow w.heap.size 61 2 v n (lcL (K.ll f n)) ∧ Below w.heap.size w w' := by
  obtain ⟨w1, r1, o1, b1⟩ := K.make_w w w.heap.size n (Nat.le_refl _) (by omega)
  have HL : Hid (Lm w a f n) := hL
  have HS : Hid (∀ j, j < n → (f j).1.size ≤ 140737488355328 ∧ (f j).2.size ≤ 140737488355328) := hs
  have O1 : Hid (w1.ownsRow w.heap.size 61 2 (.slice (some ⟨w.heap.size, 0, none⟩) 0 n) 0 (lcL (K.ll f 0))) := o1
  have B1 : Hid (Below w.heap.size w w1) := b1
  have hnI : (n : Int) ≤ 4294967296 := by omega
  clear hL hs o1 b1
  go_enter Tryz.func45, Tryz.ntmps45
  go_wp2_with fail
  go_loopw [3, 11] (fun sv ivv w' => ∃ i : Nat, ivv = .int .i64 (i : Int) ∧ i ≤ n ∧ Hid (w'.ownsRow w.heap.size 61 2 sv i (lcL (K.ll f i))) ∧ Hid (Below w.heap.size w w')) (fun _ ivv _ => n - (RowKit.intOf ivv).toNat)
  case atStart => exact ⟨0, rfl, by omega, O1, B1⟩
  case round =>
    obtain ⟨i, rfl, hi, hrow, hbw⟩ := hrel
    by_cases hlt : i < n
    · have hii : (i : Int) < n := by omega
      have i0 : (0 : Int) ≤ (i : Int) := by omega
      obtain ⟨g, o, rfl, hg, c0, c1⟩ := (HL.out.below hbw.out).at i hlt
      obtain ⟨h1, h2⟩ := HS.out i hlt
      obtain ⟨⟨x1, x2⟩, hx⟩ : ∃ x, f i = x := ⟨_, rfl⟩
      rw [hx] at c0 c1 h1 h2
      dsimp only at c0 c1 h1 h2
      have HK : Hid (lcL (K.ll f (i + 1)) = lcL (K.ll f i) ++ l2 (x1, x2)) := (show _ = _ by rw [ll_succ, lcL_app, hx])
      have HI : Hid (i + 1 ≤ n) := hlt
      have hal : Below wr.heap.size wr (wr.alloc (lbX (x1, x2))) := (Below.refl _ wr).alloc (Nat.le_refl _) _
      have kD := copied_any (x1, x2) (wr.alloc (lbX (x1, x2))) h1 h2
      have HBA : Hid (Below w.heap.size w (wr.alloc (lbX (x1, x2)))) := hbw.out.trans (hal.mono hbw.out.size)
      have HRA : Hid ((wr.alloc (lbX (x1, x2))).ownsRow w.heap.size 61 2 u3 i (lcL (K.ll f i))) := hrow.out.alloc _
      clear hx h1 h2 hal hrow hbw
      go_wp2_with fail
      go_fit kD
      rintro e w4 ⟨rfl, b4⟩
      have hr4 := (Kp.of (M := fun _ => False) b4).row HRA.out (fun _ _ => id)
      have hb4 := HBA.out.trans (b4.mono HBA.out.size)
      obtain ⟨G, cc, w6, r, o6, kp6⟩ := K.ap_lb w4 w.heap.size u3 i (lcL (K.ll f i)) (x1, x2) hb4.size (by omega) hr4
      have HAP : Hid (Below w.heap.size w w6 ∧ w6.ownsRow w.heap.size 61 2 (.slice (some ⟨G, 0, none⟩) (i + 1) cc) (i + 1) (lcL (K.ll f (i + 1)))) := (show _ ∧ _ by
        refine ⟨hb4.trans (kp6.below hb4.size (fun k hk e => by have := (own_bd hr4 k e).1; omega)), ?_⟩
        rw [HK.out]
        exact o6)
      clear hr4 hb4 b4 kD o6 kp6 HK HRA
      go_wp2_with (at_builtin; refine wpList_append_run rfl (.tmp 15) (.tmp 18) 29 29 rfl _ _ rfl rfl r ?_)
      exact ⟨⟨i + 1, by go_num, HI.out, HAP.out.2, HAP.out.1⟩, by simp [RowKit.intOf]; omega⟩
    · obtain rfl : i = n := by omega
      have hii : ¬ (i : Int) < i := by omega
      go_wp2
      go_ret
      exact ⟨_, rfl, hrow.out, hbw.out⟩
end Go.Proofs.YtebjklppbkkinaaGreatDoor
/- Vectors: rows of elements; the sort of a row; what Vector answers. -/
namespace Go.Proofs.YtebjklppbkkinaaGreatDoor
open Go.RowKit Go.Lib Go.Shelf Go.Sort

theorem enters44 : ∀ args w, (callFunc 44 args).run Tryz.prog w = .ok (.enter 44 args) w := enters_of Tryz.func44 (by kernel_rfl) rfl
theorem sort_row (W : World) (S : Nat) (v : Value) (ks : List El) (hn : ks.length ≤ 1099511627776) (o : W.ownsRow S 31 2 v ks.length (fl e2 ks)) (hS : S ≤ W.heap.size)
    (hL : ∀ e ∈ ks, Lm W e.a e.f e.n ∧ e.n ≤ 1152921504606846976 ∧ ∀ b o, e.a = some ⟨b, o, none⟩ → b < S) :
    Calls Tryz.prog 43 #[v, .func (.func 44) #[] #[]] W fun e W' => e = .returned (.tuple #[]) ∧ ∃ ks' : List El, ks'.Perm ks ∧ ks'.Pairwise (fun x y => ¬ cfE y x < 0) ∧ W'.ownsRow S 31 2 v ks'.length (fl e2 ks') ∧ Below S W W' := by
  rcases o.2 with ⟨rfl, h0⟩ | ⟨g, cap, cur, rfl, hg, hh, h1, h2, h3, h4⟩
  · obtain rfl : ks = [] := List.length_eq_zero_iff.1 h0
    have h := AnyF.slices_SortFunc_none (P := Tryz.prog) (ρ := Tryz.sortEl_ren) { Tryz.sortEl with } none 0 (.func (.func 44) #[] #[]) W
    change Calls Tryz.prog 43 _ _ _ at h
    refine h.mono ?_
    rintro e w' ⟨rfl, rfl⟩
    exact ⟨rfl, [], List.Perm.refl _, List.Pairwise.nil, o, Below.refl S w'⟩
  · refine (sort_els 44 enters44 (fun x y W h1 h2 h3 h4 => elems_gr x y W h1 h2 h3 h4) W S g cap cur ks hn hg hh h1 h2 h3 h4 fun e he => ⟨(hL e he).1, (hL e he).2.1, fun b p hb => by have := (hL e he).2.2 b p hb; omega⟩).mono ?_
    rintro e W' ⟨rfl, ks', hp, hs, o', k⟩
    have hl : ks'.length = ks.length := hp.length_eq
    refine ⟨rfl, ks', hp, hs, by rw [hl]; rw [hl] at o'; exact o', k.below hS fun b hb e => by cases e; omega⟩

/-- What an element says. -/
def core (e : El) : Nat × List Lb × Nat := (e.n, K.ll e.f e.n, e.x)
/-- The element's labels lie in a block of their own. -/
def Ow (w : World) (S : Nat) (e : El) : Prop := w.ownsRow S 61 2 (.slice e.a e.n e.c) e.n (lcL (K.ll e.f e.n))
/-- No block in common. -/
def Ap (x y : El) : Prop := ∀ b, (Value.slice x.a x.n x.c).ownBlock = some b → (Value.slice y.a y.n y.c).ownBlock ≠ some b
/-- An answer of Vector: a row of its own, its label sets of their own. -/
def Vo (S : Nat) (w : World) (v : Value) (n : Nat) (q : Nat → El) : Prop :=
  w.ownsRow S 31 2 v n (fl e2 (elL q n)) ∧ (∀ j, j < n → Ow w S (q j) ∧ ∀ b, v.ownBlock = some b → (Value.slice (q j).a (q j).n (q j).c).ownBlock ≠ some b) ∧ ∀ j k, j < k → k < n → Ap (q j) (q k)
/-- What Vector answers. -/
def VR (q : Nat → El) (n : Nat) (w : World) (e : Ending) (w' : World) : Prop := ∃ v E, e = .returned (.tuple #[v, .int .i64 E]) ∧ Below w.heap.size w w' ∧
  ((E = 5 ∧ v = .slice none 0 0 ∧ ((∃ j, j < n ∧ okE (q j) = false) ∨ ¬ (elL q n).Pairwise (fun x y => cfE x y ≠ 0))) ∨
   (E = 0 ∧ (∀ j, j < n → okE (q j) = true) ∧ ∃ (ks : List El) (r : Nat → El), ks.Perm (elL q n) ∧ ks.Pairwise (fun x y => cfE x y < 0) ∧ Vo w.heap.size w' v n r ∧ (elL r n).map core = ks.map core))

def up (q : Nat → El) (i : Nat) (e : El) : Nat → El := fun j => if j = i then e else q j
theorem fl_set (q : Nat → El) (i : Nat) (a : Option Addr) (c : Nat) : ∀ n, i < n → (fl e2 (elL q n)).set (i * 2) (.slice a (q i).n c) = fl e2 (elL (up q i ⟨a, (q i).n, c, (q i).f, (q i).x⟩) n) := by
  intro n hi
  apply List.ext_getElem?
  intro t
  have hl : (fl e2 (elL q n)).length = n * 2 := by rw [fl_len e2_len, elL_len]
  have hl2 : (fl e2 (elL (up q i ⟨a, (q i).n, c, (q i).f, (q i).x⟩) n)).length = n * 2 := by rw [fl_len e2_len, elL_len]
  by_cases ht : t < n * 2
  · have e : t = t / 2 * 2 + t % 2 := by omega
    have hm : t % 2 < 2 := by omega
    have hj : t / 2 < n := by omega
    conv => rhs; rw [e, fl_get e2_len _ _ _ hm, elL_get _ _ _ hj]
    rw [List.getElem?_set]
    by_cases h1 : i * 2 = t
    · have h2 : t / 2 = i := by omega
      have h3 : t % 2 = 0 := by omega
      rw [if_pos h1, if_pos (by omega), h2, h3]
      simp [e2, up]
    · rw [if_neg h1]
      conv => lhs; rw [e, fl_get e2_len _ _ _ hm, elL_get _ _ _ hj]
      by_cases h2 : t / 2 = i
      · have h3 : t % 2 = 1 := by omega
        rw [h2, h3]
        simp [e2, up]
      · simp [up, h2]
  · rw [List.getElem?_eq_none (by rw [List.length_set]; omega), List.getElem?_eq_none (by omega)]
theorem elM_row {w : World} {S n c : Nat} {a : Option Addr} {q : Nat → El} (h : w.ownsRow S 31 2 (.slice a n c) n (fl e2 (elL q n))) : Em w a q n := by
  rcases h.2 with ⟨e, h0⟩ | ⟨g, cap, cur, e, _, hh, _, _, h3, h4⟩
  · exact .inl h0
  · cases e
    refine .inr ⟨g, 0, rfl, (Array.getElem?_eq_some_iff.1 hh).1, fun j hj => ?_⟩
    have get : ∀ k, k < 2 → w.cell? ⟨g, 0 + (j * 2 + k), none⟩ = (e2 (q j))[k]? := fun k hk => by
      have h5 := fl_get e2_len (elL q n) j k hk
      rw [elL_get q n j hj] at h5
      have h6 : (fl e2 (elL q n))[j * 2 + k]? = cur[j * 2 + k]? := by
        rw [← h4, List.getElem?_take_of_lt (by omega), Array.getElem?_toList]
      simp only [World.cell?, hh, Nat.zero_add]
      simp only [Option.isSome_none, Bool.false_eq_true, if_false]
      rw [← h6, h5]
      rfl
    exact ⟨get 0 (by omega), get 1 (by omega)⟩
end Go.Proofs.YtebjklppbkkinaaGreatDoor
