/- A bundle of texts. -/
import Derived.Test.YtjmninjaoemhjaaDoorBv17
import Derived.Test.YtjmninjaoemhjaaDoorBv04
import Derived.Test.YtjmninjaoemhjaaDoorBv06
import Derived.Test.YtjmninjaoemhjaaDoorBv13
/- mark. -/
namespace Go.Proofs.YtjmninjaoemhjaaDoor.K
open Go.RowKit Go.Lib

attribute [local go_sem] Oper.semAt_some

set_option maxRecDepth 100000 in
theorem conv_new (w : World) (xs : List Int) (c : Nat) :
    (convert 95 9 (.slice (some ⟨w.heap.size, 0, none⟩) xs.length c)).run Tryd.prog (w.alloc (.cells (xs.map (Value.int .u8)).toArray 5)) = .ok (.string (strOfNums xs)) (w.alloc (.cells (xs.map (Value.int .u8)).toArray 5)) := by
  refine run_convert_bytes_arg (P := Tryd.prog) _ 95 5 Tryd.underlying95 Tryd.underlying5 w.heap.size 0 xs.length c xs rfl (fun i hi => ?_) 9 Tryd.underlying9
  rw [Nat.zero_add]
  have hh : (w.alloc (.cells (xs.map (Value.int .u8)).toArray 5)).heap[w.heap.size]? = some (.cells (xs.map (Value.int .u8)).toArray 5) := by
    show (w.heap.push _)[w.heap.size]? = _
    simp
  unfold World.cell?
  rw [hh]
  simp [List.getD, hi]
set_option maxRecDepth 100000 in
theorem conv2 (w : World) (a b : Int) : (convert 95 9 (.slice (some ⟨w.heap.size, 0, none⟩) 2 2)).run Tryd.prog (w.alloc (.cells #[.int .u8 a, .int .u8 b] 5)) = .ok (.string (strOfNums [a, b])) (w.alloc (.cells #[.int .u8 a, .int .u8 b] 5)) := conv_new w [a, b] 2
set_option maxRecDepth 100000 in
theorem conv3 (w : World) (a b c : Int) : (convert 95 9 (.slice (some ⟨w.heap.size, 0, none⟩) 3 3)).run Tryd.prog (w.alloc (.cells #[.int .u8 a, .int .u8 b, .int .u8 c] 5)) = .ok (.string (strOfNums [a, b, c])) (w.alloc (.cells #[.int .u8 a, .int .u8 b, .int .u8 c] 5)) := conv_new w [a, b, c] 3
set_option maxHeartbeats 2000000 in
set_option maxRecDepth 100000 in
theorem mark_any (i k : Nat) (hi : i < 4294967296) (hk : k < 256) (w : World) :
    Calls Tryd.prog 46 #[.int .i64 (i : Int), .int .i64 (k : Int)] w fun e w' => e = .returned (lbV (mkB i k)) ∧ Below w.heap.size w w' := by
  have hiI : (i : Int) < 4294967296 := by omega
  have hkI : (k : Int) < 256 := by omega
  obtain ⟨W1, hW1⟩ : ∃ W1, W1 = w.alloc (.cells #[.string ⟨#[]⟩, .string ⟨#[]⟩] 26) := ⟨_, rfl⟩
  have HW1 : Hid (W1 = w.alloc (.cells #[.string ⟨#[]⟩, .string ⟨#[]⟩] 26)) := hW1
  obtain ⟨W2, hW2⟩ : ∃ W2, W2 = W1.alloc (.cells #[.int .u8 35, .int .u8 ((i : Int) % 256), .int .u8 ((i : Int) / 256 % 256)] 5) := ⟨_, rfl⟩
  have z1 : W1.heap.size = w.heap.size + 1 := by rw [hW1]; simp
  have z2 : W2.heap.size = w.heap.size + 2 := by rw [hW2]; simp [z1]
  have q3 := conv3 W1 35 ((i : Int) % 256) ((i : Int) / 256 % 256)
  have q2 := conv2 W2 35 (k : Int)
  rw [z1] at q3
  rw [z2] at q2
  rw [hW2, hW1] at q2
  rw [hW1] at q3
  have e2 : ((w.alloc (.cells #[.string ⟨#[]⟩, .string ⟨#[]⟩] 26)).alloc (.cells #[.int .u8 35, .int .u8 ((i : Int) % 256), .int .u8 ((i : Int) / 256 % 256)] 5)).heap.size = w.heap.size + 2 := by simp
  clear hW1 hW2 z1 z2 HW1
  go_enter Tryd.func46, Tryd.ntmps46
  go_wp2
  obtain ⟨s1, hs1⟩ : ∃ s, s = strOfNums [35, (i : Int) % 256, (i : Int) / 256 % 256] := ⟨_, rfl⟩
  obtain ⟨s2, hs2⟩ : ∃ s, s = strOfNums [35, (k : Int)] := ⟨_, rfl⟩
  have HM : Hid (mkB i k = (s1, s2)) := by unfold Hid mkB; rw [hs1, hs2]
  rw [← hs1, ← hs2]
  have a1 : Below w.heap.size w (w.alloc (lbX (s1, s2))) := (Below.refl _ w).alloc (Nat.le_refl _) _
  have a2 := (Below.refl (w.alloc (lbX (s1, s2))).heap.size (w.alloc (lbX (s1, s2)))).alloc (Nat.le_refl _) (.cells #[.int .u8 35, .int .u8 ((i : Int) % 256), .int .u8 ((i : Int) / 256 % 256)] 5)
  have a3 := a2.alloc (by simp) (.cells #[.int .u8 35, .int .u8 (k : Int)] 5)
  have eh : (w.alloc (lbX (s1, s2))).heap[w.heap.size]? = some (lbX (s1, s2)) := heap_alloc_new w _
  have r0 := bcell2 a3 (show (w.alloc (lbX (s1, s2))).cell? ⟨w.heap.size, 0, none⟩ = some (.string s1) by unfold World.cell?; rw [eh]; rfl)
  have r1 := bcell2 a3 (show (w.alloc (lbX (s1, s2))).cell? ⟨w.heap.size, 1, none⟩ = some (.string s2) by unfold World.cell?; rw [eh]; rfl)
  have HF : Hid (Below w.heap.size w _) := a1.trans (a3.mono a1.size)
  clear q2 q3 e2 a1 a2 a3 eh hs1 hs2
  generalize ((w.alloc (lbX (s1, s2))).alloc (.cells #[.int .u8 35, .int .u8 ((i : Int) % 256), .int .u8 ((i : Int) / 256 % 256)] 5)).alloc (.cells #[.int .u8 35, .int .u8 (k : Int)] 5) = W4 at *
  refine bodyPost_ret (v := lbV (s1, s2)) (by simp [results, Tryd.results46, go_sem, r0, r1]) rfl ⟨by rw [HM.out], HF.out⟩
end Go.Proofs.YtjmninjaoemhjaaDoor.K
/- LabelsOrder: awake; same; the walk. -/
namespace Go.Proofs.YtjmninjaoemhjaaDoor
open Go.RowKit Go.Lib

set_option maxHeartbeats 2000000 in
set_option maxRecDepth 100000 in
theorem awake_any (w : World) : Calls Tryd.prog 7 #[] w fun e w' => e = .returned (.bool true) ∧ Below w.heap.size w w' := by
  have e1 : (w.alloc (.cells #[.string ⟨#[98]⟩, .string ⟨#[50]⟩, .string ⟨#[97]⟩, .string ⟨#[49]⟩] 26)).heap[w.heap.size]? = some (.cells #[.string ⟨#[98]⟩, .string ⟨#[50]⟩, .string ⟨#[97]⟩, .string ⟨#[49]⟩] 26) := heap_alloc_new w _
  have hc : C4 (w.alloc (.cells #[.string ⟨#[98]⟩, .string ⟨#[50]⟩, .string ⟨#[97]⟩, .string ⟨#[49]⟩] 26)) w.heap.size lB lA :=
    ⟨by unfold World.cell?; rw [e1]; rfl, by unfold World.cell?; rw [e1]; rfl, by unfold World.cell?; rw [e1]; rfl, by unfold World.cell?; rw [e1]; rfl, fun o => by unfold World.frozen?; rw [e1]; simp⟩
  have k1 := make2 w.heap.size 2 _ hc
  have HB : Hid (Below w.heap.size w (w.alloc (.cells #[.string ⟨#[98]⟩, .string ⟨#[50]⟩, .string ⟨#[97]⟩, .string ⟨#[49]⟩] 26))) := (Below.refl _ w).alloc (Nat.le_refl _) _
  clear e1 hc
  go_enter Tryd.func7, Tryd.ntmps7
  go_wp2_with fail
  go_fit k1
  rintro e w1 ⟨G, d, rfl, h1, b1⟩
  have k2 := get2 G d lA lB ⟨#[98]⟩ w1 h1 (by rw [Lib.toList_data, Lib.toList_data]; rfl) (by rw [Lib.toList_data]; exact beq_self_eq_true _) (by show 1 ≤ _; omega)
  have c0 : w1.cell? ⟨G, 0, none⟩ = some (.string ⟨#[97]⟩) := h1.1
  have HB1 : Hid (Below w.heap.size w w1) := HB.out.trans (b1.mono HB.out.size)
  clear k1 h1 b1 HB
  go_wp2_with fail
  go_fit k2
  rintro e w2 ⟨rfl, b2⟩
  have HB2 : Hid (Below w.heap.size w w2) := HB1.out.trans (b2.mono HB1.out.size)
  clear k2 b2 c0
  go_wp2
  go_ret
  exact ⟨rfl, HB2.out⟩
end Go.Proofs.YtjmninjaoemhjaaDoor
/- LabelsOrder: same as a decision; the walk. -/
namespace Go.Proofs.YtjmninjaoemhjaaDoor
open Go.RowKit Go.Lib

theorem ne_lb2 (x y : Lb) (w : World) (h : x ≠ y) : (binOp .neq 26 (lbV x) (lbV y)).run Tryd.prog w = .ok (.bool true) w := by
  rw [run_neq_struct, eqLb]
  have : (x.1.toList == y.1.toList && x.2.toList == y.2.toList) = false := by
    cases hb : (x.1.toList == y.1.toList && x.2.toList == y.2.toList) with
    | false => rfl
    | true =>
      exfalso
      rw [Bool.and_eq_true, beq_iff_eq, beq_iff_eq, Lib.toList_data, Lib.toList_data, Lib.toList_data, Lib.toList_data] at hb
      apply h
      rw [Prod.ext_iff, ByteArray.ext_iff, ByteArray.ext_iff]
      exact ⟨Array.toList_inj.1 hb.1, Array.toList_inj.1 hb.2⟩
  rw [this]
  rfl
set_option maxHeartbeats 4000000 in
set_option maxRecDepth 100000 in
theorem same_no (a b : Option Addr) (c d n m : Nat) (f g : Nat → Lb) (w : World) (ha : Lm w a f n) (hb : Lm w b g m) (hn : n ≤ 1152921504606846976) (hm : m ≤ 1152921504606846976) (hne : ¬ (n = m ∧ ∀ j, j < n → f j = g j)) :
    Calls Tryd.prog 9 #[.slice a n c, .slice b m d] w fun r w' => r = .returned (.bool false) ∧ Below w.heap.size w w' := by
  by_cases hnm : n = m
  · subst hnm
    have HD : Hid (¬ ∀ j, j < n → f j = g j) := fun h => hne ⟨rfl, h⟩
    have HA : Hid (Lm w a f n) := ha
    have HB : Hid (Lm w b g n) := hb
    have HQ : Hid (∀ (x y : Lb) (w : World), x ≠ y → (binOp .neq 26 (lbV x) (lbV y)).run Tryd.prog w = .ok (.bool true) w) := fun x y w h => ne_lb2 x y w h
    obtain ⟨G, hG⟩ : ∃ G, G = w.heap.size := ⟨_, rfl⟩
    have HG : Hid (G = w.heap.size) := hG
    rw [← hG]
    clear ha hb hG hne hm
    go_enter Tryd.func9, Tryd.ntmps9
    go_wp2
    go_loopw [13] (fun ivv w' => ∃ i : Nat, ivv = .int .i64 (i : Int) ∧ i ≤ n ∧ Hid (∀ j, j < i → f j = g j) ∧ Hid (Below G w w')) (fun ivv _ => n - (RowKit.intOf ivv).toNat)
    case atStart => exact ⟨0, rfl, by omega, fun j hj => by omega, Below.refl _ _⟩
    case round =>
      obtain ⟨i, rfl, hi, HJ, hb⟩ := hrel
      by_cases hlt : i < n
      · have hii : (i : Int) < n := by omega
        obtain ⟨g1, o1, rfl, _, x0, x1⟩ := HA.out.at i hlt
        obtain ⟨g2, o2, rfl, _, y0, y1⟩ := HB.out.at i hlt
        have hb' : Below w.heap.size w wr := HG.out ▸ hb.out
        have e0 := bcell2 hb' x0
        have e1 := bcell2 hb' x1
        have e2 := bcell2 hb' y0
        have e3 := bcell2 hb' y1
        have HB2 : Hid (∀ m, Below G w (wr.drewN m)) := fun m => below_drewN hb.out m
        obtain ⟨⟨xk, xi⟩, hx⟩ : ∃ x, f i = x := ⟨_, rfl⟩
        obtain ⟨⟨yk, yi⟩, hy⟩ : ∃ y, g i = y := ⟨_, rfl⟩
        rw [hx] at e0 e1
        rw [hy] at e2 e3
        dsimp only at e0 e1 e2 e3
        by_cases heq : ((xk, xi) : Lb) = (yk, yi)
        · have HJ2 : Hid (∀ j, j < i + 1 → f j = g j) := fun j hj => by
            by_cases e : j = i
            · subst e; rw [hx, hy]; exact heq
            · exact HJ.out j (by omega)
          have hk := (Prod.mk.inj heq).1
          have hki := (Prod.mk.inj heq).2
          subst hk
          subst hki
          have hN := fun w => ne_lb (xk, xi) w
          clear hx hy x0 x1 y0 y1 hb hb' heq
          go_wp2_with fail
          go_big_quiet (fail)
          have HB3 : Hid _ := HB2.out nq
          generalize wr.drewN nq = W6 at *
          go_wp2
          exact ⟨⟨i + 1, by go_num, by omega, HJ2, HB3⟩, by simp [RowKit.intOf]; omega⟩
        · have hN := fun w => HQ.out (xk, xi) (yk, yi) w heq
          clear hx hy x0 x1 y0 y1 hb hb' heq HQ
          go_wp2_with fail
          go_big_quiet (fail)
          have HB3 : Hid _ := HB2.out nq
          generalize wr.drewN nq = W6 at *
          go_wp2
          go_ret
          exact ⟨rfl, HB3.out⟩
      · exfalso
        exact HD.out fun j hj => HJ.out j (by omega)
  · have h1 : ((n : Int) != (m : Int)) = true := by simp; omega
    go_enter Tryd.func9, Tryd.ntmps9
    go_wp2
    go_ret
    exact ⟨rfl, Below.refl _ _⟩
theorem Lm.congr {w : World} {a : Option Addr} {f g : Nat → Lb} {n : Nat} (h : Lm w a g n) (e : ∀ j, j < n → f j = g j) : Lm w a f n := by
  rcases h with h | ⟨G, o, e1, hg, hc⟩
  · exact .inl h
  · exact .inr ⟨G, o, e1, hg, fun j hj => by rw [e j hj]; exact hc j hj⟩
theorem same_any (a b : Option Addr) (c d n m : Nat) (f g : Nat → Lb) (w : World) (ha : Lm w a f n) (hb : Lm w b g m) (hn : n ≤ 1152921504606846976) (hm : m ≤ 1152921504606846976) :
    Calls Tryd.prog 9 #[.slice a n c, .slice b m d] w fun r w' => r = .returned (.bool (decide (cm f n g m = 0))) ∧ Below w.heap.size w w' := by
  by_cases h : cm f n g m = 0
  · obtain ⟨rfl, he⟩ := (cm_zero f g n m).1 h
    rw [decide_eq_true h]
    exact same_true a b c d n f w ha (hb.congr he) hn
  · rw [decide_eq_false h]
    exact same_no a b c d n m f g w ha hb hn hm (fun k => h ((cm_zero f g n m).2 k))
def snoc (f : Nat → Lb) (n : Nat) (x : Lb) : Nat → Lb := fun j => if j = n then x else f j
theorem lc_congr (f g : Nat → Lb) (n : Nat) (h : ∀ j, j < n → f j = g j) : lc f n = lc g n := by
  induction n with
  | zero => rfl
  | succ n ih => rw [lc_succ, lc_succ, ih fun j hj => h j (by omega), h n (by omega)]
theorem lc_snoc (f : Nat → Lb) (n : Nat) (x : Lb) : lc f n ++ l2 x = lc (snoc f n x) (n + 1) := by
  rw [lc_succ]
  have e1 : snoc f n x n = x := if_pos rfl
  rw [e1, lc_congr f (snoc f n x) n (fun j hj => (if_neg (by omega)).symm)]
abbrev lZ : Lb := (⟨#[122]⟩, ⟨#[122]⟩)
/-- A list copied, with one label more. -/
theorem two_ap (w : World) (a : Option Addr) (n c : Nat) (f : Nat → Lb) (ha : Lm w a f n) (hn : n * 32 ≤ 140737488351232) (hz : a = none → n = 0 ∧ c = 0) :
    ∃ a1 c1 w1 G c2 w2, (Builtin.append_ #[22, 22] 22 #[.slice (some ⟨w.heap.size, 0, none⟩) 0 0, .slice a n c]).run Tryd.prog (w.alloc (.cells #[] 26)) = .ok (.slice a1 n c1) w1 ∧
      (Builtin.append_ #[22, 22] 22 #[.slice a1 n c1, .slice (some ⟨w1.heap.size, 0, none⟩) 1 1]).run Tryd.prog (w1.alloc (lbX lZ)) = .ok (.slice (some ⟨G, 0, none⟩) (n + 1) c2) w2 ∧ Lm w2 (some ⟨G, 0, none⟩) (snoc f n lZ) (n + 1) ∧ Below w.heap.size w w2 := by
  have o0 : (w.alloc (.cells #[] 26)).ownsRow w.heap.size 26 2 (.slice (some ⟨w.heap.size, 0, none⟩) 0 0) 0 [] := World.ownsRow_lit w #[] 0 (Nat.le_refl _) (Nat.zero_le _) (by simp)
  have b0 : Below w.heap.size w (w.alloc (.cells #[] 26)) := (Below.refl _ w).alloc (Nat.le_refl _) _
  obtain ⟨a1, c1, w1, r1, o1, k1, _⟩ := ap_row (w.alloc (.cells #[] 26)) w.heap.size (some ⟨w.heap.size, 0, none⟩) 0 b0.size o0 a n c f hz (ha.below b0) (by omega)
  have b1 : Below w.heap.size w w1 := b0.trans (k1.below b0.size (fun k hk e => by have := (own_bd o0 k e).1; omega))
  obtain ⟨G, c2, w2, r2, o2, k2⟩ := ap_lb w1 w.heap.size (.slice a1 n c1) n (lc f n) lZ b1.size (by omega) o1
  refine ⟨a1, c1, w1, G, c2, w2, r1, r2, ?_, b1.trans (k2.below b1.size (fun k hk e => by have := (own_bd o1 k e).1; omega))⟩
  rw [lc_snoc] at o2
  exact Lm.of_row o2
end Go.Proofs.YtjmninjaoemhjaaDoor
