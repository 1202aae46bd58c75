
/- Best over strings; rows that are made and stored into. -/
import Derived.Test.YtcgpjmpppajfdaaXh
import Derived.Laws.OwnMore
namespace Go.Proofs.Ytcgpjmpppajfdaa.Ws
open Go.RowKit

theorem made_i (k : Nat) : (madeCells #[Value.string ⟨#[]⟩] (k * 1)).toList = ic (fun _ => ⟨#[]⟩) k := by
  apply List.ext_getElem?
  intro j
  by_cases hj : j < k
  · rw [ic_get _ k j hj]
    simp [madeCells, hj, Nat.mod_one]
  · rw [List.getElem?_eq_none (by simp [madeCells]; omega), List.getElem?_eq_none (by rw [ic_len]; omega)]
theorem make_i (w : World) (S k : Nat) (hS : S ≤ w.heap.size) (hk : k * 16 ≤ 281474976710656) : ∃ w', (Instr.makeSlice 41 (.int .i64 (k : Int)) (.int .i64 (k : Int))).run Try.prog w = .ok (.slice (some ⟨w.heap.size, 0, none⟩) k k) w' ∧ Ir w' S (.slice (some ⟨w.heap.size, 0, none⟩) k k) k (fun _ => ⟨#[]⟩) ∧ Below w.heap.size w w' := by
  obtain ⟨i0, hi, hz0, hz1, hz2⟩ := info_parts infI
  obtain ⟨w1, r, o, g⟩ := run_make_full (P := Try.prog) w S 41 9 i0 (.string ⟨#[]⟩) 1 Try.underlying41 hi hz0 hz1 .i64 .i64 k (by rw [hz2]; omega) (by unfold maxLen; omega) hS
  refine ⟨w1, r, ?_, (Below.refl _ w).grown g (Nat.le_refl _) (fun k hk => by cases hk)⟩
  unfold Ir
  rw [← made_i k]
  exact o
theorem ic_set (f : Nat → ByteArray) (j : Nat) (u : ByteArray) : ∀ n, j < n → (ic f n).set j (.string u) = ic (up f j u) n
  | 0, h => by omega
  | n + 1, h => by
    rw [ic_succ, ic_succ]
    by_cases hj : j < n
    · rw [List.set_append_left _ _ (by rw [ic_len]; omega), ic_set f j u n hj]
      congr 1
      congr 1
      exact (if_neg (by omega)).symm
    · obtain rfl : j = n := by omega
      rw [List.set_append_right _ _ (by rw [ic_len]; omega), ic_len, Nat.sub_self]
      congr 1
      · exact ic_congr _ _ _ fun i hi => (if_neg (by omega)).symm
      · have : up f j u j = u := if_pos rfl
        rw [this]
        rfl
theorem Ir.set {w : World} {S g c n : Nat} {f : Nat → ByteArray} (h : Ir w S (.slice (some ⟨g, 0, none⟩) n c) n f) (j : Nat) (hj : j < n) (u : ByteArray) : Ir (w.setCell ⟨g, j, none⟩ (.string u)) S (.slice (some ⟨g, 0, none⟩) n c) n (up f j u) := by
  unfold Ir
  rw [← ic_set f j u n hj]
  exact (World.ownsRow.stored h j (.string u)).1
theorem Ir.cells {w : World} {S g c n : Nat} {f : Nat → ByteArray} (h : Ir w S (.slice (some ⟨g, 0, none⟩) n c) n f) (j : Nat) (hj : j < n) : w.cell? ⟨g, j, none⟩ = some (.string (f j)) ∧ w.frozen? ⟨g, j, none⟩ = false := by
  obtain ⟨a, c', e, im, _⟩ := h.iml
  cases e
  rcases im with h0 | ⟨g', o', e, _, hat⟩
  · omega
  · cases e
    have := hat j hj
    rw [Nat.zero_add] at this
    exact ⟨this, World.ownsRow.frozenAt h _⟩
theorem inF_bk {K : ByteArray → Int} {A : Wk → Wk → Bool} (hA : Is K A) (f0 : Nat → Wk) (xs : Nat → ByteArray) : ∀ n, Bk K (Rv.zs xs n) n (inF A f0 xs n) n
  | 0 => Bk.nil _ _
  | n + 1 => by
    rw [Rv.zs_succ]
    exact (inF_bk hA f0 xs n).push hA (xs n)
/-- What Sorted answers is in order, those alike as they came. -/
theorem sorted_st {K : ByteArray → Int} {A : Wk → Wk → Bool} (hA : Is K A) (f0 : Nat → Wk) (xs : Nat → ByteArray) (n : Nat) : St K (Rv.zs xs n) (outR A n (inF A f0 xs n)) :=
  ⟨(outR_st hA n _ (inF_bk hA f0 xs n).heap).1.trans (inF_bk hA f0 xs n).perm, (outR_st hA n _ (inF_bk hA f0 xs n).heap).2⟩
theorem lk_rev (T : List ByteArray) (j : Nat) (h : j < T.length) : lk T.reverse j = lk T (T.length - 1 - j) := by
  unfold lk
  have h1 : T.length - 1 - j < T.length := by omega
  simp [List.getD, List.getElem?_reverse h]

set_option maxHeartbeats 4000000 in
set_option maxRecDepth 100000 in
theorem best_any (A : Wk → Wk → Bool) (K : ByteArray → Int) (lv lp : Value) (f0 : Nat → Wk) (hN : ∀ w, Calls Try.prog 44 #[lp] w fun r w' => r = .returned (.pointer (some ⟨w.heap.size + 1, 0, none⟩)) ∧ Pl w' (w.heap.size + 1) w.heap.size lv (.slice none 0 0) 0 f0 0 ∧ Below w.heap.size w w')
    (hO : ∀ w, Calls Try.prog 48 #[lp] w fun r w' => r = .returned (av w.heap.size) ∧ w' = w.alloc (.cells #[lv] 43))
    (hA : AhC lv A) (hI : Is K A) (a : Option Addr) (c n : Nat) (xs : Nat → ByteArray) (kk : Int) (w : World) (ys : List ByteArray) (hy : ys = outL A n (inF A f0 xs n)) (hf : Iml w a xs n) (hl : n * 24 ≤ 140737488355328) :
    Calls Try.prog 25 #[.slice a n c, .int .i64 kk, lp] w fun r w' => ∃ v, r = .returned v ∧ Ir w' w.heap.size v (ys.take kk.toNat).length (lk (ys.take kk.toNat)) ∧ Below w.heap.size w w' := by
  have hr : ∃ R : List Wk, R.map (·.1) = ys ∧ St K (Rv.zs xs n) R := ⟨_, by rw [hy]; exact outR_map A n _, sorted_st hI f0 xs n⟩
  have hyl : ys.length = n := by rw [hy]; exact outL_len A n _
  by_cases h1 : kk < 1
  · have e : kk.toNat = 0 := by omega
    rw [e, List.take_zero]
    clear hf hr hy hN hO
    go_enter Try.func25, Try.ntmps25
    go_wp2
    go_ret
    exact ⟨_, rfl, World.ownsRow_nil _ _ _ _, Below.refl _ _⟩
  · by_cases h2 : (n : Int) ≤ kk
    · have kS := sorted_any A lv lp f0 hN hA a c n xs w hf hl
      rw [← hy] at kS
      rw [List.take_of_length_le (by omega), hyl]
      clear hf hr hy hN hO
      go_enter Try.func25, Try.ntmps25
      go_wp2_with fail
      go_fit kS
      rintro r w1 ⟨v, rfl, o, b⟩
      have O : Hid _ := o
      have B : Hid _ := b
      clear o b kS
      go_wp2
      go_ret
      exact ⟨_, rfl, O.out, B.out⟩
    · obtain ⟨k, rfl⟩ : ∃ k : Nat, kk = (k : Int) := ⟨kk.toNat, by omega⟩
      have hk0 : 0 < k := by omega
      have hkn : k < n := by omega
      have et : (k : Int).toNat = k := by omega
      rw [et]
      have hlen : (ys.take k).length = k := by rw [List.length_take]; omega
      rw [hlen]
      obtain ⟨G, hG⟩ : ∃ G, G = w.heap.size := ⟨_, rfl⟩
      have HG : Hid (G = w.heap.size) := hG
      obtain ⟨W1, hW1⟩ : ∃ W1, W1 = w.alloc (.cells #[lv] 43) := ⟨_, rfl⟩
      have b1 : Below w.heap.size w W1 := by rw [hW1]; exact (Below.refl _ w).alloc (Nat.le_refl _) _
      have e1 : W1.cell? ⟨w.heap.size, 0, none⟩ = some lv := by
        unfold World.cell?
        rw [hW1, heap_alloc_new w _]
        rfl
      have s1 : W1.heap.size = w.heap.size + 1 := by rw [hW1]; simp
      have kF := Rv.first_any A lv f0 w.heap.size k n a c xs W1 hA e1 (hf.below b1) hk0 (by omega) hl
      have hT := Rv.best_is hI f0 xs k n hk0 (by omega) hr
      have HTl : Hid ((outL (fun x y => A y x) k (Rv.gF A f0 xs k n)).length = k) := outL_len _ _ _
      have kO := hO w
      have HA : Hid (AhC lv A) := hA
      have HB1 : Hid (Below w.heap.size w W1) := b1
      have hkb : k ≤ 1152921504606846976 := by omega
      have HKB : Hid (k * 16 ≤ 281474976710656) := by show _ ≤ _; omega
      rw [s1] at kF
      rw [← hG] at kF kO HB1 ⊢
      generalize Rv.gF A f0 xs k n = f at *
      obtain ⟨T, hTT⟩ : ∃ T, T = outL (fun x y => A y x) k f := ⟨_, rfl⟩
      have HTT : Hid (T = outL (fun x y => A y x) k f) := hTT
      rw [← hTT] at hT HTl
      have HTE : Hid (T.reverse = ys.take k) := hT
      rw [← hW1] at kO
      clear hf hr hy hN hO hA hT hTT b1 e1 hW1 s1 et hlen hyl hG hl
      go_enter Try.func25, Try.ntmps25
      go_wp2_with fail
      go_fit kO
      rintro r w1 ⟨rfl, rfl⟩
      go_wp2_with fail
      go_fit kF
      rintro r w2 ⟨g, cc, rfl, hp, hg, b2⟩
      have hs2 : G + 2 < w2.heap.size := World.block_lt_of_cell? w2 _ hp.ls
      have hgl : g < w2.heap.size := (show Rr w2 g cc k f from hp.row).lt
      have hG1 : G ≤ w1.heap.size := by have := HB1.out.size; rw [HG.out]; exact this
      obtain ⟨w3, rm, o3, b3⟩ := make_i w2 0 k (Nat.zero_le _) HKB.out
      have hp3 := hp.below b3
      have HB3 : Hid (Below G w w3) := (HB1.out.trans (b2.mono (by omega))).trans (b3.mono (by omega))
      obtain ⟨R, hR⟩ : ∃ R, R = w2.heap.size := ⟨_, rfl⟩
      rw [← hR] at rm o3
      have HR : Hid (G + 2 < R ∧ g < R ∧ G < g) := by rw [hR]; exact ⟨hs2, hgl, by omega⟩
      have HP3 : Hid (Rv.Hp w3 (G + 2) (G + 1) (G, lv) (.slice (some ⟨g, 0, none⟩) k cc) k f) := hp3
      have O3 : Hid (Ir w3 0 (.slice (some ⟨R, 0, none⟩) k k) k (fun _ => ⟨#[]⟩)) := o3
      clear hp hg b2 hs2 hgl hG1 b3 hp3 hR kF kO o3
      go_wp2
      go_loopw [9] (fun ivv w' => ∃ (p : Nat) (fp : Nat → Wk) (h : Nat → ByteArray), ivv = .int .i64 ((p : Int) - 1) ∧ p ≤ k ∧ Hid (Rv.Hp w' (G + 2) (G + 1) (G, lv) (.slice (some ⟨g, 0, none⟩) p cc) p fp) ∧ Hid (outL (fun x y => A y x) p fp = T.drop (k - p)) ∧ Hid (Ir w' 0 (.slice (some ⟨R, 0, none⟩) k k) k h) ∧ Hid (∀ j, p ≤ j → j < k → h j = lk T (k - 1 - j)) ∧ Hid (Below G w w')) (fun ivv _ => (RowKit.intOf ivv + 1).toNat)
      case atStart => exact ⟨k, f, _, by go_num, Nat.le_refl _, HP3, by rw [Nat.sub_self, List.drop_zero]; exact HTT.out.symm, O3, (fun j h1 h2 => by omega), HB3⟩
      case round =>
        obtain ⟨p, fp, h, rfl, hpk, hp, hd, ho, hh, hb⟩ := hrel
        cases p with
        | zero =>
          have hii : ¬ (0 : Int) ≤ ((0 : Nat) : Int) - 1 := by omega
          have HO : Hid (Ir wr G (.slice (some ⟨R, 0, none⟩) k k) k (lk (ys.take k))) := by
            have hRG : G ≤ R := by have := HR.out; omega
            have o1 := Ir.congr ho.out (g := lk (ys.take k)) (fun j hj => by
              rw [hh.out j (Nat.zero_le _) hj, ← HTE.out, lk_rev T j (by rw [HTl.out]; exact hj), HTl.out])
            rcases o1.2 with h0 | ⟨g', cap, cur, hv, hB, r⟩
            · exact ⟨o1.1, .inl h0⟩
            · cases hv
              exact ⟨o1.1, .inr ⟨_, _, cur, rfl, hRG, r⟩⟩
          clear hp hd ho hh
          go_wp2
          go_ret
          exact ⟨_, rfl, HO.out, hb.out⟩
        | succ q =>
          have hqi : ((q + 1 : Nat) : Int) - 1 = (q : Int) := by omega
          rw [hqi]
          have hqk : q < k := by omega
          have hqki : (q : Int) < k := by omega
          have hii : (0 : Int) ≤ (q : Int) := by omega
          have hGw : G ≤ wr.heap.size := by have := World.block_lt_of_cell? wr _ hp.out.ls; simp at this; omega
          have kP := Rv.pop_any (fun x y => A y x) (G + 2) (G + 1) g cc q (G, lv) fp wr (Rv.turned HA.out G) hp.out (by omega)
          obtain ⟨⟨xv, xr⟩, hx⟩ : ∃ x, fp 0 = x := ⟨_, rfl⟩
          have hdd := hd.out
          rw [outL, hx] at hdd
          have hTx : lk T (k - 1 - q) = xv ∧ outL (fun x y => A y x) q (sinkF (fun x y => A y x) q (up fp 0 (fp q)) 0) = T.drop (k - q) := by
            obtain ⟨t1, t2, t3⟩ := lk_drop T (k - (q + 1)) _ _ hdd.symm
            rw [show k - (q + 1) + 1 = k - q by omega] at t2
            exact ⟨by rw [show k - 1 - q = k - (q + 1) by omega]; exact t1, t2.symm⟩
          rw [hx] at kP
          have HTX : Hid _ := hTx
          generalize sinkF (fun x y => A y x) q (up fp 0 (fp q)) 0 = FF at *
          have hfd := field_rk
          clear hdd hTx hx hd hp
          go_wp2_with fail
          go_fit kP
          rintro r w5 ⟨er, hp5, k5, _⟩
          have er : r = .returned (.agg #[.string xv, .int .i64 xr]) := er
          subst er
          have hne : ¬ (R = G + 2 ∨ R = g) := by have := HR.out; omega
          have o5 := k5.row ho.out (fun j e => by cases e; exact hne)
          obtain ⟨z0, f0_⟩ := Ir.cells o5 q hqk
          have o6 := Ir.set o5 q hqk xv
          have k6 : Kp (· = R) w5 (w5.setCell ⟨R, q, none⟩ (.string xv)) := (Kp.refl (· = R) w5).setCell (p := ⟨R, q, none⟩) rfl _
          have hp6 := hp5.kp k6 (fun (e : G + 2 = R) => by have := HR.out; omega) (fun (e : G + 1 = R) => by have := HR.out; omega) (fun (e : G = R) => by have := HR.out; omega) (fun j e (x : j = R) => by cases e; exact absurd x.symm (fun y => hne (.inr y)))
          have b6 : Below G w (w5.setCell ⟨R, q, none⟩ (.string xv)) := (hb.out.trans (k5.below hGw (fun j hj e => by have := HR.out; omega))).trans (k6.below (by have := k5.size; omega) (fun j hj (e : j = R) => by have := HR.out; omega))
          have HP6 : Hid _ := hp6
          have O6 : Hid _ := o6
          have B6 : Hid _ := b6
          clear hp5 k5 o5 o6 k6 hp6 b6 kP ho hb
          go_wp2
          refine ⟨⟨q, FF, _, by go_num, by omega, HP6, HTX.out.2, O6, fun j h1 h2 => ?_, B6⟩, by simp [RowKit.intOf]⟩
          by_cases hjq : j = q
          · subst hjq; rw [up_same]; exact HTX.out.1.symm
          · rw [up_other _ _ _ _ hjq]; exact hh.out j (by omega) h2
end Go.Proofs.Ytcgpjmpppajfdaa.Ws
