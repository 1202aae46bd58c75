/- A bundle of texts. -/
import Derived.Test.YtbciclnffokjjaaGreatDoorBt30
import Derived.Test.YtbciclnffokjjaaGreatDoorBt31
/- The reference's lists of texts: runes. -/
namespace Go.Proofs.YtbciclnffokjjaaGreatDoor
open Go.RowKit Go.Lib

theorem form_enc (n : Int) (h : isRune n = true) : strOfNums (formL n) = Utf8.encode n := by
  have hq := (isRune_iff n).1 h
  obtain ⟨x, rfl⟩ : ∃ x : Nat, n = (x : Int) := ⟨n.toNat, by omega⟩
  unfold formL Utf8.encode
  rw [if_pos h, valid_iff, h]
  simp only [if_true, Int.toNat_natCast]
  by_cases h1 : x < 128
  · rw [if_pos (show x < 0x80 by omega), if_pos (show (x : Int) < 128 by omega)]; rfl
  · rw [if_neg (show ¬ x < 0x80 by omega), if_neg (show ¬ (x : Int) < 128 by omega)]
    by_cases h2 : x < 2048
    · rw [if_pos (show x < 0x800 by omega), if_pos (show (x : Int) < 2048 by omega)]
      unfold strOfNums
      simp only [List.map_cons, List.map_nil]
      rw [show (192 + (x : Int) / 64).toNat = 192 + x / 64 by omega, show (128 + (x : Int) % 64).toNat = 128 + x % 64 by omega]
    · rw [if_neg (show ¬ x < 0x800 by omega), if_neg (show ¬ (x : Int) < 2048 by omega)]
      by_cases h3 : x < 65536
      · rw [if_pos (show x < 0x10000 by omega), if_pos (show (x : Int) < 65536 by omega)]
        unfold strOfNums
        simp only [List.map_cons, List.map_nil]
        rw [show (224 + (x : Int) / 4096).toNat = 224 + x / 4096 by omega, show (128 + (x : Int) / 64 % 64).toNat = 128 + x / 64 % 64 by omega, show (128 + (x : Int) % 64).toNat = 128 + x % 64 by omega]
      · rw [if_neg (show ¬ x < 0x10000 by omega), if_neg (show ¬ (x : Int) < 65536 by omega)]
        unfold strOfNums
        simp only [List.map_cons, List.map_nil]
        rw [show (240 + (x : Int) / 262144).toNat = 240 + x / 262144 by omega, show (128 + (x : Int) / 4096 % 64).toNat = 128 + x / 4096 % 64 by omega, show (128 + (x : Int) / 64 % 64).toNat = 128 + x / 64 % 64 by omega, show (128 + (x : Int) % 64).toNat = 128 + x % 64 by omega]
theorem rng_skip (r : Sto) (lo : Int) (k : Nat) : ∀ d, (∀ x : Nat, x < d → Utf8.valid (lo + ((k + x : Nat) : Int)) = false) → rngS r lo (k + d) = rngS r lo k
  | 0, _ => rfl
  | d + 1, h => by
    have e : rngS r lo (k + d + 1) = if Utf8.valid (lo + ((k + d : Nat) : Int)) = true then addS (rngS r lo (k + d)) (Utf8.encode (lo + ((k + d : Nat) : Int))) else rngS r lo (k + d) := rfl
    show rngS r lo (k + d + 1) = _
    rw [e, if_neg (by rw [h d (by omega)]; decide)]
    exact rng_skip r lo k d (fun x hx => h x (by omega))
theorem rng_none {r : Sto} {lo : Int} {k : Nat} (h : rngS r lo k = none) : ∀ d, rngS r lo (k + d) = none
  | 0 => h
  | d + 1 => by
    show rngS r lo (k + d + 1) = none
    unfold rngS
    split
    · rw [rng_none h d]; rfl
    · exact rng_none h d
/-- runes under way. -/
structure RnI (w : World) (r : Sto) (w' : World) : Prop where
  rs : w'.heap[w.heap.size]? = some (lX (.slice none 0 0) false)
  ob : ∃ v m, w'.heap[w.heap.size + 1]? = some (lX v m) ∧ RlV w' v m r
  lo : Below w.heap.size w w'
theorem RnI.next {w : World} {r r' : Sto} {w' w5 : World} (h : RnI w r w') (b : Below w'.heap.size w' w5) {v' : Value} {m' : Bool} (hv : RlV w5 v' m' r') : RnI w r' ((w5.setCell ⟨w.heap.size + 1, 0, none⟩ v').setCell ⟨w.heap.size + 1, 1, none⟩ (.bool m')) := by
  obtain ⟨v, m, hb1, hr1⟩ := h.ob
  obtain ⟨a, n, c, rfl⟩ := hr1.form
  have z1 := (Array.getElem?_eq_some_iff.1 hb1).1
  have k := two_kp w5 (w.heap.size + 1) v' (.bool m')
  have h5 : w5.heap[w.heap.size + 1]? = some (lX (.slice a n c) m) := (b.block _ (by omega)).trans hb1
  refine ⟨?_, ⟨v', m', heap_two h5, hv.box k (fun q hq => ⟨a, n, c, m, by have e : q = w.heap.size + 1 := hq; rw [e]; exact h5⟩)⟩, two_set (h.lo.trans (b.mono h.lo.size)) (by omega) _ _⟩
  exact (k.block _ (by have := b.size; omega) (fun e => by have e' : w.heap.size = w.heap.size + 1 := e; omega)).trans ((b.block _ (by omega)).trans h.rs)
set_option maxHeartbeats 8000000 in
set_option maxRecDepth 100000 in
theorem runes_any (a : Option Addr) (n c : Nat) (f : Nat → Rg) (w : World) (hR : Rml w a f n) (hn : n ≤ 1152921504606846976) (hf : ∀ j, j < n → 0 ≤ (f j).1 ∧ (f j).1 ≤ (f j).2 ∧ (f j).2 ≤ 1114111) : Calls Tryz.prog 41 #[.slice a n c] w (LsP w (clsS (some []) f n)) := by
  obtain ⟨W, hW⟩ : ∃ W, W = (w.alloc (lX (.slice none 0 0) false)).alloc (lX (.slice none 0 0) false) := ⟨_, rfl⟩
  have HW : Hid (W = (w.alloc (lX (.slice none 0 0) false)).alloc (lX (.slice none 0 0) false)) := hW
  have hb1 : Below w.heap.size w W := by rw [hW]; exact ((Below.refl _ w).alloc (Nat.le_refl _) _).alloc (by simp) _
  have hx1 : W.heap[w.heap.size]? = some (lX (.slice none 0 0) false) := by rw [hW]; exact (Below.heap_alloc _ _ _ (by simp)).trans (heap_alloc_new w _)
  have hx2 : W.heap[w.heap.size + 1]? = some (lX (.slice none 0 0) false) := by
    rw [hW]
    have := heap_alloc_new (w.alloc (lX (.slice none 0 0) false)) (lX (.slice none 0 0) false)
    rw [World.size_alloc] at this
    exact this
  have HI0 : Hid (RnI w (clsS (some []) f 0) W) := ⟨hx1, ⟨_, _, hx2, .inr ⟨[], none, 0, rfl, rfl, rfl, .inl rfl⟩⟩, hb1⟩
  have HRG : Hid (∀ i w', i < n → Below w.heap.size w w' → ∃ g o, a = some ⟨g, o, none⟩ ∧ w'.cell? ⟨g, o + i * 2, none⟩ = some (.int .i32 (f i).1) ∧ w'.cell? ⟨g, o + i * 2 + 1, none⟩ = some (.int .i32 (f i).2)) := fun i w' hi hb => by
    obtain ⟨g, o, e, _, c0, c1⟩ := (hR.below hb).at i hi
    exact ⟨g, o, e, c0, c1⟩
  have HF : Hid (∀ j, j < n → 0 ≤ (f j).1 ∧ (f j).1 ≤ (f j).2 ∧ (f j).2 ≤ 1114111) := hf
  have HST : Hid (∀ (r : Sto) (x : Int) w', r.ok → RnI w r w' → isRune x = true → ∃ v m, w'.heap[w.heap.size + 1]? = some (lX v m) ∧ (∀ V, Below w'.heap.size w' V → Calls Tryz.prog 46 #[.int .i64 x] V fun e w4 => e = .returned (.string (Utf8.encode x)) ∧ Below V.heap.size V w4) ∧ (∀ V, Below w'.heap.size w' V → (V.cell? ⟨w.heap.size + 1, 0, none⟩ = some v ∧ V.cell? ⟨w.heap.size + 1, 1, none⟩ = some (.bool m)) ∧ Calls Tryz.prog 64 #[.agg #[v, .bool m], .string (Utf8.encode x)] V fun e w5 => (∃ a' n' c' m', e = .returned (.agg #[.slice a' n' c', .bool m']) ∧ Hid (RnI w (addS r (Utf8.encode x)) ((w5.setCell ⟨w.heap.size + 1, 0, none⟩ (.slice a' n' c')).setCell ⟨w.heap.size + 1, 1, none⟩ (.bool m')))) ∧ (∃ u, w5.cell? ⟨w.heap.size + 1, 0, none⟩ = some u) ∧ (∃ u, w5.cell? ⟨w.heap.size + 1, 1, none⟩ = some u) ∧ w5.frozen? ⟨w.heap.size + 1, 0, none⟩ = false ∧ w5.frozen? ⟨w.heap.size + 1, 1, none⟩ = false)) := fun r x w' hr h hx => by
    obtain ⟨v, m, hbo, hrl⟩ := h.ob
    refine ⟨v, m, hbo, fun V _ => ?_, fun V bV => ?_⟩
    · have := form_any x V
      rw [form_enc x hx] at this
      exact this
    · have hzz := (Array.getElem?_eq_some_iff.1 hbo).1
      obtain ⟨c0, c1, _, _⟩ := lx_cells ((bV.block _ hzz).trans hbo)
      refine ⟨⟨c0, c1⟩, (with_any v m _ (Utf8.encode x) V (hrl.below bV) hr).mono ?_⟩
      rintro e5 w5 ⟨⟨v', m', rfl, hv'⟩, b5⟩
      have b15 : Below w'.heap.size w' w5 := bV.trans (b5.mono bV.size)
      obtain ⟨c0, c1, f0, f1⟩ := lx_cells ((b15.block _ hzz).trans hbo)
      obtain ⟨a', n', c', rfl⟩ := hv'.form
      exact ⟨⟨a', n', c', m', rfl, h.next b15 hv'⟩, ⟨_, c0⟩, ⟨_, c1⟩, f0, f1⟩
  have HFIN : Hid (∀ w', RnI w (clsS (some []) f n) w' → ∃ a' n' c' m, w'.heap[w.heap.size + 1]? = some (lX (.slice a' n' c') m) ∧ LsP w (clsS (some []) f n) (.returned (.agg #[.slice a' n' c', .bool m])) ((w'.setCell ⟨w.heap.size, 0, none⟩ (.slice a' n' c')).setCell ⟨w.heap.size, 1, none⟩ (.bool m))) := fun w' h => by
    obtain ⟨v, m, hbo, hrl⟩ := h.ob
    obtain ⟨a', n', c', rfl⟩ := hrl.form
    exact ⟨a', n', c', m, hbo, ⟨_, m, rfl, hrl.box (two_kp _ _ _ _) (fun b e => ⟨none, 0, 0, false, by have e' : b = w.heap.size := e; rw [e']; exact h.rs⟩)⟩, two_set h.lo (by omega) _ _⟩
  have hnI : (n : Int) ≤ 1152921504606846976 := by omega
  clear hx1 hx2 hb1 hW hR hf
  go_enter Tryz.func41, Tryz.ntmps41
  go_upto_region 2 with fail
  rw [← HW.out]
  go_wp2_with fail
  go_loopw [4, 5] (fun ivv _ w' => ∃ i : Nat, ivv = .int .i64 (i : Int) ∧ i ≤ n ∧ Hid (RnI w (clsS (some []) f i) w')) (fun ivv _ _ => n - (RowKit.intOf ivv).toNat)
  case atStart => exact ⟨0, rfl, Nat.zero_le _, HI0⟩
  case round =>
    clear HI0
    obtain ⟨i, rfl, hi, hinv⟩ := hrel
    by_cases hlt : i < n
    · have hii : (i : Int) < n := by omega
      obtain ⟨g, o, rfl, rg0, rg1⟩ := HRG.out i wr hlt hinv.out.lo
      obtain ⟨hf0, hf1, hf2⟩ := HF.out i hlt
      have HK : Hid (clsS (some []) f (i + 1) = rngS (clsS (some []) f i) (f i).1 ((f i).2 - (f i).1 + 1).toNat) := rfl
      have HOK : Hid ((clsS (some []) f i).ok) := clsS_ok f i
      obtain ⟨lo, hlo⟩ : ∃ lo, (f i).1 = lo := ⟨_, rfl⟩
      obtain ⟨hi2, hhi⟩ : ∃ hi2, (f i).2 = hi2 := ⟨_, rfl⟩
      have HRI : Hid (∀ w', Below w.heap.size w w' → w'.cell? ⟨g, o + i * 2, none⟩ = some (.int .i32 lo) ∧ w'.cell? ⟨g, o + i * 2 + 1, none⟩ = some (.int .i32 hi2)) := fun w' hb => by
        obtain ⟨g', o', e, c0, c1⟩ := HRG.out i w' hlt hb
        cases e
        rw [hlo] at c0
        rw [hhi] at c1
        exact ⟨c0, c1⟩
      rw [hlo] at rg0 hf0 hf1 HK
      rw [hhi] at rg1 hf1 hf2 HK
      generalize clsS (some []) f i = r0 at *
      obtain ⟨K, hK⟩ : ∃ K : Nat, (hi2 - lo + 1).toNat = K := ⟨_, rfl⟩
      rw [hK] at HK
      have hKI : (K : Int) = hi2 - lo + 1 := by omega
      obtain ⟨wo, hwo⟩ : ∃ wo, wo = wr := ⟨_, rfl⟩
      subst hwo
      clear HRG HF hlo hhi hK
      go_wp2_with fail
      go_loopw [5] (fun cv w' => ∃ k : Nat, cv = .int .i32 (lo + (k : Int)) ∧ lo + (k : Int) ≤ 1114112 ∧ Hid (RnI w (rngS r0 lo (min k K)) w')) (fun cv _ => (1114113 - RowKit.intOf cv).toNat)
      case atStart => exact ⟨0, by simp, by simp; omega, by rw [Nat.min_eq_left (Nat.zero_le _)]; exact hinv⟩
      case round =>
        clear hinv rg0 rg1
        obtain ⟨k, rfl, hk, hin⟩ := hrel
        obtain ⟨rg0, rg1⟩ := HRI.out wr hin.out.lo
        obtain ⟨v, m, hbo, hrl⟩ := hin.out.ob
        obtain ⟨r0c, r1c, _, _⟩ := lx_cells hbo
        obtain ⟨C, hC⟩ : ∃ C : Int, lo + (k : Int) = C := ⟨_, rfl⟩
        have hC0 : 0 ≤ C := by omega
        have hC1 : C ≤ 1114112 := by omega
        rw [hC]
        have HC : Hid (lo + (k : Int) = C) := hC
        by_cases hkK : k < K
        · have hle : C ≤ hi2 := by omega
          rw [Nat.min_eq_left (Nat.le_of_lt hkK)] at hrl hin
          cases m
          · by_cases hsu : 55296 ≤ C ∧ C ≤ 57343
            · obtain ⟨hs1, hs2⟩ := hsu
              have HN : Hid (RnI w (rngS r0 lo (min (57344 - lo).toNat K)) wr) := by
                unfold Hid
                have e : min (57344 - lo).toNat K = k + (min (57344 - lo).toNat K - k) := by omega
                rw [e, rng_skip r0 lo k _ (fun x hx => by
                  rw [valid_iff]
                  unfold isRune
                  refine decide_eq_false (fun hh => ?_)
                  omega)]
                exact hin.out
              clear HST HFIN hin hrl hbo hC HK HOK HRI
              go_wp2
              exact ⟨⟨(57344 - lo).toNat, by congr 1; have := HC.out; omega, by have := HC.out; omega, HN⟩, by have := HC.out; simp [RowKit.intOf]; omega⟩
            · have hru : isRune C = true := (isRune_iff C).2 ⟨hC0, by omega, by omega⟩
              obtain ⟨v', m', hbo', kF, HC5⟩ := HST.out _ C wr (rngS_ok HOK.out lo k) hin.out hru
              rw [hbo] at hbo'
              cases hbo'
              have HADD : Hid (rngS r0 lo (min (k + 1) K) = addS (rngS r0 lo k) (Utf8.encode C)) := by
                unfold Hid
                rw [Nat.min_eq_left (by omega), ← hC]
                have e : rngS r0 lo (k + 1) = if Utf8.valid (lo + (k : Int)) = true then addS (rngS r0 lo k) (Utf8.encode (lo + (k : Int))) else rngS r0 lo k := rfl
                rw [e, if_pos (by rw [valid_iff, hC]; exact hru)]
              have hwr : IntKind.i32.wrap (C + 1) = C + 1 := by rw [IntKind.wrap_i32]; omega
              have hwi : IntKind.i64.wrap C = C := by rw [IntKind.wrap_i64]; omega
              have HF5 : Hid _ := kF
              have HC5' : Hid _ := HC5
              have hb0 : Below wr.heap.size wr wr := Below.refl _ _
              have hns : ¬ (55296 ≤ C ∧ C ≤ 57343) := hsu
              clear HST HFIN hin hrl hbo hC HK HOK HRI kF HC5 hru
              by_cases h5 : 55296 ≤ C
              · have h6 : ¬ C ≤ 57343 := fun h => hns ⟨h5, h⟩
                clear hns hsu
                go_wp2_with fail
                go_region_with (first | (go_at_call 46; go_fit (HF5.out _ hb0); rintro e w4 ⟨rfl, b4⟩; have hb4 : Below wr.heap.size wr w4 := b4; obtain ⟨g0, g1⟩ := (HC5'.out w4 hb4).1) | (go_at_call 46; go_fit (HF5.out _ hb0.drew); rintro e w4 ⟨rfl, b4⟩; have hb4 : Below wr.heap.size wr w4 := hb0.drew.trans (b4.mono hb0.drew.size); obtain ⟨g0, g1⟩ := (HC5'.out w4 hb4).1) | (go_at_call 64; go_fit (HC5'.out _ hb4).2; rintro e w5 ⟨⟨a', n', c', m', rfl, HN⟩, ⟨u0, k0⟩, ⟨u1, k1⟩, f0, f1⟩))
                all_goals
                  go_wp2
                  exact ⟨⟨k + 1, by congr 1; have := HC.out; omega, by have := HC.out; omega, by rw [HADD.out]; exact HN⟩, by have := HC.out; simp [RowKit.intOf]; omega⟩
              · clear hns hsu
                go_wp2_with fail
                go_region_with (first | (go_at_call 46; go_fit (HF5.out _ hb0); rintro e w4 ⟨rfl, b4⟩; have hb4 : Below wr.heap.size wr w4 := b4; obtain ⟨g0, g1⟩ := (HC5'.out w4 hb4).1) | (go_at_call 46; go_fit (HF5.out _ hb0.drew); rintro e w4 ⟨rfl, b4⟩; have hb4 : Below wr.heap.size wr w4 := hb0.drew.trans (b4.mono hb0.drew.size); obtain ⟨g0, g1⟩ := (HC5'.out w4 hb4).1) | (go_at_call 64; go_fit (HC5'.out _ hb4).2; rintro e w5 ⟨⟨a', n', c', m', rfl, HN⟩, ⟨u0, k0⟩, ⟨u1, k1⟩, f0, f1⟩))
                all_goals
                  go_wp2
                  exact ⟨⟨k + 1, by congr 1; have := HC.out; omega, by have := HC.out; omega, by rw [HADD.out]; exact HN⟩, by have := HC.out; simp [RowKit.intOf]; omega⟩
          · have HN : Hid (RnI w (clsS (some []) f (i + 1)) wr) := by
              unfold Hid
              have hr : rngS r0 lo k = none := by
                rcases hrl with ⟨e, _, _⟩ | ⟨_, _, _, _, e, _⟩
                · exact e
                · cases e
              have e2 := rng_none hr (K - k)
              rw [show k + (K - k) = K by omega] at e2
              have h9 := hin.out
              rw [hr] at h9
              rw [HK.out, e2]
              exact h9
            clear HST HFIN hin hrl hbo hC HK HOK HRI
            go_wp2
            exact ⟨⟨i + 1, by go_num, by omega, HN⟩, by simp [RowKit.intOf]; omega⟩
        · have hle : ¬ C ≤ hi2 := by omega
          have HN : Hid (RnI w (clsS (some []) f (i + 1)) wr) := by
            unfold Hid
            have h9 := hin.out
            rw [Nat.min_eq_right (by omega)] at h9
            rw [HK.out]
            exact h9
          clear HST HFIN hin hrl hbo hC HK HOK HRI
          go_wp2
          exact ⟨⟨i + 1, by go_num, by omega, HN⟩, by simp [RowKit.intOf]; omega⟩
    · have hii : ¬ (i : Int) < n := by omega
      obtain rfl : i = n := by omega
      obtain ⟨a', n', c', m, hbo, hP⟩ := HFIN.out wr hinv.out
      obtain ⟨r0, r1, _, _⟩ := lx_cells hbo
      obtain ⟨y0, y1, z0, z1⟩ := lx_cells hinv.out.rs
      have HP : Hid _ := hP
      clear HST HFIN hinv hbo hP HRG HF
      go_wp2
      exact bodyPost_ret (v := .agg #[.slice a' n' c', .bool m]) (by simp [results, Tryz.results41, go_sem, y0, y1]) rfl HP.out
end Go.Proofs.YtbciclnffokjjaaGreatDoor
