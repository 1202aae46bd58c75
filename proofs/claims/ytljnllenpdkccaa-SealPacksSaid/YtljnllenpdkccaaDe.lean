/- The reference's value; the program's Decode. -/
import Derived.Test.YtljnllenpdkccaaRe
namespace Go.Proofs.Ytljnllenpdkccaa
open Go.RowKit

set_option maxHeartbeats 1000000 in
theorem rvalue_any (c : Int) (w : World) :
    Calls Try.prog 22 #[.int .u8 c] w fun r w' => r = .returned (.int .i64 (vf c)) ∧ w' = w := by
  have HV : Hid (∀ v : Nat, v < 64 → lt (v : Int) = c → vf c = v) := fun v hv he => by rw [← he]; exact vf_lt _ (by omega) (by omega)
  have HN : Hid ((∀ v : Nat, v < 64 → lt (v : Int) ≠ c) → vf c = -1) := fun h => by
    refine vf_none c fun h2 => ?_
    obtain ⟨e, h3⟩ := lt_vf c h2
    refine h (vf c).toNat (by omega) ?_
    rw [Int.toNat_of_nonneg h2]
    exact e
  generalize vf c = R at *
  go_enter Try.func22, Try.ntmps22
  go_wp2
  go_loop [3] (fun t => ∃ v : Nat, t = .int .i64 (v : Int) ∧ v ≤ 64 ∧ Hid (∀ u : Nat, u < v → lt (u : Int) ≠ c)) (fun t => 64 - (RowKit.intOf t).toNat)
  case atStart => exact ⟨0, rfl, by omega, fun u hu => absurd hu (by omega)⟩
  case round =>
    obtain ⟨v, rfl, hv, hp⟩ := hrel
    by_cases hlt : v < 64
    · have hvi : (v : Int) < 64 := by omega
      have kl := rletter_any (v : Int) w (by omega) hvi
      have hbd := lt_bd (v : Int) (by omega)
      by_cases he : lt (v : Int) = c
      · have hR := HV.out v hlt he
        subst hR
        rw [he] at kl
        go_wp2_with (go_at_call 19; go_fit kl; rintro x w1 ⟨rfl, rfl⟩)
        go_ret
        exact ⟨rfl, rfl⟩
      · have HE : Hid (lt (v : Int) ≠ c) := he
        obtain ⟨L, hL⟩ : ∃ L, lt (v : Int) = L := ⟨_, rfl⟩
        rw [hL] at kl hbd he
        clear hL
        go_wp2_with (go_at_call 19; go_fit kl; rintro x w1 ⟨rfl, rfl⟩)
        refine ⟨⟨v + 1, by go_num, by omega, fun u hu => ?_⟩, by simp [RowKit.intOf]; omega⟩
        by_cases hu' : u < v
        · exact hp.out u hu'
        · obtain rfl : u = v := by omega
          exact HE.out
    · have hvi : ¬ (v : Int) < 64 := by omega
      have hR := HN.out (fun u hu => hp.out u (by omega))
      subst hR
      go_wp2
      go_ret
      exact ⟨rfl, rfl⟩

/-- The bytes of a text as numbers. -/
def nm (s : ByteArray) : List Int := s.data.toList.map fun b => ((b.toNat : Nat) : Int)
theorem nm_len (s : ByteArray) : (nm s).length = s.size := by simp [nm]
theorem nm_getD (s : ByteArray) (k : Nat) (h : k < s.size) : (nm s).getD k 0 = ((s[k].toNat : Nat) : Int) := by
  have h1 : k < s.data.toList.length := by simpa using h
  simp only [nm, List.getD, List.getElem?_map, List.getElem?_eq_getElem h1, Option.map_some, Option.getD_some]
  rfl
theorem nm_small (s : ByteArray) : Small 8 (nm s) := by
  intro j hj
  rw [nm_len] at hj
  rw [nm_getD s j hj]
  have := s[j].toNat_lt
  exact ⟨by omega, by show _ < (256 : Int); omega⟩

/-- What Decode answers: the bytes (none beside an error), the error. -/
def dcl (cs : List Int) : List Int := if Ok cs then dec cs else []
def dce (cs : List Int) : Int := if Ok cs then 0 else 50

theorem lt_of_cell {w : World} {g o : Nat} {v : Value} (h : w.cell? ⟨g, o, none⟩ = some v) : g < w.heap.size := by
  by_cases hg : g < w.heap.size
  · exact hg
  · unfold World.cell? at h
    rw [Array.getElem?_eq_none (Nat.le_of_not_lt hg)] at h
    cases h
theorem im_owns {w : World} {S G n C : Nat} {xs : List Int} (o : w.ownsRow S 5 1 (.slice (some ⟨G, 0, none⟩) n C) n (bc xs)) : Im w (some ⟨G, 0, none⟩) xs := by
  have hl : xs.length = n := by have := o.1; simpa [bc] using this
  by_cases h0 : xs = []
  · exact .inl h0
  · right
    have hn : 0 < xs.length := List.length_pos_iff.2 h0
    have hc : At w G 0 xs := fun j hj => by
      have := o.cellAt j (by omega)
      rw [Nat.zero_add, this]
      simp [bc, List.getD, hj]
    exact ⟨G, 0, rfl, lt_of_cell (hc 0 hn), hc⟩

theorem vals_take (cs : List Int) (k : Nat) (h : k < cs.length) : (vals cs).take (k + 1) = (vals cs).take k ++ [vf (cs.getD k 0)] := by
  rw [List.take_add_one]
  simp [vals, List.getD, List.getElem?_eq_getElem h]

set_option maxHeartbeats 2000000 in
set_option maxRecDepth 100000 in
theorem decode_any (s : ByteArray) (w : World) (hs : s.size ≤ 211106232532992) :
    Calls Try.prog 13 #[.string s] w fun r w' => ∃ av cv, r = .returned (.tuple #[.slice av (dcl (nm s)).length cv, .int .i64 (dce (nm s))]) ∧ Im w' av (dcl (nm s)) ∧ Below w.heap.size w w' := by
  have hsi : (s.size : Int) ≤ 211106232532992 := by omega
  obtain ⟨i0, hi, hz0, hz1, hz2⟩ := info_parts info5
  obtain ⟨w2, r2, o2, g2⟩ := run_make_own (P := Try.prog) w w.heap.size 24 5 i0 _ 1 Try.underlying24 hi hz0 hz1 .i64 .i64 s.size (by rw [hz2]; omega) (by unfold maxLen; omega) (Nat.le_refl _)
  have hb2 : Below w.heap.size w w2 := (Below.refl _ _).grown g2 (Nat.le_refl _) (fun k hk => by cases hk)
  have HO : Hid (w2.ownsRow w.heap.size 5 1 (.slice (some ⟨w.heap.size, 0, none⟩) 0 s.size) 0 []) := o2
  have HNo : Hid (∀ k, k < s.size → vf ((nm s).getD k 0) < 0 → dcl (nm s) = [] ∧ dce (nm s) = 50) := fun k hk hv => by
    have hno : ¬ Ok (nm s) := fun hok => Int.not_le.2 hv (((ok_iff _).1 hok).1 _ (by
      have h1 : k < (nm s).length := by rw [nm_len]; exact hk
      simp only [List.getD, List.getElem?_eq_getElem h1, Option.getD_some]
      exact List.getElem_mem _))
    exact ⟨if_neg hno, if_neg hno⟩
  have HC : Hid (∀ k (h : k < s.size), (nm s).getD k 0 = ((s[k].toNat : Nat) : Int)) := nm_getD s
  have HT : Hid (∀ k, k < s.size → (vals (nm s)).take (k + 1) = (vals (nm s)).take k ++ [vf ((nm s).getD k 0)]) := fun k hk => vals_take (nm s) k (by rw [nm_len]; exact hk)
  have hvl : (vals (nm s)).length = s.size := by simp [vals, nm_len]
  have HG : Hid ((∀ u, u < s.size → 0 ≤ vf ((nm s).getD u 0)) → Good (nm s)) := fun h c hc => by
    obtain ⟨u, hu, rfl⟩ := List.mem_iff_getElem.1 hc
    have := h u (by rw [← nm_len]; exact hu)
    simpa [List.getD, List.getElem?_eq_getElem hu] using this
  have HY : Hid (Ok (nm s) → dcl (nm s) = gr (bt 6 (vals (nm s))) 8 (6 * s.size / 8) ∧ dce (nm s) = 0) := fun h => by
    refine ⟨?_, if_pos h⟩
    unfold dcl
    rw [if_pos h]
    unfold dec nb
    rw [nm_len]
  have HN : Hid (¬ Ok (nm s) → dcl (nm s) = [] ∧ dce (nm s) = 50) := fun h => ⟨if_neg h, if_neg h⟩
  have HOk : Hid (Good (nm s) → (Ok (nm s) ↔ 6 * s.size % 8 < 6 ∧ bv (bt 6 (vals (nm s))) (8 * (6 * s.size / 8)) (6 * s.size % 8) = 0)) := fun h => by
    rw [ok_iff]
    unfold rest lf nb
    rw [nm_len]
    exact ⟨fun ⟨_, h1, h2⟩ => ⟨h1, h2⟩, fun ⟨h1, h2⟩ => ⟨h, h1, h2⟩⟩
  have HSm : Hid (Good (nm s) → Small 6 (vals (nm s))) := vals_small (nm s)
  have HVL : Hid ((vals (nm s)).length = s.size) := hvl
  generalize dcl (nm s) = DL at *
  generalize dce (nm s) = DE at *
  generalize vals (nm s) = V at *
  clear o2 g2 hi hz0 hz1 hz2 hvl
  go_enter Try.func13, Try.ntmps13
  go_wp2
  clear r2
  go_loopw [4, 15] (fun gv iv w' => ∃ k : Nat, iv = .int .i64 (k : Int) ∧ k ≤ s.size ∧ gv = .slice (some ⟨w.heap.size, 0, none⟩) k s.size ∧ Hid (∀ u, u < k → 0 ≤ vf ((nm s).getD u 0)) ∧
    Hid (w'.ownsRow w.heap.size 5 1 (.slice (some ⟨w.heap.size, 0, none⟩) k s.size) k (bc (V.take k))) ∧ Below w.heap.size w w') (fun _ iv _ => s.size - (RowKit.intOf iv).toNat)
  case atStart => exact ⟨0, rfl, Nat.zero_le _, rfl, fun u hu => absurd hu (by omega), HO, hb2⟩
  case round =>
    obtain ⟨k, rfl, hk, rfl, hg, ho, hbw⟩ := hrel
    by_cases hlt : k < s.size
    · have hki : (k : Int) < s.size := by omega
      have ki := index_alph s[k] wr
      have hck := HC.out k hlt
      have hT := HT.out k hlt
      have hNo := HNo.out k hlt
      have hgk := hg.out
      by_cases hv : 0 ≤ vf ((nm s).getD k 0)
      · have hvb := (lt_vf _ hv).2
        rw [hck] at hv hvb hT
        obtain ⟨w5, r5, o5, b5⟩ := append_room wr w.heap.size w.heap.size k s.size (V.take k) (vf ((s[k].toNat : Nat) : Int)) hbw.size hlt ho.out
        have HO5 : Hid (w5.ownsRow w.heap.size 5 1 (.slice (some ⟨w.heap.size, 0, none⟩) (k + 1) s.size) (k + 1) (bc (V.take (k + 1)))) := by
          rw [← hT] at o5
          exact o5
        have hb5 := hbw.trans b5
        have HG5 : Hid (∀ u, u < k + 1 → 0 ≤ vf ((nm s).getD u 0)) := fun u hu => by
          by_cases hu' : u < k
          · exact hgk u hu'
          · obtain rfl : u = k := by omega
            rw [hck]; exact hv
        clear o5 b5 hT hNo hgk hck
        generalize vf ((s[k].toNat : Nat) : Int) = x at *
        go_wp2_with (first | (go_at_call 21; go_fit ki; rintro x w1 ⟨rfl, rfl⟩) | (at_builtin; refine wpList_append_run rfl (.tmp 24) (.tmp 27) 24 24 rfl _ _ rfl rfl r5 ?_))
        exact ⟨⟨k + 1, by go_num, by omega, rfl, HG5, HO5, hb5⟩, by simp [RowKit.intOf]; omega⟩
      · obtain ⟨e1, e2⟩ := hNo (Int.not_le.1 hv)
        subst e1
        subst e2
        have hv1 := vf_none _ hv
        rw [hck] at hv1
        rw [hv1] at ki
        clear hT hNo hgk hv hck hv1
        go_wp2_with (go_at_call 21; go_fit ki; rintro x w1 ⟨rfl, rfl⟩)
        go_ret2
        exact ⟨none, 0, rfl, .inl rfl, hbw⟩
    · have hki : ¬ (k : Int) < s.size := by omega
      have hks : k = s.size := by omega
      have hgood := HG.out (fun u hu => hg.out u (by omega))
      have hok := HOk.out hgood
      have hsm := HSm.out hgood
      have hVt : V.take k = V := List.take_of_length_le (by rw [HVL.out]; omega)
      rw [hVt, hks] at ho
      have kr := reg68 (some ⟨w.heap.size, 0, none⟩) s.size V wr (im_owns ho.out) hsm (by rw [HVL.out]; exact hs)
      rw [HVL.out] at kr
      rw [hks]
      clear hVt hsm hgood hg
      have hRb := bv_below (bt 6 V) (bt_lt 6 V) (8 * (6 * s.size / 8)) (6 * s.size % 8) 7 (by omega)
      have hY := HY.out
      have hN := HN.out
      have hlb : 6 * s.size % 8 < 8 := by omega
      have HL : Hid ((gr (bt 6 V) 8 (6 * s.size / 8)).length = 6 * s.size / 8) := gr_len _ _ _
      clear HY HN HNo HOk HSm HG HT HC HO ho
      generalize gr (bt 6 V) 8 (6 * s.size / 8) = L at *
      generalize bv (bt 6 V) (8 * (6 * s.size / 8)) (6 * s.size % 8) = R at *
      generalize 6 * s.size / 8 = Q at *
      generalize 6 * s.size % 8 = l at *
      by_cases hO : Ok (nm s)
      · obtain ⟨e1, e2⟩ := hY hO
        subst e1
        subst e2
        obtain ⟨h1, rfl⟩ := hok.1 hO
        clear hY hN hok hO
        have h1' : ¬ (6 : Int) ≤ (l : Int) := by omega
        go_wp2_with (go_at_call 20; go_fit kr; rintro x w1 ⟨G, C, rfl, hC, hG, o1, b1⟩)
        go_ret2
        exact ⟨some ⟨G, 0, none⟩, C, by rw [HL.out]; rfl, im_owns o1, hbw.trans (b1.mono hbw.size)⟩
      · obtain ⟨e1, e2⟩ := hN hO
        subst e1
        subst e2
        by_cases h1 : 6 ≤ l
        · have h1' : (6 : Int) ≤ (l : Int) := by omega
          clear hY hN hok hO HL
          go_wp2_with (go_at_call 20; go_fit kr; rintro x w1 ⟨G, C, rfl, hC, hG, o1, b1⟩)
          go_ret2
          exact ⟨none, 0, rfl, .inl rfl, hbw.trans (b1.mono hbw.size)⟩
        · have h2 : ¬ R = 0 := fun h => hO (hok.2 ⟨by omega, h⟩)
          have h1' : ¬ (6 : Int) ≤ (l : Int) := by omega
          have h2' : ((R : Int) != 0) = true := by simpa using h2
          clear hY hN hok hO HL
          go_wp2_with (go_at_call 20; go_fit kr; rintro x w1 ⟨G, C, rfl, hC, hG, o1, b1⟩)
          go_ret2
          exact ⟨none, 0, rfl, .inl rfl, hbw.trans (b1.mono hbw.size)⟩
end Go.Proofs.Ytljnllenpdkccaa
