/- The program's Encode. -/
import Derived.Test.YtljnllenpdkccaaRg
namespace Go.Proofs.Ytljnllenpdkccaa
open Go.RowKit

/-- Letters written over values, up to a place. -/
def over (L : List Int) (i : Nat) : List Int := (L.take i).map lt ++ L.drop i
theorem over_len (L : List Int) (i : Nat) : (over L i).length = L.length := by simp [over]; omega
theorem over_getD (L : List Int) (i : Nat) (h : i < L.length) : (over L i).getD i 0 = L.getD i 0 := by
  simp only [over, List.getD]
  rw [List.getElem?_append_right (by simp; omega)]
  simp [Nat.min_eq_left (Nat.le_of_lt h)]
theorem over_set (L : List Int) (i : Nat) (h : i < L.length) : (over L i).set i (lt (L.getD i 0)) = over L (i + 1) := by
  have e1 : L.drop i = L.getD i 0 :: L.drop (i + 1) := by
    rw [List.drop_eq_getElem_cons h]
    simp [List.getD, h]
  have e2 : L.take (i + 1) = L.take i ++ [L.getD i 0] := by
    rw [List.take_add_one]
    simp [List.getD, List.getElem?_eq_getElem h]
  unfold over
  rw [e1, e2]
  have hl : ((L.take i).map lt).length = i := by simp; omega
  rw [List.set_append_right _ _ (by omega), hl, Nat.sub_self]
  simp
theorem over_all (L : List Int) : over L L.length = L.map lt := by simp [over]

theorem alph_int (v : Int) (h0 : 0 ≤ v) (h : v.toNat < alph.size) : ((alph[v.toNat]'h).toNat : Int) = lt v := by
  have := alph_at v.toNat h
  rw [Int.toNat_of_nonneg h0] at this
  exact this

/-- The last group filled up with bits 0. -/
theorem last_group (b : Nat → Nat) (q l : Nat) (hl : l ≤ 6) (hz : ∀ i, 6 * q + l ≤ i → b i = 0) : bv b (6 * q) 6 = bv b (6 * q) l * 2 ^ (6 - l) := by
  have h1 := bv_add b (6 * q) l (6 - l)
  rw [show l + (6 - l) = 6 by omega, bv_zero b (6 * q + l) (6 - l) (fun i h2 _ => hz i h2), Nat.add_zero] at h1
  exact h1

set_option maxHeartbeats 2000000 in
set_option maxRecDepth 100000 in
theorem encode_any (a : Option Addr) (c : Nat) (xs : List Int) (w : World) (hI : Im w a xs) (hs : Small 8 xs) (hn : xs.length ≤ 140737488355328) :
    Calls Try.prog 12 #[.slice a xs.length c] w fun r w' => r = .returned (.string (strOfNums (enc xs))) ∧ Below w.heap.size w w' := by
  have kr := reg86 a c xs w hI hs hn
  have HF : Hid (∀ i, 8 * xs.length ≤ i → bt 8 xs i = 0) := fun i hi => bt_out 8 (by decide) xs i hi
  have HB : Hid (∀ i, bt 8 xs i < 2) := bt_lt 8 xs
  have HT : Hid (strOfNums (enc xs) = strOfNums ((gr (bt 8 xs) 6 (ln xs.length)).map lt)) := rfl
  generalize strOfNums (enc xs) = T at *
  generalize bt 8 xs = b at *
  generalize hnn : xs.length = n at *
  clear hnn hI hs
  have hni : (n : Int) ≤ 140737488355328 := by omega
  have HL : Hid (ln n = 8 * n / 6 + if 8 * n % 6 = 0 then 0 else 1) := by
    show _ = _
    unfold ln
    split <;> omega
  have HQ : Hid (6 * (8 * n / 6) + 8 * n % 6 = 8 * n) := (by omega : _ = _)
  have hl6 : 8 * n % 6 < 6 := by omega
  have hR : bv b (6 * (8 * n / 6)) (8 * n % 6) < 64 := bv_below b HB.out _ _ 6 (by omega)
  have HR : Hid (bv b (6 * (8 * n / 6)) 6 = bv b (6 * (8 * n / 6)) (8 * n % 6) * 2 ^ (6 - 8 * n % 6)) := last_group b _ _ (by omega) (fun i hi => HF.out i (by omega))
  have hqn : 8 * n / 6 ≤ 187649984473771 := by omega
  generalize hr : bv b (6 * (8 * n / 6)) (8 * n % 6) = R at *
  generalize hl : 8 * n % 6 = l at *
  generalize hq : 8 * n / 6 = q at *
  clear hr hl hq
  by_cases hl0 : l = 0
  · subst hl0
    go_enter Try.func12, Try.ntmps12
    go_wp2_with (go_at_call 20; go_fit kr; rintro x w1 ⟨G, C, rfl, hC, hG, o1, b1⟩)
    obtain ⟨m, rfl⟩ : ∃ m, m = q := ⟨q, rfl⟩
    have HM : Hid (ln n = m) := by have := HL.out; simp only [if_true, Nat.add_zero] at this; exact this
    have hmn : (m : Int) ≤ 187649984473772 := by omega
    have HO5 : Hid (w1.ownsRow w.heap.size 5 1 (.slice (some ⟨G, 0, none⟩) m C) m (bc (over (gr b 6 m) 0))) := o1
    have hb5 := b1
    clear o1
    have HLm : Hid ((gr b 6 m).length = m) := gr_len _ _ _
    have HSm : Hid (Small 6 (gr b 6 m)) := gr_small b HB.out 6 m
    have HTm : Hid (T = strOfNums (over (gr b 6 m) m)) := by
      have h1 := HT.out
      have h2 := over_all (gr b 6 m)
      rw [HLm.out] at h2
      show _ = _
      rw [h1, HM.out, h2]
    generalize gr b 6 m = L at *
    clear HT HM HR HL HF HQ kr
    go_loopw [25] (fun iv w' => ∃ i : Nat, iv = .int .i64 (i : Int) ∧ i ≤ m ∧ Hid (w'.ownsRow w.heap.size 5 1 (.slice (some ⟨G, 0, none⟩) m C) m (bc (over L i))) ∧ Below w.heap.size w w') (fun iv _ => m - (RowKit.intOf iv).toNat)
    case atStart => exact ⟨0, rfl, by omega, HO5, hb5⟩
    case round =>
      obtain ⟨i, rfl, hi, ho, hbw⟩ := hrel
      by_cases hlt : i < m
      · have hlL : i < L.length := by rw [HLm.out]; exact hlt
        have hc0 := ho.out.cellAt i (by omega)
        have e0 : (bc (over L i))[i]? = some (.int .u8 (L.getD i 0)) := by
          have h1 := over_getD L i hlL
          have h2 : i < (over L i).length := by rw [over_len]; exact hlL
          simp only [List.getD, List.getElem?_eq_getElem h2, Option.getD_some] at h1
          simp only [bc, List.getElem?_map, List.getElem?_eq_getElem h2, Option.map_some, h1, List.getD]
        have hc : wr.cell? ⟨G, i, none⟩ = some (.int .u8 (L.getD i 0)) := by rw [hc0, e0]
        have hf : wr.frozen? ⟨G, i, none⟩ = false := ho.out.frozenAt i
        obtain ⟨s1, s2⟩ := ho.out.stored i (.int .u8 (lt (L.getD i 0)))
        have HS1 : Hid ((wr.setCell ⟨G, i, none⟩ (.int .u8 (lt (L.getD i 0)))).ownsRow w.heap.size 5 1 (.slice (some ⟨G, 0, none⟩) m C) m (bc (over L (i + 1)))) := by
          have h1 : (bc (over L i)).set i (.int .u8 (lt (L.getD i 0))) = bc (over L (i + 1)) := by
            rw [← over_set L i hlL]
            simp [bc, List.map_set]
          rw [h1] at s1
          exact s1
        obtain ⟨x0, x1⟩ := HSm.out i hlL
        have hb6 : Below w.heap.size w (wr.setCell ⟨G, i, none⟩ (.int .u8 (lt (L.getD i 0)))) := hbw.setCell (p := ⟨G, i, none⟩) hG _
        clear s1 s2 hc0 e0
        generalize L.getD i 0 = x at *
        have x2 : x < 64 := by simpa using x1
        clear x1
        have hal := alph_int x x0 (by show x.toNat < 64; omega)
        have hii : (i : Int) < m := by omega
        go_wp2
        exact ⟨⟨i + 1, by go_num, by omega, HS1, hb6⟩, by simp [RowKit.intOf]; omega⟩
      · have hii : ¬ (i : Int) < m := by omega
        have him : i = m := by omega
        rw [him] at ho
        have hcv := conv_owned wr w.heap.size (.slice (some ⟨G, 0, none⟩) m C) (over L m) (by rw [over_len, HLm.out]; exact ho.out)
        clear him
        go_wp2
        go_ret
        exact ⟨by rw [HTm.out]; rfl, hbw⟩
  · have hR2 : (R : Int) * 2 ^ (6 - l) % 256 = ((bv b (6 * q) 6 : Nat) : Int) := by
      have h1 := HR.out
      have h2 := bv_below b HB.out (6 * q) 6 6 (by omega)
      have h3 : ((2 : Int) ^ (6 - l)) = ((2 ^ (6 - l) : Nat) : Int) := by simp
      rw [h3, ← Int.natCast_mul, ← h1]
      omega
    have HR2 : Hid (_ = _) := hR2
    clear hR2
    have hl0' : 0 < (l : Int) := by omega
    go_enter Try.func12, Try.ntmps12
    go_wp2_with (first | (go_at_call 20; go_fit kr; rintro x w1 ⟨G, C, rfl, hC, hG, o1, b1⟩; obtain ⟨w5, r5, o5, b5⟩ := append_room w1 w.heap.size G q C (gr b 6 q) ((R : Int) * 2 ^ (6 - l) % 256) b1.size hC o1) | (at_builtin; refine wpList_append_run rfl (.tmp 16) (.tmp 21) 24 24 rfl _ _ rfl rfl r5 ?_))
    rw [HR2.out, ← gr_succ] at o5
    generalize hm : q + 1 = m at *
    have HM : Hid (ln n = m) := by have := HL.out; rw [if_neg hl0] at this; show _ = _; omega
    have hmn : (m : Int) ≤ 187649984473772 := by omega
    have HO5 : Hid (w5.ownsRow w.heap.size 5 1 (.slice (some ⟨G, 0, none⟩) m C) m (bc (over (gr b 6 m) 0))) := o5
    have hb5 := b1.trans b5
    have Hm : Hid (q + 1 = m) := hm
    clear o1 o5 b1 b5 r5 HR2 hm
    have HLm : Hid ((gr b 6 m).length = m) := gr_len _ _ _
    have HSm : Hid (Small 6 (gr b 6 m)) := gr_small b HB.out 6 m
    have HTm : Hid (T = strOfNums (over (gr b 6 m) m)) := by
      have h1 := HT.out
      have h2 := over_all (gr b 6 m)
      rw [HLm.out] at h2
      show _ = _
      rw [h1, HM.out, h2]
    generalize gr b 6 m = L at *
    clear HT HM HR HL HF HQ kr
    go_loopw [25] (fun iv w' => ∃ i : Nat, iv = .int .i64 (i : Int) ∧ i ≤ m ∧ Hid (w'.ownsRow w.heap.size 5 1 (.slice (some ⟨G, 0, none⟩) m C) m (bc (over L i))) ∧ Below w.heap.size w w') (fun iv _ => m - (RowKit.intOf iv).toNat)
    case atStart => exact ⟨0, rfl, by omega, HO5, hb5⟩
    case round =>
      obtain ⟨i, rfl, hi, ho, hbw⟩ := hrel
      by_cases hlt : i < m
      · have hlL : i < L.length := by rw [HLm.out]; exact hlt
        have hc0 := ho.out.cellAt i (by omega)
        have e0 : (bc (over L i))[i]? = some (.int .u8 (L.getD i 0)) := by
          have h1 := over_getD L i hlL
          have h2 : i < (over L i).length := by rw [over_len]; exact hlL
          simp only [List.getD, List.getElem?_eq_getElem h2, Option.getD_some] at h1
          simp only [bc, List.getElem?_map, List.getElem?_eq_getElem h2, Option.map_some, h1, List.getD]
        have hc : wr.cell? ⟨G, i, none⟩ = some (.int .u8 (L.getD i 0)) := by rw [hc0, e0]
        have hf : wr.frozen? ⟨G, i, none⟩ = false := ho.out.frozenAt i
        obtain ⟨s1, s2⟩ := ho.out.stored i (.int .u8 (lt (L.getD i 0)))
        have HS1 : Hid ((wr.setCell ⟨G, i, none⟩ (.int .u8 (lt (L.getD i 0)))).ownsRow w.heap.size 5 1 (.slice (some ⟨G, 0, none⟩) m C) m (bc (over L (i + 1)))) := by
          have h1 : (bc (over L i)).set i (.int .u8 (lt (L.getD i 0))) = bc (over L (i + 1)) := by
            rw [← over_set L i hlL]
            simp [bc, List.map_set]
          rw [h1] at s1
          exact s1
        obtain ⟨x0, x1⟩ := HSm.out i hlL
        have hb6 : Below w.heap.size w (wr.setCell ⟨G, i, none⟩ (.int .u8 (lt (L.getD i 0)))) := hbw.setCell (p := ⟨G, i, none⟩) hG _
        clear s1 s2 hc0 e0
        generalize L.getD i 0 = x at *
        have x2 : x < 64 := by simpa using x1
        clear x1
        have hal := alph_int x x0 (by show x.toNat < 64; omega)
        have hii : (i : Int) < (q : Int) + 1 := by have := Hm.out; omega
        go_wp2
        exact ⟨⟨i + 1, by go_num, by omega, HS1, hb6⟩, by simp [RowKit.intOf]; omega⟩
      · have hii : ¬ (i : Int) < (q : Int) + 1 := by have := Hm.out; omega
        have him : i = m := by omega
        rw [him] at ho
        have hcv := conv_owned wr w.heap.size (.slice (some ⟨G, 0, none⟩) m C) (over L m) (by rw [over_len, HLm.out]; exact ho.out)
        clear him
        go_wp2
        go_ret
        exact ⟨by rw [HTm.out]; rfl, hbw⟩
end Go.Proofs.Ytljnllenpdkccaa
