/- The walk of Unquote. -/
import Derived.Test.YtdnbkgbgpfmipabDoorUnq
namespace Go.Proofs.YtdnbkgbgpfmipabDoor
open Go.RowKit Go.Lib

theorem strings_clone (s : ByteArray) (w : World) (hs : s.size ≤ 281474976710656) : Calls Tryd.prog 36 #[.string s] w fun e w' => e = .returned (.string s) ∧ Below w.heap.size w w' := by
  have k := Tryd.stringslite_Clone s w hs
  go_enter Tryd.func36, Tryd.ntmps36
  go_wp2_with (go_at_call 57; go_fit k; rintro x w1 ⟨rfl, hb⟩)
  go_ret
  exact ⟨rfl, hb⟩

theorem isLiteral_any (s : ByteArray) (w : World) (hs : s.size ≤ 140737488355328) : Calls Tryd.prog 32 #[.string s] w fun e w' => e = .returned (.bool (decide (litZ s 0 = ((s.size : Int), 0)))) ∧ w' = w := by
  have kl := literal_any s 0 w hs
  by_cases hz : (litZ s 0).2 = 0
  · by_cases hn : (litZ s 0).1 = (s.size : Int)
    · have h : litZ s 0 = ((s.size : Int), 0) := Prod.ext hn hz
      rw [show decide (litZ s 0 = ((s.size : Int), 0)) = true by simpa using h]
      rw [hz, hn] at kl
      clear h hz hn
      go_enter Tryd.func32, Tryd.ntmps32
      go_wp2_with (go_at_call 20; go_fit kl; rintro x w1 ⟨rfl, rfl⟩)
      go_ret
      exact ⟨rfl, rfl⟩
    · have h : ¬ litZ s 0 = ((s.size : Int), 0) := fun h => hn (by rw [h])
      rw [show decide (litZ s 0 = ((s.size : Int), 0)) = false by simpa using h]
      rw [hz] at kl
      generalize (litZ s 0).1 = n at *
      have hn' : (n == (s.size : Int)) = false := by rw [beq_eq_false_iff_ne]; exact hn
      clear h hz
      go_enter Tryd.func32, Tryd.ntmps32
      go_wp2_with (go_at_call 20; go_fit kl; rintro x w1 ⟨rfl, rfl⟩)
      go_ret
      exact ⟨rfl, rfl⟩
  · have h : ¬ litZ s 0 = ((s.size : Int), 0) := fun h => hz (by rw [h])
    rw [show decide (litZ s 0 = ((s.size : Int), 0)) = false by simpa using h]
    generalize (litZ s 0).1 = n at *
    generalize (litZ s 0).2 = m at *
    have hz' : (m == 0) = false := by rw [beq_eq_false_iff_ne]; exact hz
    clear h
    go_enter Tryd.func32, Tryd.ntmps32
    go_wp2_with (go_at_call 20; go_fit kl; rintro x w1 ⟨rfl, rfl⟩)
    go_ret
    exact ⟨rfl, rfl⟩

/-- What a text means is no longer than it. -/
theorem mn_len (s : ByteArray) (q : Int) : ∀ (f p : Nat) (l : List Int), s.size ≤ p + f → p ≤ s.size → rd s p = true → mn s q p = some l → l.length + p ≤ s.size
  | 0, p, l, h, hp, _, hm => by
    rw [mn_end s q p (by omega)] at hm
    simp at hm
    subst hm
    simp; omega
  | f + 1, p, l, h, hp, hr, hm => by
    by_cases hlt : p < s.size
    · by_cases hb : bt s p = 92
      · obtain ⟨h1, _⟩ := (rd_bs s p hlt hb).1 hr
        cases hesc : escS (s.extract (p + 1) s.size) q with
        | none => rw [mn_none s q p hlt hb hesc] at hm; cases hm
        | some xc =>
          obtain ⟨xs, c⟩ := xc
          obtain ⟨t1, t2, t3, _⟩ := esc_takes s q p xs c h1 hesc
          rw [mn_some s q p xs c hlt hb hesc] at hm
          cases hm2 : mn s q (p + 1 + c) with
          | none => rw [hm2] at hm; cases hm
          | some l2 =>
            rw [hm2] at hm
            simp at hm
            subst hm
            have := mn_len s q f (p + 1 + c) l2 (by omega) (by omega) (rd_esc s q p xs c hlt hb hr hesc) hm2
            rw [List.length_append]; omega
      · rw [mn_plain s q p hlt hb] at hm
        cases hm2 : mn s q (p + 1) with
        | none => rw [hm2] at hm; cases hm
        | some l2 =>
          rw [hm2] at hm
          simp at hm
          subst hm
          have := mn_len s q f (p + 1) l2 (by omega) (by omega) (by rw [← rd_plain s p hlt hb]; exact hr) hm2
          rw [List.length_cons]; omega
    · rw [mn_end s q p hlt] at hm
      simp at hm
      subst hm
      simp; omega

set_option maxHeartbeats 4000000 in
set_option maxRecDepth 100000 in
theorem unq_esc (s : ByteArray) (q : Int) (w : World) (hs : s.size ≤ 140737488351232) (hT : Lib.Utf8Tabs 1 2 w) (h2 : 2 ≤ s.size) (hq : bt s 0 = q) (hq9 : q ≠ 96) (hv : vld s s.size 0 = true) (hl : litZ s 0 = ((s.size : Int), 0)) (hr : rd (s.extract 1 (s.size - 1)) 0 = true) :
    Calls Tryd.prog 12 #[.string s] w fun r w' => r = .returned (.tuple #[.string (unqV (mn (s.extract 1 (s.size - 1)) q 0)).1, .int .i64 (unqV (mn (s.extract 1 (s.size - 1)) q 0)).2]) ∧ Below w.heap.size w w' := by
  have kv := valid_any s w (by unfold maxLen; omega) hT
  have ki := fun w' => isLiteral_any s w' (by omega)
  have hsz := tabs_size hT
  have HT : Hid (Lib.Utf8Tabs 1 2 w) := hT
  rw [hv] at kv
  rw [show decide (litZ s 0 = ((s.size : Int), 0)) = true by simpa using hl] at ki
  have hx0 := bt_at s 0 (by omega)
  rw [hq] at hx0
  clear hv hl hT
  generalize hO : mn (s.extract 1 (s.size - 1)) q 0 = O
  have HO : Hid (mn (s.extract 1 (s.size - 1)) q 0 = O) := hO
  have HR : Hid (rd (s.extract 1 (s.size - 1)) 0 = true) := hr
  clear hO hr
  have hsi : (2 : Int) ≤ s.size := by omega
  have t9 : (q == 96) = false := by rw [beq_eq_false_iff_ne]; exact hq9
  clear hq9 hq
  go_enter Tryd.func12, Tryd.ntmps12
  go_wp2_with (first | (go_at_call 29; go_fit kv; rintro x w1 ⟨rfl, hb1⟩) | (go_at_call 32; go_fit (ki _); rintro x w2 ⟨rfl, rfl⟩))
  go_region
  have hbx : Below w.heap.size w (w2.alloc (.cells #[.int .u8 q] 5)).drew := (hb1.alloc hb1.size _).trans ⟨rfl, rfl, rfl, Nat.le_refl _, fun _ _ => rfl⟩
  have hcx : (w2.alloc (.cells #[.int .u8 q] 5)).drew.cell? ⟨w2.heap.size, 0, none⟩ = some (.int .u8 q) := by
    show (w2.alloc (.cells #[.int .u8 q] 5)).cell? ⟨w2.heap.size, 0, none⟩ = _
    unfold World.cell?
    rw [show (w2.alloc (.cells #[.int .u8 q] 5)).heap[w2.heap.size]? = some (.cells #[.int .u8 q] 5) from heap_alloc_new w2 _]
    rfl
  generalize (w2.alloc (.cells #[.int .u8 q] 5)).drew = W at *
  have km := meaning_any (s.extract 1 (s.size - 1)) q w2.heap.size W (by simp; omega) hcx HR.out
  rw [ByteArray.extract_zero_size, HO.out] at km
  have hlen : Hid (∀ l, O = some l → l.length ≤ 140737488351232) := fun l hl => by
    have := mn_len (s.extract 1 (s.size - 1)) q (s.extract 1 (s.size - 1)).size 0 l (by omega) (by omega) HR.out (by rw [HO.out]; exact hl)
    have hz : (s.extract 1 (s.size - 1)).size = s.size - 2 := by simp; omega
    omega
  clear HR HO
  generalize s.extract 1 (s.size - 1) = B at *
  cases O with
  | none =>
    have km' : Calls Tryd.prog 33 #[.string B, .func (.func 37) #[] #[.pointer (some ⟨w2.heap.size, 0, none⟩)]] W fun r w' => r = .returned (.tuple #[.string ⟨#[]⟩, .bool false]) ∧ Below W.heap.size W w' := km
    clear km
    go_wp2_with (go_at_call 33; go_fit km'; rintro x w3 ⟨rfl, hb3⟩)
    go_ret2
    exact ⟨rfl, hbx.trans (hb3.mono hbx.size)⟩
  | some l =>
    have km' : Calls Tryd.prog 33 #[.string B, .func (.func 37) #[] #[.pointer (some ⟨w2.heap.size, 0, none⟩)]] W fun r w' => r = .returned (.tuple #[.string (strOfNums l), .bool true]) ∧ Below W.heap.size W w' := km
    have hll : l.length ≤ 140737488351232 := hlen.out l rfl
    have kv2 := fun w' h => valid_any (strOfNums l) w' (by rw [strOfNums_size]; unfold maxLen; omega) h
    clear km
    cases hvv : vld (strOfNums l) (strOfNums l).size 0 with
    | false =>
      rw [hvv] at kv2
      have HV : Hid (vld (strOfNums l) (strOfNums l).size 0 = false) := hvv
      clear hvv
      go_wp2_with (first | (go_at_call 33; go_fit km'; rintro x w3 ⟨rfl, hb3⟩; have hbz := hbx.trans (hb3.mono hbx.size); have kv3 := kv2 w3 (tabs_below HT.out hsz hbz)) | (go_at_call 29; go_fit kv3; rintro x w4 ⟨rfl, hb4⟩))
      go_ret2
      exact ⟨by unfold unqV; simp only [HV.out]; rfl, hbz.trans (hb4.mono hbz.size)⟩
    | true =>
      rw [hvv] at kv2
      have HV : Hid (vld (strOfNums l) (strOfNums l).size 0 = true) := hvv
      clear hvv
      go_wp2_with (first | (go_at_call 33; go_fit km'; rintro x w3 ⟨rfl, hb3⟩; have hbz := hbx.trans (hb3.mono hbx.size); have kv3 := kv2 w3 (tabs_below HT.out hsz hbz)) | (go_at_call 29; go_fit kv3; rintro x w4 ⟨rfl, hb4⟩))
      go_ret2
      exact ⟨by unfold unqV; simp only [HV.out]; rfl, hbz.trans (hb4.mono hbz.size)⟩

set_option maxHeartbeats 2000000 in
theorem unq_any (s : ByteArray) (w : World) (hs : s.size ≤ 140737488351232) (hT : Lib.Utf8Tabs 1 2 w) :
    Calls Tryd.prog 12 #[.string s] w fun r w' => r = .returned (.tuple #[.string (unqR s).1, .int .i64 (unqR s).2]) ∧ Below w.heap.size w w' := by
  have kv := valid_any s w (by unfold maxLen; omega) hT
  have ki := fun w' => isLiteral_any s w' (by omega)
  unfold unqR
  cases hv : vld s s.size 0 with
  | false =>
    rw [hv] at kv
    rw [if_neg (by simp)]
    clear hv ki hT
    go_enter Tryd.func12, Tryd.ntmps12
    go_wp2_with (go_at_call 29; go_fit kv; rintro x w1 ⟨rfl, hb1⟩)
    go_ret2
    exact ⟨rfl, hb1⟩
  | true =>
    rw [if_pos rfl]
    by_cases hl : litZ s 0 = ((s.size : Int), 0)
    · rw [if_pos hl]
      obtain ⟨h2, h3, h4⟩ := lit_parts s hl
      by_cases h9 : bt s 0 = 96
      · rw [if_pos h9]
        rw [hv] at kv
        rw [show decide (litZ s 0 = ((s.size : Int), 0)) = true by simpa using hl] at ki
        have hx0 := bt_at s 0 (by omega)
        rw [h9] at hx0
        have hsi : (2 : Int) ≤ s.size := by omega
        have kc := fun w' => strings_clone (s.extract 1 (s.size - 1)) w' (by simp; omega)
        clear hv hl h3 h4 h9 hT
        go_enter Tryd.func12, Tryd.ntmps12
        go_wp2_with (first | (go_at_call 29; go_fit kv; rintro x w1 ⟨rfl, hb1⟩) | (go_at_call 32; go_fit (ki _); rintro x w2 ⟨rfl, rfl⟩))
        go_region
        have hbx : Below w.heap.size w (w2.alloc (.cells #[.int .u8 96] 5)).drew := (hb1.alloc hb1.size _).drew
        have hcx : (w2.alloc (.cells #[.int .u8 96] 5)).drew.cell? ⟨w2.heap.size, 0, none⟩ = some (.int .u8 96) := by
          show (w2.alloc (.cells #[.int .u8 96] 5)).cell? ⟨w2.heap.size, 0, none⟩ = _
          unfold World.cell?
          rw [show (w2.alloc (.cells #[.int .u8 96] 5)).heap[w2.heap.size]? = some (.cells #[.int .u8 96] 5) from heap_alloc_new w2 _]
          rfl
        generalize (w2.alloc (.cells #[.int .u8 96] 5)).drew = W at *
        go_wp2_with (go_at_call 36; go_fit (kc _); rintro x w3 ⟨rfl, hb3⟩)
        go_ret2
        exact ⟨rfl, hbx.trans (hb3.mono hbx.size)⟩
      · rw [if_neg h9]
        exact unq_esc s (bt s 0) w hs hT h2 rfl h9 hv hl (lit_body s hl h9)
    · rw [if_neg hl]
      rw [hv] at kv
      rw [show decide (litZ s 0 = ((s.size : Int), 0)) = false by simpa using hl] at ki
      clear hv hl hT
      go_enter Tryd.func12, Tryd.ntmps12
      go_wp2_with (first | (go_at_call 29; go_fit kv; rintro x w1 ⟨rfl, hb1⟩) | (go_at_call 32; go_fit (ki _); rintro x w2 ⟨rfl, rfl⟩))
      go_ret2
      exact ⟨rfl, hb1⟩
end Go.Proofs.YtdnbkgbgpfmipabDoor
