/- A bundle of texts. -/
import Derived.Test.YtajaadagejhllaaGreatDoorBs13
import Derived.Deep.LoopGhost
import Derived.Lib.OthersKept
import Derived.WalkMore
/- Show: a rune as it stands for itself. -/
namespace Go.Proofs.YtajaadagejhllaaGreatDoor
open Go.RowKit Go.Lib

theorem enB_size (r : Int) : 1 ≤ (enB r).size ∧ (enB r).size ≤ 4 := by
  unfold enB Utf8.encode
  dsimp only
  repeat' split
  all_goals exact ⟨by simp [ByteArray.size], by simp [ByteArray.size]⟩
theorem heB_size (r : Int) : (heB r).size ≤ 20 := by
  unfold heB
  rw [ByteArray.size_append, ByteArray.size_append]
  have := hxB_size r
  have e1 : (⟨#[92, 120, 123]⟩ : ByteArray).size = 3 := rfl
  have e2 : (⟨#[125]⟩ : ByteArray).size = 1 := rfl
  omega
set_option maxHeartbeats 1000000 in
theorem member_any (r : Int) (h0 : 0 ≤ r) (h1 : r ≤ 1114111) (w : World) (hz : TbZ w) : Calls Tryz.prog 91 #[.int .i32 r] w fun e w' => e = .returned (.string (meB r)) ∧ Below w.heap.size w w' := by
  have kL := isLetter_any r w
  have kD := isDigit_any r w
  have kH := hexText_any r h0 h1 w hz
  unfold meB
  generalize heB r = H at *
  cases hl : ltB r
  · rw [hl] at kL
    cases hd : dgB r
    · rw [hd] at kD
      simp only [Bool.or_false, Bool.false_eq_true, if_false]
      go_enter Tryz.func91, Tryz.ntmps91
      go_wp2_with (first | (go_at_call 105; go_fit kL; rintro e w' ⟨rfl, rfl⟩) | (go_at_call 106; go_fit kD; rintro e w' ⟨rfl, rfl⟩) | (go_at_call 90; go_fit kH; rintro e w' ⟨rfl, b1⟩))
      go_ret
      exact ⟨rfl, b1⟩
    · rw [hd] at kD
      simp only [Bool.or_true, if_true]
      go_enter Tryz.func91, Tryz.ntmps91
      go_wp2_with (first | (go_at_call 105; go_fit kL; rintro e w' ⟨rfl, rfl⟩) | (go_at_call 106; go_fit kD; rintro e w' ⟨rfl, rfl⟩))
      go_ret
      exact ⟨rfl, Below.refl _ _⟩
  · rw [hl] at kL
    simp only [Bool.true_or, if_true]
    go_enter Tryz.func91, Tryz.ntmps91
    go_wp2_with (first | (go_at_call 105; go_fit kL; rintro e w' ⟨rfl, rfl⟩) | (go_at_call 106; go_fit kD; rintro e w' ⟨rfl, rfl⟩))
    go_ret
    exact ⟨rfl, Below.refl _ _⟩

theorem sp_low (r : Int) (h0 : 0 ≤ r) (h1 : r < 128) : decide (0 ≤ Lib.indexByte spA.data.toList r.toNat.toUInt8) = spcB r := by
  obtain ⟨n, rfl⟩ := Int.eq_ofNat_of_zero_le h0
  have e : ∀ k : Fin 128, decide (0 ≤ Lib.indexByte spA.data.toList ((k.val : Int)).toNat.toUInt8) = spcB (k.val : Int) := by decide +kernel
  exact e ⟨n, by omega⟩
theorem spA_dec (p : Nat) (h : p < 14) : ((Utf8.decode spA p).1 : Int) ≠ 65533 := by
  have e : ∀ k : Fin 14, ((Utf8.decode spA k.val).1 : Int) ≠ 65533 := by decide +kernel
  exact e ⟨p, h⟩

set_option maxHeartbeats 2000000 in
set_option maxRecDepth 1000000 in
theorem idxRune_err (w : World) : Calls Tryz.prog 104 #[.string spA, .int .i32 65533] w fun e w' => e = .returned (.int .i64 (-1)) ∧ Below w.heap.size w w' := by
  obtain ⟨s, hs⟩ : ∃ s, s = spA := ⟨_, rfl⟩
  rw [← hs]
  have hsz14 : s.size = 14 := by rw [hs]; rfl
  have HD : Hid (∀ p, p < s.size → ((Utf8.decode s p).1 : Int) ≠ 65533) := fun p hp => by rw [hs]; exact spA_dec p (by omega)
  clear hs
  go_enter Tryz.func104, Tryz.ntmps104
  go_wp2
  go_loopg [] s.size (fun g wx => ∃ pos : Nat, wx.heap[w.heap.size]? = some (.stringIter s pos) ∧ Below w.heap.size w wx ∧ s.size ≤ pos + g)
  case atStart => exact ⟨0, World.iter_heap w s 0, (Below.refl _ w).alloc (Nat.le_refl _) _, by omega⟩
  case round =>
    obtain ⟨pos, hit, hbw, hfu⟩ := hrel
    have hsz : w.heap.size < wr.heap.size := (Array.getElem?_eq_some_iff.1 hit).1
    by_cases hp : pos < s.size
    · obtain ⟨g, rfl⟩ : ∃ g, gk = g + 1 := ⟨gk - 1, by omega⟩
      have hnx : ∀ ty, (Instr.next (.pointer (some ⟨w.heap.size, 0, none⟩)) true ty).run Tryz.prog wr = _ := fun ty => Lib.run_next_any_at wr w.heap.size s pos ty hit hp
      have hwd := Lib.width_pos s pos
      have hne := HD.out pos hp
      obtain ⟨R, hR⟩ : ∃ R, (Utf8.decode s pos).1 = R := ⟨_, rfl⟩
      obtain ⟨K, hK⟩ : ∃ K, (Utf8.decode s pos).2 = K := ⟨_, rfl⟩
      rw [hR, hK] at hnx
      rw [hR] at hne
      rw [hK] at hwd
      have hq : ((R : Int) == 65533) = false := by simpa using hne
      have hit2 := Lib.iterAt_heap wr w.heap.size s pos (pos + K) hit
      have hbw2 := Lib.below_iterAt hbw (k := w.heap.size) (Nat.le_refl _) s (pos + K)
      obtain ⟨W, hWd⟩ : ∃ W, wr.iterAt w.heap.size s (pos + K) = W := ⟨_, rfl⟩
      rw [hWd] at hnx hit2 hbw2
      have HIT : Hid (W.heap[w.heap.size]? = some (.stringIter s (pos + K))) := hit2
      clear hit2 hit hR hK hWd hne
      go_wp2
      go_roundg g
      case measure => omega
      case rel => exact ⟨pos + K, HIT.out, hbw2, by omega⟩
    · have hnx : ∀ ty, (Instr.next (.pointer (some ⟨w.heap.size, 0, none⟩)) true ty).run Tryz.prog wr = _ := fun ty => Lib.run_next_end_at wr w.heap.size s pos ty hit hp
      go_wp2
      go_ret
      exact ⟨rfl, hbw⟩
end Go.Proofs.YtajaadagejhllaaGreatDoor
/- Show: a rune's text outside of a class. -/
namespace Go.Proofs.YtajaadagejhllaaGreatDoor
open Go.RowKit Go.Lib

theorem enc_high (r : Int) (h0 : 128 ≤ r) (hv : Utf8.valid r = true) : (∃ a b : UInt8, Utf8.encode r = ⟨#[a, b]⟩ ∧ 128 ≤ b.toNat) ∨ (∃ a c b : UInt8, Utf8.encode r = ⟨#[a, c, b]⟩ ∧ 128 ≤ b.toNat) ∨ (∃ a c d b : UInt8, Utf8.encode r = ⟨#[a, c, d, b]⟩ ∧ 128 ≤ b.toNat) := by
  unfold Utf8.encode
  dsimp only
  rw [if_pos hv]
  have hb : 128 ≤ (UInt8.ofNat (128 + r.toNat % 64)).toNat := by
    rw [UInt8.toNat_ofNat']
    omega
  split
  · omega
  · split
    · exact .inl ⟨_, _, rfl, hb⟩
    · split
      · exact .inr (.inl ⟨_, _, _, rfl, hb⟩)
      · exact .inr (.inr ⟨_, _, _, _, rfl, hb⟩)
theorem ix_no (c : UInt8) : ∀ l : List UInt8, (∀ x ∈ l, x ≠ c) → Lib.indexByte l c = -1
  | [], _ => rfl
  | a :: l, h => by
    have h1 : (a == c) = false := by simpa using h a (by simp)
    have h2 := ix_no c l (fun x hx => h x (by simp [hx]))
    simp [Lib.indexByte, h1, h2]
theorem low_ne {l : List UInt8} (h : l.all (fun x => x.toNat < 128) = true) (b : UInt8) (hb : 128 ≤ b.toNat) : ∀ x ∈ l, x ≠ b := fun x hx e => by
  have := List.all_eq_true.1 h x hx
  subst e
  simp at this
  omega
set_option maxHeartbeats 2000000 in
set_option maxRecDepth 1000000 in
theorem idxRune_gen (r : Int) (s E : ByteArray) (L : Nat) (h0 : 128 ≤ r) (hv : Utf8.valid r = true) (hn : r ≠ 65533) (hE : Utf8.encode r = E) (hLE : L < E.size) (hEL : E.size = L + 1) (hLs : L < s.size) (hsL : L + 1 < s.size) (hs14 : s.size ≤ 14)
    (hlow : s.data.toList.all (fun x => x.toNat < 128) = true) (hhi : 128 ≤ (E[L]'hLE).toNat) (w : World) :
    Calls Tryz.prog 104 #[.string s, .int .i32 r] w fun e w' => e = .returned (.int .i64 (-1)) ∧ Below w.heap.size w w' := by
  have kV := Tryz.utf8_ValidRune r w
  have hvv : Lib.validRune r = true := by
    have : Lib.validRune r = Utf8.valid r := by
      unfold Lib.validRune Utf8.valid
      rw [Bool.eq_iff_iff]
      simp
      omega
    rw [this, hv]
  rw [hvv] at kV
  have hix : Lib.indexByte (s.extract (L + 1) s.size).data.toList (((E[L]'hLE).toNat : Int)).toNat.toUInt8 = -1 := by
    refine ix_no _ _ (low_ne (List.all_eq_true.2 fun x hx => ?_) _ (by simpa using hhi))
    refine List.all_eq_true.1 hlow x ?_
    have e : (s.extract (L + 1) s.size).data.toList = (s.data.toList.drop (L + 1)).take (s.size - (L + 1)) := by
      simp
    rw [e] at hx
    exact List.mem_of_mem_drop (List.mem_of_mem_take hx)
  have kI := fun W : World => Tryz.strings_IndexByte (s.extract (L + 1) s.size) (((E[L]'hLE).toNat : Int)) W
  simp only [hix] at kI
  have hsl : (s[L]'hLs).toNat < 128 := by
    have := List.all_eq_true.1 hlow (s[L]'hLs) (by
      have : s.data.toList[L]'(by simpa using (by omega : L < s.size)) ∈ s.data.toList := List.getElem_mem _
      exact this)
    simpa using this
  have hne : (((s[L]'hLs).toNat : Int) != ((E[L]'hLE).toNat : Int)) = true := by simp; omega
  have e1 : ¬ r < 128 := by omega
  have e2 : (r == 65533) = false := by simpa using hn
  have hz1 : IntKind.i64.wrap ((E.size : Int) - 1) = (L : Int) := by rw [IntKind.wrap_i64]; omega
  have hz2 : (L : Int) < (s.size : Int) := by omega
  have hi1 : 0 ≤ (L : Int) ∧ (L : Int) < (s.size : Int) := by omega
  have hi2 : 0 ≤ (L : Int) ∧ (L : Int) < (E.size : Int) := by omega
  have hi3 : (L : Int) < (E.size : Int) := by omega
  have hw : IntKind.i64.wrap ((L : Int) + 1) = (L : Int) + 1 := by rw [IntKind.wrap_i64]; omega
  have hle : (L : Int) + 1 ≤ (s.size : Int) := by omega
  have h01 : 0 ≤ (L : Int) + 1 := by omega
  clear hix hn hv hvv hhi hsl hlow hEL hsL
  go_enter Tryz.func104, Tryz.ntmps104
  go_wp2_with (first | (go_at_call 119; go_fit kV; rintro e w' ⟨rfl, rfl⟩))
  go_step3
  go_wp2
  go_loop [9] (fun t => t = .int .i64 (L : Int)) (fun _ => 0)
  case atStart => exact rfl
  case round =>
    subst hrel
    go_wp2
    go_step3
    go_wp2_with fail
    go_quiet (fail)
    obtain ⟨W1, hW1⟩ : ∃ W1, W1 = w'.drewN nq := ⟨_, rfl⟩
    have b1 : Below w'.heap.size w' W1 := hW1 ▸ Below.drewN (Below.refl _ _) nq
    rw [← hW1]
    clear hW1
    go_wp2_with fail
    go_quiet ((go_at_call 36; exact Calls.quiet_of_same (kI _)))
    go_wp2_with fail
    rw [Exit.noGoto_ret]
    go_wp2
    rw [Exit.noGoto_ret]
    go_wp2
    go_ret
    exact ⟨rfl, Below.drewN b1 _⟩
set_option maxHeartbeats 1000000 in
set_option maxRecDepth 1000000 in
theorem idxRune_bad (r : Int) (s : ByteArray) (h0 : 128 ≤ r) (hv : Utf8.valid r = false) (hn : r ≠ 65533) (w : World) :
    Calls Tryz.prog 104 #[.string s, .int .i32 r] w fun e w' => e = .returned (.int .i64 (-1)) ∧ Below w.heap.size w w' := by
  have kV := Tryz.utf8_ValidRune r w
  have hvv : Lib.validRune r = false := by
    have : Lib.validRune r = Utf8.valid r := by
      unfold Lib.validRune Utf8.valid
      rw [Bool.eq_iff_iff]
      simp
      omega
    rw [this, hv]
  rw [hvv] at kV
  have e1 : ¬ r < 128 := by omega
  have e2 : (r == 65533) = false := by simpa using hn
  clear hn hv hvv
  go_enter Tryz.func104, Tryz.ntmps104
  go_wp2_with (first | (go_at_call 119; go_fit kV; rintro e w' ⟨rfl, rfl⟩))
  go_ret
  exact ⟨rfl, Below.refl _ _⟩
theorem idxRune_high (r : Int) (h0 : 128 ≤ r) (w : World) : Calls Tryz.prog 104 #[.string spA, .int .i32 r] w fun e w' => e = .returned (.int .i64 (-1)) ∧ Below w.heap.size w w' := by
  by_cases hn : r = 65533
  · rw [hn]; exact idxRune_err w
  cases hv : Utf8.valid r with
  | false => exact idxRune_bad r spA h0 hv hn w
  | true =>
    have hl : spA.data.toList.all (fun x => x.toNat < 128) = true := by decide
    rcases enc_high r h0 hv with ⟨a, b, hE, hb⟩ | ⟨a, c, b, hE, hb⟩ | ⟨a, c, d, b, hE, hb⟩
    · exact idxRune_gen r spA _ 1 h0 hv hn hE (by simp [ByteArray.size]) (by simp [ByteArray.size]) (by decide) (by decide) (by decide) hl hb w
    · exact idxRune_gen r spA _ 2 h0 hv hn hE (by simp [ByteArray.size]) (by simp [ByteArray.size]) (by decide) (by decide) (by decide) hl hb w
    · exact idxRune_gen r spA _ 3 h0 hv hn hE (by simp [ByteArray.size]) (by simp [ByteArray.size]) (by decide) (by decide) (by decide) hl hb w
theorem sp_high (r : Int) (h0 : 128 ≤ r) : spcB r = false := by
  unfold spcB
  simp
  omega
theorem contains_sp (r : Int) (h0 : 0 ≤ r) (w : World) : Calls Tryz.prog 89 #[.string spA, .int .i32 r] w fun e w' => e = .returned (.bool (spcB r)) ∧ Below w.heap.size w w' := by
  by_cases h1 : r < 128
  · refine (Tryz.strings_ContainsRune_ascii spA r w h0 h1).mono ?_
    rintro e w' ⟨rfl, rfl⟩
    exact ⟨by rw [sp_low r h0 h1], Below.refl _ _⟩
  · have k := idxRune_high r (by omega) w
    rw [sp_high r (by omega)]
    generalize spA = s at *
    go_enter Tryz.func89, Tryz.ntmps89
    go_wp2_with (go_at_call 104; go_fit k; rintro e w' ⟨rfl, b1⟩)
    go_ret
    exact ⟨rfl, b1⟩
set_option maxHeartbeats 2000000 in
set_option maxRecDepth 1000000 in
theorem lit_any (r : Int) (h0 : 0 ≤ r) (h1 : r ≤ 1114111) (w : World) (hz : TbZ w) : Calls Tryz.prog 70 #[.int .i32 r] w fun e w' => e = .returned (.string (liB r)) ∧ Below w.heap.size w w' := by
  have k := contains_sp r h0 w
  have hE := enB_size r
  unfold enB at hE
  have kH : ∀ w1, Below w.heap.size w w1 → Calls Tryz.prog 90 #[.int .i32 r] w1 fun e w' => e = .returned (.string (heB r)) ∧ Below w1.heap.size w1 w' := fun w1 b1 => hexText_any r h0 h1 w1 ((b1.cell (p := ⟨5, 15, none⟩) (World.block_lt_of_cell? w _ hz)).trans hz)
  have n1 : ¬ 9223372036854775807 < 1 + (Utf8.encode r).size := by omega
  cases hs : spcB r
  · have hs' : ¬ spcB r = true := by simp [hs]
    unfold liB
    rw [if_neg hs']
    rw [hs] at k
    by_cases c1 : r < 32
    · rw [if_pos (.inl c1)]
      generalize heB r = H at *
      clear hs'
      unfold spA at k
      go_enter Tryz.func70, Tryz.ntmps70
      go_wp2_with (first | (go_at_call 89; go_fit k; rintro e w1 ⟨rfl, b1⟩) | (go_at_call 90; go_fit (kH _ b1); rintro e w2 ⟨rfl, b2⟩))
      go_ret
      exact ⟨rfl, b1.trans (b2.mono b1.size)⟩
    by_cases c2 : r = 127
    · rw [if_pos (.inr (.inl c2))]
      have e2 : (r == 127) = true := by simpa using c2
      have H2 : Hid (r = 127) := c2
      clear c2
      generalize heB r = H at *
      clear hs'
      unfold spA at k
      go_enter Tryz.func70, Tryz.ntmps70
      go_wp2_with (first | (go_at_call 89; go_fit k; rintro e w1 ⟨rfl, b1⟩) | (go_at_call 90; go_fit (kH _ b1); rintro e w2 ⟨rfl, b2⟩))
      go_ret
      exact ⟨rfl, b1.trans (b2.mono b1.size)⟩
    have e2 : (r == 127) = false := by simpa using c2
    by_cases c3 : 55296 ≤ r
    · by_cases c4 : r ≤ 57343
      · rw [if_pos (.inr (.inr ⟨c3, c4⟩))]
        generalize heB r = H at *
        clear hs'
        unfold spA at k
        go_enter Tryz.func70, Tryz.ntmps70
        go_wp2_with (first | (go_at_call 89; go_fit k; rintro e w1 ⟨rfl, b1⟩) | (go_at_call 90; go_fit (kH _ b1); rintro e w2 ⟨rfl, b2⟩))
        go_ret
        exact ⟨rfl, b1.trans (b2.mono b1.size)⟩
      · rw [if_neg (by omega)]
        show Calls Tryz.prog 70 #[.int .i32 r] w fun e w' => e = .returned (.string (Utf8.encode r)) ∧ Below w.heap.size w w'
        clear hs' kH
        unfold spA at k
        go_enter Tryz.func70, Tryz.ntmps70
        go_wp2_with (go_at_call 89; go_fit k; rintro e w1 ⟨rfl, b1⟩)
        go_ret
        exact ⟨rfl, b1⟩
    · rw [if_neg (by omega)]
      show Calls Tryz.prog 70 #[.int .i32 r] w fun e w' => e = .returned (.string (Utf8.encode r)) ∧ Below w.heap.size w w'
      clear hs' kH
      unfold spA at k
      go_enter Tryz.func70, Tryz.ntmps70
      go_wp2_with (go_at_call 89; go_fit k; rintro e w1 ⟨rfl, b1⟩)
      go_ret
      exact ⟨rfl, b1⟩
  · unfold liB
    rw [if_pos hs]
    rw [hs] at k
    show Calls Tryz.prog 70 #[.int .i32 r] w fun e w' => e = .returned (.string ((⟨#[92]⟩ : ByteArray) ++ Utf8.encode r)) ∧ Below w.heap.size w w'
    clear kH
    unfold spA at k
    go_enter Tryz.func70, Tryz.ntmps70
    go_wp2_with (go_at_call 89; go_fit k; rintro e w1 ⟨rfl, b1⟩)
    go_ret
    exact ⟨rfl, b1⟩
end Go.Proofs.YtajaadagejhllaaGreatDoor
