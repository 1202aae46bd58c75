/- The walks of written, Quote and Json. -/
import Derived.Test.YtdnbkgbgpfmipabDoorWj
import Derived.Laws.MakeOwn
namespace Go.Proofs.YtdnbkgbgpfmipabDoor
open Go.RowKit Go.Lib

theorem runeW_len (B : Int → List Int) (hB : ∀ c, (B c).length ≤ 6) (r : Int) : (runeW B r).length ≤ 6 := by
  unfold runeW
  split
  · exact hB r
  · have := formL_len r; omega
theorem byteQ_len (c : Int) : (byteQ c).length ≤ 6 := by
  unfold byteQ
  repeat' split
  all_goals simp
theorem byteJ_len (c : Int) : (byteJ c).length ≤ 6 := by
  unfold byteJ
  repeat' split
  all_goals simp
theorem wrF_end (B : Int → List Int) (s : ByteArray) (f p : Nat) (h : ¬ p < s.size) : wrF B s f p = [] := by
  cases f with
  | zero => rfl
  | succ f => rw [wrF, if_neg h]

theorem own_iterAt' {w : World} {S n : Nat} {v : Value} {xs : List Value} (h : w.ownsRow S 5 1 v n xs) {k : Nat} {s : ByteArray} {p : Nat} (hk : w.heap[k]? = some (.stringIter s p)) (p' : Nat) : (w.iterAt k s p').ownsRow S 5 1 v n xs := by
  refine ⟨h.1, ?_⟩
  rcases h.2 with h0 | ⟨g, cap, cur, hv, hB, hg, r⟩
  · exact .inl h0
  · refine .inr ⟨g, cap, cur, hv, hB, ?_, r⟩
    rw [iterAt_other w k g s p' (by intro e; subst e; rw [hg] at hk; cases hk)]
    exact hg

set_option maxHeartbeats 4000000 in
set_option maxRecDepth 100000 in
theorem written_ok (B : Int → List Int) (hB : ∀ c, (B c).length ≤ 6) (F : FuncId) (hE : ∀ args w, (callFunc F args).run Tryd.prog w = .ok (.enter F args) w) (hF : ∀ (S : Nat) (v : Value) (l : List Int) (r : Int) (w : World), isRune r = true → S ≤ w.heap.size → l.length + 6 ≤ 140737488355328 → w.ownsRow S 5 1 v l.length (bc l) →
      Calls Tryd.prog F #[v, .int .i32 r] w fun x w' => ∃ v', x = .returned v' ∧ w'.ownsRow S 5 1 v' (l ++ runeW B r).length (bc (l ++ runeW B r)) ∧ BI S w w')
    (s : ByteArray) (w : World) (hs : s.size ≤ 16777216) (hT : Lib.Utf8Tabs 1 2 w) (hv : vld s s.size 0 = true) :
    Calls Tryd.prog 27 #[.string s, .func (.func F) #[] #[]] w fun r w' => r = .returned (.tuple #[.string (strOfNums ([34] ++ wrF B s s.size 0 ++ [34])), .int .i64 0]) ∧ Below w.heap.size w w' := by
  have kv := valid_any s w (by unfold maxLen; omega) hT
  rw [hv] at kv
  have hsz := tabs_size hT
  obtain ⟨i0, hi, hz0, hz1, hz2⟩ := info_parts info5
  have HM : Hid (∀ w1, Below w.heap.size w w1 → ∃ w', (Instr.makeSlice 29 (.int .i64 0) (.int .i64 ((s.size : Int) + 2))).run Tryd.prog w1 = .ok (.slice (some ⟨w1.heap.size, 0, none⟩) 0 (s.size + 2)) w' ∧ w'.ownsRow w.heap.size 5 1 (.slice (some ⟨w1.heap.size, 0, none⟩) 0 (s.size + 2)) 0 [] ∧ w1.grownBy w' none) :=
    fun w1 hb1 => run_make_own (P := Tryd.prog) w1 w.heap.size 29 5 i0 _ 1 Tryd.underlying29 hi hz0 hz1 .i64 .i64 (s.size + 2) (by rw [hz2]; omega) (by unfold maxLen; omega) hb1.size
  clear hT
  go_enter Tryd.func27, Tryd.ntmps27
  go_wp2_with fail
  go_fit kv
  rintro x w1 ⟨rfl, hb1⟩
  obtain ⟨w2, rm, om, gm⟩ := HM.out w1 hb1
  have hb2 : Below w.heap.size w w2 := hb1.grown gm hb1.size (fun k hk => by cases hk)
  obtain ⟨v3, w3, r3, o3, b3⟩ := append_one w2 w.heap.size _ [] 34 hb2.size (by simp) om
  have HO3 : Hid (w3.ownsRow w.heap.size 5 1 v3 ([] ++ [34] : List Int).length (bc ([] ++ [34]))) := o3
  clear o3 om gm
  go_wp2_with (at_builtin; refine wpList_append_run rfl (.tmp 16) (.tmp 17) 29 29 rfl _ _ rfl rfl r3 ?_)
  have hb3 : Below w.heap.size w w3 := hb2.trans b3
  have HF : Hid (∀ (S : Nat) (v : Value) (l : List Int) (r : Int) (w : World), isRune r = true → S ≤ w.heap.size → l.length + 6 ≤ 140737488355328 → w.ownsRow S 5 1 v l.length (bc l) →
      Calls Tryd.prog F #[v, .int .i32 r] w fun x w' => ∃ v', x = .returned v' ∧ w'.ownsRow S 5 1 v' (l ++ runeW B r).length (bc (l ++ runeW B r)) ∧ BI S w w') := hF
  have HV : Hid (vld s s.size 0 = true) := hv
  clear hF hv kv rm r3 HM
  go_loopw [6] (fun b w' => ∃ (pos f : Nat) (l : List Int), w'.heap[w3.heap.size]? = some (.stringIter s pos) ∧ w'.ownsRow w.heap.size 5 1 b l.length (bc l) ∧ Below w.heap.size w w' ∧ pos ≤ s.size ∧ s.size ≤ pos + f ∧ vld s f pos = true ∧ l ++ wrF B s f pos = [34] ++ wrF B s s.size 0 ∧ l.length ≤ 6 * pos + 1) (fun _ w' => s.size - w'.iterPos w3.heap.size)
  case atStart => exact ⟨0, s.size, [34], World.iter_heap w3 s 0, HO3.out.alloc _, hb3.alloc hb3.size _, by omega, by omega, HV.out, rfl, by simp⟩
  case round =>
    obtain ⟨pos, f, l, hk, hown, hbw, hp, hf, hvv, hm, hll⟩ := hrel
    by_cases hlt : pos < s.size
    · have hnx : ∀ ty, (Instr.next (.pointer (some ⟨w3.heap.size, 0, none⟩)) true ty).run Tryd.prog wr = _ := fun ty => run_next_any_at wr w3.heap.size s pos ty hk hlt
      obtain ⟨f', rfl⟩ : ∃ f', f = f' + 1 := ⟨f - 1, by omega⟩
      obtain ⟨hg, hv2⟩ := (vld_step s f' pos hlt).1 hvv
      obtain ⟨_, hru⟩ := form_at s pos hlt ((good_iff s pos hlt).1 hg)
      have hds := dec_size s pos hlt
      have hwd := (decode_width s pos).1
      have e1 : wrF B s (f' + 1) pos = runeW B ((Utf8.decode s pos).1 : Int) ++ wrF B s f' (pos + (Utf8.decode s pos).2) := by rw [wrF, if_pos hlt]
      rw [e1, ← List.append_assoc] at hm
      have hrl := runeW_len B hB ((Utf8.decode s pos).1 : Int)
      have hbx : Below w.heap.size w (wr.iterAt w3.heap.size s (pos + (Utf8.decode s pos).2)) := below_iterAt hbw hb3.size s _
      have hk1 := iterAt_heap wr w3.heap.size s pos (pos + (Utf8.decode s pos).2) hk
      have hownx : (wr.iterAt w3.heap.size s (pos + (Utf8.decode s pos).2)).ownsRow w.heap.size 5 1 u6 l.length (bc l) := own_iterAt' hown hk _
      have kf := HF.out w.heap.size u6 l ((Utf8.decode s pos).1 : Int) (wr.iterAt w3.heap.size s (pos + (Utf8.decode s pos).2)) hru hbx.size (by omega) hownx
      have HM2 : Hid ((l ++ runeW B ((Utf8.decode s pos).1 : Int)) ++ wrF B s f' (pos + (Utf8.decode s pos).2) = [34] ++ wrF B s s.size 0) := hm
      have HL2 : Hid ((l ++ runeW B ((Utf8.decode s pos).1 : Int)).length ≤ 6 * (pos + (Utf8.decode s pos).2) + 1) := by
        show _ ≤ _
        rw [List.length_append]; omega
      have HV2 : Hid (vld s f' (pos + (Utf8.decode s pos).2) = true) := hv2
      have HW2 : Hid (wr.heap[w3.heap.size]? = some (.stringIter s pos)) := hk
      have HK1 : Hid ((wr.iterAt w3.heap.size s (pos + (Utf8.decode s pos).2)).heap[w3.heap.size]? = some (.stringIter s (pos + (Utf8.decode s pos).2))) := hk1
      clear hm hv2 hvv hown hownx hk hk1 e1 hru hg hrl
      generalize runeW B ((Utf8.decode s pos).1 : Int) = X at *
      generalize ((Utf8.decode s pos).1 : Nat) = R at *
      generalize (Utf8.decode s pos).2 = D at *
      generalize wr.iterAt w3.heap.size s (pos + D) = W at *
      go_wp2_with fail
      go_fit kf
      rintro x w5 ⟨v5, rfl, o5, b5⟩
      have HO5 : Hid (w5.ownsRow w.heap.size 5 1 v5 (l ++ X).length (bc (l ++ X))) := o5
      clear o5
      have HK5 : Hid (w5.heap[w3.heap.size]? = some (.stringIter s (pos + D))) := b5.2 _ _ _ HK1.out
      have hb5 : Below w.heap.size w w5 := hbx.trans b5.1
      clear b5
      go_wp2
      refine ⟨⟨pos + D, f', l ++ X, HK5.out, HO5.out, hb5, hds, by omega, HV2.out, HM2.out, HL2.out⟩, ?_⟩
      rw [iterPos_at HW2.out, iterPos_at HK5.out]
      omega
    · have hnx : ∀ ty, (Instr.next (.pointer (some ⟨w3.heap.size, 0, none⟩)) true ty).run Tryd.prog wr = _ := fun ty => run_next_end_at wr w3.heap.size s pos ty hk (by omega)
      rw [wrF_end B s f pos hlt, List.append_nil] at hm
      obtain ⟨v5, w5, r5, o5, b5⟩ := append_one wr w.heap.size u6 l 34 hbw.size (by omega) hown
      have hcv := conv_owned w5 w.heap.size v5 _ o5
      rw [hm] at hcv
      clear hk hm o5 hown hvv
      go_wp2_with (at_builtin; refine wpList_append_run rfl (.tmp 28) (.tmp 29) 29 29 rfl _ _ rfl rfl r5 ?_)
      go_ret2
      exact ⟨rfl, hbw.trans b5⟩

/-- What Quote and Json answer. -/
def wrR (B : Int → List Int) (s : ByteArray) : ByteArray × Int := if vld s s.size 0 = true then (strOfNums ([34] ++ wrF B s s.size 0 ++ [34]), 0) else (⟨#[]⟩, 4)
set_option maxHeartbeats 1000000 in
theorem written_bad (f : Value) (s : ByteArray) (w : World) (hs : s.size ≤ 16777216) (hT : Lib.Utf8Tabs 1 2 w) (hv : vld s s.size 0 = false) :
    Calls Tryd.prog 27 #[.string s, f] w fun r w' => r = .returned (.tuple #[.string ⟨#[]⟩, .int .i64 4]) ∧ Below w.heap.size w w' := by
  have kv := valid_any s w (by unfold maxLen; omega) hT
  rw [hv] at kv
  clear hv hT
  go_enter Tryd.func27, Tryd.ntmps27
  go_wp2_with (go_at_call 29; go_fit kv; rintro x w1 ⟨rfl, hb1⟩)
  go_ret2
  exact ⟨rfl, hb1⟩
theorem quote_any (s : ByteArray) (w : World) (hs : s.size ≤ 16777216) (hT : Lib.Utf8Tabs 1 2 w) :
    Calls Tryd.prog 23 #[.string s] w fun r w' => r = .returned (.tuple #[.string (wrR byteQ s).1, .int .i64 (wrR byteQ s).2]) ∧ Below w.heap.size w w' := by
  have k : Calls Tryd.prog 27 #[.string s, .func (.func 46) #[] #[]] w fun r w' => r = .returned (.tuple #[.string (wrR byteQ s).1, .int .i64 (wrR byteQ s).2]) ∧ Below w.heap.size w w' := by
    unfold wrR
    cases hv : vld s s.size 0 with
    | false => rw [if_neg (by simp)]; exact written_bad _ s w hs hT hv
    | true => rw [if_pos rfl]; exact written_ok byteQ byteQ_len 46 (enters_of Tryd.func46 (by kernel_rfl) rfl) writeQ_any s w hs hT hv
  clear hT
  go_enter Tryd.func23, Tryd.ntmps23
  go_wp2_with (go_at_call 27; go_fit k; rintro x w1 ⟨rfl, hb1⟩)
  go_ret2
  exact ⟨rfl, hb1⟩
theorem json_any (s : ByteArray) (w : World) (hs : s.size ≤ 16777216) (hT : Lib.Utf8Tabs 1 2 w) :
    Calls Tryd.prog 9 #[.string s] w fun r w' => r = .returned (.tuple #[.string (wrR byteJ s).1, .int .i64 (wrR byteJ s).2]) ∧ Below w.heap.size w w' := by
  have k : Calls Tryd.prog 27 #[.string s, .func (.func 28) #[] #[]] w fun r w' => r = .returned (.tuple #[.string (wrR byteJ s).1, .int .i64 (wrR byteJ s).2]) ∧ Below w.heap.size w w' := by
    unfold wrR
    cases hv : vld s s.size 0 with
    | false => rw [if_neg (by simp)]; exact written_bad _ s w hs hT hv
    | true => rw [if_pos rfl]; exact written_ok byteJ byteJ_len 28 (enters_of Tryd.func28 (by kernel_rfl) rfl) writeJ_any s w hs hT hv
  clear hT
  go_enter Tryd.func9, Tryd.ntmps9
  go_wp2_with (go_at_call 27; go_fit k; rintro x w1 ⟨rfl, hb1⟩)
  go_ret2
  exact ⟨rfl, hb1⟩
end Go.Proofs.YtdnbkgbgpfmipabDoor
