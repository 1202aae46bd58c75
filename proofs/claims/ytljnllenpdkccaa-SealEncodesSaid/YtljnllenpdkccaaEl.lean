/- The law SealEncodes walked. -/
import Derived.Test.YtljnllenpdkccaaAl
import Derived.Deep.QuietTactic
import Derived.BigQuiet
import Derived.Lib.QuietBelow
namespace Go.Proofs.Ytljnllenpdkccaa
open Go.RowKit

/-- A list of bytes as it lies in a list. -/
structure Bx where
  a : Option Addr
  c : Nat
  x : List Int
def LsIn (w : World) (a : Option Addr) (q : Nat → Bx) (n : Nat) : Prop :=
  ∀ j, j < n → ∃ g o, a = some ⟨g, o, none⟩ ∧ g < w.heap.size ∧ w.cell? ⟨g, o + j, none⟩ = some (.slice (q j).a (q j).x.length (q j).c) ∧ Im w (q j).a (q j).x ∧ Small 8 (q j).x ∧ (q j).x.length ≤ 140737488355328
def TsIn (w : World) (a : Option Addr) (T : Nat → ByteArray) (n : Nat) : Prop :=
  ∀ j, j < n → ∃ g o, a = some ⟨g, o, none⟩ ∧ g < w.heap.size ∧ w.cell? ⟨g, o + j, none⟩ = some (.string (T j)) ∧ (T j).size ≤ 140737488355328

theorem bt2' {w a b : World} (h : Below w.heap.size w a) (h' : Below a.heap.size a b) : Below w.heap.size w b := h.trans (h'.mono h.size)

/-- Decode of what Encode wrote. -/
theorem decode_enc (xs : List Int) (hs : Small 8 xs) (hn : xs.length ≤ 140737488355328) (w : World) :
    Calls Try.prog 13 #[.string (strOfNums (enc xs))] w fun r w' => ∃ av cv, r = .returned (.tuple #[.slice av xs.length cv, .int .i64 0]) ∧ Im w' av xs ∧ Below w.heap.size w w' := by
  have h := decode_any (strOfNums (enc xs)) w (by rw [son_size, enc_len]; unfold ln; omega)
  have e := nm_son _ (enc_small xs)
  obtain ⟨o1, o2⟩ := dec_enc xs hs
  have e1 : dcl (nm (strOfNums (enc xs))) = xs := by rw [e]; unfold dcl; rw [if_pos o1, o2]
  have e2 : dce (nm (strOfNums (enc xs))) = 0 := by rw [e]; exact if_pos o1
  rw [e1, e2] at h
  exact h
theorem same_self (a b : Option Addr) (c d : Nat) (xs : List Int) (w : World) (hx : Im w a xs) (hy : Im w b xs) (sx : Small 8 xs) :
    Calls Try.prog 8 #[.slice a xs.length c, .slice b xs.length d] w fun r w' => r = .returned (.bool true) ∧ w' = w := by
  have := same_any a b c d xs xs w hx hy sx sx
  rw [decide_eq_true rfl] at this
  exact this
theorem dcl_small (cs : List Int) : Small 8 (dcl cs) := by
  unfold dcl
  split
  · exact gr_small _ (bt_lt 6 _) 8 _
  · exact fun j hj => absurd hj (by simp)
theorem dcl_len (s : ByteArray) (h : s.size ≤ 140737488355328) : (dcl (nm s)).length ≤ 140737488355328 := by
  unfold dcl
  split
  · unfold dec
    rw [gr_len, nm_len]
    unfold nb
    omega
  · simp
theorem dc_back (s : ByteArray) (h : dce (nm s) = 0) : strOfNums (enc (dcl (nm s))) = s := by
  have ho : Ok (nm s) := by
    by_cases ho : Ok (nm s)
    · exact ho
    · have : dce (nm s) = 50 := if_neg ho
      omega
  have e : dcl (nm s) = dec (nm s) := if_pos ho
  rw [e, (enc_dec (nm s) ((ok_iff _).1 ho).1).2 ho, son_nm]
theorem dce_or (cs : List Int) : dce cs = 0 ∨ dce cs = 50 := by
  unfold dce
  split
  · exact .inl rfl
  · exact .inr rfl

theorem calls_same {P : Program} {f : FuncId} {args : Array Value} {w : World} {d : Nat} {os : Array Obj} {v : Value}
    (h : Calls P f args (Go.Sort.grow (redrawn w d) os) fun e w' => e = .returned v ∧ w' = Go.Sort.grow (redrawn w d) os) : Calls P f args (Go.Sort.grow (redrawn w d) os) fun e w'' => e = .returned v ∧ ∃ p : Regrown, w'' = Go.Sort.grow (redrawn w p.d) p.os :=
  h.mono fun _ _ ⟨he, hm⟩ => ⟨he, ⟨d, os⟩, hm⟩

set_option maxHeartbeats 4000000 in
set_option maxRecDepth 100000 in
theorem encodes_walk (aL aT : Option Addr) (nL cL nT cT : Nat) (q : Nat → Bx) (T : Nat → ByteArray) (w : World) (hL : nL ≤ 9223372036854775807) (hT : nT ≤ 9223372036854775807) (hin : LsIn w aL q nL) (tin : TsIn w aT T nT) :
    Calls Try.prog 4 #[.slice aL nL cL, .slice aT nT cT] w fun r w' => r = .returned (.bool true) ∧ Below w.heap.size w w' := by
  have ka := alive_any w
  have HL : Hid (LsIn w aL q nL) := hin
  have HT : Hid (TsIn w aT T nT) := tin
  have hLi : (nL : Int) ≤ 9223372036854775807 := by omega
  have hTi : (nT : Int) ≤ 9223372036854775807 := by omega
  clear hin tin
  go_enter Try.func4, Try.ntmps4
  go_wp2_with (go_at_call 5; go_fit ka; rintro z w0 ⟨rfl, b0⟩)
  go_loopw [5] (fun iv w' => ∃ k : Nat, iv = .int .i64 (k : Int) ∧ k ≤ nL ∧ Below w.heap.size w w') (fun iv _ => nL - (RowKit.intOf iv).toNat)
  case atStart => exact ⟨0, rfl, Nat.zero_le _, b0⟩
  case round =>
    obtain ⟨k, rfl, hk, hbw⟩ := hrel
    by_cases hlt : k < nL
    · obtain ⟨g, o, rfl, hg, c0, im, sm, sl⟩ := HL.out k hlt
      have hki : (k : Int) < nL := by omega
      have c1 := (hbw.cell (p := ⟨g, o + k, none⟩) hg).trans c0
      have kr := rencode_any (q k).a (q k).c (q k).x wr (im.below hbw) sm sl
      have ke : Hid (∀ w', Below w.heap.size w w' → Calls Try.prog 12 #[.slice (q k).a (q k).x.length (q k).c] w' fun r w'' => r = .returned (.string (strOfNums (enc (q k).x))) ∧ Below w'.heap.size w' w'') := fun w' hb => encode_any (q k).a (q k).c (q k).x w' (im.below hb) sm sl
      have kd := decode_enc (q k).x sm sl
      have ks : Hid (∀ w' a1 c1, Below w.heap.size w w' → Im w' a1 (q k).x → Calls Try.prog 8 #[.slice a1 (q k).x.length c1, .slice (q k).a (q k).x.length (q k).c] w' fun r w'' => r = .returned (.bool true) ∧ w'' = w') := fun w' a1 c1 hb i1 => same_self a1 (q k).a c1 (q k).c (q k).x w' i1 (im.below hb) sm
      have HC : Hid (∀ w', Below w.heap.size w w' → w'.cell? ⟨g, o + k, none⟩ = some (.slice (q k).a (q k).x.length (q k).c)) := fun w' hb => (hb.cell (p := ⟨g, o + k, none⟩) hg).trans c0
      clear im sm sl c0
      generalize strOfNums (enc (q k).x) = S at *
      generalize (q k).x = X at *
      generalize X.length = n at *
      generalize (q k).a = a at *
      generalize (q k).c = c at *
      go_wp2_with (first
        | (go_at_call 11; go_fit kr; rintro z w1 ⟨rfl, b1⟩; have B1 := bt2' hbw b1; have c2 := HC.out w1 B1; have ke1 := ke.out w1 B1)
        | (go_at_call 12; go_fit ke1; rintro z w2 ⟨rfl, b2⟩; have B2 := bt2' B1 b2)
        | (go_at_call 13; go_fit (kd _); rintro z w3 ⟨a3, c3, rfl, i3, b3⟩; have B3 := bt2' B2 b3; have c4 := HC.out w3 B3; have ks3 := ks.out w3 a3 c3 B3 i3)
        | (go_at_call 8; go_fit ks3; rintro z w3' ⟨rfl, rfl⟩))
      exact ⟨⟨k + 1, by go_num, by omega, B3⟩, by simp [RowKit.intOf]; omega⟩
    · have hki : ¬ (k : Int) < nL := by omega
      have hb1 := hbw
      go_wp2
      clear hbw
      go_loopw [10] (fun iv w' => ∃ k : Nat, iv = .int .i64 (k : Int) ∧ k ≤ nT ∧ Below w.heap.size w w') (fun iv _ => nT - (RowKit.intOf iv).toNat)
      case atStart => exact ⟨0, rfl, Nat.zero_le _, hb1⟩
      case round =>
        clear hb1
        obtain ⟨k, rfl, hk, hbw⟩ := hrel
        by_cases hlt : k < nT
        · obtain ⟨g, o, rfl, hg, c0, sz⟩ := HT.out k hlt
          have hki : (k : Int) < nT := by omega
          have c1 := (hbw.cell (p := ⟨g, o + k, none⟩) hg).trans c0
          have HC : Hid (∀ w', Below w.heap.size w w' → w'.cell? ⟨g, o + k, none⟩ = some (.string (T k))) := fun w' hb => (hb.cell (p := ⟨g, o + k, none⟩) hg).trans c0
          have kd := decode_any (T k) wr (by omega)
          have kr := fun w' => rdecode_any (T k) w' (by omega)
          have ks : Hid (∀ w' a1 a2 c1 c2, Im w' a1 (dcl (nm (T k))) → Im w' a2 (dcl (nm (T k))) → Calls Try.prog 8 #[.slice a1 (dcl (nm (T k))).length c1, .slice a2 (dcl (nm (T k))).length c2] w' fun r w'' => r = .returned (.bool true) ∧ w'' = w') := fun w' a1 a2 c1 c2 i1 i2 => same_self a1 a2 c1 c2 _ w' i1 i2 (dcl_small _)
          have ke : Hid (∀ w' a1 c1, Im w' a1 (dcl (nm (T k))) → Calls Try.prog 12 #[.slice a1 (dcl (nm (T k))).length c1] w' fun r w'' => r = .returned (.string (strOfNums (enc (dcl (nm (T k)))))) ∧ Below w'.heap.size w' w'') := fun w' a1 c1 i1 => encode_any a1 c1 _ w' i1 (dcl_small _) (dcl_len _ sz)
          have hbk := dc_back (T k)
          have hor := dce_or (nm (T k))
          clear sz c0
          generalize strOfNums (enc (dcl (nm (T k)))) = S at *
          generalize dcl (nm (T k)) = X at *
          generalize X.length = n at *
          generalize dce (nm (T k)) = E at *
          generalize T k = t at *
          rcases hor with rfl | rfl
          · obtain rfl := hbk rfl
            clear hbk
            go_wp2_with (first
              | (go_at_call 13; go_fit kd; rintro z w1 ⟨a1, c1', rfl, i1, b1⟩; have B1 := bt2' hbw b1; have c2 := HC.out w1 B1)
              | (go_at_call 14; go_fit (kr _); rintro z w2 ⟨a2, c2', rfl, i2, b2⟩; have B2 := bt2' B1 b2))
            have cC : ∀ d os, (Go.Sort.grow (redrawn w2 d) os).cell? ⟨g, o + k, none⟩ = some (.string S) := fun d os => cell_regrown (HC.out w2 B2) d os
            have cS := fun d os => calls_same (ks.out (Go.Sort.grow (redrawn w2 d) os) a1 a2 c1' c2' ((i1.below b2).below (below_regrown w2 d os)) (i2.below (below_regrown w2 d os)))
            have cE := fun d os => Calls.regrown_of (ke.out (Go.Sort.grow (redrawn w2 d) os) a1 c1' ((i1.below b2).below (below_regrown w2 d os)))
            clear kd kr ks ke c1 c2
            refine wp_region_quiet_below (by kernel_rfl) (by kernel_rfl) ?_
            iterate 6 (quiet_step (fail))
            quiet_step (exact cS _ _)
            iterate 7 (quiet_step (fail))
            quiet_step (exact cE _ _)
            iterate 7 (quiet_step (fail))
            refine wpQuiet_nil ?_
            intro _ hw'
            obtain ⟨⟨dq, osq⟩, hw''⟩ := hw'
            subst hw''
            go_wp2
            exact ⟨⟨k + 1, by go_num, by omega, bt2' B2 (below_regrown w2 dq osq)⟩, by simp [RowKit.intOf]; omega⟩
          · clear hbk
            go_wp2_with (first
              | (go_at_call 13; go_fit kd; rintro z w1 ⟨a1, c1', rfl, i1, b1⟩; have B1 := bt2' hbw b1; have c2 := HC.out w1 B1)
              | (go_at_call 14; go_fit (kr _); rintro z w2 ⟨a2, c2', rfl, i2, b2⟩; have B2 := bt2' B1 b2))
            have cS := fun d os => calls_same (ks.out (Go.Sort.grow (redrawn w2 d) os) a1 a2 c1' c2' ((i1.below b2).below (below_regrown w2 d os)) (i2.below (below_regrown w2 d os)))
            clear kd kr ks ke c1 c2
            refine wp_region_quiet_below (by kernel_rfl) (by kernel_rfl) ?_
            iterate 6 (quiet_step (fail))
            quiet_step (exact cS _ _)
            iterate 6 (quiet_step (fail))
            iterate 7 (first | go_big_quiet_skip | quiet_step (fail))
            iterate 2 (quiet_step (fail))
            refine wpQuiet_nil ?_
            intro _ hw'
            obtain ⟨⟨dq, osq⟩, hw''⟩ := hw'
            subst hw''
            go_wp2
            exact ⟨⟨k + 1, by go_num, by omega, bt2' B2 (below_regrown w2 dq osq)⟩, by simp [RowKit.intOf]; omega⟩
        · have hki : ¬ (k : Int) < nT := by omega
          go_wp2
          go_ret
          exact ⟨rfl, hbw⟩
end Go.Proofs.Ytljnllenpdkccaa
