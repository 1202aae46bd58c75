/- ChunkBack: the law's walk. -/
import Derived.Test.YtedlmjieclaojaaDoorFb
namespace Go.Proofs.YtedlmjieclaojaaDoor
open Go.RowKit

theorem quo_run (w : World) : (binOp .quo 36 (.float .f64 4607182418800017408) (.float .f64 0)).run Tryd.prog w = .ok (.float .f64 9218868437227405312) w :=
  run_float_arith w .quo 36 .f64 _ _ _ (by decide +kernel)
theorem ord00 : FloatKind.f64.format.order 0 0 = some .eq := by decide +kernel
theorem ordI0 : FloatKind.f64.format.order 9218868437227405312 0 = some .gt := by decide +kernel
theorem pkE_long (l : List Smp) (h : 100000 < l.length) : pkE l = 1 ∧ pkB l = [] := by
  have e : pkE l = 1 := by unfold pkE; rw [if_pos h]
  exact ⟨e, by unfold pkB; rw [if_neg (by rw [e]; decide)]⟩
theorem pkE_fall (l : List Smp) (h : ¬ 100000 < l.length) (hr : rsB l = false) : pkE l = 170 ∧ pkB l = [] := by
  have e : pkE l = 170 := by unfold pkE; rw [if_neg h, if_neg (by rw [hr]; decide)]
  exact ⟨e, by unfold pkB; rw [if_neg (by rw [e]; decide)]⟩
theorem pkE_good (l : List Smp) (h : ¬ 100000 < l.length) (hr : rsB l = true) : pkE l = 0 ∧ pkB l = pk (frm l) := by
  have e : pkE l = 0 := by unfold pkE; rw [if_neg h, if_pos hr]
  exact ⟨e, by unfold pkB; rw [if_pos e]⟩
theorem get_map {l : List Smp} {i : Nat} {x y : Smp} (hx : (l.map nrm)[i]? = some x) (hy : l[i]? = some y) : x = nrm y := by
  rw [List.getElem?_map, hy] at hx
  exact (Option.some.inj hx).symm
theorem get_stale {l : List Smp} {i : Nat} {x : Smp} (hx : (l.map nrm)[i]? = some x) (hs : x.s = true) : x.v = 0 := by
  rw [List.getElem?_map] at hx
  obtain ⟨y, _, rfl⟩ := Option.map_eq_some_iff.1 hx
  rw [nrm_s] at hs
  exact nrm_z y hs

set_option maxHeartbeats 4000000 in
set_option maxRecDepth 100000 in
theorem back_walk (a : Option Addr) (c : Nat) (l : List Smp) (a1 : Option Addr) (c1 : Nat) (xs : List Int) (w : World) (hm : Sm w a l) (hok : ∀ x ∈ l, Sok x) (hi : Im w a1 xs) (hx : By xs) (hcap : xs.length ≤ c1) (hs : Scl w) (ht : Tab w) (hl : l.length * 24 ≤ 140737488355328) :
    Calls Tryd.prog 6 #[.slice a l.length c, .slice a1 xs.length c1] w fun e w' => e = .returned (.bool true) ∧ Below w.heap.size w w' := by
  have k1 := alive_any w hs ht
  have HM : Hid (Sm w a l) := hm
  have HS : Hid (Scl w) := hs
  have HT : Hid (Tab w) := ht
  have HI : Hid (Im w a1 xs) := hi
  have HX : Hid (By xs) := hx
  have HOK : Hid (∀ x ∈ l, Sok x) := hok
  have HL : Hid (l.length ≤ 140737488355328) := by show _ ≤ _; omega
  have HCAP : Hid (xs.length ≤ c1) := hcap
  have KP : Hid (∀ W, Below w.heap.size w W → Calls Tryd.prog 11 #[.slice a l.length c] W (PkR l W)) := fun W h => pack_any a c l W (HM.out.below h) HOK.out (HS.out.below h) (HT.out.below h) HL.out
  have KR : Hid (∀ W, Below w.heap.size w W → Calls Tryd.prog 22 #[.slice a l.length c] W fun e w' => e = .returned (.bool (rsB l)) ∧ Below W.heap.size W w') := fun W h => rising_any a c l W (HM.out.below h) HL.out
  have KU : Hid (∀ W, Below w.heap.size w W → Calls Tryd.prog 13 #[.slice a1 xs.length c1] W (UpR xs W)) := fun W h => unpack_any a1 c1 xs W (HI.out.below h) HX.out (HS.out.below h) (HT.out.below h) HCAP.out
  clear hm hs ht hok hi hx hcap
  obtain ⟨n, hn⟩ : ∃ n, n = l.length := ⟨_, rfl⟩
  have HN : Hid (n = l.length) := hn
  rw [← hn] at KP KR hl ⊢
  clear hn
  obtain ⟨m, hm⟩ : ∃ m, m = xs.length := ⟨_, rfl⟩
  have HMX : Hid (m = xs.length) := hm
  rw [← hm] at KU ⊢
  clear hm
  have hni : (n : Int) ≤ 140737488355328 := by omega
  go_enter Tryd.func6, Tryd.ntmps6
  go_wp2_with fail
  go_fit k1
  rintro e w1 ⟨rfl, b1⟩
  have k2 := KU.out w1 b1
  have HB1 : Hid (Below w.heap.size w w1) := b1
  clear k1 b1 KU
  unfold UpR at k2
  rcases up_cases xs with ⟨e1, e2⟩ | ⟨t, hu, e1, e2⟩
  case' inl =>
    rw [e1, e2] at k2
    clear e1 e2
    go_wp2_with fail
    go_fit k2
    rintro e W ⟨v2, rfl, o2, b2⟩
    obtain ⟨a2, c2, rfl⟩ := row_form o2
    have HB : Hid (Below w.heap.size w W) := HB1.out.trans (b2.mono HB1.out.size)
    clear k2 o2 b2 HB1
    go_wp2_with fail
  case' inr =>
    obtain ⟨f1, f2, f3⟩ := unp_form hu
    obtain ⟨f4, f5⟩ := pkE_zero f1
    rw [e1, e2] at k2
    have HF : Hid (pkE t = 0 ∧ pk (frm t) = xs ∧ (∀ x ∈ t, Sok x) ∧ rsB t = true ∧ t.length ≤ 100000) := ⟨f1, f2, f3, f5, f4⟩
    clear e1 e2 f1 f2 f3 f4 f5 hu
    go_wp2_with fail
    go_fit k2
    rintro e w2 ⟨v2, rfl, o2, b2⟩
    obtain ⟨a2, c2, rfl⟩ := row_form o2
    have HB2 : Hid (Below w.heap.size w w2) := HB1.out.trans (b2.mono HB1.out.size)
    have HO2 : Hid (w2.ownsRow w1.heap.size 38 3 (.slice a2 t.length c2) t.length (smc t)) := o2
    have k3 := pack_any a2 c2 t w2 (Sm.of_row o2) HF.out.2.2.1 (HS.out.below HB2.out) (HT.out.below HB2.out) (by have := HF.out.2.2.2.2; omega)
    unfold PkR at k3
    have q1 : pkB t = xs := by unfold pkB; rw [if_pos HF.out.1]; exact HF.out.2.1
    rw [HF.out.1, q1, ← HMX.out] at k3
    clear k2 o2 b2 HB1 q1
    go_wp2_with fail
    go_fit k3
    rintro e w3 ⟨v3, rfl, o3, b3⟩
    obtain ⟨a3, c3', rfl⟩ := row_form o3
    have HB3 : Hid (Below w.heap.size w w3) := HB2.out.trans (b3.mono HB2.out.size)
    have o3' : w3.ownsRow w2.heap.size 5 1 (.slice a3 xs.length c3') xs.length (bc xs) := by rw [← HMX.out]; exact o3
    have k4 := same_any a3 a1 c3' c1 xs xs w3 (Im.of_row o3') (HI.out.below HB3.out) HX.out HX.out
    rw [decide_eq_true rfl, ← HMX.out] at k4
    have k5 := rising_any a2 c2 t w3 ((Sm.of_row HO2.out).below b3) (by have := HF.out.2.2.2.2; omega)
    rw [HF.out.2.2.2.1] at k5
    have hq : ¬ (100000 : Int) < (t.length : Int) := by have := HF.out.2.2.2.2; omega
    have hq2 : decide ((t.length : Int) > 100000) = false := by simpa using hq
    clear k3 o3 o3' b3 HB2 HO2 HF
    generalize t.length = tn at *
    go_wp2_with fail
    go_fit k4
    rintro e w4 ⟨rfl, rfl⟩
    clear k4
    go_wp2_with fail
    go_fit k5
    rintro e W ⟨rfl, b5⟩
    have HB : Hid (Below w.heap.size w W) := HB3.out.trans (b5.mono HB3.out.size)
    clear k5 b5 HB3
    go_wp2_with fail
  all_goals
    have kP := KP.out W HB.out
    clear KP
    unfold PkR at kP
    by_cases hbig : 100000 < l.length
    · obtain ⟨e1, e2⟩ := pkE_long l hbig
      have hb : (100000 : Int) < (n : Int) := by have := HN.out; omega
      rw [e1, e2] at kP
      clear e1 e2 hbig
      go_fit kP
      rintro e w5 ⟨v5, rfl, o5, b5⟩
      obtain ⟨a5, c5, rfl⟩ := row_form o5
      have HB5 : Hid (Below w.heap.size w w5) := HB.out.trans (b5.mono HB.out.size)
      clear kP o5 b5 HB
      go_wp2
      go_ret
      exact ⟨rfl, HB5.out⟩
    · have hb : ¬ (100000 : Int) < (n : Int) := by have := HN.out; omega
      cases hrs : rsB l
      · obtain ⟨e1, e2⟩ := pkE_fall l hbig hrs
        rw [e1, e2] at kP
        rw [hrs] at KR
        clear e1 e2 hbig hrs
        go_fit kP
        rintro e w5 ⟨v5, rfl, o5, b5⟩
        obtain ⟨a5, c5, rfl⟩ := row_form o5
        have HB5 : Hid (Below w.heap.size w w5) := HB.out.trans (b5.mono HB.out.size)
        have kR := KR.out w5 HB5.out
        clear kP o5 b5 HB KR
        go_wp2_with fail
        go_fit kR
        rintro e w6 ⟨rfl, b6⟩
        have HB6 : Hid (Below w.heap.size w w6) := HB5.out.trans (b6.mono HB5.out.size)
        clear kR b6 HB5
        go_wp2
        go_ret
        exact ⟨rfl, HB6.out⟩
      · obtain ⟨e1, e2⟩ := pkE_good l hbig hrs
        have hup := unp_pk l HOK.out e1
        have eU : upE (pk (frm l)) = 0 := by unfold upE; rw [hup]; rfl
        have eL : upL (pk (frm l)) = l.map nrm := by unfold upL; rw [hup]; rfl
        have hBy := pk_by (frm l) (bin_frm l)
        rw [e1, e2] at kP
        rw [hrs] at KR
        clear e1 e2 hbig hrs hup
        have HEU : Hid (upE (pk (frm l)) = 0 ∧ upL (pk (frm l)) = l.map nrm ∧ By (pk (frm l))) := ⟨eU, eL, hBy⟩
        clear eU eL hBy
        generalize pk (frm l) = pb at *
        go_fit kP
        rintro e w5 ⟨v5, rfl, o5, b5⟩
        obtain ⟨a5, c5, rfl⟩ := row_form o5
        have HB5 : Hid (Below w.heap.size w w5) := HB.out.trans (b5.mono HB.out.size)
        have kR := KR.out w5 HB5.out
        have HO5 : Hid (Im w5 a5 pb ∧ pb.length ≤ c5) := ⟨Im.of_row o5, row_cap o5⟩
        clear kP o5 b5 HB KR
        go_wp2_with fail
        go_fit kR
        rintro e w6 ⟨rfl, b6⟩
        have HB6 : Hid (Below w.heap.size w w6) := HB5.out.trans (b6.mono HB5.out.size)
        have HI6 : Hid (Im w6 a5 pb) := HO5.out.1.below b6
        have k7 := unpack_any a5 c5 pb w6 HI6.out HEU.out.2.2 (HS.out.below HB6.out) (HT.out.below HB6.out) HO5.out.2
        unfold UpR at k7
        rw [HEU.out.1, HEU.out.2.1, List.length_map, ← HN.out] at k7
        clear kR b6 HB5
        go_wp2_with fail
        go_fit k7
        rintro e w7 ⟨v7, rfl, o7, b7⟩
        obtain ⟨a7, c7, rfl⟩ := row_form o7
        have HB7 : Hid (Below w.heap.size w w7) := HB6.out.trans (b7.mono HB6.out.size)
        have HS7 : Hid (Sm w7 a7 (l.map nrm)) := Sm.of_row (c := c7) (S := w6.heap.size) (by rw [List.length_map, ← HN.out]; exact o7)
        have k8 := count_any a5 c5 pb w7 (HI6.out.below b7) HEU.out.2.2 (HS.out.below HB7.out) (HT.out.below HB7.out) HO5.out.2
        rw [HEU.out.1, HEU.out.2.1, List.length_map, ← HN.out] at k8
        clear k7 o7 b7 HB6 HI6
        go_wp2_with fail
        go_fit k8
        rintro e w8 ⟨rfl, b8⟩
        have HB8 : Hid (Below w.heap.size w w8) := HB7.out.trans (b8.mono HB7.out.size)
        have HS8 : Hid (Sm w8 a7 (l.map nrm)) := HS7.out.below b8
        have k9 := alike_true a7 a c7 c (l.map nrm) l true w8 HS8.out (HM.out.below HB8.out) (by rw [List.length_map]) (fun i x y hx hy => by rw [get_map hx hy]; exact alk_nrm y) (by rw [List.length_map]; exact HL.out)
        rw [List.length_map, ← HN.out] at k9
        clear k8 b8 HB7 HS7 HEU HO5
        go_wp2_with fail
        go_fit k9
        rintro e w9 ⟨rfl, b9⟩
        have HB9 : Hid (Below w.heap.size w w9) := HB8.out.trans (b9.mono HB8.out.size)
        have HS9 : Hid (Sm w9 a7 (l.map nrm)) := HS8.out.below b9
        have HG : Hid (∀ (i : Nat) x, (l.map nrm)[i]? = some x → x.s = true → x.v = 0) := fun i x h1 h2 => get_stale h1 h2
        have HNl : Hid (n = (l.map nrm).length) := by show _ = _; rw [List.length_map]; exact HN.out
        clear k9 b9 HB8 HS8
        generalize l.map nrm = l2 at *
        have r1 := quo_run w9
        have r2 := ord00
        have r3 := ordI0
        go_wp2_with fail
        go_loopw [15] (fun iv w' => ∃ i : Nat, iv = .int .i64 (i : Nat) ∧ i ≤ n ∧ w' = w9) (fun iv _ => n - (RowKit.intOf iv).toNat)
        case atStart => exact ⟨0, rfl, Nat.zero_le _, rfl⟩
        case round =>
          obtain ⟨i, rfl, hi, rfl⟩ := hrel
          by_cases hlt : i < n
          · have hii : (i : Int) < (n : Int) := by omega
            obtain ⟨x, hx⟩ : ∃ x, l2[i]? = some x := ⟨l2[i]'(by have := HNl.out; omega), List.getElem?_eq_getElem _⟩
            obtain ⟨g, o, rfl, hg, hcs⟩ : ∃ g o, a7 = some ⟨g, o, none⟩ ∧ g < wr.heap.size ∧ _ := by
              rcases HS9.out with h | h
              · have := HNl.out; rw [h] at this; simp at this; omega
              · exact h
            obtain ⟨x0, x1, x2⟩ := hcs i x hx
            clear x0 hcs
            cases hst : x.s
            · rw [hst] at x2
              clear x1 hx hst
              go_wp2
              exact ⟨⟨i + 1, by go_num, by omega, trivial⟩, by simp [RowKit.intOf]; omega⟩
            · rw [HG.out i x hx hst] at x1
              rw [hst] at x2
              clear hx hst
              go_wp2
              exact ⟨⟨i + 1, by go_num, by omega, trivial⟩, by simp [RowKit.intOf]; omega⟩
          · have hii : ¬ (i : Int) < (n : Int) := by omega
            go_wp2
            go_ret
            exact ⟨rfl, HB9.out⟩
end Go.Proofs.YtedlmjieclaojaaDoor
