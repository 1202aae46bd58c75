/- The reference's With. -/
import Derived.Test.YtjmninjaoemhjaaKp
namespace Go.Proofs.Ytjmninjaoemhjaa
open Go.RowKit Go.Lib

attribute [local go_sem] Oper.semAt_some

def gtB (x y : ByteArray) : Bool := !(Op.bytesLess x.toList y.toList || x.toList == y.toList)
/-- With, under way: the labels, and whether the new one is put. -/
def rwS (nm vl : ByteArray) (s : List Lb × Bool) (l : Lb) : List Lb × Bool :=
  if (l.1.toList == nm.toList) then s else if (!s.2 && gtB l.1 nm) then (s.1 ++ [(nm, vl)] ++ [l], true) else (s.1 ++ [l], s.2)
def rwF (f : Nat → Lb) (nm vl : ByteArray) : Nat → List Lb × Bool
  | 0 => ([], vl.toList.isEmpty)
  | i + 1 => rwS nm vl (rwF f nm vl i) (f i)
def rwL (f : Nat → Lb) (nm vl : ByteArray) (n : Nat) : List Lb := if (rwF f nm vl n).2 then (rwF f nm vl n).1 else (rwF f nm vl n).1 ++ [(nm, vl)]
theorem rwF_le (f : Nat → Lb) (nm vl : ByteArray) : ∀ i, (rwF f nm vl i).1.length ≤ i + (if (rwF f nm vl i).2 then 1 else 0)
  | 0 => by simp [rwF]
  | i + 1 => by
    have ih := rwF_le f nm vl i
    show (rwS nm vl (rwF f nm vl i) (f i)).1.length ≤ i + 1 + (if (rwS nm vl (rwF f nm vl i) (f i)).2 then 1 else 0)
    unfold rwS
    split
    · omega
    · split
      · rename_i h
        simp at h
        rw [h.1] at ih
        simp at ih ⊢
        omega
      · simp
        omega
set_option maxRecDepth 100000 in
set_option maxHeartbeats 8000000 in
theorem rwith_any (a : Option Addr) (f : Nat → Lb) (n c : Nat) (nm vl : ByteArray) (w : World) (hn : n ≤ 2199023255552) (hL : Lm w a f n) :
    Calls Try.prog 10 #[.slice a n c, .string nm, .string vl] w fun e w' => ∃ v, e = .returned v ∧ w'.ownsRow w.heap.size 25 2 v (rwL f nm vl n).length (lcL (rwL f nm vl n)) ∧ Below w.heap.size w w' := by
  have HL : Hid (Lm w a f n) := hL
  have hnI : (n : Int) ≤ 2199023255552 := by omega
  clear hL
  go_enter Try.func10, Try.ntmps10
  go_wp2
  go_loopw [7, 8, 9] (fun sv pv ivv w' => ∃ i : Nat, ivv = .int .i64 (i : Int) ∧ pv = .bool (rwF f nm vl i).2 ∧ i ≤ n ∧ Hid (w'.ownsRow w.heap.size 25 2 sv (rwF f nm vl i).1.length (lcL (rwF f nm vl i).1)) ∧ Hid (Below w.heap.size w w')) (fun _ _ ivv _ => n - (RowKit.intOf ivv).toNat)
  case atStart => exact ⟨0, rfl, by first | rfl | simp [rwF], by omega, World.ownsRow_nil _ _ _ _, Below.refl _ _⟩
  case round =>
    obtain ⟨i, rfl, rfl, hi, hrow, hbw⟩ := hrel
    by_cases hlt : i < n
    · have hii : (i : Int) < n := by omega
      obtain ⟨g, o, rfl, hg, y0, y1⟩ := HL.out.at i hlt
      obtain ⟨⟨x1, x2⟩, hx⟩ : ∃ x, f i = x := ⟨_, rfl⟩
      rw [hx] at y0 y1
      dsimp only at y0 y1
      have HC : Hid (∀ W, Below w.heap.size w W → W.cell? ⟨g, o + i * 2, none⟩ = some (.string x1) ∧ W.cell? ⟨g, o + i * 2 + 1, none⟩ = some (.string x2)) := fun W b => ⟨(b.cell (p := ⟨g, o + i * 2, none⟩) hg).trans y0, (b.cell (p := ⟨g, o + i * 2 + 1, none⟩) hg).trans y1⟩
      obtain ⟨c0, c1⟩ := HC.out wr hbw.out
      clear y0 y1
      have hle := rwF_le f nm vl i
      have HK : Hid (rwF f nm vl (i + 1) = rwS nm vl (rwF f nm vl i) (x1, x2)) := by unfold Hid; rw [← hx]; rfl
      obtain ⟨⟨ks, pt⟩, hks⟩ : ∃ s, rwF f nm vl i = s := ⟨_, rfl⟩
      rw [hks] at hrow HK hle ⊢
      dsimp only at hrow hle ⊢
      clear hx hks
      have hle2 : ks.length ≤ i + 1 := by
        cases pt
        · simp at hle; omega
        · simpa using hle
      have HR : Hid (wr.ownsRow w.heap.size 25 2 u7 ks.length (lcL ks)) := hrow
      have HB : Hid (Below w.heap.size w wr) := hbw
      have HAP : Hid (∀ W v ks', Below w.heap.size w W → W.ownsRow w.heap.size 25 2 v ks'.length (lcL ks') → ks'.length ≤ i + 3 → ∀ x, ∃ G cc w6, (Builtin.append_ #[26, 26] 26 #[v, .slice (some ⟨W.heap.size, 0, none⟩) 1 1]).run Try.prog (W.alloc (lbX x)) = .ok (.slice (some ⟨G, 0, none⟩) (ks'.length + 1) cc) w6 ∧ Below w.heap.size w w6 ∧ w6.ownsRow w.heap.size 25 2 (.slice (some ⟨G, 0, none⟩) (ks'.length + 1) cc) (ks' ++ [x]).length (lcL (ks' ++ [x]))) := fun W v ks' hb hr hl x => by
        obtain ⟨G, cc, w6, r, o6, kp6⟩ := ap_lb W w.heap.size v ks'.length (lcL ks') x hb.size (by omega) hr
        refine ⟨G, cc, w6, r, hb.trans (kp6.below hb.size (fun k hk e => by have := (own_bd hr k e).1; omega)), ?_⟩
        have e1 : lcL (ks' ++ [x]) = lcL ks' ++ l2 x := by simp [lcL]
        rw [e1, List.length_append]
        exact o6
      clear hrow hle
      cases heq : (x1.toList == nm.toList)
      · obtain ⟨G1, k1, w1, r1, b1, o1⟩ := HAP.out wr u7 ks HB.out HR.out (by omega) (x1, x2)
        have HE1 : Hid (Below w.heap.size w w1 ∧ w1.ownsRow w.heap.size 25 2 (.slice (some ⟨G1, 0, none⟩) (ks.length + 1) k1) (ks ++ [(x1, x2)]).length (lcL (ks ++ [(x1, x2)]))) := ⟨b1, o1⟩
        clear b1 o1
        cases pt
        · cases hls : Op.bytesLess x1.toList nm.toList
          · have HK2 : Hid (rwF f nm vl (i + 1) = (ks ++ [(nm, vl)] ++ [(x1, x2)], true)) := by unfold Hid; rw [HK.out]; unfold rwS gtB; simp only [heq, hls]; rfl
            obtain ⟨G2, k2, w2, r2, b2, o2⟩ := HAP.out wr u7 ks HB.out HR.out (by omega) (nm, vl)
            obtain ⟨G3, k3, w3, r3, b3, o3⟩ := HAP.out w2 _ (ks ++ [(nm, vl)]) b2 o2 (by simp; omega) (x1, x2)
            have el : (ks ++ [(nm, vl)]).length = ks.length + 1 := by simp
            rw [el] at r3 o3
            obtain ⟨d0, d1⟩ := HC.out w2 b2
            have HE3 : Hid (Below w.heap.size w w3 ∧ w3.ownsRow w.heap.size 25 2 (.slice (some ⟨G3, 0, none⟩) (ks.length + 1 + 1) k3) (ks ++ [(nm, vl)] ++ [(x1, x2)]).length (lcL (ks ++ [(nm, vl)] ++ [(x1, x2)]))) := ⟨b3, o3⟩
            clear b2 o2 b3 o3 r1 HE1 HAP HC HK HR
            go_wp2_with (first | (at_builtin; refine wpList_append_run rfl (.tmp 36) (.tmp 40) 26 26 rfl _ _ rfl rfl r2 ?_) | (at_builtin; refine wpList_append_run rfl (.tmp 42) (.tmp 47) 26 26 rfl _ _ rfl rfl r3 ?_))
            exact ⟨⟨i + 1, by go_num, by rw [HK2.out], by omega, by unfold Hid; rw [HK2.out]; exact HE3.out.2, HE3.out.1⟩, by simp [RowKit.intOf]; omega⟩
          · have HK2 : Hid (rwF f nm vl (i + 1) = (ks ++ [(x1, x2)], false)) := by unfold Hid; rw [HK.out]; unfold rwS gtB; simp only [heq, hls]; rfl
            clear HAP HC HK HR
            go_wp2_with (at_builtin; refine wpList_append_run rfl (.tmp 42) (.tmp 47) 26 26 rfl _ _ rfl rfl r1 ?_)
            exact ⟨⟨i + 1, by go_num, by rw [HK2.out], by omega, by unfold Hid; rw [HK2.out]; exact HE1.out.2, HE1.out.1⟩, by simp [RowKit.intOf]; omega⟩
        · have HK2 : Hid (rwF f nm vl (i + 1) = (ks ++ [(x1, x2)], true)) := by unfold Hid; rw [HK.out]; unfold rwS; simp only [heq]; rfl
          clear HAP HC HK HR
          go_wp2_with (at_builtin; refine wpList_append_run rfl (.tmp 42) (.tmp 47) 26 26 rfl _ _ rfl rfl r1 ?_)
          exact ⟨⟨i + 1, by go_num, by rw [HK2.out], by omega, by unfold Hid; rw [HK2.out]; exact HE1.out.2, HE1.out.1⟩, by simp [RowKit.intOf]; omega⟩
      · have HK2 : Hid (rwF f nm vl (i + 1) = (ks, pt)) := by unfold Hid; rw [HK.out]; unfold rwS; simp only [heq]; rfl
        clear HAP HC HK
        go_wp2
        exact ⟨⟨i + 1, by go_num, by rw [HK2.out], by omega, by unfold Hid; rw [HK2.out]; exact HR.out, HB.out⟩, by simp [RowKit.intOf]; omega⟩
    · obtain rfl : i = n := by omega
      have hii : ¬ (i : Int) < i := by omega
      have hle := rwF_le f nm vl i
      obtain ⟨⟨ks, pt⟩, hks⟩ : ∃ s, rwF f nm vl i = s := ⟨_, rfl⟩
      have HW : Hid (rwL f nm vl i = if pt then ks else ks ++ [(nm, vl)]) := by unfold Hid rwL; rw [hks]
      rw [hks] at hrow hle ⊢
      dsimp only at hrow hle ⊢
      clear hks
      cases pt
      · obtain ⟨G, cc, w6, r, o6, kp6⟩ := ap_lb wr w.heap.size u7 ks.length (lcL ks) (nm, vl) hbw.out.size (by simp at hle; omega) hrow.out
        have HE : Hid (Below w.heap.size w w6 ∧ w6.ownsRow w.heap.size 25 2 (.slice (some ⟨G, 0, none⟩) (ks.length + 1) cc) (rwL f nm vl i).length (lcL (rwL f nm vl i))) := by
          refine ⟨hbw.out.trans (kp6.below hbw.out.size (fun k hk e => by have := (own_bd hrow.out k e).1; omega)), ?_⟩
          rw [HW.out]
          have e1 : lcL (ks ++ [(nm, vl)]) = lcL ks ++ l2 (nm, vl) := by simp [lcL]
          simp only [Bool.false_eq_true, if_false]
          rw [e1, List.length_append]
          exact o6
        clear hrow hbw o6 kp6 HW hle
        go_wp2_with (at_builtin; refine wpList_append_run rfl (.tmp 51) (.tmp 55) 26 26 rfl _ _ rfl rfl r ?_)
        go_ret
        exact ⟨_, rfl, HE.out.2, HE.out.1⟩
      · have HE : Hid (Below w.heap.size w wr ∧ wr.ownsRow w.heap.size 25 2 u7 (rwL f nm vl i).length (lcL (rwL f nm vl i))) := ⟨hbw.out, by rw [HW.out]; exact hrow.out⟩
        clear hrow hbw HW hle
        go_wp2
        go_ret
        exact ⟨_, rfl, HE.out.2, HE.out.1⟩
end Go.Proofs.Ytjmninjaoemhjaa
