/- A bundle of texts. -/
import Derived.Test.YtbciclnffokjjaaBm17
import Derived.OwnWalk
import Derived.Shelf.LaysM
import Derived.Shelf.Strconv.Clone
/- Code: alternatives. -/
namespace Go.Proofs.Ytbciclnffokjjaa
open Go.RowKit

/-- Where the jumps of the first i alternatives stand. -/
def jsL (F : Nat → Int → List Ia) (k : Nat) (i : Nat) : List Nat := (List.range i).map fun q => k + ((altG F (fun _ => 0) (q + 1) k).length - 1)
theorem jsL_len (F : Nat → Int → List Ia) (k i : Nat) : (jsL F k i).length = i := by simp [jsL]
theorem jsL_succ (F : Nat → Int → List Ia) (k i : Nat) : jsL F k (i + 1) = jsL F k i ++ [k + ((altG F (fun _ => 0) (i + 1) k).length - 1)] := by
  unfold jsL
  rw [List.range_succ, List.map_append]
  rfl
theorem jsL_get (F : Nat → Int → List Ia) (k i q : Nat) (h : q < i) : (jc (jsL F k i))[q]? = some (.int .i64 ((k + ((altG F (fun _ => 0) (q + 1) k).length - 1) : Nat) : Int)) := by
  unfold jc jsL
  simp [List.getElem?_range h]
theorem Aj.jform {Z : Nat → Prop} {S B : Nat} {v v' jv : Value} {c l : List Ia} {w0 w : World} {js : List Nat} {f' : Nat → In} (h : Aj Z S B v c w0 l jv js v' f' w) : ∃ a cc, jv = .slice a js.length cc := by
  rcases h.row.2 with ⟨e, e2⟩ | ⟨g, cc, cur, e, _⟩
  · exact ⟨none, 0, by rw [e, e2]⟩
  · exact ⟨_, cc, e⟩

set_option maxHeartbeats 4000000 in
set_option maxRecDepth 100000 in
theorem alts_any (m : Nat) (hIH : NodeC m) (Z : Nat → Prop) (T S B : Nat) (v : Value) (f : Nat → In) (c : List Ia) (t : Tr) (w : World) (hv : Cd Z S w B v f c) (ht : Tat T w t) (hT : T ≤ S) (hZ : ∀ k, Z k → T ≤ k ∧ k < w.heap.size) (hw : WF (m + 1) t) (hS : S ≤ w.heap.size) (h2 : 2 ≤ (t []).kn) (hn : c.length + (altC (fun j b => cod m (kid t j) b) ((t []).kn - 1) c.length).length ≤ 100000) :
    Calls Try.prog 70 #[.pointer (some ⟨B, 0, none⟩), .slice (t []).ka (t []).kn (t []).kc] w (Cp Z S B v c (altC (fun j b => cod m (kid t j) b) ((t []).kn - 1) c.length) w) := by
  obtain ⟨F, hF⟩ : ∃ F : Nat → Int → List Ia, F = fun j b => cod m (kid t j) b := ⟨_, rfl⟩
  have HFJ : Hid (∀ j b, cod m (kid t j) b = F j b) := fun j b => by rw [hF]
  rw [← hF] at hn ⊢
  have hkc := ht.node.2.2.2
  have hkn := hw.2.1
  obtain ⟨g0, o0, hka, hg0, _⟩ := ht.kids.at 0 (by omega)
  have A0 : Hid (Aj Z S B v c w [] (.slice none 0 0) [] v f w) := Aj.beg hv
  have HV : Hid (Cd Z S w B v f c) := hv
  have HT : Hid (Tat T w t) := ht
  have HTS : Hid (T ≤ S) := hT
  have HZ : Hid (∀ k, Z k → T ≤ k ∧ k < w.heap.size) := hZ
  have HWF : Hid (∀ j, j < (t []).kn → WF m (kid t j)) := hw.2.2
  have HS : Hid (S ≤ w.heap.size) := hS
  have IH : Hid (NodeC m) := hIH
  have HKA : Hid ((t []).ka = some ⟨g0, o0, none⟩) := hka
  obtain ⟨L, hL⟩ : ∃ L, (t []).kn = L + 1 := ⟨(t []).kn - 1, by omega⟩
  have HKN : Hid ((t []).kn = L + 1) := hL
  rw [hka]
  obtain ⟨KC, hKC⟩ : ∃ KC, (t []).kc = KC := ⟨_, rfl⟩
  rw [hKC] at hkc ⊢
  rw [hL] at hn hkc hkn h2 ⊢
  rw [Nat.add_sub_cancel] at hn ⊢
  obtain ⟨e, he⟩ : ∃ e : Int, e = (c.length : Int) + (altF F 0 L c.length).length + (F L (c.length + (altF F 0 L c.length).length)).length := ⟨_, rfl⟩
  have HC : Hid (altC F L c.length = altG F (fun _ => e) L c.length ++ F L (c.length + (altF F 0 L c.length).length)) := by
    show altC F L c.length = _
    unfold altC
    rw [altG_eq, ← he]
  have HE : Hid (e = (c.length : Int) + (altF F 0 L c.length).length + (F L (c.length + (altF F 0 L c.length).length)).length) := he
  have HNL : Hid (c.length + (altG F (fun _ => 0) L c.length).length + (F L (c.length + (altF F 0 L c.length).length)).length ≤ 100000) := by
    rw [HC.out, List.length_append, altG_len F (fun _ => e) (fun _ => 0)] at hn
    show _ ≤ _
    omega
  have hcl : ((c.length : Nat) : Int) ≤ 100000 := by have := HNL.out; omega
  have hLI : (L : Int) + 1 ≤ 8194 := by omega
  have hkcI : (L : Int) + 1 ≤ KC := by omega
  clear hv ht hT hZ hw hS hn hIH hka hL hKC hkc hkn h2 he hF hg0
  push_cast
  go_enter Try.func70, Try.ntmps70
  go_wp2_with fail
  go_loopw [5, 18] (fun jv ivv w' => ∃ i : Nat, ivv = .int .i64 (i : Int) ∧ i ≤ L ∧ ∃ v' f', Hid (Aj Z S B v c w (altG F (fun _ => 0) i c.length) jv (jsL F c.length i) v' f' w')) (fun _ ivv _ => L - (RowKit.intOf ivv).toNat)
  case atStart => exact ⟨0, rfl, by omega, v, f, A0⟩
  case round =>
    obtain ⟨i, rfl, hi, v', f', hA⟩ := hrel
    obtain ⟨ja, jcc, hjv⟩ := hA.out.jform
    rw [jsL_len] at hjv
    have htr := HT.out.below ((HV.out.low HS.out hA.out.kp).mono HTS.out)
    have hmon := altG_mono F (fun _ => 0) c.length hi
    by_cases hlt : i < L
    · have hii : (i : Int) < L := by omega
      obtain ⟨g1, o1, hka1, _, hcs⟩ := htr.kids.at i (by rw [HKN.out]; omega)
      rw [HKA.out] at hka1
      cases hka1
      have hsuc := altG_succ F (fun _ => 0) c.length i
      have hmon1 := altG_mono F (fun _ => 0) c.length (i := i + 1) hlt
      have hal : Below wr.heap.size wr (wr.alloc (ndX (t [i]))) := (Below.refl _ wr).alloc (Nat.le_refl _) _
      have hcN := ndX_cells (w := wr) (t [i]) (Below.refl _ _)
      obtain ⟨l, hl⟩ : ∃ l, l = altG F (fun _ => 0) i c.length := ⟨_, rfl⟩
      rw [← hl] at hA hsuc hmon
      have A1 := hA.out.below hal
      have HKW : Hid (wr.heap.size ≤ (wr.alloc (ndX (t [i]))).heap.size) := hal.size
      obtain ⟨P0, hP0⟩ : ∃ P0, c.length + l.length = P0 := ⟨_, rfl⟩
      have HP0 : Hid (c.length + l.length = P0) := hP0
      have kE1 := A1.len
      rw [hP0] at kE1
      have hb0 : c.length + l.length + 2 + (F i ((c.length : Int) + l.length + 1)).length ≤ 100000 := by have := HNL.out; omega
      have kS1 := A1.step HS.out (by omega) 3 0 0 0
      have HKM : Hid (¬ Mv B v' wr.heap.size) := fun x => by have := (hA.out.cd.base _ x).2; omega
      have HNX : Hid (∀ w2, Kp (Mv B v') (wr.alloc (ndX (t [i]))) w2 → Cs w2 wr.heap.size 0 (t [i]) ∧ Tat T w2 (kid t i)) := fun w2 k => by
        refine ⟨hcN.kp k HKM.out, ?_⟩
        have hlow := A1.cd.low (Nat.le_trans HS.out (Nat.le_trans hA.out.size hal.size)) k
        exact ((htr.below (hal.mono (Nat.le_trans HTS.out (Nat.le_trans HS.out hA.out.size)))).below (hlow.mono HTS.out)).kid i (by rw [HKN.out]; omega)
      have HL : Hid (l = altG F (fun _ => 0) i c.length) := hl
      have HB0 : Hid (c.length + l.length + 2 + (F i ((c.length : Int) + l.length + 1)).length ≤ 100000) := hb0
      have HLT : Hid (i < L) := hlt
      have hP0I : (P0 : Int) ≤ 100000 := by omega
      obtain ⟨p0, p1, p2, p3, p4, p5, p6, p7, p8⟩ := hcs
      generalize hdk : t [i] = dk at *
      have HDK : Hid (t [i] = dk) := hdk
      clear htr hmon hsuc hmon1 hal hcN hl hP0 hdk A1 hb0
      subst hjv
      go_wp2_with fail
      go_fit kE1
      rintro e1 w1 ⟨rfl, rfl⟩
      go_wp2_with fail
      go_fit kS1
      rintro e1 w2 ⟨rfl, ⟨v2, f2, A2⟩, kp2⟩
      obtain ⟨cs2, t2⟩ := HNX.out w2 kp2
      obtain ⟨q0, q1, q2, q3, q4, q5, q6, q7, q8⟩ := cs2.zero
      have hlen2 : (c.length : Int) + ((l ++ [(⟨3, (c.length : Int) + l.length + 1, 0, 0, []⟩ : Ia)]).length : Nat) = (c.length : Int) + l.length + 1 := by simp; omega
      have kN := A2.node IH.out HS.out t2 HTS.out HZ.out (HWF.out i (by rw [HKN.out]; have := HLT.out; omega)) (by rw [hlen2, HFJ.out]; have := HB0.out; simp; omega)
      rw [hlen2, HFJ.out] at kN
      change Calls Try.prog 47 #[.pointer (some ⟨B, 0, none⟩), ndV (t [i])] w2 _ at kN
      rw [HDK.out] at kN
      clear p0 p1 p2 p3 p4 p5 p6 p7 p8 kE1 kS1 HNX cs2 t2 kp2 A2
      go_wp2_with fail
      go_fit kN
      rintro e1 w3 ⟨rfl, ⟨v3, f3, A3⟩, _⟩
      clear kN q0 q1 q2 q3 q4 q5 q6 q7 q8
      obtain ⟨k, hk⟩ : ∃ k, k = F i ((c.length : Int) + l.length + 1) := ⟨_, rfl⟩
      rw [← hk] at A3
      have HB1 : Hid (c.length + l.length + 2 + k.length ≤ 100000) := by rw [hk]; exact HB0.out
      obtain ⟨P3, hP3⟩ : ∃ P3, c.length + (l ++ [(⟨3, (c.length : Int) + l.length + 1, 0, 0, []⟩ : Ia)] ++ k).length = P3 := ⟨_, rfl⟩
      have kE3 := A3.len
      rw [hP3] at kE3
      obtain ⟨gj, cj, w4, r4, o4, k4, hg4⟩ := append_p w3 w.heap.size (.slice ja i jcc) (jsL F c.length i) P3 A3.size (by rw [jsL_len]; omega) A3.row
      have A4 := A3.push o4 k4 hg4
      rw [jsL_len] at r4 A4
      have HJ : Hid (jsL F c.length (i + 1) = jsL F c.length i ++ [P3]) := by
        show jsL F c.length (i + 1) = _
        rw [jsL_succ, altG_succ, ← HL.out, ← hk, ← hP3]
        congr 2
        simp
        omega
      rw [← HJ.out] at A4
      have hP3I : (P3 : Int) ≤ 100000 := by have := HB1.out; rw [← hP3]; simp; omega
      have kP := A4.put HS.out (by have := HB1.out; simp; omega) 10 0 0 0
      have HK : Hid (k = F i ((c.length : Int) + l.length + 1)) := hk
      clear A3 A4 o4 k4 hg4 hP3 hk
      go_wp2_with fail
      go_fit kE3
      rintro e1 w3' ⟨rfl, rfl⟩
      go_wp2_with (at_builtin; refine wpList_append_run rfl (.tmp 30) (.tmp 33) 57 57 rfl _ _ rfl rfl r4 ?_)
      go_fit kP
      rintro e1 w5 ⟨rfl, ⟨v5, f5, A5⟩, _⟩
      clear kP kE3 r4
      obtain ⟨g, cc, rfl⟩ := A5.form (by simp; omega)
      have A5' := A5.below (Below.refl _ w5).drew
      have hget : (l ++ [(⟨3, (c.length : Int) + l.length + 1, 0, 0, []⟩ : Ia)] ++ k ++ [(⟨10, 0, 0, 0, []⟩ : Ia)])[l.length]? = some ⟨3, (c.length : Int) + l.length + 1, 0, 0, []⟩ := by simp
      obtain ⟨N5, hN5⟩ : ∃ N5, c.length + (l ++ [(⟨3, (c.length : Int) + l.length + 1, 0, 0, []⟩ : Ia)] ++ k ++ [(⟨10, 0, 0, 0, []⟩ : Ia)]).length = N5 := ⟨_, rfl⟩
      have kE5 := A5'.len
      rw [hN5] at kE5
      obtain ⟨i1, i2, i3, i4⟩ := A5'.inst hget
      have A6 := A5'.patch l.length 2 (.int .i64 (N5 : Int)) _ ⟨3, (c.length : Int) + l.length + 1, (N5 : Int), 0, []⟩ { f5 (c.length + l.length) with alt := (N5 : Int) } hget (by omega) rfl ⟨i1, i2, rfl, i4⟩ ⟨rfl, rfl, rfl⟩
      obtain ⟨z1, z2⟩ := A5.field l.length 2 (by simp) (by omega)
      have c5 := A5.cd.c0
      rw [show (l ++ [(⟨3, (c.length : Int) + l.length + 1, 0, 0, []⟩ : Ia)] ++ k ++ [(⟨10, 0, 0, 0, []⟩ : Ia)]).set l.length ⟨3, (c.length : Int) + l.length + 1, (N5 : Int), 0, []⟩ = altG F (fun _ => 0) (i + 1) c.length by
        rw [altG_def, ← HL.out, ← HK.out, ← hN5]
        simp
        omega] at A6
      rw [List.length_append, hN5] at c5 A6
      rw [HP0.out] at z1 z2 A6
      have hN5I : (N5 : Int) ≤ 100000 := by have := HB1.out; rw [← hN5]; simp; omega
      have hPN : (P0 : Int) < N5 := by rw [← hN5, ← HP0.out]; simp; omega
      have HA6 : Hid _ := A6
      clear A5 A5' hget hN5 i1 i2 i3 i4 A6
      go_wp2_with fail
      go_region_with (go_at_call 88; go_fit kE5; rintro e1 w6 ⟨rfl, rfl⟩)
      all_goals go_wp2
      all_goals exact ⟨⟨i + 1, by go_num, HLT.out, _, _, HA6⟩, by simp [RowKit.intOf]; omega⟩
    · have hii : ¬ (i : Int) < L := by omega
      obtain rfl : i = L := by omega
      obtain ⟨g1, o1, hka1, _, hcs⟩ := htr.kids.at i (by rw [HKN.out]; omega)
      rw [HKA.out] at hka1
      cases hka1
      have hFl : altF F 0 i c.length = altG F (fun _ => 0) i c.length := altG_eq F 0 c.length i
      rw [hFl] at HC HE HNL
      have kN := hA.out.node IH.out HS.out (htr.kid i (by rw [HKN.out]; omega)) HTS.out HZ.out (HWF.out i (by rw [HKN.out]; omega)) (by rw [HFJ.out]; exact HNL.out)
      rw [HFJ.out] at kN
      change Calls Try.prog 47 #[.pointer (some ⟨B, 0, none⟩), ndV (t [i])] wr _ at kN
      obtain ⟨lc, hlc⟩ : ∃ lc, lc = F i ((c.length : Int) + (altG F (fun _ => 0) i c.length).length) := ⟨_, rfl⟩
      rw [← hlc] at kN HC HE HNL
      obtain ⟨p0, p1, p2, p3, p4, p5, p6, p7, p8⟩ := hcs
      generalize t [i] = dk at *
      subst hjv
      have hiI : (i : Int) < (i : Int) + 1 := by omega
      clear htr hmon hFl hlc hlt
      go_wp2_with fail
      go_fit kN
      rintro e1 w3 ⟨rfl, ⟨v3, f3, A3⟩, _⟩
      clear kN p0 p1 p2 p3 p4 p5 p6 p7 p8
      obtain ⟨N, hN⟩ : ∃ N, c.length + ((altG F (fun _ => 0) i c.length).length + lc.length) = N := ⟨_, rfl⟩
      have HN : Hid (∀ q, (c ++ (altG F (fun x => if x < q then e else 0) i c.length ++ lc)).length = N) := fun q => by
        rw [List.length_append, List.length_append, altG_len F (fun x => if x < q then e else 0) (fun _ => 0)]
        exact hN
      have HEN : Hid (e = (N : Int)) := by rw [HE.out, ← hN]; show _ = _; push_cast; omega
      have hNI : (N : Int) ≤ 100000 := by have := HNL.out; rw [← hN]; omega
      have hrow := A3.row
      rw [jsL_len] at hrow
      have e0 : altG F (fun _ => 0) i c.length = altG F (fun x => if x < 0 then e else 0) i c.length := altG_congr _ _ _ _ _ (fun q _ => by simp)
      rw [e0] at A3
      have hN0 := HN.out 0
      have HA3 : Hid (Aj Z S B v c w (altG F (fun x => if x < 0 then e else 0) i c.length ++ lc) (.slice ja i jcc) (jsL F c.length i) v3 f3 w3) := A3
      clear hN e0 A3 hN0 hrow
      go_wp2_with fail
      go_loopw [56] (fun ivv w' => ∃ q : Nat, ivv = .int .i64 (q : Int) ∧ q ≤ i ∧ ∃ f', Hid (Aj Z S B v c w (altG F (fun x => if x < q then e else 0) i c.length ++ lc) (.slice ja i jcc) (jsL F c.length i) v3 f' w')) (fun ivv _ => i - (RowKit.intOf ivv).toNat)
      case atStart => exact ⟨0, rfl, by omega, f3, HA3⟩
      case round =>
        obtain ⟨q, rfl, hq, f4, hB⟩ := hrel
        by_cases hqi : q < i
        · have hqq : (q : Int) < i := by omega
          have hrow := hB.out.row
          rw [jsL_len] at hrow
          obtain ⟨gj, cj, _, ej, _⟩ := hrow.2.resolve_left (fun h => by omega)
          cases ej
          have j0 := World.ownsRow.cellAt hrow q (by omega)
          rw [jsL_get F c.length i q hqi] at j0
          obtain ⟨P, hP⟩ : ∃ P, (altG F (fun x => if x < q then e else 0) (q + 1) c.length).length = P + 1 := ⟨_, (Nat.succ_pred_eq_of_pos (by rw [altG_succ]; omega)).symm⟩
          have hP' : (altG F (fun _ => 0) (q + 1) c.length).length - 1 = P := by rw [altG_len F (fun _ => 0) (fun x => if x < q then e else 0), hP]; rfl
          rw [hP'] at j0
          obtain ⟨s1, s2⟩ := altG_set F (fun x => if x < q then e else 0) c.length (N : Int) q P hP i hqi
          have hPl : P < (altG F (fun x => if x < q then e else 0) i c.length).length := (List.getElem?_eq_some_iff.1 s1).1
          have s2' : altG F (up (fun x => if x < q then e else 0) q (N : Int)) i c.length = altG F (fun x => if x < q + 1 then e else 0) i c.length := altG_congr _ _ _ _ _ (fun x _ => by
            by_cases hx : x = q
            · subst hx; rw [up_same, if_pos (by omega), HEN.out]
            · rw [up_other _ _ _ _ hx]
              by_cases hx2 : x < q
              · rw [if_pos hx2, if_pos (by omega)]
              · rw [if_neg hx2, if_neg (by omega)])
          obtain ⟨g, cc, hv3⟩ := hB.out.form (by rw [List.length_append]; omega)
          have hB1 := hB.out.below (Below.refl _ wr).drew
          rw [hv3] at hB1
          have hget : (altG F (fun x => if x < q then e else 0) i c.length ++ lc)[P]? = some ⟨10, 0, 0, 0, []⟩ := by rw [List.getElem?_append_left hPl, s1]; simp
          obtain ⟨i1, i2, i3, i4⟩ := hB1.inst hget
          have A6 := hB1.patch P 1 (.int .i64 (N : Int)) _ ⟨10, (N : Int), 0, 0, []⟩ { f4 (c.length + P) with out := (N : Int) } hget (by omega) rfl ⟨i1, rfl, i3, i4⟩ ⟨rfl, rfl, rfl⟩
          rw [List.set_append_left _ _ hPl, s2, s2', ← hv3] at A6
          have hB0 := hB.out
          rw [hv3] at hB0
          obtain ⟨z1, z2⟩ := hB0.field P 1 (by rw [List.length_append]; omega) (by omega)
          have c5 := hB0.cd.c0
          rw [HN.out q] at c5 hv3
          have kE5 := hB1.len
          have hlN : c.length + (altG F (fun x => if x < q then e else 0) i c.length ++ lc).length = N := by have := HN.out q; rw [List.length_append] at this; exact this
          rw [hlN] at kE5
          obtain ⟨PP, hPP⟩ : ∃ PP, c.length + P = PP := ⟨_, rfl⟩
          rw [hPP] at j0 z1 z2 A6
          have hPN : (PP : Int) < N := by rw [← hPP, ← hlN, List.length_append]; push_cast; omega
          have HA6 : Hid _ := A6
          have HQI : Hid (q < i) := hqi
          clear hB1 hB0 A6 hget s1 s2 s2' hrow i1 i2 i3 i4 hP hP' hPl hlN hPP
          go_wp2_with fail
          go_region_with (go_at_call 88; go_fit kE5; rintro e1 w6 ⟨rfl, rfl⟩)
          all_goals go_wp2
          all_goals exact ⟨⟨q + 1, by go_num, HQI.out, _, HA6⟩, by simp [RowKit.intOf]; omega⟩
        · have hqq : ¬ (q : Int) < i := by omega
          obtain rfl : q = i := by omega
          go_wp2
          go_end0
          rw [HC.out, altG_congr F (fun _ => e) (fun x => if x < q then e else 0) c.length q (fun x hx => by rw [if_pos hx])]
          exact Rn.done hB.out.rn
end Go.Proofs.Ytbciclnffokjjaa
/- Code: node. -/
namespace Go.Proofs.Ytbciclnffokjjaa
open Go.RowKit

set_option maxHeartbeats 1000000 in
set_option maxRecDepth 100000 in
theorem nodeC_alt (m : Nat) (hIH : NodeC m) (Z : Nat → Prop) (T S B : Nat) (v : Value) (f : Nat → In) (c : List Ia) (t : Tr) (w : World) (hv : Cd Z S w B v f c) (ht : Tat T w t) (hT : T ≤ S) (hZ : ∀ k, Z k → T ≤ k ∧ k < w.heap.size) (hw : WF (m + 1) t) (hS : S ≤ w.heap.size) (hn : c.length + (altC (fun j b => cod m (kid t j) b) ((t []).kn - 1) c.length).length ≤ 100000) (hk : (t []).kind = 5) :
    Calls Try.prog 47 #[.pointer (some ⟨B, 0, none⟩), ndV (t [])] w (Cp Z S B v c (altC (fun j b => cod m (kid t j) b) ((t []).kn - 1) c.length) w) := by
  have hb : Below w.heap.size w (w.alloc (ndX (t []))) := (Below.refl _ w).alloc (Nat.le_refl _) _
  have k := alts_any m hIH Z T S B v f c t _ (hv.below hb) (ht.below (hb.mono (Nat.le_trans hT hS))) hT (fun k h => ⟨(hZ k h).1, Nat.lt_of_lt_of_le (hZ k h).2 hb.size⟩) hw (Nat.le_trans hS hb.size) (ndB_row hw.1.1 (.inr hk)) hn
  have HB : Hid (∀ l e w2, Cp Z S B v c l (w.alloc (ndX (t []))) e w2 → Cp Z S B v c l w e w2) := fun l e w2 h => Cp.from hb h
  clear hv ht hT hZ hS hn hb hw hIH
  generalize altC (fun j b => cod m (kid t j) b) ((t []).kn - 1) c.length = l at *
  generalize t [] = d at *
  have t2 : (d.kind == 2) = false := by simp; omega
  have t3 : (d.kind == 3) = false := by simp; omega
  have t4 : (d.kind == 4) = false := by simp; omega
  have t5 : (d.kind == 5) = true := by simp; omega
  clear hk
  go_enter Try.func47, Try.ntmps47
  go_wp2_with fail
  go_fit k
  rintro e w2 h2
  have H2 : Hid _ := HB.out _ _ _ h2
  have he := h2.1
  clear h2 HB
  subst he
  go_wp2
  go_end0
  exact ⟨rfl, H2.out.2⟩

set_option maxHeartbeats 1000000 in
set_option maxRecDepth 100000 in
theorem nodeC_rep (m : Nat) (hIH : NodeC m) (Z : Nat → Prop) (T S B : Nat) (v : Value) (f : Nat → In) (c : List Ia) (t : Tr) (w : World) (hv : Cd Z S w B v f c) (ht : Tat T w t) (hT : T ≤ S) (hZ : ∀ k, Z k → T ≤ k ∧ k < w.heap.size) (hw : WF (m + 1) t) (hS : S ≤ w.heap.size) (hn : c.length + (repC (cod m (kid t 0) 0) (t []).mn (t []).mx (t []).lz c.length).length ≤ 100000) (hk : (t []).kind = 6) :
    Calls Try.prog 47 #[.pointer (some ⟨B, 0, none⟩), ndV (t [])] w (Cp Z S B v c (repC (cod m (kid t 0) 0) (t []).mn (t []).mx (t []).lz c.length) w) := by
  have hb : Below w.heap.size w (w.alloc (ndX (t []))) := (Below.refl _ w).alloc (Nat.le_refl _) _
  have k : Calls Try.prog 71 #[.pointer (some ⟨B, 0, none⟩), ndV (t [])] (w.alloc (ndX (t []))) (Cp Z S B v c (repC (cod m (kid t 0) 0) (t []).mn (t []).mx (t []).lz c.length) (w.alloc (ndX (t [])))) := by
    by_cases h0 : (t []).mx = 0
    · have e : repC (cod m (kid t 0) 0) (t []).mn (t []).mx (t []).lz c.length = [] := by unfold repC; rw [if_pos h0]
      rw [e]
      exact repeat_none Z S B v f c (t []) _ (hv.below hb) h0
    · exact repeat_some m hIH Z T S B v f c t _ (hv.below hb) (ht.below (hb.mono (Nat.le_trans hT hS))) hT (fun k h => ⟨(hZ k h).1, Nat.lt_of_lt_of_le (hZ k h).2 hb.size⟩) hw (Nat.le_trans hS hb.size) hn hk h0
  have HB : Hid (∀ l e w2, Cp Z S B v c l (w.alloc (ndX (t []))) e w2 → Cp Z S B v c l w e w2) := fun l e w2 h => Cp.from hb h
  clear hv ht hT hZ hS hn hb hw hIH
  generalize repC (cod m (kid t 0) 0) (t []).mn (t []).mx (t []).lz c.length = l at *
  generalize t [] = d at *
  have t2 : (d.kind == 2) = false := by simp; omega
  have t3 : (d.kind == 3) = false := by simp; omega
  have t4 : (d.kind == 4) = false := by simp; omega
  have t5 : (d.kind == 5) = false := by simp; omega
  have t6 : (d.kind == 6) = true := by simp; omega
  clear hk
  go_enter Try.func47, Try.ntmps47
  go_wp2_with fail
  go_fit k
  rintro e w2 h2
  have H2 : Hid _ := HB.out _ _ _ h2
  have he := h2.1
  clear h2 HB
  subst he
  go_wp2
  go_end0
  exact ⟨rfl, H2.out.2⟩

theorem nodeC_any : ∀ m, NodeC m
  | 0 => fun _ _ _ _ _ _ _ _ _ _ _ _ _ h => by cases h
  | m + 1 => by
    intro Z T S B v f c t w hv ht hT hZ hw hS hn
    have hk := ndB_kind hw.1.1
    unfold cod at hn ⊢
    by_cases k2 : (t []).kind = 2
    · rw [if_pos k2] at hn ⊢
      exact nodeC_lit Z T S B v f c t w hv hZ hS (by simpa using hn) k2
    rw [if_neg k2] at hn ⊢
    by_cases k3 : (t []).kind = 3
    · rw [if_pos k3] at hn ⊢
      exact nodeC_class Z T S B v f c t w hv ht hT hZ hS (by simpa using hn) k3
    rw [if_neg k3] at hn ⊢
    by_cases k4 : (t []).kind = 4
    · rw [if_pos k4] at hn ⊢
      exact nodeC_cat m (nodeC_any m) Z T S B v f c t w hv ht hT hZ hw hS hn k4
    rw [if_neg k4] at hn ⊢
    by_cases k5 : (t []).kind = 5
    · rw [if_pos k5] at hn ⊢
      exact nodeC_alt m (nodeC_any m) Z T S B v f c t w hv ht hT hZ hw hS hn k5
    rw [if_neg k5] at hn ⊢
    by_cases k6 : (t []).kind = 6
    · rw [if_pos k6] at hn ⊢
      exact nodeC_rep m (nodeC_any m) Z T S B v f c t w hv ht hT hZ hw hS hn k6
    rw [if_neg k6] at hn ⊢
    by_cases k7 : (t []).kind = 7
    · rw [if_pos k7] at hn ⊢
      exact nodeC_group m (nodeC_any m) Z T S B v f c t w hv ht hT hZ hw hS (by simp at hn; omega) k7
    rw [if_neg k7] at hn ⊢
    by_cases k13 : (t []).kind = 13
    · rw [if_pos k13] at hn ⊢
      exact nodeC_m13 Z S B v f c t w hv hS (by simpa using hn) k13
    rw [if_neg k13] at hn ⊢
    by_cases k8 : 8 ≤ (t []).kind
    · rw [if_pos k8] at hn ⊢
      have hn' : c.length + 1 ≤ 100000 := by simpa using hn
      by_cases q8 : (t []).kind = 8
      · rw [q8]; exact nodeC_m8 Z S B v f c t w hv hS hn' q8
      by_cases q9 : (t []).kind = 9
      · rw [q9]; exact nodeC_m9 Z S B v f c t w hv hS hn' q9
      by_cases q10 : (t []).kind = 10
      · rw [q10]; exact nodeC_m10 Z S B v f c t w hv hS hn' q10
      by_cases q11 : (t []).kind = 11
      · rw [q11]; exact nodeC_m11 Z S B v f c t w hv hS hn' q11
      by_cases q12 : (t []).kind = 12
      · rw [q12]; exact nodeC_m12 Z S B v f c t w hv hS hn' q12
      omega
    · rw [if_neg k8]
      exact nodeC_empty Z S B v f c t w hv (by omega)
end Go.Proofs.Ytbciclnffokjjaa
/- Trees: Clone; Groups. -/
namespace Go.Proofs
open Go.Shelf Go.RowKit Go.Lib
def Ytbciclnffokjjaa.laysM316_ren : Go.Shelf.Ren := ⟨fun | 316 => 67 | n => n, fun | 9 => 9 | 3 => 3 | 4 => 4 | 37 => 122 | 0 => 0 | 127 => 123 | 5 => 5 | n => n, fun | n => n⟩
theorem Ytbciclnffokjjaa.laysM316 : Go.Proofs.LaysM.n316 Try.prog Ytbciclnffokjjaa.laysM316_ren := {
  mixed := by kernel_rfl
  f316 := Try.func67.trans (congrArg some (by kernel_rfl))
  t0 := Try.underlying0
  a0 := Try.isAgg0
  z0 := Try.sizeOf0
  v0 := Try.zeroValue0
  t3 := Try.underlying3
  a3 := Try.isAgg3
  z3 := Try.sizeOf3
  v3 := Try.zeroValue3
  t4 := Try.underlying4
  a4 := Try.isAgg4
  z4 := Try.sizeOf4
  v4 := Try.zeroValue4
  t9 := Try.underlying9
  a9 := Try.isAgg9
  z9 := Try.sizeOf9
  v9 := Try.zeroValue9
  t37 := Try.underlying122
  a37 := Try.isAgg122
  z37 := Try.sizeOf122
  v37 := Try.zeroValue122
  t127 := Try.underlying123
  a127 := Try.isAgg123
  z127 := Try.sizeOf123
  v127 := Try.zeroValue123
  t5 := Try.underlying5
  a5 := Try.isAgg5
  z5 := Try.sizeOf5
  v5 := Try.zeroValue5
  i0 := by kernel_rfl
  i3 := by kernel_rfl
  i4 := by kernel_rfl
  i5 := by kernel_rfl
  i9 := by kernel_rfl
  i37 := by kernel_rfl
  i127 := by kernel_rfl }
namespace Ytbciclnffokjjaa
theorem strings_clone (s : ByteArray) (w : World) (hs : s.size ≤ 281474976710656) : Calls Try.prog 46 #[.string s] w fun e w' => e = .returned (.string s) ∧ Below w.heap.size w w' := by
  have k : Calls Try.prog 67 #[.string s] w fun e w' => e = .returned (.string s) ∧ Below w.heap.size w w' := Any.stringslite_Clone Ytbciclnffokjjaa.laysM316 s w hs
  go_enter Try.func46, Try.ntmps46
  go_wp2_with fail
  go_fit k
  rintro e w1 ⟨rfl, b⟩
  go_wp2
  go_ret
  exact ⟨rfl, b⟩

theorem up_self (f : Nat → ByteArray) (i : Nat) : up f i (f i) = f := by
  funext j
  by_cases h : j = i
  · subst h; rw [up_same]
  · rw [up_other _ _ _ _ h]
theorem row_mono {w : World} {S S' e s n : Nat} {v : Value} {xs : List Value} (h : w.ownsRow S e s v n xs) (hs : S' ≤ S) : w.ownsRow S' e s v n xs := by
  refine ⟨h.1, ?_⟩
  rcases h.2 with h0 | ⟨g, cap, cur, hv, hB, r⟩
  · exact .inl h0
  · exact .inr ⟨g, cap, cur, hv, by omega, r⟩
theorem groups_idle (w : World) : CallsD Try.prog 43 #[] .returning w fun e u' w' => e = .returned (.tuple #[]) ∧ u' = .returning ∧ w' = w := by
  refine callsD_of_wpS Try.func43 rfl fun c₀ cs hu => ?_
  apply wpS_region
  simp [wpOpsS, go_sem, recoverD, hu, Try.ntmps43]
  refine (reason_nil w).mono ?_
  rintro e w' ⟨rfl, rfl⟩
  cases c₀
  simp_all [bodyPostS, results, Try.results43]

set_option maxHeartbeats 1000000 in
set_option maxRecDepth 100000 in
/-- Groups of a valid tree: its names, in a row of one's own. -/
theorem groups_any (t : Tr) (w : World) (s1 : St) (ht : Tat w.heap.size w t) (h : svd t = some s1) (hsz : ∀ j, j < s1.n → (s1.f j).size ≤ 140737488351232) (hn : s1.n ≤ 100) :
    Calls Try.prog 26 #[ndV (t [])] w fun e w' => (∃ v, e = .returned v ∧ w'.ownsRow w.heap.size 9 1 v s1.n (sc s1.f s1.n)) ∧ Below w.heap.size w w' := by
  have hb : Below w.heap.size w (w.alloc (ndX (t []))) := (Below.refl _ w).alloc (Nat.le_refl _) _
  have ht' : Tat (w.alloc (ndX (t []))).heap.size (w.alloc (ndX (t []))) t := (ht.below hb).mono hb.size
  have k := surveyed_yes t _ s1 ht' h
  have HB : Hid (Below w.heap.size w (w.alloc (ndX (t [])))) := hb
  have HSZ : Hid (∀ j, j < s1.n → (s1.f j).size ≤ 140737488351232) := hsz
  clear ht ht' h hb hsz
  generalize t [] = d at *
  go_enter_defers Try.func26, Try.ntmps26
  go_wp2_with fail
  go_fit k
  rintro e w1 ⟨⟨a, c, rfl, hm⟩, b1⟩
  have HM : Hid (Sml w1 a s1.f s1.n) := hm
  have B1 : Hid (Below w.heap.size w w1) := HB.out.trans (b1.mono HB.out.size)
  have hnI : (s1.n : Int) ≤ 100 := by omega
  clear b1 k hm
  have hfl : ∀ W : World, Sem.run Try.prog (Instr.field 81 (svV (s1.k : Int) (Value.slice a s1.n c) s1.l) 1) W = .ok (.slice a s1.n c) W := fun _ => by kernel_rfl
  go_wp2_with fail
  go_loopw [2, 9] (fun nv ivv w' => ∃ i : Nat, ivv = .int .i64 (i : Int) ∧ i ≤ s1.n ∧ Hid (w'.ownsRow w1.heap.size 9 1 nv i (sc s1.f i) ∧ Below w1.heap.size w1 w')) (fun _ ivv _ => s1.n - (RowKit.intOf ivv).toNat)
  case atStart => exact ⟨0, rfl, by omega, ⟨rfl, .inl ⟨rfl, rfl⟩⟩, Below.refl _ _⟩
  case round =>
    obtain ⟨i, rfl, hi, hI⟩ := hrel
    obtain ⟨hrow, hbw⟩ := hI.out
    obtain ⟨na, ncc, hnv⟩ : ∃ na ncc, u2 = .slice na i ncc := by
      rcases hrow.2 with ⟨e, e2⟩ | ⟨g, cc, cur, e, _⟩
      · exact ⟨none, 0, by rw [e, e2]⟩
      · exact ⟨_, cc, e⟩
    by_cases hlt : i < s1.n
    · have hii : (i : Int) < s1.n := by omega
      obtain ⟨g1, o1, rfl, hg1, x0⟩ := (HM.out.below hbw).at i hlt
      have kC := strings_clone (s1.f i) wr (by have := HSZ.out i hlt; omega)
      have HROW : Hid (wr.ownsRow w1.heap.size 9 1 u2 i (sc s1.f i)) := hrow
      have HBW : Hid (Below w1.heap.size w1 wr) := hbw
      have hi100 : i ≤ 100 := by omega
      subst hnv
      clear hrow hbw hI
      go_wp2_with fail
      go_fit kC
      rintro e w2 ⟨rfl, b2⟩
      have h2 := (Kp.of (M := fun _ => False) b2).row HROW.out (fun _ _ => id)
      have hb2 := HBW.out.trans (b2.mono HBW.out.size)
      obtain ⟨g, cc, w3, r3, o3, k3, hg3⟩ := append_t w2 w1.heap.size (.slice na i ncc) i s1.f (s1.f i) hb2.size (by omega) h2
      rw [up_self] at o3
      have hb3 : Below w1.heap.size w1 w3 := hb2.trans (k3.below hb2.size (fun j hj e => by
        rcases h2.2 with ⟨e', _⟩ | ⟨G, _, _, e', hG, _⟩
        · rw [e'] at e; cases e
        · rw [e'] at e
          have : G = j := Option.some.inj e
          omega))
      have HO : Hid (w3.ownsRow w1.heap.size 9 1 (.slice (some ⟨g, 0, none⟩) (i + 1) cc) (i + 1) (sc s1.f (i + 1)) ∧ Below w1.heap.size w1 w3) := ⟨o3, hb3⟩
      clear o3 k3 hg3 h2 hb2 hb3 b2 kC x0
      go_wp2_with (at_builtin; refine wpList_append_run rfl (.tmp 13) (.tmp 16) 23 23 rfl _ _ rfl rfl r3 ?_)
      exact ⟨⟨i + 1, by go_num, by omega, HO⟩, by simp [RowKit.intOf]; omega⟩
    · have hii : ¬ (i : Int) < s1.n := by omega
      have hin : i = s1.n := by omega
      have HF : Hid (wr.ownsRow w.heap.size 9 1 u2 s1.n (sc s1.f s1.n) ∧ Below w.heap.size w wr) := by
        subst hin
        exact ⟨row_mono hrow B1.out.size, B1.out.trans (hbw.mono B1.out.size)⟩
      subst hnv
      clear hrow hbw hI hin
      go_wp2
      refine leaves_cons (f := 43) (args := #[]) (by simp) (by simp [go_sem]) ?_
      refine (groups_idle _).mono ?_
      rintro e u' w'' ⟨rfl, rfl, rfl⟩
      simp [Leaves, settle, results, Try.results26, go_sem]
      exact HF.out
end Ytbciclnffokjjaa
end Go.Proofs
