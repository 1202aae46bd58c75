/- ChunkBack: rising, alike. -/
import Derived.Test.YtedlmjieclaojaaDoorCl
namespace Go.Proofs.YtedlmjieclaojaaDoor
open Go.RowKit

theorem rs_bad (l : List Smp) (i : Nat) (x y : Smp) (hy : l[i]? = some y) (hx : l[i + 1]? = some x) (h : x.t ≤ y.t) : rsB l = false := by
  rw [← Bool.not_eq_true]
  intro hr
  have h1 := rsB_take l (i + 2) hr
  have e1 : l.take (i + 1) = l.take i ++ [y] := by rw [List.take_add_one, hy]; rfl
  have e2 : l.take (i + 2) = l.take (i + 1) ++ [x] := by rw [List.take_add_one, hx]; rfl
  have hl := (List.getElem?_eq_some_iff.1 hx).1
  have hlen : (l.take (i + 1)).length = i + 1 := by rw [List.length_take]; omega
  rw [e2, rsB_snoc, hlen, e1, fin_tm] at h1
  simp at h1
  omega
theorem rs_good (l : List Smp) (i : Nat) (x y : Smp) (hy : l[i]? = some y) (hx : l[i + 1]? = some x) (h : y.t < x.t) (hr : rsB (l.take (i + 1)) = true) : rsB (l.take (i + 2)) = true := by
  have e1 : l.take (i + 1) = l.take i ++ [y] := by rw [List.take_add_one, hy]; rfl
  have e2 : l.take (i + 2) = l.take (i + 1) ++ [x] := by rw [List.take_add_one, hx]; rfl
  have ht : (fin t0 (l.take (i + 1))).tm = y.t := by rw [e1, fin_tm]
  rw [e2, rsB_snoc, hr, ht]
  simp [h]
theorem rs_one (l : List Smp) : rsB (l.take 1) = true := by
  cases l with
  | nil => rfl
  | cons x l => simp [rsB, rsF, t0]
set_option maxHeartbeats 2000000 in
set_option maxRecDepth 100000 in
theorem rising_any (a : Option Addr) (c : Nat) (l : List Smp) (w : World) (hm : Sm w a l) (hl : l.length ≤ 140737488355328) :
    Calls Tryd.prog 22 #[.slice a l.length c] w fun e w' => e = .returned (.bool (rsB l)) ∧ Below w.heap.size w w' := by
  have HM : Hid (Sm w a l) := hm
  obtain ⟨n, hn⟩ : ∃ n, n = l.length := ⟨_, rfl⟩
  rw [← hn] at hl ⊢
  have HN : Hid (n = l.length) := hn
  have hni : (n : Int) ≤ 140737488355328 := by omega
  clear hm hn
  obtain ⟨R, hR⟩ : ∃ R, R = rsB l := ⟨_, rfl⟩
  have HR : Hid (R = rsB l) := hR
  rw [← hR]
  clear hR
  go_enter Tryd.func22, Tryd.ntmps22
  go_wp2_with fail
  go_loopw [3] (fun iv w' => ∃ i : Nat, iv = .int .i64 (i : Nat) ∧ 1 ≤ i ∧ i ≤ n + 1 ∧ Hid (rsB (l.take i) = true) ∧ Hid (Below w.heap.size w w')) (fun iv _ => n + 1 - (RowKit.intOf iv).toNat)
  case atStart => exact ⟨1, rfl, Nat.le_refl _, by omega, rs_one l, Below.refl _ _⟩
  case round =>
    obtain ⟨i, rfl, hi1, hi2, hr, hbw⟩ := hrel
    by_cases hlt : i < n
    · have hii : (i : Int) < (n : Int) := by omega
      obtain ⟨j, hj⟩ : ∃ j, i = j + 1 := ⟨i - 1, by omega⟩
      have hN := HN.out
      obtain ⟨x, hx⟩ : ∃ x, l[j + 1]? = some x := ⟨l[j + 1]'(by omega), List.getElem?_eq_getElem _⟩
      obtain ⟨y, hy⟩ : ∃ y, l[j]? = some y := ⟨l[j]'(by omega), List.getElem?_eq_getElem _⟩
      obtain ⟨g, o, rfl, hg, hcs⟩ : ∃ g o, a = some ⟨g, o, none⟩ ∧ g < w.heap.size ∧ _ := by
        rcases HM.out with h | h
        · rw [h] at hN; simp at hN; omega
        · exact h
      have x0 := (hbw.out.cell (p := ⟨g, o + (j + 1) * 3, none⟩) hg).trans (hcs _ x hx).1
      have y0 := (hbw.out.cell (p := ⟨g, o + j * 3, none⟩) hg).trans (hcs _ y hy).1
      have q1 : IntKind.i64.wrap ((i : Int) - 1) = (j : Nat) := by rw [IntKind.wrap_i64]; omega
      have q2 : (i : Int) - 1 = (j : Nat) := by omega
      have q3 : (j : Int) < (n : Int) := by omega
      have q4 : IntKind.i64.wrap (j : Int) = (j : Nat) := by rw [IntKind.wrap_i64]; omega
      rw [← hj] at x0
      by_cases hb : x.t ≤ y.t
      · have HF : Hid (R = false) := HR.out.trans (rs_bad l j x y hy hx hb)
        have hd : decide (x.t ≤ y.t) = true := decide_eq_true hb
        generalize x.t = tx at *
        generalize y.t = ty at *
        have HJ : Hid (i = j + 1) := hj
        clear hx hy hcs hj hr hN
        go_wp2_with fail
        go_big_quiet (fail)
        go_wp2
        go_ret
        exact ⟨by rw [HF.out]; rfl, bdrew hbw.out _⟩
      · have hr2 : Hid (rsB (l.take (i + 1)) = true) := by
          show _ = _
          rw [hj]
          exact rs_good l j x y hy hx (by omega) (by rw [← hj]; exact hr.out)
        have hd : decide (x.t ≤ y.t) = false := decide_eq_false hb
        generalize x.t = tx at *
        generalize y.t = ty at *
        have HJ : Hid (i = j + 1) := hj
        clear hx hy hcs hj hr hN
        go_wp2_with fail
        go_big_quiet (fail)
        have hbD : Hid (Below w.heap.size w (wr.drewN nq)) := bdrew hbw.out nq
        go_wp2
        exact ⟨⟨i + 1, by go_num, by omega, by omega, hr2, hbD⟩, by simp [RowKit.intOf]; omega⟩
    · have hii : ¬ (i : Int) < (n : Int) := by omega
      have htk : l.take i = l := List.take_of_length_le (by have := HN.out; omega)
      rw [htk] at hr
      have HT : Hid (R = true) := HR.out.trans hr.out
      clear htk hr
      go_wp2
      go_ret
      exact ⟨by rw [HT.out]; rfl, hbw.out⟩

/-- Alike, the values of stale ones counting for nothing where loose. -/
def Alk (loose : Bool) (x y : Smp) : Prop := x.t = y.t ∧ x.s = y.s ∧ (cl x.v = cl y.v ∨ (loose = true ∧ x.s = true))
theorem cl_cb (v : Nat) : cl (cb v) = cl v := by
  rw [cb_nan]
  by_cases h : nanB v = true
  · rw [if_pos h, cl_nan h]
    decide +kernel
  · rw [if_neg h]
set_option maxHeartbeats 4000000 in
set_option maxRecDepth 100000 in
theorem alike_true (a1 a2 : Option Addr) (c1 c2 : Nat) (l m : List Smp) (b : Bool) (w : World) (h1 : Sm w a1 l) (h2 : Sm w a2 m) (hlm : l.length = m.length) (ha : ∀ (i : Nat) x y, l[i]? = some x → m[i]? = some y → Alk b x y) (hl : l.length ≤ 140737488355328) :
    Calls Tryd.prog 15 #[.slice a1 l.length c1, .slice a2 m.length c2, .bool b] w fun e w' => e = .returned (.bool true) ∧ Below w.heap.size w w' := by
  have H1 : Hid (Sm w a1 l) := h1
  have H2 : Hid (Sm w a2 m) := h2
  have HA : Hid (∀ (i : Nat) x y, l[i]? = some x → m[i]? = some y → Alk b x y) := ha
  obtain ⟨n, hn⟩ : ∃ n, n = l.length := ⟨_, rfl⟩
  rw [← hlm, ← hn]
  rw [← hn] at hl hlm
  have HN : Hid (n = l.length) := hn
  have HNM : Hid (n = m.length) := hlm
  have hni : (n : Int) ≤ 140737488355328 := by omega
  have hcb := callBits
  clear h1 h2 ha hn hlm
  go_enter Tryd.func15, Tryd.ntmps15
  go_wp2_with fail
  go_loopw [7] (fun iv w' => ∃ i : Nat, iv = .int .i64 (i : Nat) ∧ i ≤ n ∧ Hid (Below w.heap.size w w')) (fun iv _ => n - (RowKit.intOf iv).toNat)
  case atStart => exact ⟨0, rfl, Nat.zero_le _, Below.refl _ _⟩
  case round =>
    obtain ⟨i, rfl, hi, hbw⟩ := hrel
    by_cases hlt : i < n
    · have hii : (i : Int) < (n : Int) := by omega
      obtain ⟨x, hx⟩ : ∃ x, l[i]? = some x := ⟨l[i]'(by have := HN.out; omega), List.getElem?_eq_getElem _⟩
      obtain ⟨y, hy⟩ : ∃ y, m[i]? = some y := ⟨m[i]'(by have := HNM.out; omega), List.getElem?_eq_getElem _⟩
      obtain ⟨g1, o1, rfl, hg1, hcs1⟩ : ∃ g o, a1 = some ⟨g, o, none⟩ ∧ g < w.heap.size ∧ _ := by
        rcases H1.out with h | h
        · have := HN.out; rw [h] at this; simp at this; omega
        · exact h
      obtain ⟨g2, o2, rfl, hg2, hcs2⟩ : ∃ g o, a2 = some ⟨g, o, none⟩ ∧ g < w.heap.size ∧ _ := by
        rcases H2.out with h | h
        · have := HNM.out; rw [h] at this; simp at this; omega
        · exact h
      obtain ⟨x0, x1, x2⟩ := hcs1 i x hx
      obtain ⟨y0, y1, y2⟩ := hcs2 i y hy
      obtain ⟨et, es, ev⟩ := HA.out i x y hx hy
      rw [← et] at y0
      rw [← es] at y2
      clear hcs1 hcs2 hx hy et es
      generalize x.t = T at *
      generalize x.v = u at *
      generalize x.s = s at *
      generalize y.v = v at *
      have z0 := (hbw.out.cell (p := ⟨g1, o1 + i * 3, none⟩) hg1).trans x0
      have z1 := (hbw.out.cell (p := ⟨g1, o1 + i * 3 + 1, none⟩) hg1).trans x1
      have z2 := (hbw.out.cell (p := ⟨g1, o1 + i * 3 + 2, none⟩) hg1).trans x2
      have v0 := (hbw.out.cell (p := ⟨g2, o2 + i * 3, none⟩) hg2).trans y0
      have v1 := (hbw.out.cell (p := ⟨g2, o2 + i * 3 + 1, none⟩) hg2).trans y1
      have v2 := (hbw.out.cell (p := ⟨g2, o2 + i * 3 + 2, none⟩) hg2).trans y2
      have t1 : (T != T) = false := by simp
      have t2 : (s != s) = false := by simp
      clear x0 x1 x2 y0 y1 y2
      go_wp2_with fail
      go_big_quiet (fail)
      have hb1 : Below wr.heap.size wr (wr.drewN nq) := bdrew (Below.refl _ _) nq
      replace z0 := bcell2 hb1 z0
      replace z2 := bcell2 hb1 z2
      replace v0 := bcell2 hb1 v0
      replace v2 := bcell2 hb1 v2
      have hbw2 : Hid (Below w.heap.size w (wr.drewN nq)) := hbw.out.trans (hb1.mono hbw.out.size)
      clear hb1 hbw z1 v1
      generalize wr.drewN nq = W1 at *
      go_wp2_with fail
      go_big_quiet (fail)
      have hb1 : Below W1.heap.size W1 (W1.drewN nq) := bdrew (Below.refl _ _) nq
      replace z2 := bcell2 hb1 z2
      have hbw3 : Hid (Below w.heap.size w (W1.drewN nq)) := hbw2.out.trans (hb1.mono hbw2.out.size)
      clear hb1 hbw2 z0 v0 v2
      generalize W1.drewN nq = W2 at *
      by_cases huv : u = v
      · subst huv
        go_wp2
        exact ⟨⟨i + 1, by go_num, by omega, hbw3⟩, by simp [RowKit.intOf]; omega⟩
      · have n1 : ((u : Int) != (v : Int)) = true := by simp; omega
        have n2 : ((u : Int) == (v : Int)) = false := by simp; omega
        have eu := fo_self u
        have ew := fo_self v
        by_cases hnn : nanB u = true ∧ nanB v = true
        · rw [hnn.1, if_pos rfl] at eu
          rw [hnn.2, if_pos rfl] at ew
          clear ev huv
          go_wp2
          exact ⟨⟨i + 1, by go_num, by omega, hbw3⟩, by simp [RowKit.intOf]; omega⟩
        · obtain ⟨rfl, rfl⟩ : b = true ∧ s = true := by
            rcases ev with h | h
            · rcases alike_of h with h | h
              · exact absurd h hnn
              · exact absurd h huv
            · exact h
          clear ev huv t1 t2
          by_cases hu : nanB u = true
          · have hv : nanB v = false := by
              rw [← Bool.not_eq_true]; exact fun h => hnn ⟨hu, h⟩
            rw [hu, if_pos rfl] at eu
            rw [hv, if_neg (by decide)] at ew
            clear hnn
            go_wp2
            exact ⟨⟨i + 1, by go_num, by omega, hbw3⟩, by simp [RowKit.intOf]; omega⟩
          · rw [if_neg hu] at eu
            clear hnn ew
            go_wp2
            exact ⟨⟨i + 1, by go_num, by omega, hbw3⟩, by simp [RowKit.intOf]; omega⟩
    · have hii : ¬ (i : Int) < (n : Int) := by omega
      go_wp2
      go_ret
      exact ⟨rfl, hbw.out⟩
end Go.Proofs.YtedlmjieclaojaaDoor
