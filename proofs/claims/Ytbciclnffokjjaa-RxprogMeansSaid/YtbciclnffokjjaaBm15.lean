/- A bundle of texts. -/
import Derived.Test.YtbciclnffokjjaaBm14
/- Code: node at rows and groups. -/
namespace Go.Proofs.Ytbciclnffokjjaa
open Go.RowKit

theorem catF_mono (F : Nat → Int → List Ia) (b : Int) {i : Nat} : ∀ {n : Nat}, i ≤ n → (catF F i b).length ≤ (catF F n b).length
  | 0, h => by obtain rfl : i = 0 := by omega
               exact Nat.le_refl _
  | n + 1, h => by
    by_cases e : i = n + 1
    · rw [e]; exact Nat.le_refl _
    · have := catF_mono F b (i := i) (n := n) (by omega)
      conv => rhs; unfold catF
      rw [List.length_append]
      omega
theorem catF_room (F : Nat → Int → List Ia) (b : Int) {i n : Nat} (h : i < n) : (catF F i b).length + (F i (b + (catF F i b).length)).length ≤ (catF F n b).length := by
  have := catF_mono F b (i := i + 1) (n := n) h
  have e : (catF F (i + 1) b).length = (catF F i b).length + (F i (b + (catF F i b).length)).length := by
    conv => lhs; unfold catF
    rw [List.length_append]
  omega
/-- What a box of a node tells as long as it is left alone. -/
theorem Cs.zero {w : World} {g : Nat} {d : Nd} (h : Cs w g 0 d) : w.cell? ⟨g, 0, none⟩ = some (.int .i64 d.kind) ∧ w.cell? ⟨g, 1, none⟩ = some (.int .i32 d.r) ∧ w.cell? ⟨g, 2, none⟩ = some (.slice d.ra d.rn d.rc) ∧ w.cell? ⟨g, 3, none⟩ = some (.int .i64 d.mn) ∧ w.cell? ⟨g, 4, none⟩ = some (.int .i64 d.mx) ∧ w.cell? ⟨g, 5, none⟩ = some (.bool d.lz) ∧ w.cell? ⟨g, 6, none⟩ = some (.int .i64 d.cp) ∧ w.cell? ⟨g, 7, none⟩ = some (.string d.nm) ∧ w.cell? ⟨g, 8, none⟩ = some (.slice d.ka d.kn d.kc) := by
  obtain ⟨e0, e1, e2, e3, e4, e5, e6, e7, e8⟩ := h
  simp only [Nat.zero_add] at e0 e1 e2 e3 e4 e5 e6 e7 e8
  exact ⟨e0, e1, e2, e3, e4, e5, e6, e7, e8⟩

set_option maxHeartbeats 4000000 in
set_option maxRecDepth 100000 in
theorem nodeC_cat (m : Nat) (hIH : NodeC m) (Z : Nat → Prop) (T S B : Nat) (v : Value) (f : Nat → In) (c : List Ia) (t : Tr) (w : World) (hv : Cd Z S w B v f c) (ht : Tat T w t) (hT : T ≤ S) (hZ : ∀ k, Z k → T ≤ k ∧ k < w.heap.size) (hw : WF (m + 1) t) (hS : S ≤ w.heap.size) (hn : c.length + (catF (fun j b => cod m (kid t j) b) (t []).kn c.length).length ≤ 100000) (hk : (t []).kind = 4) :
    Calls Try.prog 47 #[.pointer (some ⟨B, 0, none⟩), ndV (t [])] w (Cp Z S B v c (catF (fun j b => cod m (kid t j) b) (t []).kn c.length) w) := by
  have hb : Below w.heap.size w (w.alloc (ndX (t []))) := (Below.refl _ w).alloc (Nat.le_refl _) _
  have hc := ndX_cells (w := w) (t []) (Below.refl _ _)
  obtain ⟨F, hF⟩ : ∃ F : Nat → Int → List Ia, F = fun j b => cod m (kid t j) b := ⟨_, rfl⟩
  have HFJ : Hid (∀ j b, cod m (kid t j) b = F j b) := fun j b => by rw [hF]
  rw [← hF] at hn ⊢
  obtain ⟨W, hW⟩ : ∃ W, W = w.alloc (ndX (t [])) := ⟨_, rfl⟩
  have HW : Hid (W = w.alloc (ndX (t []))) := hW
  rw [← hW] at hb hc
  have HV1 : Hid (Cd Z S W B v f c) := hv.below hb
  have HS1 : Hid (S ≤ W.heap.size) := Nat.le_trans hS hb.size
  have HT1 : Hid (Tat T W t) := ht.below (hb.mono (Nat.le_trans hT hS))
  have HTS : Hid (T ≤ S) := hT
  have HZ1 : Hid (∀ k, Z k → T ≤ k ∧ k < W.heap.size) := fun k h => ⟨(hZ k h).1, Nat.lt_of_lt_of_le (hZ k h).2 hb.size⟩
  have HB : Hid (Below w.heap.size w W) := hb
  have IH : Hid (NodeC m) := hIH
  have HKD : Hid (∀ j, j < (t []).kn → WF m (kid t j)) := hw.2.2
  have hkn := hw.2.1
  have e8 := hc.zero.2.2.2.2.2.2.2.2
  have e0 := hc.zero.1
  obtain ⟨G, hG⟩ : ∃ G, G = w.heap.size := ⟨_, rfl⟩
  have HG : Hid (G = w.heap.size) := hG
  rw [← hG] at e0 e8
  obtain ⟨d, hd⟩ : ∃ d, t [] = d := ⟨_, rfl⟩
  have HD : Hid (t [] = d) := hd
  rw [hd] at HW hn e0 e8 HKD hkn hk ⊢
  have HN : Hid (c.length + (catF F d.kn c.length).length ≤ 100000) := hn
  have t2 : (d.kind == 2) = false := by simp; omega
  have t3 : (d.kind == 3) = false := by simp; omega
  have t4 : (d.kind == 4) = true := by simp; omega
  have hknI : (d.kn : Int) ≤ 8194 := by omega
  clear hv ht hT hZ hw hS hn hb hc hW hG hd hIH hk hkn hF
  go_enter Try.func47, Try.ntmps47
  go_upto_region 1 with fail
  rw [← HW.out, ← HG.out]
  go_wp2_with fail
  go_loopw [30] (fun ivv w' => ∃ i : Nat, ivv = .int .i64 (i : Int) ∧ i ≤ d.kn ∧ Hid (∃ v' f', Cd Z S w' B v' f' (c ++ catF F i c.length) ∧ Sub W v v' ∧ Kp (Mv B v) W w')) (fun ivv _ => d.kn - (RowKit.intOf ivv).toNat)
  case atStart => exact ⟨0, rfl, by omega, v, f, by simpa [catF] using HV1.out, Sub.refl _ _, Kp.refl _ _⟩
  case round =>
    obtain ⟨i, rfl, hi, hI⟩ := hrel
    by_cases hlt : i < d.kn
    · have hii : (i : Int) < d.kn := by omega
      obtain ⟨v', f', cd, sb, kp⟩ := hI.out
      have hlt' : i < (t []).kn := by rw [HD.out]; exact hlt
      have hSz : S ≤ wr.heap.size := Nat.le_trans HS1.out kp.size
      have htr := HT1.out.below ((HV1.out.low HS1.out kp).mono HTS.out)
      obtain ⟨g1, o1, hka, hg1, hcs⟩ := htr.kids.at i hlt'
      rw [HD.out] at hka
      have hal : Below wr.heap.size wr (wr.alloc (ndX (t [i]))) := (Below.refl _ wr).alloc (Nat.le_refl _) _
      have hroom := catF_room F c.length hlt
      have hcl : (((c ++ catF F i c.length).length : Nat) : Int) = (c.length : Int) + ((catF F i c.length).length : Int) := by simp
      have hcod : cod m (kid t i) ((c ++ catF F i c.length).length : Int) = F i (c.length + (catF F i c.length).length) := by rw [hcl, HFJ.out]
      have kN := IH.out Z T S B v' f' (c ++ catF F i c.length) (kid t i) (wr.alloc (ndX (t [i]))) (cd.below hal) ((htr.kid i hlt').below (hal.mono (Nat.le_trans HTS.out hSz))) HTS.out (fun k h => ⟨(HZ1.out k h).1, Nat.lt_of_lt_of_le (HZ1.out k h).2 (Nat.le_trans kp.size hal.size)⟩) (HKD.out i hlt) (Nat.le_trans hSz hal.size) (by rw [hcod]; have := HN.out; simp; omega)
      change Calls Try.prog 47 #[.pointer (some ⟨B, 0, none⟩), ndV (t [i])] (wr.alloc (ndX (t [i]))) _ at kN
      have HC : Hid (∀ e w2, Cp Z S B v' (c ++ catF F i c.length) (cod m (kid t i) ((c ++ catF F i c.length).length : Int)) (wr.alloc (ndX (t [i]))) e w2 → e = .returned (.tuple #[]) ∧ (∃ v2 f2, Cd Z S w2 B v2 f2 (c ++ catF F (i + 1) c.length) ∧ Sub W v v2) ∧ Kp (Mv B v) W w2) := fun e w2 h => by
        have := Cp.next sb kp (Cp.from hal h)
        rw [hcod, List.append_assoc] at this
        exact this
      obtain ⟨p0, p1, p2, p3, p4, p5, p6, p7, p8⟩ := hcs
      rw [hka] at *
      generalize t [i] = dk at *
      clear cd sb kp htr hal hroom hcl hcod hlt' hka
      go_wp2_with fail
      go_fit kN
      rintro e w2 h2
      have H2 : Hid _ := HC.out _ _ h2
      have he := h2.1
      clear h2 kN HC
      subst he
      go_wp2
      obtain ⟨_, ⟨v2, f2, cd2, sb2⟩, kp2⟩ := H2.out
      exact ⟨⟨i + 1, by go_num, by omega, v2, f2, cd2, sb2, kp2⟩, by simp [RowKit.intOf]; omega⟩
    · have hii : ¬ (i : Int) < d.kn := by omega
      obtain rfl : i = d.kn := by omega
      go_wp2
      go_end0
      obtain ⟨v', f', cd, sb, kp⟩ := hI.out
      exact Cp.from HB.out ⟨rfl, ⟨v', f', cd, sb⟩, kp⟩

set_option maxHeartbeats 4000000 in
set_option maxRecDepth 100000 in
theorem nodeC_group (m : Nat) (hIH : NodeC m) (Z : Nat → Prop) (T S B : Nat) (v : Value) (f : Nat → In) (c : List Ia) (t : Tr) (w : World) (hv : Cd Z S w B v f c) (ht : Tat T w t) (hT : T ≤ S) (hZ : ∀ k, Z k → T ≤ k ∧ k < w.heap.size) (hw : WF (m + 1) t) (hS : S ≤ w.heap.size) (hn : c.length + ((cod m (kid t 0) ((c.length : Int) + 1)).length + 2) ≤ 100000) (hk : (t []).kind = 7) :
    Calls Try.prog 47 #[.pointer (some ⟨B, 0, none⟩), ndV (t [])] w (Cp Z S B v c ((⟨4, (c.length : Int) + 1, 0, 2 * (t []).cp, []⟩ : Ia) :: (cod m (kid t 0) ((c.length : Int) + 1) ++ [⟨4, (c.length : Int) + 1 + (cod m (kid t 0) ((c.length : Int) + 1)).length + 1, 0, 2 * (t []).cp + 1, []⟩])) w) := by
  have hb : Below w.heap.size w (w.alloc (ndX (t []))) := (Below.refl _ w).alloc (Nat.le_refl _) _
  have hc := ndX_cells (w := w) (t []) (Below.refl _ _)
  have hcap := hw.1.2 hk
  have hkn := ndB_grp hw.1.1 hk
  have hv1 := hv.below hb
  have hS1 := Nat.le_trans hS hb.size
  have kS := step_any Z S B v f c 4 0 0 (2 * (t []).cp) none 0 0 [] _ hv1 hS1 (by omega) ⟨rfl, .inl rfl⟩
  have hk0 : 0 < (t []).kn := by omega
  have ht1 := ht.below (hb.mono (Nat.le_trans hT hS))
  have hgM : ¬ Mv B v w.heap.size := fun e => by have := (hv.base _ e).2; omega
  have HN1 : Hid (∀ v1 f1 w1, Cd Z S w1 B v1 f1 (c ++ [(⟨4, (c.length : Int) + 1, 0, 2 * (t []).cp, []⟩ : Ia)]) → Kp (Mv B v) (w.alloc (ndX (t []))) w1 → Calls Try.prog 47 #[.pointer (some ⟨B, 0, none⟩), ndV (t [0])] w1 (Cp Z S B v1 (c ++ [(⟨4, (c.length : Int) + 1, 0, 2 * (t []).cp, []⟩ : Ia)]) (cod m (kid t 0) ((c.length : Int) + 1)) w1)) := fun v1 f1 w1 cd kp => by
    have e : (((c ++ [(⟨4, (c.length : Int) + 1, 0, 2 * (t []).cp, []⟩ : Ia)]).length : Nat) : Int) = (c.length : Int) + 1 := by simp
    have := hIH Z T S B v1 f1 (c ++ [(⟨4, (c.length : Int) + 1, 0, 2 * (t []).cp, []⟩ : Ia)]) (kid t 0) w1 cd ((ht1.below ((hv1.low hS1 kp).mono hT)).kid 0 hk0) hT (fun k h => ⟨(hZ k h).1, Nat.lt_of_lt_of_le (hZ k h).2 (Nat.le_trans hb.size kp.size)⟩) (hw.2.2 0 hk0) (Nat.le_trans hS1 kp.size) (by rw [e]; simp; omega)
    rw [e] at this
    exact this
  have HK1 : Hid (∀ w1, Kp (Mv B v) (w.alloc (ndX (t []))) w1 → Cs w1 w.heap.size 0 (t []) ∧ ∃ g o, (t []).ka = some ⟨g, o, none⟩ ∧ Cs w1 g (o + 0 * 9) (t [0])) := fun w1 kp => by
    obtain ⟨g, o, e, _, hcs⟩ := (ht1.below ((hv1.low hS1 kp).mono hT)).kids.at 0 hk0
    exact ⟨hc.kp kp hgM, g, o, e, hcs⟩
  have HL : Hid (∀ v2 f2 w2 l, l.length + 2 + c.length ≤ 100000 → Cd Z S w2 B v2 f2 (c ++ [(⟨4, (c.length : Int) + 1, 0, 2 * (t []).cp, []⟩ : Ia)] ++ l) → S ≤ w2.heap.size → Calls Try.prog 68 #[.pointer (some ⟨B, 0, none⟩), inV 4 0 0 (2 * (t []).cp + 1) none 0 0] w2 (Cp Z S B v2 (c ++ [(⟨4, (c.length : Int) + 1, 0, 2 * (t []).cp, []⟩ : Ia)] ++ l) [⟨4, (c.length : Int) + 1 + l.length + 1, 0, 2 * (t []).cp + 1, []⟩] w2)) := fun v2 f2 w2 l hl cd hs => by
    have e : (((c ++ [(⟨4, (c.length : Int) + 1, 0, 2 * (t []).cp, []⟩ : Ia)] ++ l).length : Nat) : Int) = (c.length : Int) + 1 + l.length := by simp; omega
    have := step_any Z S B v2 f2 (c ++ [(⟨4, (c.length : Int) + 1, 0, 2 * (t []).cp, []⟩ : Ia)] ++ l) 4 0 0 (2 * (t []).cp + 1) none 0 0 [] w2 cd hs (by simp; omega) ⟨rfl, .inl rfl⟩
    rw [e] at this
    exact this
  have HSZ : Hid (S ≤ (w.alloc (ndX (t []))).heap.size) := hS1
  have HB : Hid (Below w.heap.size w (w.alloc (ndX (t [])))) := hb
  have HN : Hid (c.length + ((cod m (kid t 0) ((c.length : Int) + 1)).length + 2) ≤ 100000) := hn
  have hknI : 0 < ((t []).kn : Int) := by omega
  obtain ⟨hc0, hc1⟩ := hcap
  clear hv ht hT hZ hw hS hn hb hc hv1 hS1 ht1 hgM hIH hk0 hkn
  generalize cod m (kid t 0) ((c.length : Int) + 1) = l at *
  generalize t [] = d at *
  generalize t [0] = dk at *
  have t2 : (d.kind == 2) = false := by simp; omega
  have t3 : (d.kind == 3) = false := by simp; omega
  have t4 : (d.kind == 4) = false := by simp; omega
  have t5 : (d.kind == 5) = false := by simp; omega
  have t6 : (d.kind == 6) = false := by simp; omega
  have t7 : (d.kind == 7) = true := by simp; omega
  clear hk
  go_enter Try.func47, Try.ntmps47
  go_wp2_with fail
  go_fit kS
  rintro e w1 h1
  obtain ⟨rfl, ⟨v1, f1, cd1, sb1⟩, kp1⟩ := h1
  have k1 := HN1.out v1 f1 w1 cd1 kp1
  obtain ⟨cs1, g, o, hka, cd0⟩ := HK1.out w1 kp1
  obtain ⟨e0, e1, e2, e3, e4, e5, e6, e7, e8⟩ := cs1.zero
  rw [hka] at e8
  simp only [Nat.zero_mul, Nat.add_zero] at cd0
  obtain ⟨p0, p1, p2, p3, p4, p5, p6, p7, p8⟩ := cd0
  have SB1 : Hid (Sub (w.alloc (ndX d)) v v1) := sb1
  have KP1 : Hid _ := kp1
  have CD1 : Hid _ := cd1
  clear kS cd1 sb1 kp1 cs1 hka
  go_wp2_with fail
  go_fit k1
  rintro e w2 h2
  have C2 : Hid _ := Cp.next SB1.out KP1.out h2
  obtain ⟨rfl, ⟨v2, f2, cd2, sb2⟩, kp2⟩ := h2
  have k2 := HL.out v2 f2 w2 l (by have := HN.out; omega) cd2 (Nat.le_trans HSZ.out (Nat.le_trans KP1.out.size kp2.size))
  have SB2 : Hid (Sub (w.alloc (ndX d)) v v2) := Sub.trans SB1.out sb2 KP1.out.size
  have KP2 : Hid _ := KP1.out.next SB1.out kp2
  obtain ⟨cs2, _⟩ := HK1.out w2 KP2.out
  have e6' := cs2.zero.2.2.2.2.2.2.1
  clear k1 cd2 sb2 kp2 cs2 C2 e0 e1 e2 e3 e4 e5 e6 e7 e8 p0 p1 p2 p3 p4 p5 p6 p7 p8 HL HN1
  go_wp2_with fail
  go_fit k2
  rintro e w3 h3
  have H3 : Hid _ := Cp.next SB2.out KP2.out h3
  have he := h3.1
  clear h3 k2
  subst he
  go_wp2
  go_end0
  obtain ⟨_, ⟨v3, f3, cd3, sb3⟩, kp3⟩ := H3.out
  exact Cp.from HB.out ⟨rfl, ⟨v3, f3, by rw [show c ++ ((⟨4, (c.length : Int) + 1, 0, 2 * d.cp, []⟩ : Ia) :: (l ++ [⟨4, (c.length : Int) + 1 + l.length + 1, 0, 2 * d.cp + 1, []⟩])) = c ++ [(⟨4, (c.length : Int) + 1, 0, 2 * d.cp, []⟩ : Ia)] ++ l ++ [⟨4, (c.length : Int) + 1 + l.length + 1, 0, 2 * d.cp + 1, []⟩] by simp]; exact cd3, sb3⟩, kp3⟩
end Go.Proofs.Ytbciclnffokjjaa
/- Code: repeat, what it wants. -/
namespace Go.Proofs.Ytbciclnffokjjaa
open Go.RowKit

theorem repC_k {k : List Ia} {mn mx : Int} (lz : Bool) (b : Int) (h0 : ¬ mx = 0) (hm : 0 ≤ mn) (hx : mx = -1 ∨ mn ≤ mx) : k.length ≤ (repC k mn mx lz b).length := by
  unfold repC
  rw [if_neg h0]
  split
  · simp [mvs_len]; omega
  · rw [List.length_append, layF_len, optF_len]
    by_cases h : mn = 0
    · have : 1 ≤ (mx - mn).toNat := by omega
      have := Nat.mul_le_mul_right (1 + k.length) this
      omega
    · have : 1 ≤ mn.toNat := by omega
      have := Nat.mul_le_mul_right k.length this
      omega
def fIn : Nat → In := fun _ => ⟨0, 0, 0, 0, none, 0, 0, fun _ => (0, 0)⟩
theorem cd_new (Z : Nat → Prop) (w : World) : Cd Z w.heap.size (w.alloc (.cells #[.slice none 0 0] 85)) w.heap.size (.slice none 0 0) fIn [] := by
  have e : (w.alloc (.cells #[.slice none 0 0] 85)).heap[w.heap.size]? = some (.cells #[.slice none 0 0] 85) := heap_alloc_new w _
  refine ⟨?_, ?_, ⟨rfl, .inl ⟨rfl, rfl⟩⟩, by simp [Value.ownBlock], Nat.le_refl _, fun j i hj => by simp at hj⟩
  · unfold World.cell?; rw [e]; rfl
  · unfold World.frozen?; rw [e]; simp
set_option maxHeartbeats 1000000 in
theorem end_cell (B : Nat) (a : Option Addr) (n cc : Nat) (w : World) (c0 : w.cell? ⟨B, 0, none⟩ = some (.slice a n cc)) :
    Calls Try.prog 88 #[.pointer (some ⟨B, 0, none⟩)] w fun e w' => e = .returned (.int .i64 (n : Int)) ∧ w' = w := by
  go_enter Try.func88, Try.ntmps88
  go_wp2
  go_ret
  exact ⟨rfl, rfl⟩

/-- A coder under way: since the world w0 the code has grown by l. -/
def Rn (Z : Nat → Prop) (S B : Nat) (v : Value) (c : List Ia) (w0 : World) (l : List Ia) (w : World) : Prop := ∃ v' f', Cd Z S w B v' f' (c ++ l) ∧ Sub w0 v v' ∧ Kp (Mv B v) w0 w
namespace Rn
variable {Z : Nat → Prop} {S B : Nat} {v : Value} {c l : List Ia} {w0 w w' : World}
theorem beg {f : Nat → In} (h : Cd Z S w B v f c) : Rn Z S B v c w [] w := ⟨v, f, by rw [List.append_nil]; exact h, Sub.refl _ _, Kp.refl _ _⟩
theorem kp (h : Rn Z S B v c w0 l w) : Kp (Mv B v) w0 w := by
  obtain ⟨_, _, _, _, k⟩ := h
  exact k
theorem size (h : Rn Z S B v c w0 l w) : w0.heap.size ≤ w.heap.size := h.kp.size
theorem below (h : Rn Z S B v c w0 l w) (hb : Below w.heap.size w w') : Rn Z S B v c w0 l w' := by
  obtain ⟨v', f', a, b, k⟩ := h
  exact ⟨v', f', a.below hb, b, k.trans (Kp.of hb)⟩
theorem next {v1 : Value} {f1 : Nat → In} {l2 : List Ia} {e : Ending} (_h1 : Cd Z S w B v1 f1 (c ++ l)) (h2 : Sub w0 v v1) (h3 : Kp (Mv B v) w0 w) (h : Cp Z S B v1 (c ++ l) l2 w e w') : e = .returned (.tuple #[]) ∧ Rn Z S B v c w0 (l ++ l2) w' := by
  obtain ⟨a, ⟨v', f', b, d⟩, k⟩ := Cp.next h2 h3 h
  exact ⟨a, v', f', by rw [← List.append_assoc]; exact b, d, k⟩
theorem done (h : Rn Z S B v c w0 l w) : Cp Z S B v c l w0 (.returned (.tuple #[])) w := by
  obtain ⟨v', f', a, b, k⟩ := h
  exact ⟨rfl, ⟨v', f', a, b⟩, k⟩
theorem len (h : Rn Z S B v c w0 l w) : Calls Try.prog 88 #[.pointer (some ⟨B, 0, none⟩)] w fun e w' => e = .returned (.int .i64 ((c.length : Int) + l.length)) ∧ w' = w := by
  obtain ⟨v', f', a, _⟩ := h
  have := end_any Z S B v' f' (c ++ l) w a
  rw [List.length_append, Int.natCast_add] at this
  exact this
theorem put (h : Rn Z S B v c w0 l w) (hS : S ≤ w0.heap.size) (hn : c.length + l.length ≤ 1000000) (op out alt arg : Int) : Calls Try.prog 48 #[.pointer (some ⟨B, 0, none⟩), inV op out alt arg none 0 0] w fun e w' => e = .returned (.tuple #[]) ∧ Rn Z S B v c w0 (l ++ [⟨op, out, alt, arg, []⟩]) w' := by
  have hs := Nat.le_trans hS h.size
  obtain ⟨v', f', a, b, k⟩ := h
  exact (put_any Z S B v' f' (c ++ l) op out alt arg none 0 0 [] w a hs (by rw [List.length_append]; omega) ⟨rfl, .inl rfl⟩).mono fun e w' h => next a b k h
theorem step (h : Rn Z S B v c w0 l w) (hS : S ≤ w0.heap.size) (hn : c.length + l.length ≤ 1000000) (op out alt arg : Int) : Calls Try.prog 68 #[.pointer (some ⟨B, 0, none⟩), inV op out alt arg none 0 0] w fun e w' => e = .returned (.tuple #[]) ∧ Rn Z S B v c w0 (l ++ [⟨op, (c.length : Int) + l.length + 1, alt, arg, []⟩]) w' := by
  have hs := Nat.le_trans hS h.size
  obtain ⟨v', f', a, b, k⟩ := h
  have := step_any Z S B v' f' (c ++ l) op out alt arg none 0 0 [] w a hs (by rw [List.length_append]; omega) ⟨rfl, .inl rfl⟩
  rw [List.length_append, Int.natCast_add] at this
  exact this.mono fun e w' h => next a b k h
theorem split (h : Rn Z S B v c w0 l w) (hS : S ≤ w0.heap.size) (hn : c.length + l.length ≤ 1000000) (leave : Int) (lz : Bool) : Calls Try.prog 90 #[.pointer (some ⟨B, 0, none⟩), .int .i64 leave, .bool lz] w fun e w' => e = .returned (.tuple #[]) ∧ Rn Z S B v c w0 (l ++ [spl ((c.length : Int) + l.length) leave lz]) w' := by
  have hs := Nat.le_trans hS h.size
  obtain ⟨v', f', a, b, k⟩ := h
  have := split_any Z S B v' f' (c ++ l) leave lz w a hs (by rw [List.length_append]; omega)
  rw [List.length_append, Int.natCast_add] at this
  exact this.mono fun e w' h => next a b k h
theorem lay (h : Rn Z S B v c w0 l w) (hS : S ≤ w0.heap.size) {k : List Ia} (hn : c.length + l.length + k.length ≤ 1000000) (a : Option Addr) (cc : Nat) (hp : Pc w0 (MZ Z B v) a k) (hk : ∀ x ∈ k, Pl 1000000 x) : Calls Try.prog 89 #[.pointer (some ⟨B, 0, none⟩), .agg #[.slice a k.length cc]] w fun e w' => e = .returned (.tuple #[]) ∧ Rn Z S B v c w0 (l ++ mvs ((c.length : Int) + l.length) k) w' := by
  have hs := Nat.le_trans hS h.size
  obtain ⟨v', f', x, b, kp⟩ := h
  have := lay_any Z S B v' f' (c ++ l) k a cc w x hs (by rw [List.length_append]; omega) (hp.kp (kp.mono (fun _ _ e => .inl e)) (MZ_sub b)) hk
  rw [List.length_append, Int.natCast_add] at this
  exact this.mono fun e w' h => next x b kp h
theorem cell (h : Rn Z S B v c w0 l w) {p : Addr} {u : Value} (hc : w0.cell? p = some u) (hm : ¬ Mv B v p.block) : w.cell? p = some u := h.kp.cell hc hm
end Rn
/-- The kid's code, made in a coder of its own, is a piece for the outer one. -/
theorem kid_piece {Z : Nat → Prop} {S B S2 B2 : Nat} {w w3 : World} {v v2 : Value} {f f2 : Nat → In} {c k : List Ia} {T : Nat} (hv : Cd Z S w B v f c) (hZ : ∀ k, Z k → T ≤ k ∧ k < w.heap.size) (h2 : Cd (MZ Z B v) S2 w3 B2 v2 f2 k) (hS2 : w.heap.size ≤ S2) : ∃ a cc, v2 = .slice a k.length cc ∧ Pc w3 (MZ Z B v) a k := by
  have hlow : ∀ g, MZ Z B v g → g < w.heap.size := fun g h => by
    rcases h with h | h
    · exact (hv.base g h).2
    · exact (hZ g h).2
  refine h2.piece (MZ Z B v) (fun g e h => ?_) (fun j i hj => ?_)
  · have := (h2.base g (.inr e)).1
    have := hlow g h
    omega
  · exact (h2.rg j i hj).2.2.2.2.kp (Kp.refl _ w3) (fun i _ e => .inr e)
end Go.Proofs.Ytbciclnffokjjaa
