/- A bundle of texts. -/
import Derived.Test.YtbciclnffokjjaaDoorBb12
import Derived.Shelf.LaysM
import Derived.Shelf.Strconv.Clone
/- Code: node. -/
namespace Go.Proofs.YtbciclnffokjjaaDoor
open Go.RowKit

set_option maxHeartbeats 1000000 in
set_option maxRecDepth 100000 in
theorem nodeC_alt (m : Nat) (hIH : NodeC m) (Z : Nat → Prop) (T S B : Nat) (v : Value) (f : Nat → In) (c : List Ia) (t : Tr) (w : World) (hv : Cd Z S w B v f c) (ht : Tat T w t) (hT : T ≤ S) (hZ : ∀ k, Z k → T ≤ k ∧ k < w.heap.size) (hw : WF (m + 1) t) (hS : S ≤ w.heap.size) (hn : c.length + (altC (fun j b => cod m (kid t j) b) ((t []).kn - 1) c.length).length ≤ 100000) (hk : (t []).kind = 5) :
    Calls Tryd.prog 25 #[.pointer (some ⟨B, 0, none⟩), ndV (t [])] w (Cp Z S B v c (altC (fun j b => cod m (kid t j) b) ((t []).kn - 1) c.length) w) := by
  have hb : Below w.heap.size w (w.alloc (ndX (t []))) := (Below.refl _ w).alloc (Nat.le_refl _) _
  have k := alts_any m hIH Z T S B v f c t _ (hv.below hb) (ht.below (hb.mono (Nat.le_trans hT hS))) hT (fun k h => ⟨(hZ k h).1, Nat.lt_of_lt_of_le (hZ k h).2 hb.size⟩) hw (Nat.le_trans hS hb.size) (ndB_row hw.1.1 (.inr hk)) hn
  have HB : Hid (∀ l e w2, Cp Z S B v c l (w.alloc (ndX (t []))) e w2 → Cp Z S B v c l w e w2) := fun l e w2 h => Cp.from hb h
  clear hv ht hT hZ hS hn hb hw hIH
  generalize altC (fun j b => cod m (kid t j) b) ((t []).kn - 1) c.length = l at *
  generalize t [] = d at *
  have t2 : (d.kind == 2) = false := by simp; omega
  have t3 : (d.kind == 3) = false := by simp; omega
  have t4 : (d.kind == 4) = false := by simp; omega
  have t5 : (d.kind == 5) = true := by simp; omega
  clear hk
  go_enter Tryd.func25, Tryd.ntmps25
  go_wp2_with fail
  go_fit k
  rintro e w2 h2
  have H2 : Hid _ := HB.out _ _ _ h2
  have he := h2.1
  clear h2 HB
  subst he
  go_wp2
  go_end0
  exact ⟨rfl, H2.out.2⟩

set_option maxHeartbeats 1000000 in
set_option maxRecDepth 100000 in
theorem nodeC_rep (m : Nat) (hIH : NodeC m) (Z : Nat → Prop) (T S B : Nat) (v : Value) (f : Nat → In) (c : List Ia) (t : Tr) (w : World) (hv : Cd Z S w B v f c) (ht : Tat T w t) (hT : T ≤ S) (hZ : ∀ k, Z k → T ≤ k ∧ k < w.heap.size) (hw : WF (m + 1) t) (hS : S ≤ w.heap.size) (hn : c.length + (repC (cod m (kid t 0) 0) (t []).mn (t []).mx (t []).lz c.length).length ≤ 100000) (hk : (t []).kind = 6) :
    Calls Tryd.prog 25 #[.pointer (some ⟨B, 0, none⟩), ndV (t [])] w (Cp Z S B v c (repC (cod m (kid t 0) 0) (t []).mn (t []).mx (t []).lz c.length) w) := by
  have hb : Below w.heap.size w (w.alloc (ndX (t []))) := (Below.refl _ w).alloc (Nat.le_refl _) _
  have k : Calls Tryd.prog 41 #[.pointer (some ⟨B, 0, none⟩), ndV (t [])] (w.alloc (ndX (t []))) (Cp Z S B v c (repC (cod m (kid t 0) 0) (t []).mn (t []).mx (t []).lz c.length) (w.alloc (ndX (t [])))) := by
    by_cases h0 : (t []).mx = 0
    · have e : repC (cod m (kid t 0) 0) (t []).mn (t []).mx (t []).lz c.length = [] := by unfold repC; rw [if_pos h0]
      rw [e]
      exact repeat_none Z S B v f c (t []) _ (hv.below hb) h0
    · exact repeat_some m hIH Z T S B v f c t _ (hv.below hb) (ht.below (hb.mono (Nat.le_trans hT hS))) hT (fun k h => ⟨(hZ k h).1, Nat.lt_of_lt_of_le (hZ k h).2 hb.size⟩) hw (Nat.le_trans hS hb.size) hn hk h0
  have HB : Hid (∀ l e w2, Cp Z S B v c l (w.alloc (ndX (t []))) e w2 → Cp Z S B v c l w e w2) := fun l e w2 h => Cp.from hb h
  clear hv ht hT hZ hS hn hb hw hIH
  generalize repC (cod m (kid t 0) 0) (t []).mn (t []).mx (t []).lz c.length = l at *
  generalize t [] = d at *
  have t2 : (d.kind == 2) = false := by simp; omega
  have t3 : (d.kind == 3) = false := by simp; omega
  have t4 : (d.kind == 4) = false := by simp; omega
  have t5 : (d.kind == 5) = false := by simp; omega
  have t6 : (d.kind == 6) = true := by simp; omega
  clear hk
  go_enter Tryd.func25, Tryd.ntmps25
  go_wp2_with fail
  go_fit k
  rintro e w2 h2
  have H2 : Hid _ := HB.out _ _ _ h2
  have he := h2.1
  clear h2 HB
  subst he
  go_wp2
  go_end0
  exact ⟨rfl, H2.out.2⟩

theorem nodeC_any : ∀ m, NodeC m
  | 0 => fun _ _ _ _ _ _ _ _ _ _ _ _ _ h => by cases h
  | m + 1 => by
    intro Z T S B v f c t w hv ht hT hZ hw hS hn
    have hk := ndB_kind hw.1.1
    unfold cod at hn ⊢
    by_cases k2 : (t []).kind = 2
    · rw [if_pos k2] at hn ⊢
      exact nodeC_lit Z T S B v f c t w hv hZ hS (by simpa using hn) k2
    rw [if_neg k2] at hn ⊢
    by_cases k3 : (t []).kind = 3
    · rw [if_pos k3] at hn ⊢
      exact nodeC_class Z T S B v f c t w hv ht hT hZ hS (by simpa using hn) k3
    rw [if_neg k3] at hn ⊢
    by_cases k4 : (t []).kind = 4
    · rw [if_pos k4] at hn ⊢
      exact nodeC_cat m (nodeC_any m) Z T S B v f c t w hv ht hT hZ hw hS hn k4
    rw [if_neg k4] at hn ⊢
    by_cases k5 : (t []).kind = 5
    · rw [if_pos k5] at hn ⊢
      exact nodeC_alt m (nodeC_any m) Z T S B v f c t w hv ht hT hZ hw hS hn k5
    rw [if_neg k5] at hn ⊢
    by_cases k6 : (t []).kind = 6
    · rw [if_pos k6] at hn ⊢
      exact nodeC_rep m (nodeC_any m) Z T S B v f c t w hv ht hT hZ hw hS hn k6
    rw [if_neg k6] at hn ⊢
    by_cases k7 : (t []).kind = 7
    · rw [if_pos k7] at hn ⊢
      exact nodeC_group m (nodeC_any m) Z T S B v f c t w hv ht hT hZ hw hS (by simp at hn; omega) k7
    rw [if_neg k7] at hn ⊢
    by_cases k13 : (t []).kind = 13
    · rw [if_pos k13] at hn ⊢
      exact nodeC_m13 Z S B v f c t w hv hS (by simpa using hn) k13
    rw [if_neg k13] at hn ⊢
    by_cases k8 : 8 ≤ (t []).kind
    · rw [if_pos k8] at hn ⊢
      have hn' : c.length + 1 ≤ 100000 := by simpa using hn
      by_cases q8 : (t []).kind = 8
      · rw [q8]; exact nodeC_m8 Z S B v f c t w hv hS hn' q8
      by_cases q9 : (t []).kind = 9
      · rw [q9]; exact nodeC_m9 Z S B v f c t w hv hS hn' q9
      by_cases q10 : (t []).kind = 10
      · rw [q10]; exact nodeC_m10 Z S B v f c t w hv hS hn' q10
      by_cases q11 : (t []).kind = 11
      · rw [q11]; exact nodeC_m11 Z S B v f c t w hv hS hn' q11
      by_cases q12 : (t []).kind = 12
      · rw [q12]; exact nodeC_m12 Z S B v f c t w hv hS hn' q12
      omega
    · rw [if_neg k8]
      exact nodeC_empty Z S B v f c t w hv (by omega)
end Go.Proofs.YtbciclnffokjjaaDoor
/- Trees: Clone; Groups. -/
namespace Go.Proofs
open Go.Shelf Go.RowKit Go.Lib
def YtbciclnffokjjaaDoor.laysM316_ren : Go.Shelf.Ren := ⟨fun | 316 => 37 | n => n, fun | 9 => 9 | 3 => 3 | 4 => 4 | 37 => 70 | 0 => 0 | 127 => 87 | 5 => 5 | n => n, fun | n => n⟩
theorem YtbciclnffokjjaaDoor.laysM316 : Go.Proofs.LaysM.n316 Tryd.prog YtbciclnffokjjaaDoor.laysM316_ren := {
  mixed := by kernel_rfl
  f316 := Tryd.func37.trans (congrArg some (by kernel_rfl))
  t0 := Tryd.underlying0
  a0 := Tryd.isAgg0
  z0 := Tryd.sizeOf0
  v0 := Tryd.zeroValue0
  t3 := Tryd.underlying3
  a3 := Tryd.isAgg3
  z3 := Tryd.sizeOf3
  v3 := Tryd.zeroValue3
  t4 := Tryd.underlying4
  a4 := Tryd.isAgg4
  z4 := Tryd.sizeOf4
  v4 := Tryd.zeroValue4
  t9 := Tryd.underlying9
  a9 := Tryd.isAgg9
  z9 := Tryd.sizeOf9
  v9 := Tryd.zeroValue9
  t37 := Tryd.underlying70
  a37 := Tryd.isAgg70
  z37 := Tryd.sizeOf70
  v37 := Tryd.zeroValue70
  t127 := Tryd.underlying87
  a127 := Tryd.isAgg87
  z127 := Tryd.sizeOf87
  v127 := Tryd.zeroValue87
  t5 := Tryd.underlying5
  a5 := Tryd.isAgg5
  z5 := Tryd.sizeOf5
  v5 := Tryd.zeroValue5
  i0 := by kernel_rfl
  i3 := by kernel_rfl
  i4 := by kernel_rfl
  i5 := by kernel_rfl
  i9 := by kernel_rfl
  i37 := by kernel_rfl
  i127 := by kernel_rfl }
namespace YtbciclnffokjjaaDoor
theorem strings_clone (s : ByteArray) (w : World) (hs : s.size ≤ 281474976710656) : Calls Tryd.prog 24 #[.string s] w fun e w' => e = .returned (.string s) ∧ Below w.heap.size w w' := by
  have k : Calls Tryd.prog 37 #[.string s] w fun e w' => e = .returned (.string s) ∧ Below w.heap.size w w' := Any.stringslite_Clone YtbciclnffokjjaaDoor.laysM316 s w hs
  go_enter Tryd.func24, Tryd.ntmps24
  go_wp2_with fail
  go_fit k
  rintro e w1 ⟨rfl, b⟩
  go_wp2
  go_ret
  exact ⟨rfl, b⟩

theorem up_self (f : Nat → ByteArray) (i : Nat) : up f i (f i) = f := by
  funext j
  by_cases h : j = i
  · subst h; rw [up_same]
  · rw [up_other _ _ _ _ h]
theorem row_mono {w : World} {S S' e s n : Nat} {v : Value} {xs : List Value} (h : w.ownsRow S e s v n xs) (hs : S' ≤ S) : w.ownsRow S' e s v n xs := by
  refine ⟨h.1, ?_⟩
  rcases h.2 with h0 | ⟨g, cap, cur, hv, hB, r⟩
  · exact .inl h0
  · exact .inr ⟨g, cap, cur, hv, by omega, r⟩
theorem groups_idle (w : World) : CallsD Tryd.prog 21 #[] .returning w fun e u' w' => e = .returned (.tuple #[]) ∧ u' = .returning ∧ w' = w := by
  refine callsD_of_wpS Tryd.func21 rfl fun c₀ cs hu => ?_
  apply wpS_region
  simp [wpOpsS, go_sem, recoverD, hu, Tryd.ntmps21]
  refine (reason_nil w).mono ?_
  rintro e w' ⟨rfl, rfl⟩
  cases c₀
  simp_all [bodyPostS, results, Tryd.results21]

set_option maxHeartbeats 1000000 in
set_option maxRecDepth 100000 in
/-- Groups of a valid tree: its names, in a row of one's own. -/
theorem groups_any (t : Tr) (w : World) (s1 : St) (ht : Tat w.heap.size w t) (h : svd t = some s1) (hsz : ∀ j, j < s1.n → (s1.f j).size ≤ 140737488351232) (hn : s1.n ≤ 100) :
    Calls Tryd.prog 11 #[ndV (t [])] w fun e w' => (∃ v, e = .returned v ∧ w'.ownsRow w.heap.size 9 1 v s1.n (sc s1.f s1.n)) ∧ Below w.heap.size w w' := by
  have hb : Below w.heap.size w (w.alloc (ndX (t []))) := (Below.refl _ w).alloc (Nat.le_refl _) _
  have ht' : Tat (w.alloc (ndX (t []))).heap.size (w.alloc (ndX (t []))) t := (ht.below hb).mono hb.size
  have k := surveyed_yes t _ s1 ht' h
  have HB : Hid (Below w.heap.size w (w.alloc (ndX (t [])))) := hb
  have HSZ : Hid (∀ j, j < s1.n → (s1.f j).size ≤ 140737488351232) := hsz
  clear ht ht' h hb hsz
  generalize t [] = d at *
  go_enter_defers Tryd.func11, Tryd.ntmps11
  go_wp2_with fail
  go_fit k
  rintro e w1 ⟨⟨a, c, rfl, hm⟩, b1⟩
  have HM : Hid (Sml w1 a s1.f s1.n) := hm
  have B1 : Hid (Below w.heap.size w w1) := HB.out.trans (b1.mono HB.out.size)
  have hnI : (s1.n : Int) ≤ 100 := by omega
  clear b1 k hm
  have hfl : ∀ W : World, Sem.run Tryd.prog (Instr.field 58 (svV (s1.k : Int) (Value.slice a s1.n c) s1.l) 1) W = .ok (.slice a s1.n c) W := fun _ => by kernel_rfl
  go_wp2_with fail
  go_loopw [2, 9] (fun nv ivv w' => ∃ i : Nat, ivv = .int .i64 (i : Int) ∧ i ≤ s1.n ∧ Hid (w'.ownsRow w1.heap.size 9 1 nv i (sc s1.f i) ∧ Below w1.heap.size w1 w')) (fun _ ivv _ => s1.n - (RowKit.intOf ivv).toNat)
  case atStart => exact ⟨0, rfl, by omega, ⟨rfl, .inl ⟨rfl, rfl⟩⟩, Below.refl _ _⟩
  case round =>
    obtain ⟨i, rfl, hi, hI⟩ := hrel
    obtain ⟨hrow, hbw⟩ := hI.out
    obtain ⟨na, ncc, hnv⟩ : ∃ na ncc, u2 = .slice na i ncc := by
      rcases hrow.2 with ⟨e, e2⟩ | ⟨g, cc, cur, e, _⟩
      · exact ⟨none, 0, by rw [e, e2]⟩
      · exact ⟨_, cc, e⟩
    by_cases hlt : i < s1.n
    · have hii : (i : Int) < s1.n := by omega
      obtain ⟨g1, o1, rfl, hg1, x0⟩ := (HM.out.below hbw).at i hlt
      have kC := strings_clone (s1.f i) wr (by have := HSZ.out i hlt; omega)
      have HROW : Hid (wr.ownsRow w1.heap.size 9 1 u2 i (sc s1.f i)) := hrow
      have HBW : Hid (Below w1.heap.size w1 wr) := hbw
      have hi100 : i ≤ 100 := by omega
      subst hnv
      clear hrow hbw hI
      go_wp2_with fail
      go_fit kC
      rintro e w2 ⟨rfl, b2⟩
      have h2 := (Kp.of (M := fun _ => False) b2).row HROW.out (fun _ _ => id)
      have hb2 := HBW.out.trans (b2.mono HBW.out.size)
      obtain ⟨g, cc, w3, r3, o3, k3, hg3⟩ := append_t w2 w1.heap.size (.slice na i ncc) i s1.f (s1.f i) hb2.size (by omega) h2
      rw [up_self] at o3
      have hb3 : Below w1.heap.size w1 w3 := hb2.trans (k3.below hb2.size (fun j hj e => by
        rcases h2.2 with ⟨e', _⟩ | ⟨G, _, _, e', hG, _⟩
        · rw [e'] at e; cases e
        · rw [e'] at e
          have : G = j := Option.some.inj e
          omega))
      have HO : Hid (w3.ownsRow w1.heap.size 9 1 (.slice (some ⟨g, 0, none⟩) (i + 1) cc) (i + 1) (sc s1.f (i + 1)) ∧ Below w1.heap.size w1 w3) := ⟨o3, hb3⟩
      clear o3 k3 hg3 h2 hb2 hb3 b2 kC x0
      go_wp2_with (at_builtin; refine wpList_append_run rfl (.tmp 13) (.tmp 16) 29 29 rfl _ _ rfl rfl r3 ?_)
      exact ⟨⟨i + 1, by go_num, by omega, HO⟩, by simp [RowKit.intOf]; omega⟩
    · have hii : ¬ (i : Int) < s1.n := by omega
      have hin : i = s1.n := by omega
      have HF : Hid (wr.ownsRow w.heap.size 9 1 u2 s1.n (sc s1.f s1.n) ∧ Below w.heap.size w wr) := by
        subst hin
        exact ⟨row_mono hrow B1.out.size, B1.out.trans (hbw.mono B1.out.size)⟩
      subst hnv
      clear hrow hbw hI hin
      go_wp2
      refine leaves_cons (f := 21) (args := #[]) (by simp) (by simp [go_sem]) ?_
      refine (groups_idle _).mono ?_
      rintro e u' w'' ⟨rfl, rfl, rfl⟩
      simp [Leaves, settle, results, Tryd.results11, go_sem]
      exact HF.out
end YtbciclnffokjjaaDoor
end Go.Proofs
/- Code: slices.Clone of ranges; programOf. -/
namespace Go.Proofs.YtbciclnffokjjaaDoor
open Go.RowKit

theorem Ro.rml {w : World} {M : Nat → Prop} {a : Option Addr} {n : Nat} {rs : List Rg} (h : Ro w M a n rs) : Rml w a (fun j => rs.getD j (0, 0)) n := by
  rcases h.2 with h0 | ⟨g, o, e, hg, _, hc⟩
  · exact .inl h0
  · refine .inr ⟨g, o, e, hg, fun j hj => ?_⟩
    have hj' : j < rs.length := by have := h.1; omega
    have hg' : rs[j]? = some rs[j] := List.getElem?_eq_getElem hj'
    have e' : rs.getD j (0, 0) = rs[j] := by simp [List.getD, hg']
    dsimp only
    rw [e']
    exact hc j _ hg'
set_option maxHeartbeats 1000000 in
set_option maxRecDepth 100000 in
theorem cloneR_any (M : Nat → Prop) (a : Option Addr) (n c : Nat) (rs : List Rg) (w : World) (hM : ∀ k, M k → k < w.heap.size) (hr : Ro w M a n rs) (hn : n * 8 ≤ 140737488355328) :
    Calls Tryd.prog 27 #[.slice a n c] w fun e w' => (∃ a' c', e = .returned (.slice a' n c') ∧ Ro w' M a' n rs) ∧ Below w.heap.size w w' := by
  cases a with
  | none =>
    have h0 : n = 0 := by
      rcases hr.2 with h | ⟨_, _, h, _⟩
      · exact h
      · cases h
    subst h0
    have HR : Hid (Ro w M none 0 rs) := hr
    have hnil : ∀ w : World, (binOp BinOp.eql 22 (.slice none 0 c) (.slice none 0 0)).run Tryd.prog w = .ok (.bool true) w := fun _ => by kernel_rfl
    clear hr
    go_enter Tryd.func27, Tryd.ntmps27
    go_wp2
    go_ret
    exact ⟨⟨none, 0, rfl, HR.out⟩, Below.refl _ _⟩
  | some p =>
    obtain ⟨g, cap, w', r, o, b, hg, hlt⟩ := fresh_copy (P := Tryd.prog) w 22 51 _ 2 8 Tryd.underlying22 infG rfl (by decide) (some p) n c (rc2 (fun j => rs.getD j (0, 0)) n) (fun h => by cases h) (rc2_len _ _) (fun q hq => by cases hq; exact hr.rml.cells) (rc2_one _ _) (by unfold maxLen; omega) hn
    have HR : Hid (Ro w' M (some ⟨g, 0, none⟩) n rs) := by
      refine ⟨hr.1, ?_⟩
      by_cases h0 : n = 0
      · exact .inl h0
      · refine .inr ⟨g, 0, rfl, hlt, fun h => by have := hM g h; omega, fun j x hx => ?_⟩
        have hj : j < n := by have := (List.getElem?_eq_some_iff.1 hx).1; have := hr.1; omega
        have := (Rml.of_row o hlt).at j hj
        obtain ⟨g', o', e', _, c0, c1⟩ := this
        cases e'
        have ex : rs.getD j (0, 0) = x := by simp [List.getD, hx]
        rw [ex] at c0 c1
        exact ⟨c0, c1⟩
    have HB : Hid (Below w.heap.size w w') := b
    have hnil : ∀ w : World, (binOp BinOp.eql 22 (.slice (some p) n c) (.slice none 0 0)).run Tryd.prog w = .ok (.bool false) w := fun _ => by kernel_rfl
    clear o hr
    go_enter Tryd.func27, Tryd.ntmps27
    go_wp2_with (at_builtin; refine wpList_append_run rfl (.tmp 5) (.tmp 6) 22 22 rfl _ _ rfl rfl r ?_)
    go_ret
    exact ⟨⟨_, _, rfl, HR.out⟩, HB.out⟩
/-- The ranges of an instruction of the code are written. -/
theorem Cd.patch4 {Z : Nat → Prop} {S B g cc : Nat} {w : World} {f : Nat → In} {c : List Ia} (h : Cd Z S w B (.slice (some ⟨g, 0, none⟩) c.length cc) f c) (j : Nat) (i : Ia) (a : Option Addr) (rc : Nat) (hj : c[j]? = some i) (hr : Ro w (MZ Z B (.slice (some ⟨g, 0, none⟩) c.length cc)) a (f j).rn i.rs) :
    Cd Z S (w.setCell ⟨g, j * 5 + 4, none⟩ (.slice a (f j).rn rc)) B (.slice (some ⟨g, 0, none⟩) c.length cc) (up f j { f j with ra := a, rc := rc }) c ∧ Kp (Mv B (.slice (some ⟨g, 0, none⟩) c.length cc)) w (w.setCell ⟨g, j * 5 + 4, none⟩ (.slice a (f j).rn rc)) := by
  have hK : Kp (Mv B (.slice (some ⟨g, 0, none⟩) c.length cc)) w (w.setCell ⟨g, j * 5 + 4, none⟩ (.slice a (f j).rn rc)) := (Kp.refl _ w).setCell (p := ⟨g, j * 5 + 4, none⟩) (.inr rfl) _
  have hK' : Kp (MZ Z B (.slice (some ⟨g, 0, none⟩) c.length cc)) w (w.setCell ⟨g, j * 5 + 4, none⟩ (.slice a (f j).rn rc)) := hK.mono (fun _ _ e => .inl e)
  have hjl : j < c.length := (List.getElem?_eq_some_iff.1 hj).1
  have hgb : g ≠ B := fun e => h.gb (by rw [e]; rfl)
  have hkg : Kp (· = g) w (w.setCell ⟨g, j * 5 + 4, none⟩ (.slice a (f j).rn rc)) := (Kp.refl (· = g) w).setCell (p := ⟨g, j * 5 + 4, none⟩) rfl _
  refine ⟨⟨hkg.cell h.c0 (fun e => hgb e.symm), hkg.frozen h.c0 h.fz (fun e => hgb e.symm), ?_, h.gb, h.SB, fun k z hz => ?_⟩, hK⟩
  · rw [← n5_setq f j 4 (.slice a (f j).rn rc) { f j with ra := a, rc := rc } (by omega) rfl c.length hjl]
    exact (World.ownsRow.stored h.row (j * 5 + 4) _).1
  · by_cases e : k = j
    · subst e
      rw [hj] at hz
      cases hz
      rw [up_same]
      obtain ⟨a1, a2, a3, a4, _⟩ := h.rg k i hj
      exact ⟨a1, a2, a3, a4, hr.kp hK' (fun _ _ e => e)⟩
    · rw [up_other _ _ _ _ e]
      exact (h.rg k z hz).kp hK' (fun _ _ e => e)

/-- The program of a tree. -/
def prgC (t : Tr) : List Ia := cod 8195 t 0 ++ [⟨1, 0, 0, 0, []⟩]
/-- Code that a slice of one's own shows. -/
def Ow (S : Nat) (w : World) (v : Value) (c : List Ia) : Prop := ∃ (g cc : Nat) (f : Nat → In), v = .slice (some ⟨g, 0, none⟩) c.length cc ∧ w.ownsRow S 49 5 v c.length (n5 f c.length) ∧ ∀ j i, c[j]? = some i → Ism w (fun k => k = g) (f j) i
end Go.Proofs.YtbciclnffokjjaaDoor
/- Code: programOf. -/
namespace Go.Proofs.YtbciclnffokjjaaDoor
open Go.RowKit

/-- How many ranges an instruction has. -/
def Qr (i : Ia) : Prop := i.rs.length * 8 ≤ 140737488351232
theorem Qr.mvs {b : Int} {k : List Ia} (h : ∀ i ∈ k, Qr i) : ∀ i ∈ mvs b k, Qr i := by
  intro i hi
  unfold Go.Proofs.YtbciclnffokjjaaDoor.mvs at hi
  obtain ⟨j, hj, rfl⟩ := List.mem_map.1 hi
  exact h j hj
theorem Qr.nil (op out alt arg : Int) : Qr ⟨op, out, alt, arg, []⟩ := by unfold Qr; simp
theorem Qr.spl (k l : Int) (lz : Bool) : Qr (spl k l lz) := by unfold Qr Go.Proofs.YtbciclnffokjjaaDoor.spl; simp
theorem layF_rs {k : List Ia} (hk : ∀ i ∈ k, Qr i) (b : Int) : ∀ j, ∀ i ∈ layF k j b, Qr i
  | 0, i, h => by cases h
  | j + 1, i, h => by
    rw [layF_succ] at h
    rcases List.mem_append.1 h with h | h
    · exact layF_rs hk b j i h
    · exact Qr.mvs hk i h
theorem optF_rs {k : List Ia} (hk : ∀ i ∈ k, Qr i) (lz : Bool) (e b : Int) : ∀ j, ∀ i ∈ optF k lz e j b, Qr i
  | 0, i, h => by cases h
  | j + 1, i, h => by
    rw [optF_succ] at h
    rcases List.mem_append.1 h with h | h
    · exact optF_rs hk lz e b j i h
    · rcases List.mem_cons.1 h with rfl | h
      · exact Qr.spl _ _ _
      · exact Qr.mvs hk i h
theorem repC_rs {k : List Ia} (hk : ∀ i ∈ k, Qr i) (mn mx : Int) (lz : Bool) (b : Int) : ∀ i ∈ repC k mn mx lz b, Qr i := by
  intro i h
  unfold repC at h
  split at h
  · cases h
  · split at h
    · rcases List.mem_append.1 h with h | h
      · exact layF_rs hk b _ i h
      · rcases List.mem_cons.1 h with rfl | h
        · exact Qr.spl _ _ _
        · rcases List.mem_append.1 h with h | h
          · exact Qr.mvs hk i h
          · rcases List.mem_singleton.1 h with rfl
            exact Qr.nil _ _ _ _
    · rcases List.mem_append.1 h with h | h
      · exact layF_rs hk b _ i h
      · exact optF_rs hk lz _ _ _ i h
theorem catF_rs {F : Nat → Int → List Ia} (b : Int) : ∀ n, (∀ j, j < n → ∀ b, ∀ i ∈ F j b, Qr i) → ∀ i ∈ catF F n b, Qr i
  | 0, _, i, h => by cases h
  | n + 1, hF, i, h => by
    unfold catF at h
    rcases List.mem_append.1 h with h | h
    · exact catF_rs b n (fun j hj => hF j (by omega)) i h
    · exact hF n (by omega) _ i h
theorem altF_rs {F : Nat → Int → List Ia} (e b : Int) : ∀ n, (∀ j, j < n → ∀ b, ∀ i ∈ F j b, Qr i) → ∀ i ∈ altF F e n b, Qr i
  | 0, _, i, h => by cases h
  | n + 1, hF, i, h => by
    unfold altF at h
    rcases List.mem_append.1 h with h | h
    · exact altF_rs e b n (fun j hj => hF j (by omega)) i h
    · rcases List.mem_cons.1 h with rfl | h
      · exact Qr.nil _ _ _ _
      · rcases List.mem_append.1 h with h | h
        · exact hF n (by omega) _ i h
        · rcases List.mem_singleton.1 h with rfl
          exact Qr.nil _ _ _ _
theorem cod_rs {B : Nat} {w : World} : ∀ (m : Nat) (t : Tr) (b : Int), Tat B w t → WF m t → ∀ i ∈ cod m t b, Qr i
  | 0, _, _, _, h, _, _ => by cases h
  | m + 1, t, b, ht, hw, i, h => by
    obtain ⟨⟨hnd, _⟩, _, hk⟩ := hw
    have ih : ∀ j, j < (t []).kn → ∀ b, ∀ i ∈ cod m (kid t j) b, Qr i := fun j hj b i hi => cod_rs m _ b (ht.kid j hj) (hk j hj) i hi
    have hrn := ht.node.1
    unfold cod at h
    split at h
    · rcases List.mem_singleton.1 h with rfl
      unfold Qr; simp
    split at h
    · rcases List.mem_singleton.1 h with rfl
      unfold clsC Qr
      split
      · simp
      · dsimp only; rw [rsL_len]; exact hrn
    split at h
    · exact catF_rs b _ ih i h
    split at h
    · rename_i k5
      have h2 := ndB_row hnd (.inr k5)
      unfold altC at h
      rcases List.mem_append.1 h with h | h
      · exact altF_rs _ b _ (fun j hj => ih j (by omega)) i h
      · exact ih _ (by omega) _ i h
    split at h
    · rename_i k6
      have h6 := ndB_rep hnd k6
      exact repC_rs (ih 0 (by omega) 0) _ _ _ b i h
    split at h
    · rename_i k7
      have h7 := ndB_grp hnd k7
      rcases List.mem_cons.1 h with rfl | h
      · exact Qr.nil _ _ _ _
      · rcases List.mem_append.1 h with h | h
        · exact ih 0 (by omega) _ i h
        · rcases List.mem_singleton.1 h with rfl
          exact Qr.nil _ _ _ _
    split at h
    · rcases List.mem_singleton.1 h with rfl
      exact Qr.nil _ _ _ _
    split at h
    · rcases List.mem_singleton.1 h with rfl
      exact Qr.nil _ _ _ _
    · cases h

set_option maxHeartbeats 4000000 in
set_option maxRecDepth 100000 in
theorem programOf_any (t : Tr) (w : World) (ht : Tat w.heap.size w t) (hw : WF 8195 t) (hn : (cod 8195 t 0).length + 1 ≤ 100000) :
    Calls Tryd.prog 12 #[ndV (t [])] w fun e w' => (∃ v, e = .returned v ∧ Ow w.heap.size w' v (prgC t)) ∧ Below w.heap.size w w' := by
  have b1 : Below w.heap.size w (w.alloc (ndX (t []))) := (Below.refl _ w).alloc (Nat.le_refl _) _
  obtain ⟨W1, hW1⟩ : ∃ W1, W1 = w.alloc (ndX (t [])) := ⟨_, rfl⟩
  have hz1 : W1.heap.size = w.heap.size + 1 := by rw [hW1]; simp
  rw [← hW1] at b1
  have b2 : Below W1.heap.size W1 (W1.alloc (.cells #[.slice none 0 0] 62)) := (Below.refl _ W1).alloc (Nat.le_refl _) _
  have ht2 : Tat w.heap.size (W1.alloc (.cells #[.slice none 0 0] 62)) t := (ht.below b1).below (b2.mono b1.size)
  have cN := cd_new (fun _ => False) W1
  have kN := nodeC_any 8195 (fun _ => False) w.heap.size W1.heap.size W1.heap.size (.slice none 0 0) fIn [] t (W1.alloc (.cells #[.slice none 0 0] 62)) cN ht2 b1.size (fun k h => h.elim) hw b2.size (by show 0 + (cod 8195 t 0).length ≤ 100000; omega)
  change Calls Tryd.prog 25 _ _ (Cp (fun _ => False) W1.heap.size W1.heap.size (.slice none 0 0) [] (cod 8195 t 0) (W1.alloc (.cells #[.slice none 0 0] 62))) at kN
  have HQ : Hid (∀ i ∈ prgC t, Qr i) := fun i hi => by
    unfold prgC at hi
    rcases List.mem_append.1 hi with hi | hi
    · exact cod_rs 8195 t 0 ht hw i hi
    · rcases List.mem_singleton.1 hi with rfl
      exact Qr.nil _ _ _ _
  have H3 : Hid (∀ e w3, Cp (fun _ => False) W1.heap.size W1.heap.size (.slice none 0 0) [] (cod 8195 t 0) (W1.alloc (.cells #[.slice none 0 0] 62)) e w3 → e = .returned (.tuple #[]) ∧ Rn (fun _ => False) W1.heap.size W1.heap.size (.slice none 0 0) [] (W1.alloc (.cells #[.slice none 0 0] 62)) (cod 8195 t 0) w3) := fun e w3 h => by
    obtain ⟨he, ⟨v2, f2, cd2, sb2⟩, kp2⟩ := h
    exact ⟨he, v2, f2, cd2, sb2, kp2⟩
  have HS2 : Hid (W1.heap.size ≤ (W1.alloc (.cells #[.slice none 0 0] 62)).heap.size) := b2.size
  have HLOW : Hid (∀ l w', Rn (fun _ => False) W1.heap.size W1.heap.size (.slice none 0 0) [] (W1.alloc (.cells #[.slice none 0 0] 62)) l w' → Below w.heap.size w w' ∧ Below W1.heap.size W1 w') := fun l w' h => by
    have := b2.trans (cN.low b2.size h.kp)
    exact ⟨b1.trans (this.mono b1.size), this⟩
  have HN : Hid ((cod 8195 t 0).length + 1 ≤ 100000) := hn
  have HP : Hid (prgC t = cod 8195 t 0 ++ [⟨1, 0, 0, 0, []⟩]) := rfl
  rw [hz1] at kN H3 HS2 HLOW
  subst hW1
  clear ht hw hn b1 hz1 b2 ht2 cN
  generalize hcd : cod 8195 t 0 = cd0 at *
  generalize prgC t = pr at *
  clear hcd
  generalize t [] = d at *
  go_enter Tryd.func12, Tryd.ntmps12
  go_wp2_with fail
  go_fit kN
  rintro e w3 h3
  obtain ⟨rfl, r3⟩ := H3.out _ _ h3
  have kP := r3.put HS2.out (by have := HN.out; simp; omega) 1 0 0 0
  clear kN H3 h3 r3
  go_wp2_with fail
  go_fit kP
  rintro e w4 ⟨rfl, r4⟩
  rw [← HP.out] at r4
  obtain ⟨v4, f4, cd4, sb4, kp4⟩ := r4
  rw [List.nil_append] at cd4
  have hlen : 0 < pr.length := by rw [HP.out]; simp
  have hlenI : (pr.length : Int) ≤ 100000 := by have := HN.out; rw [HP.out]; simp; omega
  obtain ⟨g, cc, rfl⟩ : ∃ g cc, v4 = .slice (some ⟨g, 0, none⟩) pr.length cc := by
    rcases cd4.row.2 with ⟨_, e2⟩ | ⟨g, cc, cur, e, _⟩
    · omega
    · exact ⟨g, cc, e⟩
  have HB4 : Hid (Below w.heap.size w w4) := (HLOW.out _ _ ⟨_, f4, by rw [List.nil_append]; exact cd4, sb4, kp4⟩).1
  have CD4 : Hid _ := cd4
  obtain ⟨B, hB⟩ : ∃ B, B = w.heap.size + 1 := ⟨_, rfl⟩
  rw [← hB] at cd4 CD4
  have c4 := cd4.c0
  have HBB : Hid (B = w.heap.size + 1) := hB
  clear kP sb4 kp4 cd4 hB HLOW
  go_upto_region 4 with fail
  rw [← HBB.out]
  go_wp2_with fail
  go_loopw [12] (fun ivv w' => ∃ i : Nat, ivv = .int .i64 (i : Int) ∧ i ≤ pr.length ∧ ∃ f', Hid (Cd (fun _ => False) B w' B (.slice (some ⟨g, 0, none⟩) pr.length cc) f' pr ∧ Kp (Mv B (.slice (some ⟨g, 0, none⟩) pr.length cc)) w4 w')) (fun ivv _ => pr.length - (RowKit.intOf ivv).toNat)
  case atStart => exact ⟨0, rfl, by omega, f4, CD4.out, Kp.refl _ _⟩
  case round =>
    obtain ⟨i, rfl, hi, f', hI⟩ := hrel
    obtain ⟨cd, kp⟩ := hI.out
    have c0 := cd.c0
    by_cases hlt : i < pr.length
    · have hii : (i : Int) < pr.length := by omega
      obtain ⟨x, hget⟩ : ∃ x, pr[i]? = some x := ⟨_, List.getElem?_eq_getElem hlt⟩
      have hq := HQ.out x (List.mem_of_getElem? hget)
      have hro := (cd.rg i x hget).2.2.2.2
      have hdr : Below wr.heap.size wr wr.drew := (Below.refl _ wr).drew
      have kC := cloneR_any (MZ (fun _ => False) B (.slice (some ⟨g, 0, none⟩) pr.length cc)) (f' i).ra (f' i).rn (f' i).rc x.rs wr.drew (fun k h => by
        rcases h with h | h
        · exact (cd.base k h).2
        · exact h.elim) (hro.kp (Kp.of hdr) (fun _ _ e => e)) (by have := hro.1; unfold Qr at hq; omega)
      have z1 : wr.cell? ⟨g, i * 5 + 4, none⟩ = some (.slice (f' i).ra (f' i).rn (f' i).rc) := by
        rw [World.ownsRow.cellAt cd.row (i * 5 + 4) (by omega), n5_get _ _ _ _ hlt (by omega)]
        rfl
      have z2 : wr.frozen? ⟨g, i * 5 + 4, none⟩ = false := World.ownsRow.frozenAt cd.row _
      have H5 : Hid (∀ w5 a' c', Ro w5 (MZ (fun _ => False) B (.slice (some ⟨g, 0, none⟩) pr.length cc)) a' (f' i).rn x.rs → Below wr.drew.heap.size wr.drew w5 → ∃ f2, Cd (fun _ => False) B (w5.setCell ⟨g, i * 5 + 4, none⟩ (.slice a' (f' i).rn c')) B (.slice (some ⟨g, 0, none⟩) pr.length cc) f2 pr ∧ Kp (Mv B (.slice (some ⟨g, 0, none⟩) pr.length cc)) w4 (w5.setCell ⟨g, i * 5 + 4, none⟩ (.slice a' (f' i).rn c'))) := fun w5 a' c' hr b5 => by
        obtain ⟨q1, q2⟩ := ((cd.below hdr).below b5).patch4 i x a' c' hget hr
        exact ⟨_, q1, (kp.trans (Kp.of (hdr.trans b5))).trans q2⟩
      have HC5 : Hid (∀ w5, Below wr.drew.heap.size wr.drew w5 → w5.cell? ⟨B, 0, none⟩ = some (.slice (some ⟨g, 0, none⟩) pr.length cc) ∧ w5.cell? ⟨g, i * 5 + 4, none⟩ = some (.slice (f' i).ra (f' i).rn (f' i).rc) ∧ w5.frozen? ⟨g, i * 5 + 4, none⟩ = false) := fun w5 b5 => by
        have cd5 := (cd.below hdr).below b5
        refine ⟨cd5.c0, ?_, World.ownsRow.frozenAt cd5.row _⟩
        rw [World.ownsRow.cellAt cd5.row (i * 5 + 4) (by omega), n5_get _ _ _ _ hlt (by omega)]
        rfl
      have HLT : Hid (i < pr.length) := hlt
      clear cd kp hget hq hro hdr hI
      go_wp2_with fail
      go_region_with (go_at_call 27; go_fit kC; rintro e w5 ⟨⟨a', c', rfl, hr5⟩, b5⟩; have y5 := HC5.out w5 b5; have y6 := y5.1; have y7 := y5.2.1; have y8 := y5.2.2; clear y5)
      all_goals
        obtain ⟨f2, h2⟩ := H5.out w5 a' c' hr5 b5
        have HH2 : Hid _ := h2
        clear h2 hr5 b5 y6 y7 y8 kC H5 HC5
        go_wp2
        exact ⟨⟨i + 1, by go_num, HLT.out, f2, HH2⟩, by simp [RowKit.intOf]; omega⟩
    · have hii : ¬ (i : Int) < pr.length := by omega
      have HF : Hid ((∃ v, Ending.returned (.slice (some ⟨g, 0, none⟩) pr.length cc) = .returned v ∧ Ow w.heap.size wr v pr) ∧ Below w.heap.size w wr) := by
        have hBw : w.heap.size ≤ B := by rw [HBB.out]; omega
        refine ⟨⟨_, rfl, g, cc, f', rfl, row_mono cd.row hBw, fun j i hj => (cd.rg j i hj).kp (Kp.refl _ wr) (fun k _ e => .inl (.inr (by rw [e]; rfl)))⟩, HB4.out.trans (kp.below HB4.out.size (fun k hk e => ?_))⟩
        have := (CD4.out.base k e).1
        omega
      clear cd kp hI
      go_wp2
      go_ret
      exact HF.out
end Go.Proofs.YtbciclnffokjjaaDoor
/- Code: its length; Compile. -/
namespace Go.Proofs.YtbciclnffokjjaaDoor
open Go.RowKit

theorem catF_sum {F : Nat → Int → List Ia} {L : Nat → Int} (b : Int) : ∀ n, (∀ j, j < n → ∀ b, ((F j b).length : Int) = L j) → ((catF F n b).length : Int) = sumN L n
  | 0, _ => rfl
  | n + 1, h => by
    unfold catF sumN
    rw [List.length_append, Int.natCast_add, catF_sum b n (fun j hj => h j (by omega)), h n (by omega)]
theorem altF_sum {F : Nat → Int → List Ia} {L : Nat → Int} (e b : Int) : ∀ n, (∀ j, j < n → ∀ b, ((F j b).length : Int) = L j) → ((altF F e n b).length : Int) = sumN L n + 2 * n
  | 0, _ => rfl
  | n + 1, h => by
    have ih := altF_sum (F := F) (L := L) e b n (fun j hj => h j (by omega))
    have hn := h n (by omega) (b + (altF F e n b).length + 1)
    unfold altF sumN
    rw [List.length_append, List.length_cons, List.length_append, List.length_singleton]
    push_cast
    omega
theorem sumN_mem {L : Nat → Int} : ∀ {n : Nat}, (∀ j, j < n → 0 ≤ L j) → ∀ j, j < n → L j ≤ sumN L n
  | 0, _, j, hj => by omega
  | n + 1, h, j, hj => by
    have h0 : 0 ≤ sumN L n := by
      have key : ∀ m, m ≤ n → 0 ≤ sumN L m := by
        intro m
        induction m with
        | zero => intro _; exact Int.le_refl _
        | succ m ih => intro hm; unfold sumN; have := ih (by omega); have := h m (by omega); omega
      exact key n (Nat.le_refl _)
    unfold sumN
    by_cases e : j = n
    · subst e; omega
    · have := sumN_mem (n := n) (fun j hj => h j (by omega)) j (by omega)
      have := h n (by omega)
      omega
theorem repC_len (k : List Ia) (mn mx : Int) (lz : Bool) (b : Int) (h0 : 0 ≤ mn) (hx : mx = -1 ∨ mn ≤ mx) (hm : ¬ mx = 0) : ((repC k mn mx lz b).length : Int) = if mx = -1 then mn * k.length + k.length + 2 else mn * k.length + (mx - mn) * (k.length + 1) := by
  unfold repC
  rw [if_neg hm]
  have hl : ((layF k mn.toNat b).length : Int) = mn * k.length := by rw [layF_len]; push_cast; rw [Int.toNat_of_nonneg h0]
  by_cases h1 : mx = -1
  · rw [if_pos h1, if_pos h1, List.length_append, List.length_cons, List.length_append, mvs_len, List.length_singleton]
    push_cast
    omega
  · rw [if_neg h1, if_neg h1, List.length_append, optF_len]
    push_cast
    rw [Int.toNat_of_nonneg (by omega), hl, Int.add_comm 1 (k.length : Int)]
theorem cod_len : ∀ (m : Nat) (t : Tr) (b : Int), WF m t → lenF m t ≤ 10000 → ((cod m t b).length : Int) = lenF m t
  | 0, _, _, h, _ => by cases h
  | m + 1, t, b, hw, hl => by
    obtain ⟨⟨hnd, _⟩, hkn, hk⟩ := hw
    have hbd : ∀ j, j < (t []).kn → 0 ≤ lenF m (kid t j) ∧ lenF m (kid t j) ≤ 10001 := fun j hj => lenF_bd m _ (hk j hj)
    have hkd := ndB_kind hnd
    rw [lenF_succ] at hl ⊢
    obtain ⟨s, hs⟩ : ∃ s, sumN (fun j => lenF m (kid t j)) (t []).kn = s := ⟨_, rfl⟩
    rw [hs] at hl ⊢
    have hmem : ∀ j, j < (t []).kn → lenF m (kid t j) ≤ s := fun j hj => by rw [← hs]; exact sumN_mem (L := fun j => lenF m (kid t j)) (fun j hj => (hbd j hj).1) j hj
    have hs0 : 0 ≤ s := by
      rw [← hs]
      exact (sumN_bd (f := fun j => lenF m (kid t j)) (b := 10001) (by omega) _ hbd).1
    have ih : s ≤ 10000 → ∀ j, j < (t []).kn → ∀ b, (((fun j b => cod m (kid t j) b) j b).length : Int) = lenF m (kid t j) := fun h j hj b => cod_len m _ b (hk j hj) (by have := hmem j hj; omega)
    have hmin : lenK (t []) s ≤ 10000 := by omega
    rw [show min (lenK (t []) s) 10001 = lenK (t []) s by omega]
    by_cases k2 : (t []).kind = 2
    · have eC : cod (m + 1) t b = [⟨2, b + 1, 0, 0, [((t []).r, (t []).r)]⟩] := by unfold cod; rw [if_pos k2]
      have eL : lenK (t []) s = 1 := by unfold lenK; rw [if_neg (by omega), if_neg (by omega), if_neg (by omega), if_neg (by omega)]
      rw [eC, eL]; rfl
    by_cases k3 : (t []).kind = 3
    · have eC : cod (m + 1) t b = [clsC (rsL (t [])) b] := by unfold cod; rw [if_neg k2, if_pos k3]
      have eL : lenK (t []) s = 1 := by unfold lenK; rw [if_neg (by omega), if_neg (by omega), if_neg (by omega), if_neg (by omega)]
      rw [eC, eL]; rfl
    by_cases k4 : (t []).kind = 4
    · have eC : cod (m + 1) t b = catF (fun j b => cod m (kid t j) b) (t []).kn b := by
        conv => lhs; unfold cod
        rw [if_neg k2, if_neg k3, if_pos k4]
      have eL : lenK (t []) s = s := by unfold lenK; rw [if_pos (Or.inr k4)]
      rw [eL] at hmin ⊢
      rw [eC, catF_sum b _ (ih hmin), hs]
    by_cases k5 : (t []).kind = 5
    · have h2 := ndB_row hnd (.inr k5)
      have eC : cod (m + 1) t b = altC (fun j b => cod m (kid t j) b) ((t []).kn - 1) b := by
        conv => lhs; unfold cod
        rw [if_neg k2, if_neg k3, if_neg k4, if_pos k5]
      have eL : lenK (t []) s = s + 2 * (((t []).kn : Int) - 1) := by unfold lenK; rw [if_neg (by omega), if_pos k5]
      rw [eL] at hmin ⊢
      rw [eC]
      have ih' := ih (by omega)
      have e0 : ((altF (fun j b => cod m (kid t j) b) (b + (altF (fun j b => cod m (kid t j) b) 0 ((t []).kn - 1) b).length + ((fun j b => cod m (kid t j) b) ((t []).kn - 1) (b + (altF (fun j b => cod m (kid t j) b) 0 ((t []).kn - 1) b).length)).length) ((t []).kn - 1) b).length : Int) = sumN (fun j => lenF m (kid t j)) ((t []).kn - 1) + 2 * (((t []).kn - 1 : Nat) : Int) := altF_sum _ b _ (fun j hj => ih' j (by omega))
      have e2 := ih' ((t []).kn - 1) (by omega) (b + (altF (fun j b => cod m (kid t j) b) 0 ((t []).kn - 1) b).length)
      have e1 : sumN (fun j => lenF m (kid t j)) (t []).kn = sumN (fun j => lenF m (kid t j)) ((t []).kn - 1) + lenF m (kid t ((t []).kn - 1)) := by
        obtain ⟨q, hq⟩ : ∃ q, (t []).kn = q + 1 := ⟨(t []).kn - 1, by omega⟩
        rw [hq, Nat.add_sub_cancel]
        rfl
      unfold altC
      rw [List.length_append, Int.natCast_add, e0, e2]
      omega
    by_cases k6 : (t []).kind = 6
    · have h6 := ndB_rep hnd k6
      have eC : cod (m + 1) t b = repC (cod m (kid t 0) 0) (t []).mn (t []).mx (t []).lz b := by
        conv => lhs; unfold cod
        rw [if_neg k2, if_neg k3, if_neg k4, if_neg k5, if_pos k6]
      have eL : lenK (t []) s = if (t []).mx = -1 then (t []).mn * s + s + 2 else (t []).mn * s + ((t []).mx - (t []).mn) * (s + 1) := by unfold lenK; rw [if_neg (by omega), if_neg k5, if_neg (by omega), if_pos k6]
      rw [eL] at hmin ⊢
      rw [eC]
      have hs1 : lenF m (kid t 0) = s := by
        have e : sumN (fun j => lenF m (kid t j)) 1 = s := by rw [← hs, h6.1]
        simpa [sumN] using e
      by_cases hx : (t []).mx = 0
      · have hmn : (t []).mn = 0 := by omega
        unfold repC
        rw [if_pos hx, if_neg (by omega), hx, hmn]
        simp
      · have hsl : s ≤ 10000 := by
          by_cases h : s ≤ 10000
          · exact h
          · exfalso
            split at hmin
            · have := Int.mul_nonneg h6.2.1 hs0
              omega
            · by_cases hm0 : (t []).mn = 0
              · rw [hm0] at hmin
                have h3 : 1 * (s + 1) ≤ ((t []).mx - 0) * (s + 1) := Int.mul_le_mul_of_nonneg_right (by omega) (by omega)
                omega
              · have h3 : 1 * s ≤ (t []).mn * s := Int.mul_le_mul_of_nonneg_right (by omega) hs0
                have h4 := Int.mul_nonneg (show 0 ≤ (t []).mx - (t []).mn by omega) (show 0 ≤ s + 1 by omega)
                omega
        have hk0 : ((cod m (kid t 0) 0).length : Int) = s := by rw [cod_len m _ 0 (hk 0 (by omega)) (by omega), hs1]
        rw [repC_len _ _ _ _ _ h6.2.1 (by omega) hx, hk0]
    by_cases k7 : (t []).kind = 7
    · have h7 := ndB_grp hnd k7
      have eC : cod (m + 1) t b = ⟨4, b + 1, 0, 2 * (t []).cp, []⟩ :: (cod m (kid t 0) (b + 1) ++ [⟨4, b + 1 + (cod m (kid t 0) (b + 1)).length + 1, 0, 2 * (t []).cp + 1, []⟩]) := by
        conv => lhs; unfold cod
        rw [if_neg k2, if_neg k3, if_neg k4, if_neg k5, if_neg k6, if_pos k7]
      have eL : lenK (t []) s = s + 2 := by unfold lenK; rw [if_neg (by omega), if_neg k5, if_pos k7]
      rw [eL] at hmin ⊢
      rw [eC]
      have hs1 : lenF m (kid t 0) = s := by
        have e : sumN (fun j => lenF m (kid t j)) 1 = s := by rw [← hs, h7]
        simpa [sumN] using e
      have := ih (by omega) 0 (by omega) (b + 1)
      dsimp only at this
      rw [List.length_cons, List.length_append, List.length_singleton]
      push_cast
      omega
    by_cases k13 : (t []).kind = 13
    · have eC : cod (m + 1) t b = [⟨9, b + 1, 0, 1, []⟩] := by unfold cod; rw [if_neg k2, if_neg k3, if_neg k4, if_neg k5, if_neg k6, if_neg k7, if_pos k13]
      have eL : lenK (t []) s = 1 := by unfold lenK; rw [if_neg (by omega), if_neg (by omega), if_neg (by omega), if_neg (by omega)]
      rw [eC, eL]; rfl
    by_cases k8 : 8 ≤ (t []).kind
    · have eC : cod (m + 1) t b = [⟨(t []).kind - 3, b + 1, 0, 0, []⟩] := by unfold cod; rw [if_neg k2, if_neg k3, if_neg k4, if_neg k5, if_neg k6, if_neg k7, if_neg k13, if_pos k8]
      have eL : lenK (t []) s = 1 := by unfold lenK; rw [if_neg (by omega), if_neg (by omega), if_neg (by omega), if_neg (by omega)]
      rw [eC, eL]; rfl
    · have eC : cod (m + 1) t b = [] := by unfold cod; rw [if_neg k2, if_neg k3, if_neg k4, if_neg k5, if_neg k6, if_neg k7, if_neg k13, if_neg k8]
      have eL : lenK (t []) s = s := by unfold lenK; rw [if_pos (Or.inl (by omega))]
      rw [eC, eL]
      have h0 := ndB_leaf hnd (.inl (by omega))
      rw [h0] at hs
      have : s = 0 := hs.symm
      rw [this]
      rfl
end Go.Proofs.YtbciclnffokjjaaDoor
