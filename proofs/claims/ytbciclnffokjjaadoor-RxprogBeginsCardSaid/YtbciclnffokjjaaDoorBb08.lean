/- A bundle of texts. -/
import Derived.Test.YtbciclnffokjjaaDoorBb06
import Derived.Test.YtbciclnffokjjaaDoorBb07
import Derived.Recover
import Derived.Defers
/- Trees: node, surveyed. -/
namespace Go.Proofs.YtbciclnffokjjaaDoor
open Go.RowKit

theorem node_any (S B : Nat) : ∀ m : Nat, NodeOk S B m := by
  intro m
  induction m with
  | zero =>
    intro t op s v w hv ht hk hm hn hS h0 h1
    refine (node_no S B v t op s w hv ht hk hS (.inl (by omega))).mono fun e w' h => ?_
    exact Np.no h.1 h.2
  | succ m ih =>
    intro t op s v w hv ht hk hm hn hS h0 h1
    by_cases hc : 8194 < s.k + 1 ∨ 250 < op ∨ ndB (t []) = false
    · have e : vd (m + 1) t op s = none := by
        show (if _ then _ else _) = _
        rw [if_pos hc]
      rw [e]
      exact (node_no S B v t op s w hv ht hk hS hc).mono fun e w' h => Np.no h.1 h.2
    · have hnd : ndB (t []) = true := by
        cases h : ndB (t []) with
        | true => rfl
        | false => exact absurd (.inr (.inr h)) hc
      have a1 : s.k + 1 ≤ 8194 := by omega
      have a2 : op ≤ 250 := by omega
      by_cases k10 : (t []).kind = 10
      · exact node_10 S B m v t op s w ih hv ht a1 hm hn hS h0 a2 hnd k10
      by_cases k11 : (t []).kind = 11
      · exact node_11 S B m v t op s w ih hv ht a1 hm hn hS h0 a2 hnd k11
      by_cases k7 : (t []).kind = 7
      · cases hg : grp (t []) { s with k := s.k + 1 } with
        | none => exact node_7no S B m v t op s w ih hv ht a1 hm hn hS h0 a2 hnd k7 hg
        | some s1 => exact node_7 S B m v t op s w ih hv ht a1 hm hn hS h0 a2 hnd s1 k7 hg
      · exact node_else S B m v t op s w ih hv ht a1 hm hn hS h0 a2 hnd k7 k10 k11

def s0 : St := ⟨0, 0, fun _ => ⟨#[]⟩, false⟩
/-- The survey of a whole tree. -/
def svd (t : Tr) : Option St := vd 8195 t 0 s0
/-- Is a tree valid? -/
def okT (t : Tr) : Bool := (svd t).isSome
abbrev svV (k : Int) (v : Value) (l : Bool) : Value := .agg #[.int .i64 k, v, .bool l]
theorem sv_new (w : World) : Sv w.heap.size (w.alloc (.cells #[.int .i64 0, .slice none 0 0, .bool false] 58)) w.heap.size (.slice none 0 0) s0 := by
  have e : (w.alloc (.cells #[.int .i64 0, .slice none 0 0, .bool false] 58)).heap[w.heap.size]? = some (.cells #[.int .i64 0, .slice none 0 0, .bool false] 58) := heap_alloc_new w _
  refine ⟨?_, ?_, ?_, ?_, ⟨rfl, .inl ⟨rfl, rfl⟩⟩, by simp [Value.ownBlock], Nat.le_refl _⟩
  · unfold World.cell?; rw [e]; rfl
  · unfold World.cell?; rw [e]; rfl
  · unfold World.cell?; rw [e]; rfl
  · intro o
    unfold World.frozen?
    rw [e]
    simp
end Go.Proofs.YtbciclnffokjjaaDoor
/- Trees: surveyed. -/
namespace Go.Proofs.YtbciclnffokjjaaDoor
open Go.RowKit

abbrev sX : Obj := .cells #[.int .i64 0, .slice none 0 0, .bool false] 58

set_option maxHeartbeats 2000000 in
set_option maxRecDepth 100000 in
theorem surveyed_no (t : Tr) (w : World) (ht : Tat w.heap.size w t) (h : svd t = none) :
    Calls Tryd.prog 23 #[ndV (t [])] w fun e w' => pan e ∧ Below w.heap.size w w' := by
  have b1 : Below w.heap.size w ((w.alloc (ndX (t []))).alloc sX) := two_below _ _
  obtain ⟨V, hV⟩ : ∃ V, V = (w.alloc (ndX (t []))).alloc sX := ⟨_, rfl⟩
  rw [← hV] at b1
  have hs := sv_new V
  have b2 : Below V.heap.size V (V.alloc sX) := (Below.refl _ V).alloc (Nat.le_refl _) _
  have ht2 := ((ht.below b1).mono b1.size).below b2
  have kN := node_any V.heap.size V.heap.size 8195 t 0 s0 _ _ hs ht2 (by decide) (by decide) (by decide) b2.size (by decide) (by decide)
  have e : vd 8195 t 0 s0 = none := h
  rw [e] at kN
  have hz : V.heap.size = w.heap.size + 1 + 1 := by rw [hV]; simp
  have hl := fun w' => hs.low (w' := w') b2.size
  have HL : Hid (∀ w', Kp (Mv V.heap.size (.slice none 0 0)) (V.alloc sX) w' → Below w.heap.size w w') := fun w' k => b1.trans ((b2.trans (hl w' k)).mono b1.size)
  rw [hz] at kN HL
  clear hs ht2 e hl b2 ht hz
  subst hV
  generalize t [] = d at *
  go_enter Tryd.func23, Tryd.ntmps23
  go_wp2_with fail
  go_fit kN
  rintro e w1 ⟨hno, _, hk⟩
  have hp : e = _ := hno rfl
  have HK : Hid _ := HL.out _ hk
  clear hno hk
  subst hp
  go_wp2
  exact ⟨rfl, rfl, HK.out⟩

set_option maxHeartbeats 2000000 in
set_option maxRecDepth 100000 in
theorem surveyed_yes (t : Tr) (w : World) (s1 : St) (ht : Tat w.heap.size w t) (h : svd t = some s1) :
    Calls Tryd.prog 23 #[ndV (t [])] w fun e w' => (∃ a c, e = .returned (svV s1.k (.slice a s1.n c) s1.l) ∧ Sml w' a s1.f s1.n) ∧ Below w.heap.size w w' := by
  have b1 : Below w.heap.size w ((w.alloc (ndX (t []))).alloc sX) := two_below _ _
  obtain ⟨V, hV⟩ : ∃ V, V = (w.alloc (ndX (t []))).alloc sX := ⟨_, rfl⟩
  have hT2 : V.heap[w.heap.size + 1]? = some sX := by rw [hV]; have := heap_alloc_new (w.alloc (ndX (t []))) sX; simpa using this
  have hz : V.heap.size = w.heap.size + 1 + 1 := by rw [hV]; simp
  rw [← hV] at b1
  have hs := sv_new V
  have b2 : Below V.heap.size V (V.alloc sX) := (Below.refl _ V).alloc (Nat.le_refl _) _
  have ht2 := ((ht.below b1).mono b1.size).below b2
  have kN := node_any V.heap.size V.heap.size 8195 t 0 s0 _ _ hs ht2 (by decide) (by decide) (by decide) b2.size (by decide) (by decide)
  have e : vd 8195 t 0 s0 = some s1 := h
  rw [e] at kN
  have hl := fun w' => hs.low (w' := w') b2.size
  have HL : Hid (∀ w', Kp (Mv V.heap.size (.slice none 0 0)) (V.alloc sX) w' → Below V.heap.size V w') := fun w' k => b2.trans (hl w' k)
  have HB1 : Hid (Below w.heap.size w V) := b1
  have HZ : Hid (V.heap.size = w.heap.size + 1 + 1) := hz
  rw [hz] at kN HL
  have HT2 : Hid (V.heap[w.heap.size + 1]? = some sX) := hT2
  have HV : Hid (V = (w.alloc (ndX (t []))).alloc sX) := hV
  clear hs ht2 e hl b2 ht b1 hz hT2
  subst hV
  generalize t [] = d at *
  go_enter Tryd.func23, Tryd.ntmps23
  go_wp2_with fail
  go_fit kN
  rintro e w1 ⟨_, hyes, hk⟩
  obtain ⟨rfl, v', sv, _⟩ := hyes s1 rfl
  have bV := HL.out _ hk
  have hb1 := (bV.block (w.heap.size + 1) (by omega)).trans HT2.out
  obtain ⟨a, c, rfl, hm⟩ := sv.form
  have c0 := sv.c0
  have c1 := sv.c1
  have c2 := sv.c2
  have q : ∀ i u, #[Value.int .i64 0, .slice none 0 0, .bool false][i]? = some u → w1.cell? ⟨w.heap.size + 1, i, none⟩ = some u := fun i u h => by
    unfold World.cell?
    rw [hb1]
    exact h
  have q0 := q 0 _ rfl
  have q1 := q 1 _ rfl
  have q2 := q 2 _ rfl
  have z : ∀ i, w1.frozen? ⟨w.heap.size + 1, i, none⟩ = false := fun i => by
    unfold World.frozen?
    rw [hb1]
    simp
  have z0 := z 0
  have z1 := z 1
  have z2 := z 2
  have HB : Hid (∀ w', Kp (fun k => k = w.heap.size + 1) w1 w' → Below w.heap.size w w' ∧ Sml w' a s1.f s1.n) := fun w' k => by
    refine ⟨(HB1.out.trans (bV.mono (by omega))).trans (k.below (by have := bV.size; have := HB1.out.size; omega) (fun i hi => by omega)), ?_⟩
    rcases hm with h | ⟨g, o, rfl, hg, hc⟩
    · exact .inl h
    · refine .inr ⟨g, o, rfl, Nat.lt_of_lt_of_le hg k.size, fun j hj => k.cell (hc j hj) (fun e => ?_)⟩
      have := (sv.base g (.inr rfl)).1
      have e' : g = w.heap.size + 1 := e
      omega
  clear hb1 q z hm bV hk hyes sv
  go_wp2
  refine bodyPost_ret (v := svV (s1.k : Int) (.slice a s1.n c) s1.l) (by simp [results, Tryd.results23, go_sem, q0, q1, q2]) rfl ?_
  have kk : ∀ x y u, Kp (fun k => k = w.heap.size + 1) w1 (((w1.setCell ⟨w.heap.size + 1, 0, none⟩ x).setCell ⟨w.heap.size + 1, 1, none⟩ y).setCell ⟨w.heap.size + 1, 2, none⟩ u) := fun x y u => (((Kp.refl (fun k => k = w.heap.size + 1) w1).setCell (p := ⟨w.heap.size + 1, 0, none⟩) rfl _).setCell (p := ⟨w.heap.size + 1, 1, none⟩) rfl _).setCell (p := ⟨w.heap.size + 1, 2, none⟩) rfl _
  exact ⟨⟨a, c, rfl, (HB.out _ (kk _ _ _)).2⟩, (HB.out _ (kk _ _ _)).1⟩
end Go.Proofs.YtbciclnffokjjaaDoor
/- Trees: reason; Valid. -/
namespace Go.Proofs.YtbciclnffokjjaaDoor
open Go.RowKit

theorem reason_nil (w : World) : Calls Tryd.prog 22 #[.nilIface] w fun e w' => e = .returned (.int .i64 0) ∧ w' = w := by
  go_enter Tryd.func22, Tryd.ntmps22
  go_wp2
  go_ret
  exact ⟨rfl, rfl⟩
set_option maxRecDepth 100000 in
theorem reason_two (w : World) : Calls Tryd.prog 22 #[.iface 32 (.int .i64 2)] w fun e w' => e = .returned (.int .i64 2) ∧ w' = w := by
  have hta : ∀ w : World, Sem.run Tryd.prog (Instr.typeAssert (Value.iface 32 (Value.int IntKind.i64 2)) 20 32 true) w = .ok (.tuple #[.int .i64 2, .bool true]) w := fun _ => by kernel_rfl
  go_enter Tryd.func22, Tryd.ntmps22
  go_wp2
  go_ret
  exact ⟨rfl, rfl⟩

theorem valid_idle (w : World) : CallsD Tryd.prog 34 #[] .returning w fun e u' w' => e = .returned (.tuple #[]) ∧ u' = .returning ∧ w' = w := by
  refine callsD_of_wpS Tryd.func34 rfl fun c₀ cs hu => ?_
  apply wpS_region
  simp [wpOpsS, go_sem, recoverD, hu, Tryd.ntmps34]
  refine (reason_nil w).mono ?_
  rintro e w' ⟨rfl, rfl⟩
  cases c₀
  simp_all [bodyPostS, results, Tryd.results34]
theorem valid_panicking (older : List PanicEntry) (w : World) : CallsD Tryd.prog 34 #[] (.panicking ({ v := .iface 32 (.int .i64 2), recovered := false } :: older)) w fun e u' w' => e = .returned (.tuple #[]) ∧ u' = .panicking ({ v := .iface 32 (.int .i64 2), recovered := true } :: older) ∧ w' = w := by
  refine callsD_of_wpS Tryd.func34 rfl fun c₀ cs hu => ?_
  apply wpS_region
  simp [wpOpsS, go_sem, recoverD, hu, Tryd.ntmps34]
  refine (reason_two w).mono ?_
  rintro e w' ⟨rfl, rfl⟩
  cases c₀
  simp_all [bodyPostS, results, Tryd.results34]

set_option maxHeartbeats 1000000 in
set_option maxRecDepth 100000 in
theorem valid_any (t : Tr) (w : World) (ht : Tat w.heap.size w t) :
    Calls Tryd.prog 19 #[ndV (t [])] w fun e w' => e = .returned (.bool (okT t)) ∧ Below w.heap.size w w' := by
  have hb : Below w.heap.size w (w.alloc (ndX (t []))) := (Below.refl _ w).alloc (Nat.le_refl _) _
  have ht' : Tat (w.alloc (ndX (t []))).heap.size (w.alloc (ndX (t []))) t := (ht.below hb).mono hb.size
  have HB : Hid _ := hb
  cases hs : svd t with
  | none =>
    have k := surveyed_no t _ ht' hs
    have HO : Hid (okT t = false) := by unfold Hid okT; rw [hs]; rfl
    clear ht ht' hs hb
    generalize t [] = d at *
    go_enter_defers Tryd.func19, Tryd.ntmps19
    go_wp2_with fail
    go_fit k
    rintro e w1 ⟨hp, b1⟩
    have hp' : e = _ := hp
    subst hp'
    have B1 : Hid _ := b1
    clear b1 hp
    go_wp2
    refine leaves_cons (f := 34) (args := #[]) (by simp) (by simp [go_sem]) ?_
    refine (valid_panicking [] _).mono ?_
    rintro e u' w'' ⟨rfl, rfl, rfl⟩
    simp [Leaves, settle, results, Tryd.results19, go_sem]
    exact ⟨HO.out, HB.out.trans (B1.out.mono HB.out.size)⟩
  | some s1 =>
    have k := surveyed_yes t _ s1 ht' hs
    have HO : Hid (okT t = true) := by unfold Hid okT; rw [hs]; rfl
    clear ht ht' hs hb
    generalize t [] = d at *
    go_enter_defers Tryd.func19, Tryd.ntmps19
    go_wp2_with fail
    go_fit k
    rintro e w1 ⟨⟨a, c, rfl, _⟩, b1⟩
    have B1 : Hid _ := b1
    clear b1
    go_wp2
    refine leaves_cons (f := 34) (args := #[]) (by simp) (by simp [go_sem]) ?_
    refine (valid_idle _).mono ?_
    rintro e u' w'' ⟨rfl, rfl, rfl⟩
    simp [Leaves, settle, results, Tryd.results19, go_sem]
    exact ⟨HO.out, HB.out.trans (B1.out.mono HB.out.size)⟩
end Go.Proofs.YtbciclnffokjjaaDoor
/- Trees: valid trees; length. -/
namespace Go.Proofs.YtbciclnffokjjaaDoor
open Go.RowKit

/-- Each node of a tree is as its kind asks. -/
def WF : Nat → Tr → Prop
  | 0, _ => False
  | m + 1, t => (ndB (t []) = true ∧ ((t []).kind = 7 → 1 ≤ (t []).cp ∧ (t []).cp ≤ 100)) ∧ (t []).kn ≤ 8194 ∧ ∀ j, j < (t []).kn → WF m (kid t j)
theorem vds_cut {F : Tr → Int → St → Option St} {t : Tr} {op : Int} {s : St} : ∀ {n : Nat} {s1 : St}, vds F t op n s = some s1 → ∀ j, j < n → ∃ s2 s3 op', vds F t op j s = some s2 ∧ F (kid t j) op' s2 = some s3
  | 0, _, _, j, hj => by omega
  | n + 1, s1, h, j, hj => by
    unfold vds at h
    cases hn : vds F t op n s with
    | none => rw [hn] at h; cases h
    | some s2 =>
      rw [hn] at h
      by_cases e : j = n
      · subst e
        exact ⟨s2, s1, _, hn, h⟩
      · exact vds_cut hn j (by omega)
theorem vds_many {m : Nat} {t : Tr} {op : Int} {s : St} : ∀ {n : Nat} {s1 : St}, vds (vd m) t op n s = some s1 → s.k + n ≤ s1.k
  | 0, _, h => by cases h; omega
  | n + 1, s1, h => by
    unfold vds at h
    cases hn : vds (vd m) t op n s with
    | none => rw [hn] at h; cases h
    | some s2 =>
      rw [hn] at h
      have := vds_many hn
      have := vd_k m _ _ _ _ h
      omega
theorem WF_of : ∀ (m : Nat) (t : Tr) (op : Int) (s s1 : St), s.n ≤ 100 → vd m t op s = some s1 → WF m t
  | 0, _, _, _, _, _, h => by cases h
  | m + 1, t, op, s, s1, hN, h => by
    have hk := vd_k _ _ _ _ _ h
    unfold vd at h
    split at h
    · cases h
    · rename_i hc
      cases hm : mid (t []) { s with k := s.k + 1 } with
      | none => rw [hm] at h; cases h
      | some s2 =>
        rw [hm] at h
        have h' : vds (vd m) t (if (t []).kind = 7 then op + 1 else op) (t []).kn s2 = some s1 := h
        refine ⟨⟨?_, fun k7 => ?_⟩, ?_, fun j hj => ?_⟩
        · cases hn : ndB (t []) with
          | true => rfl
          | false => exact absurd (.inr (.inr hn)) hc
        · unfold mid grp at hm
          rw [if_neg (by omega), if_pos k7] at hm
          split at hm
          · cases hm
          · rename_i hh
            have e : (t []).cp = (s.n : Int) + 1 := by
              by_cases e : (t []).cp = (s.n : Int) + 1
              · exact e
              · exact absurd (.inr (.inl e)) hh
            have : s.n < 100 := by
              have := hN
              have : ¬ s.n = 100 := fun e => hh (.inl e)
              omega
            omega
        · have := vds_many h'
          omega
        · obtain ⟨s3, s4, op', h3, h4⟩ := vds_cut h' j hj
          exact WF_of m _ _ _ _ (vds_n h3 (mid_n hm hN)) h4
theorem WF_ok {t : Tr} (h : okT t = true) : WF 8195 t := by
  unfold okT svd at h
  cases hv : vd 8195 t 0 s0 with
  | none => rw [hv] at h; cases h
  | some s1 => exact WF_of _ _ _ _ _ (by decide) hv

/-- What a sound node's kind says of its fields. -/
theorem ndB_kind {d : Nd} (h : ndB d = true) : 1 ≤ d.kind ∧ d.kind ≤ 13 := by
  unfold ndB kdB at h
  simp only [Bool.and_eq_true] at h
  have h2 := h.2
  by_cases k : 1 ≤ d.kind ∧ d.kind ≤ 13
  · exact k
  · rw [if_neg (by omega), if_neg (by omega), if_neg (by omega), if_neg (by omega), if_neg (by omega), if_neg (by omega)] at h2
    cases h2
theorem ndB_rep {d : Nd} (h : ndB d = true) (k : d.kind = 6) : d.kn = 1 ∧ 0 ≤ d.mn ∧ d.mn ≤ 1000 ∧ (d.mx = -1 ∨ d.mn ≤ d.mx ∧ d.mx ≤ 1000) := by
  unfold ndB kdB at h
  simp only [Bool.and_eq_true] at h
  have h2 := h.2
  rw [if_neg (by omega), if_neg (by omega), if_neg (by omega), if_pos k] at h2
  simp only [Bool.and_eq_true, beq_iff_eq, tiB, decide_eq_true_iff] at h2
  exact ⟨by omega, h2.2.1, h2.2.2.1, h2.2.2.2⟩
theorem ndB_grp {d : Nd} (h : ndB d = true) (k : d.kind = 7) : d.kn = 1 := by
  unfold ndB kdB at h
  simp only [Bool.and_eq_true] at h
  have h2 := h.2
  rw [if_neg (by omega), if_neg (by omega), if_neg (by omega), if_neg (by omega), if_pos k] at h2
  simp only [Bool.and_eq_true, beq_iff_eq] at h2
  omega
theorem ndB_row {d : Nd} (h : ndB d = true) (k : d.kind = 4 ∨ d.kind = 5) : 2 ≤ d.kn := by
  unfold ndB kdB at h
  simp only [Bool.and_eq_true] at h
  have h2 := h.2
  rw [if_neg (by omega), if_neg (by omega), if_pos k] at h2
  simp only [decide_eq_true_iff] at h2
  omega
theorem ndB_leaf {d : Nd} (h : ndB d = true) (k : d.kind ≤ 3 ∨ 8 ≤ d.kind) : d.kn = 0 := by
  have hk := ndB_kind h
  unfold ndB kdB at h
  simp only [Bool.and_eq_true] at h
  have h2 := h.2
  by_cases k2 : d.kind = 2
  · rw [if_pos k2] at h2
    simp only [Bool.and_eq_true, beq_iff_eq] at h2
    omega
  by_cases k3 : d.kind = 3
  · rw [if_neg k2, if_pos k3] at h2
    simp only [Bool.and_eq_true, beq_iff_eq] at h2
    omega
  rw [if_neg k2, if_neg k3, if_neg (by omega), if_neg (by omega), if_neg (by omega), if_pos (by omega)] at h2
  simp only [beq_iff_eq] at h2
  omega

/-- The sum over the first n. -/
def sumN (f : Nat → Int) : Nat → Int
  | 0 => 0
  | n + 1 => sumN f n + f n
/-- How many instructions a node's code has, its kids' lengths being s in all. -/
def lenK (d : Nd) (s : Int) : Int := if d.kind = 1 ∨ d.kind = 4 then s else if d.kind = 5 then s + 2 * ((d.kn : Int) - 1) else if d.kind = 7 then s + 2 else if d.kind = 6 then (if d.mx = -1 then d.mn * s + s + 2 else d.mn * s + (d.mx - d.mn) * (s + 1)) else 1
def lenF : Nat → Tr → Int
  | 0, _ => 0
  | m + 1, t => min (lenK (t []) (sumN (fun j => lenF m (kid t j)) (t []).kn)) 10001
theorem sumN_bd {f : Nat → Int} {b : Int} (hb : 0 ≤ b) : ∀ n : Nat, (∀ j, j < n → 0 ≤ f j ∧ f j ≤ b) → 0 ≤ sumN f n ∧ sumN f n ≤ n * b
  | 0, _ => by simp [sumN]
  | n + 1, h => by
    have a := sumN_bd hb n (fun j hj => h j (by omega))
    have c := h n (by omega)
    unfold sumN
    have e : ((n + 1 : Nat) : Int) * b = n * b + b := by rw [Int.natCast_add]; simp [Int.add_mul]
    rw [e]
    omega
theorem sumN_one (f : Nat → Int) : sumN f 1 = f 0 := by simp [sumN]
theorem lenF_bd : ∀ (m : Nat) (t : Tr), WF m t → 0 ≤ lenF m t ∧ lenF m t ≤ 10001
  | 0, _, h => by cases h
  | m + 1, t, h => by
    obtain ⟨⟨hn, _⟩, hk, hkid⟩ := h
    have hs := sumN_bd (f := fun j => lenF m (kid t j)) (b := 10001) (by omega) (t []).kn (fun j hj => lenF_bd m _ (hkid j hj))
    obtain ⟨s, hs'⟩ : ∃ s, sumN (fun j => lenF m (kid t j)) (t []).kn = s := ⟨_, rfl⟩
    rw [hs'] at hs
    have key : 0 ≤ lenK (t []) s := by
      unfold lenK
      split
      · omega
      · split
        · have := ndB_row hn (by omega)
          omega
        · split
          · omega
          · split
            · rename_i k6
              have := ndB_rep hn k6
              split
              · have := Int.mul_nonneg this.2.1 hs.1
                omega
              · have a := Int.mul_nonneg this.2.1 hs.1
                have b := Int.mul_nonneg (show 0 ≤ (t []).mx - (t []).mn by omega) (show 0 ≤ s + 1 by omega)
                omega
            · omega
    show 0 ≤ min (lenK (t []) (sumN _ _)) 10001 ∧ min (lenK (t []) (sumN _ _)) 10001 ≤ 10001
    rw [hs']
    omega
end Go.Proofs.YtbciclnffokjjaaDoor
/- Trees: length, Size. -/
namespace Go.Proofs.YtbciclnffokjjaaDoor
open Go.RowKit

theorem ret_int {k : IntKind} {a b : Int} (h : a = b) : Ending.returned (.int k a) = .returned (.int k b) := by rw [h]
theorem mul_bd {a b c d : Int} (h0 : 0 ≤ a) (h1 : a ≤ c) (h2 : 0 ≤ b) (h3 : b ≤ d) : 0 ≤ a * b ∧ a * b ≤ c * d := ⟨Int.mul_nonneg h0 h2, Int.mul_le_mul h1 h3 h2 (by omega)⟩

set_option maxHeartbeats 1000000 in
set_option maxRecDepth 100000 in
theorem repeatLength_any (d : Nd) (n : Int) (w : World) (hk : d.kind = 6) (hn : ndB d = true) (h0 : 0 ≤ n) (h1 : n ≤ 10001) :
    Calls Tryd.prog 35 #[ndV d, .int .i64 n] w fun e w' => e = .returned (.int .i64 (lenK d n)) ∧ Below w.heap.size w w' := by
  have hr := ndB_rep hn hk
  have HE : Hid (lenK d n = if d.mx = -1 then d.mn * n + n + 2 else d.mn * n + (d.mx - d.mn) * (n + 1)) := by unfold Hid lenK; rw [if_neg (by omega), if_neg (by omega), if_neg (by omega), if_pos hk]
  have HB : Hid (∀ o, Below w.heap.size w (w.alloc o)) := fun o => (Below.refl _ w).alloc (Nat.le_refl _) o
  clear hk hn
  obtain ⟨kind, r, ra, rn, rc, rf, mn, mx, lz, cp, nm, ka, kn, kc⟩ := d
  dsimp only at *
  obtain ⟨hr0, hr1, hr2, hr3⟩ := hr
  have m1 := mul_bd hr1 hr2 h0 h1
  obtain ⟨m1a, m1b⟩ := m1
  by_cases hm : mx = -1
  · have tm : (mx == -1) = true := by simpa using hm
    have HE' : Hid (lenK _ n = _) := HE.out.trans (if_pos hm)
    clear HE hm hr3 hr0
    go_enter Tryd.func35, Tryd.ntmps35
    go_wp2
    go_ret
    exact ⟨ret_int HE'.out.symm, HB.out _⟩
  · have tm : (mx == -1) = false := by simpa using hm
    have hx : 0 ≤ mx - mn ∧ mx - mn ≤ 1000 := by omega
    obtain ⟨x0, x1⟩ := hx
    have m2 := mul_bd x0 x1 (show 0 ≤ n + 1 by omega) (show n + 1 ≤ 10002 by omega)
    obtain ⟨m2a, m2b⟩ := m2
    have HE' : Hid (lenK _ n = _) := HE.out.trans (if_neg hm)
    have y0 : 0 ≤ mx := by omega
    have y1 : mx ≤ 1000 := by omega
    clear HE hm hr3 hr0
    go_enter Tryd.func35, Tryd.ntmps35
    go_wp2
    go_ret
    exact ⟨ret_int HE'.out.symm, HB.out _⟩

def LenOk (m : Nat) : Prop := ∀ (t : Tr) (w : World), WF m t → Tat w.heap.size w t → Calls Tryd.prog 20 #[ndV (t [])] w fun e w' => e = .returned (.int .i64 (lenF m t)) ∧ Below w.heap.size w w'
theorem lenF_succ (m : Nat) (t : Tr) : lenF (m + 1) t = min (lenK (t []) (sumN (fun j => lenF m (kid t j)) (t []).kn)) 10001 := rfl

set_option maxHeartbeats 4000000 in
set_option maxRecDepth 100000 in
theorem length_step (m : Nat) (hIH : LenOk m) : LenOk (m + 1) := by
  intro t w hw ht
  obtain ⟨⟨hnd, _⟩, hkn, hkids⟩ := hw
  have hb : Below w.heap.size w (w.alloc (ndX (t []))) := (Below.refl _ w).alloc (Nat.le_refl _) _
  have hc := ndX_cells (w := w) (t []) (Below.refl _ _)
  have HF : Hid (∀ j, j < (t []).kn → 0 ≤ lenF m (kid t j) ∧ lenF m (kid t j) ≤ 10001) := fun j hj => lenF_bd m _ (hkids j hj)
  have HE : Hid (lenF (m + 1) t = _) := lenF_succ m t
  have IH : Hid (LenOk m) := hIH
  have HKD : Hid (∀ j, j < (t []).kn → WF m (kid t j)) := hkids
  have HND : Hid (ndB (t []) = true) := hnd
  obtain ⟨W, hW⟩ : ∃ W, W = w.alloc (ndX (t [])) := ⟨_, rfl⟩
  have HW : Hid (W = w.alloc (ndX (t []))) := hW
  rw [← hW] at hb hc
  have HB : Hid (Below w.heap.size w W) := hb
  have HT : Hid (Tat w.heap.size W t) := ht.below hb
  have HSZ : Hid (w.heap.size ≤ W.heap.size) := hb.size
  have HC : Hid (Cs W w.heap.size 0 (t [])) := hc
  obtain ⟨G, hG⟩ : ∃ G, G = w.heap.size := ⟨_, rfl⟩
  have HG : Hid (G = w.heap.size) := hG
  have HGL : Hid (G < W.heap.size) := by rw [hG]; exact World.block_lt_of_cell? W _ hc.c0
  rw [← hG] at HC HT HB HSZ
  obtain ⟨d, hd⟩ : ∃ d, t [] = d := ⟨_, rfl⟩
  have HD : Hid (t [] = d) := hd
  rw [hd] at HC HW HF HND HE hkn HKD
  rw [hd]
  have e8 := HC.out.c8
  simp only [Nat.zero_add] at e8
  have hknI : (d.kn : Int) ≤ 8194 := by omega
  clear hnd hkids hb hc hW ht hIH hd hG
  obtain ⟨F, hF⟩ : ∃ F : Nat → Int, F = fun j => lenF m (kid t j) := ⟨_, rfl⟩
  have HFJ : Hid (∀ j, lenF m (kid t j) = F j) := fun j => by rw [hF]
  rw [← hF] at HE
  have HFB : Hid (∀ i, i ≤ d.kn → 0 ≤ sumN F i ∧ sumN F i ≤ 100000000) := fun i hi => by
    have := sumN_bd (f := F) (b := 10001) (by omega) i (fun j hj => by rw [← HFJ.out]; exact HF.out j (by omega))
    have h2 : (i : Int) * 10001 ≤ 8194 * 10001 := Int.mul_le_mul_of_nonneg_right (by omega) (by omega)
    omega
  clear hF
  go_enter Tryd.func20, Tryd.ntmps20
  go_upto_region 1 with fail
  rw [← HW.out, ← HG.out]
  go_wp2_with fail
  go_loopw [3, 9] (fun nv ivv w' => ∃ i : Nat, ivv = .int .i64 (i : Int) ∧ i ≤ d.kn ∧ nv = .int .i64 (sumN F i) ∧ Hid (Below W.heap.size W w')) (fun _ ivv _ => d.kn - (RowKit.intOf ivv).toNat)
  case atStart => exact ⟨0, rfl, by omega, rfl, Below.refl _ _⟩
  case round =>
    obtain ⟨i, rfl, hi, rfl, hbw⟩ := hrel
    have sb := HFB.out i hi
    obtain ⟨sb0, sb1⟩ := sb
    by_cases hlt : i < d.kn
    · have hii : (i : Int) < d.kn := by omega
      have htr := HT.out.below (hbw.out.mono HSZ.out)
      have hlt' : i < (t []).kn := by rw [HD.out]; exact hlt
      obtain ⟨g1, o1, hka, hg1, hcs⟩ := htr.kids.at i hlt'
      rw [HD.out] at hka
      have hal : Below wr.heap.size wr (wr.alloc (ndX (t [i]))) := (Below.refl _ wr).alloc (Nat.le_refl _) _
      have hz : G ≤ wr.heap.size := Nat.le_trans HSZ.out hbw.out.size
      have kN := IH.out (kid t i) (wr.alloc (ndX (t [i]))) (HKD.out i hlt) (((htr.kid i hlt').below (hal.mono hz)).mono (Nat.le_trans hz hal.size))
      change Calls Tryd.prog 20 #[ndV (t [i])] (wr.alloc (ndX (t [i]))) _ at kN
      have fb := HF.out i hlt
      rw [HFJ.out] at kN fb
      obtain ⟨fb0, fb1⟩ := fb
      have HSS : Hid (sumN F (i + 1) = sumN F i + F i) := rfl
      have HR : Hid (∀ w2, Below (wr.alloc (ndX (t [i]))).heap.size (wr.alloc (ndX (t [i]))) w2 → Below W.heap.size W w2) := fun w2 b => hbw.out.trans ((hal.trans (b.mono hal.size)).mono hbw.out.size)
      obtain ⟨p0, p1, p2, p3, p4, p5, p6, p7, p8⟩ := hcs
      rw [hka] at *
      generalize t [i] = dk at *
      generalize F i = X at *
      generalize sumN F i = Y at *
      clear htr hal hlt' hka
      go_wp2_with fail
      go_fit kN
      rintro e w5 ⟨rfl, b5⟩
      have B5 : Hid _ := HR.out _ b5
      clear b5
      go_wp2
      exact ⟨⟨i + 1, by go_num, by omega, by rw [HSS.out], B5.out⟩, by simp [RowKit.intOf]; omega⟩
    · have hii : ¬ (i : Int) < d.kn := by omega
      obtain rfl : i = d.kn := by omega
      have hcs := HC.out.kp (M := fun _ => False) (Kp.of hbw.out) id
      obtain ⟨f0, f1, f2, f3, f4, f5, f6, f7, f8⟩ := hcs
      simp only [Nat.zero_add] at f0 f1 f2 f3 f4 f5 f6 f7 f8
      have HBW : Hid (Below w.heap.size w wr) := by rw [← HG.out]; exact HB.out.trans (hbw.out.mono HSZ.out)
      have HY0 : Hid (sumN F d.kn = sumN F d.kn) := rfl
      generalize hY : sumN F d.kn = Y at *
      have HY : Hid (sumN F d.kn = Y) := hY
      have kb := ndB_kind HND.out
      clear hY HY0 e8 hlt hii hi
      by_cases h1 : d.kind = 1
      · have t1 : (d.kind == 1) = true := by simpa using h1
        have HL : Hid (lenK d Y = Y) := by unfold Hid lenK; rw [if_pos (.inl h1)]
        clear h1 kb
        go_wp2
        all_goals go_ret
        all_goals exact ⟨ret_int (by rw [HE.out, HL.out]; omega), HBW.out⟩
      have t1 : (d.kind == 1) = false := by simpa using h1
      by_cases h4 : d.kind = 4
      · have t4 : (d.kind == 4) = true := by simpa using h4
        have HL : Hid (lenK d Y = Y) := by unfold Hid lenK; rw [if_pos (.inr h4)]
        clear h1 h4 kb
        go_wp2
        all_goals go_ret
        all_goals exact ⟨ret_int (by rw [HE.out, HL.out]; omega), HBW.out⟩
      have t4 : (d.kind == 4) = false := by simpa using h4
      by_cases h5 : d.kind = 5
      · have t5 : (d.kind == 5) = true := by simpa using h5
        have HL : Hid (lenK d Y = Y + 2 * ((d.kn : Int) - 1)) := by unfold Hid lenK; rw [if_neg (by omega), if_pos h5]
        have h2 := ndB_row HND.out (.inr h5)
        have h2' : 2 ≤ (d.kn : Int) := by omega
        clear h1 h4 h5 kb h2
        go_wp2
        all_goals go_ret
        all_goals exact ⟨ret_int (by rw [HE.out, HL.out]; omega), HBW.out⟩
      have t5 : (d.kind == 5) = false := by simpa using h5
      by_cases h7 : d.kind = 7
      · have t7 : (d.kind == 7) = true := by simpa using h7
        have HL : Hid (lenK d Y = Y + 2) := by unfold Hid lenK; rw [if_neg (by omega), if_neg h5, if_pos h7]
        clear h1 h4 h5 h7 kb
        go_wp2
        all_goals go_ret
        all_goals exact ⟨ret_int (by rw [HE.out, HL.out]; omega), HBW.out⟩
      have t7 : (d.kind == 7) = false := by simpa using h7
      by_cases h6 : d.kind = 6
      · have t6 : (d.kind == 6) = true := by simpa using h6
        have hY1 : Y ≤ 10001 := by
          have h61 := (ndB_rep HND.out h6).1
          rw [← HY.out, h61, sumN_one, ← HFJ.out]
          exact (HF.out 0 (by omega)).2
        have kR := repeatLength_any d Y wr h6 HND.out sb0 hY1
        clear h1 h4 h5 h7 h6 kb
        go_wp2_with fail
        go_fit kR
        rintro e w6 ⟨rfl, b6⟩
        have HBW : Hid (Below w.heap.size w w6) := HBW.out.trans (b6.mono HBW.out.size)
        clear b6
        generalize lenK d Y = Z at *
        go_wp2
        all_goals go_ret
        all_goals exact ⟨ret_int (by rw [HE.out]; omega), HBW.out⟩
      have t6 : (d.kind == 6) = false := by simpa using h6
      have HL : Hid (lenK d Y = 1) := by unfold Hid lenK; rw [if_neg (by omega), if_neg h5, if_neg h7, if_neg h6]
      clear h1 h4 h5 h7 h6 kb
      go_wp2
      all_goals go_ret
      all_goals exact ⟨ret_int (by rw [HE.out, HL.out]; omega), HBW.out⟩
theorem length_any : ∀ m, LenOk m
  | 0 => fun _ _ h => by cases h
  | m + 1 => length_step m (length_any m)

/-- How many instructions a tree's program has; 0: it isn't valid. -/
def sizF (t : Tr) : Int := if okT t = true then min (lenF 8195 t + 1) 10001 else 0
set_option maxHeartbeats 1000000 in
set_option maxRecDepth 100000 in
theorem size_any (t : Tr) (w : World) (ht : Tat w.heap.size w t) : Calls Tryd.prog 10 #[ndV (t [])] w fun e w' => e = .returned (.int .i64 (sizF t)) ∧ Below w.heap.size w w' := by
  have hb : Below w.heap.size w (w.alloc (ndX (t []))) := (Below.refl _ w).alloc (Nat.le_refl _) _
  have ht1 : Tat (w.alloc (ndX (t []))).heap.size (w.alloc (ndX (t []))) t := (ht.below hb).mono hb.size
  have kV := valid_any t _ ht1
  have HB : Hid _ := hb
  have hc := ndX_cells (w := w) (t []) (Below.refl _ _)
  cases ho : okT t
  · rw [ho] at kV
    have HE : Hid (sizF t = 0) := by unfold Hid sizF; rw [ho]; rfl
    clear ht ht1 ho hb hc
    generalize t [] = d at *
    go_enter Tryd.func10, Tryd.ntmps10
    go_wp2_with fail
    go_fit kV
    rintro e w1 ⟨rfl, b1⟩
    have B1 : Hid _ := HB.out.trans (b1.mono HB.out.size)
    clear b1
    go_wp2
    go_ret
    exact ⟨ret_int HE.out.symm, B1.out⟩
  · rw [ho] at kV
    have hwf := WF_ok ho
    have hl := lenF_bd 8195 t hwf
    have HE : Hid (sizF t = min (lenF 8195 t + 1) 10001) := by unfold Hid sizF; rw [ho]; rfl
    have HL : Hid (∀ w1, Below (w.alloc (ndX (t []))).heap.size (w.alloc (ndX (t []))) w1 → Calls Tryd.prog 20 #[ndV (t [])] w1 fun e w' => e = .returned (.int .i64 (lenF 8195 t)) ∧ Below w1.heap.size w1 w') := fun w1 b => length_any 8195 t w1 hwf ((ht1.below b).mono b.size)
    have HC : Hid (∀ w1, Below (w.alloc (ndX (t []))).heap.size (w.alloc (ndX (t []))) w1 → Cs w1 w.heap.size 0 (t [])) := fun w1 b => ndX_cells (t []) b
    obtain ⟨hl0, hl1⟩ := hl
    generalize lenF 8195 t = L at *
    clear ht ht1 ho hb hc hwf
    generalize t [] = d at *
    go_enter Tryd.func10, Tryd.ntmps10
    go_wp2_with fail
    go_fit kV
    rintro e w1 ⟨rfl, b1⟩
    have B1 : Hid _ := HB.out.trans (b1.mono HB.out.size)
    have kL := HL.out w1 b1
    obtain ⟨f0, f1, f2, f3, f4, f5, f6, f7, f8⟩ := HC.out w1 b1
    simp only [Nat.zero_add] at f0 f1 f2 f3 f4 f5 f6 f7 f8
    clear b1 kV
    go_wp2_with fail
    go_fit kL
    rintro e w2 ⟨rfl, b2⟩
    have B2 : Hid _ := B1.out.trans (b2.mono B1.out.size)
    clear b2 f0 f1 f2 f3 f4 f5 f6 f7 f8
    go_wp2
    all_goals go_ret
    all_goals exact ⟨ret_int (by rw [HE.out]; omega), B2.out⟩
end Go.Proofs.YtbciclnffokjjaaDoor
