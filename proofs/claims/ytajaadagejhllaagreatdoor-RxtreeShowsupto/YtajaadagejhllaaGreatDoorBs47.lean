/- A bundle of texts. -/
import Derived.Test.YtajaadagejhllaaGreatDoorBs10
import Derived.Test.YtajaadagejhllaaGreatDoorBs46
import Derived.Test.YtajaadagejhllaaGreatDoorBs34
import Derived.Test.YtajaadagejhllaaGreatDoorBs20
import Derived.Test.YtajaadagejhllaaGreatDoorBs41
import Derived.Test.YtajaadagejhllaaGreatDoorRows
/- Two lists of texts alike. -/
namespace Go.Proofs.YtajaadagejhllaaGreatDoor
open Go.RowKit Go.Lib

/-- A row of texts, as it stands in a world. -/
def TxV (w : World) (a : Option Addr) (L : List ByteArray) : Prop := L.length = 0 ∨ ∃ g o, a = some ⟨g, o, none⟩ ∧ g < w.heap.size ∧ ∀ j x, L[j]? = some x → w.cell? ⟨g, o + j, none⟩ = some (.string x)
set_option maxHeartbeats 4000000 in
set_option maxRecDepth 100000 in
theorem sameTexts_any (a b : Option Addr) (c e : Nat) (L : List ByteArray) (w : World) (hL : L.length ≤ 1000) (ha : TxV w a L) (hb : TxV w b L) : Calls Tryz.prog 28 #[.slice a L.length c, .slice b L.length e] w fun e w' => e = .returned (.bool true) ∧ Below w.heap.size w w' := by
  have hLI : (L.length : Int) ≤ 1000 := by omega
  have HA : Hid (TxV w a L) := ha
  have HB : Hid (TxV w b L) := hb
  clear ha hb hL
  go_enter Tryz.func28, Tryz.ntmps28
  go_wp2_with fail
  go_loopw [5] (fun ivv w' => ∃ i : Nat, ivv = .int .i64 (i : Int) ∧ i ≤ L.length ∧ Hid (Below w.heap.size w w')) (fun ivv _ => L.length - (RowKit.intOf ivv).toNat)
  case atStart => exact ⟨0, rfl, Nat.zero_le _, Below.refl _ _⟩
  case round =>
    obtain ⟨i, rfl, hi, hbw⟩ := hrel
    by_cases hlt : i < L.length
    · have hii : (i : Int) < L.length := by omega
      obtain ⟨x, hx⟩ : ∃ x, L[i]? = some x := ⟨_, List.getElem?_eq_getElem hlt⟩
      rcases HA.out with h | ⟨g, o, rfl, hg, hc⟩
      · omega
      rcases HB.out with h | ⟨g', o', rfl, hg', hc'⟩
      · omega
      have c1 := (hbw.out.cell (p := ⟨g, o + i, none⟩) hg).trans (hc i x hx)
      have c2 := (hbw.out.cell (p := ⟨g', o' + i, none⟩) hg').trans (hc' i x hx)
      have hxx : (x.toList == x.toList) = true := by simp
      clear hc hc' HA HB hx hg hg'
      go_wp2_with fail
      go_big_quiet (fail)
      go_wp2
      exact ⟨⟨i + 1, by go_num, by omega, Below.drewN hbw.out _⟩, by simp [RowKit.intOf]; omega⟩
    · have hii : ¬ (i : Int) < L.length := by omega
      obtain hq : i = L.length := by omega
      clear HA HB
      go_wp2
      go_ret
      exact ⟨rfl, hbw.out⟩
end Go.Proofs.YtajaadagejhllaaGreatDoor
/- Groups on both sides. -/
namespace Go.Proofs.YtajaadagejhllaaGreatDoor
open Go.RowKit Go.Lib

theorem groups_panicking (older : List PanicEntry) (w : World) : CallsD Tryz.prog 34 #[] (.panicking ({ v := .iface 26 (.int .i64 2), recovered := false } :: older)) w fun e u' w' => e = .returned (.tuple #[]) ∧ u' = .panicking ({ v := .iface 26 (.int .i64 2), recovered := true } :: older) ∧ w' = w := by
  refine callsD_of_wpS Tryz.func34 rfl fun c₀ cs hu => ?_
  apply wpS_region
  simp [wpOpsS, go_sem, recoverD, hu, Tryz.ntmps34]
  refine (reason_two w).mono ?_
  rintro e w' ⟨rfl, rfl⟩
  cases c₀
  simp_all [bodyPostS, results, Tryz.results34]
set_option maxHeartbeats 1000000 in
set_option maxRecDepth 100000 in
theorem groups_no (t : Tr) (w : World) (ht : Tat w.heap.size w t) (h : svd t = none) : Calls Tryz.prog 16 #[ndV (t [])] w fun e w' => e = .returned (.slice none 0 0) ∧ Below w.heap.size w w' := by
  have hb : Below w.heap.size w (w.alloc (ndX (t []))) := (Below.refl _ w).alloc (Nat.le_refl _) _
  have ht' : Tat (w.alloc (ndX (t []))).heap.size (w.alloc (ndX (t []))) t := (ht.below hb).mono hb.size
  have HB : Hid _ := hb
  have k := surveyed_no t _ ht' h
  clear ht ht' h hb
  generalize t [] = d at *
  go_enter_defers Tryz.func16, Tryz.ntmps16
  go_wp2_with fail
  go_fit k
  rintro e w1 ⟨hp, b1⟩
  have hp' : e = _ := hp
  subst hp'
  have B1 : Hid _ := b1
  clear b1 hp
  go_wp2
  refine leaves_cons (f := 34) (args := #[]) (by simp) (by simp [go_sem]) ?_
  refine (groups_panicking [] _).mono ?_
  rintro e u' w'' ⟨rfl, rfl, rfl⟩
  simp [Leaves, settle, results, Tryz.results16, go_sem]
  exact HB.out.trans (B1.out.mono HB.out.size)

set_option maxHeartbeats 1000000 in
set_option maxRecDepth 100000 in
theorem rgroups_any (t : Tr) (w : World) (ht : Tat w.heap.size w t) : Calls Tryz.prog 27 #[ndV (t [])] w fun e w' => ((svd t = none → e = .returned (.slice none 0 0)) ∧ ∀ s1, svd t = some s1 → ∃ a c, e = .returned (.slice a s1.n c) ∧ Sml w' a s1.f s1.n) ∧ Below w.heap.size w w' := by
  obtain ⟨W, hW⟩ : ∃ W, W = w.alloc (ndX (t [])) := ⟨_, rfl⟩
  have HW : Hid (W = w.alloc (ndX (t []))) := hW
  have hb0 : Below w.heap.size w W := by rw [hW]; exact (Below.refl _ w).alloc (Nat.le_refl _) _
  have hz : W.heap.size = w.heap.size + 1 := by rw [hW]; simp
  have hc0 : Cs W w.heap.size 0 (t []) := ndX_cells (w := w) (t []) (by rw [hW]; exact Below.refl _ _)
  have hb1 : Below W.heap.size W (W.alloc cX) := (Below.refl _ W).alloc (Nat.le_refl _) _
  have hc1 := hc0.below hb1 (by omega)
  have htW : Tat W.heap.size (W.alloc cX) t := ((ht.below hb0).mono hb0.size).below hb1
  have kV := validR_any W.heap.size W.heap.size 8195 t 0 0 s0 (.slice none 0 0) (W.alloc cX) (cn_new W) htW (by show 0 ≤ 8194; omega) (by show 8194 ≤ 0 + 8195; omega) (by show 0 ≤ 100; omega) hb1.size (by omega) (by omega)
  have hop : opN 0 (t []).kind 0 = 0 := by
    unfold opN
    rw [if_neg]
    intro h
    have : brB 0 (t []).kind = decide _ := rfl
    rw [this] at h
    have := of_decide_eq_true h
    omega
  rw [hop] at kV
  have HL : Hid (∀ w', Kp (Mv W.heap.size (.slice none 0 0)) (W.alloc cX) w' → Below w.heap.size w w') := fun w' q3 => hb0.trans ((hb1.trans (q3.below hb1.size (fun b hb e => by
      rcases e with e | e
      · omega
      · cases e))).mono hb0.size)
  obtain ⟨e0, e1, e2, e3, e4, e5, e6, e7, e8⟩ := hc1
  simp only [Nat.zero_add] at e0 e1 e2 e3 e4 e5 e6 e7 e8
  change Calls Tryz.prog 42 _ _ (Vr W.heap.size W.heap.size (.slice none 0 0) (svd t) (W.alloc cX)) at kV
  clear hW hb0 hc0 hb1 htW hop ht hz
  generalize t [] = d at *
  cases hs : svd t with
  | none =>
    rw [hs] at kV
    clear hs
    go_enter Tryz.func27, Tryz.ntmps27
    go_upto_region 1 with fail
    rw [← HW.out]
    go_wp2_with fail
    go_fit kV
    rintro e w' ⟨q1, _, q3⟩
    obtain rfl := q1 rfl
    have HB : Hid (Below w.heap.size w w') := HL.out _ q3
    clear q1 q3 kV
    go_wp2
    go_ret
    exact ⟨⟨fun _ => rfl, fun s1 h => by cases h⟩, HB.out⟩
  | some s1 =>
    rw [hs] at kV
    clear hs
    go_enter Tryz.func27, Tryz.ntmps27
    go_upto_region 1 with fail
    rw [← HW.out]
    go_wp2_with fail
    go_fit kV
    rintro e w' ⟨_, q2, q3⟩
    obtain ⟨rfl, v', cn, _⟩ := q2 s1 rfl
    have HB : Hid (Below w.heap.size w w') := HL.out _ q3
    obtain ⟨a, c, rfl, hm⟩ := cn.form
    have c2 := cn.c2
    have HM : Hid (Sml w' a s1.f s1.n) := hm
    clear q2 q3 kV cn hm
    go_wp2
    go_ret
    exact ⟨⟨fun h => (by cases h), fun s2 h => (by cases h; exact ⟨a, c, rfl, HM.out⟩)⟩, HB.out⟩
theorem sml_tx {w : World} {a : Option Addr} {f : Nat → ByteArray} {n : Nat} (h : Sml w a f n) : TxV w a ((List.range n).map f) := by
  rcases h with h | ⟨g, o, e, hg, hc⟩
  · exact .inl (by simp [h])
  · refine .inr ⟨g, o, e, hg, fun j x hx => ?_⟩
    rw [List.getElem?_map] at hx
    by_cases hj : j < n
    · rw [List.getElem?_range hj] at hx
      cases hx
      exact hc j hj
    · rw [List.getElem?_eq_none (by simpa using hj)] at hx
      cases hx
theorem same_names (a b : Option Addr) (c e n : Nat) (f : Nat → ByteArray) (w : World) (hn : n ≤ 1000) (ha : Sml w a f n) (hb : Sml w b f n) : Calls Tryz.prog 28 #[.slice a n c, .slice b n e] w fun e w' => e = .returned (.bool true) ∧ Below w.heap.size w w' := by
  have := sameTexts_any a b c e ((List.range n).map f) w (by simpa using hn) (sml_tx ha) (sml_tx hb)
  simpa using this
end Go.Proofs.YtajaadagejhllaaGreatDoor
/- RxtreeShows: the walk. -/
namespace Go.Proofs.YtajaadagejhllaaGreatDoor
open Go.RowKit Go.Lib

theorem vds_tree {B : Nat} {w : World} {m : Nat} {t : Tr} {op : Int} {P : St → Prop} (ht : Tat B w t) (hF : ∀ t' op' s s', Tat B w t' → vd m t' op' s = some s' → P s → P s') : ∀ {j : Nat} {s s' : St}, j ≤ (t []).kn → vds (vd m) t op j s = some s' → P s → P s'
  | 0, s, s', _, h, hp => by cases h; exact hp
  | j + 1, s, s', hj, h, hp => by
    unfold vds at h
    cases hj' : vds (vd m) t op j s with
    | none => rw [hj'] at h; cases h
    | some s4 =>
      rw [hj'] at h
      exact hF _ _ _ _ (ht.kid j (by omega)) h (vds_tree ht hF (by omega) hj' hp)
/-- The names that a survey finds are no longer than those of the tree. -/
theorem vd_names {B : Nat} {w : World} : ∀ (m : Nat) (t : Tr) (op : Int) (s s1 : St), Tat B w t → vd m t op s = some s1 → (∀ j, j < s.n → (s.f j).size ≤ 140737488351232) → ∀ j, j < s1.n → (s1.f j).size ≤ 140737488351232
  | 0, _, _, _, _, _, h, _ => by cases h
  | m + 1, t, op, s, s1, ht, h, hs => by
    unfold vd at h
    split at h
    · cases h
    · cases hm : mid (t []) { s with k := s.k + 1 } with
      | none => rw [hm] at h; cases h
      | some s2 =>
        rw [hm] at h
        have h2 : ∀ j, j < s2.n → (s2.f j).size ≤ 140737488351232 := by
          unfold mid grp at hm
          split at hm
          · cases hm; exact hs
          · split at hm
            · split at hm
              · cases hm
              · cases hm
                intro j hj
                dsimp only at hj ⊢
                by_cases e : j = s.n
                · rw [e, up_same]; exact ht.node.2.2.1
                · rw [up_other _ _ _ _ e]; exact hs j (by omega)
            · cases hm; exact hs
        exact vds_tree (P := fun s => ∀ j, j < s.n → (s.f j).size ≤ 140737488351232) ht (fun t' op' a b ht' h hp => vd_names m t' op' a b ht' h hp) (Nat.le_refl _) h h2

theorem row_sml {S : Nat} {w : World} {v : Value} {n : Nat} {f : Nat → ByteArray} (h : w.ownsRow S 9 1 v n (sc f n)) : ∃ a c, v = .slice a n c ∧ Sml w a f n := by
  rcases h.2 with ⟨rfl, rfl⟩ | ⟨g, cap, cur, rfl, _, hh, _⟩
  · exact ⟨none, 0, rfl, .inl rfl⟩
  · refine ⟨_, cap, rfl, .inr ⟨g, 0, rfl, (Array.getElem?_eq_some_iff.1 hh).1, fun j hj => ?_⟩⟩
    have := World.ownsRow.cells h (g := g) rfl j (.string (f j)) (by simp [sc, hj])
    rwa [Go.WideShapes.add_plain] at this
/-- What the program's Groups answers. -/
theorem groups_both (t : Tr) (w : World) (ht : Tat w.heap.size w t) : Calls Tryz.prog 16 #[ndV (t [])] w fun e w' => ((svd t = none → e = .returned (.slice none 0 0)) ∧ ∀ s1, svd t = some s1 → ∃ a c, e = .returned (.slice a s1.n c) ∧ Sml w' a s1.f s1.n) ∧ Below w.heap.size w w' := by
  cases hs : svd t with
  | none => exact (groups_no t w ht hs).mono fun e w' ⟨he, hb⟩ => ⟨⟨fun _ => he, fun _ h => by cases h⟩, hb⟩
  | some s1 =>
    refine (groups_any t w s1 ht hs (vd_names 8195 t 0 s0 s1 ht hs (fun j hj => absurd hj (Nat.not_lt_zero _))) (vd_n 8195 t 0 s0 s1 hs (by decide))).mono ?_
    rintro e w' ⟨⟨v, he, ho⟩, hb⟩
    refine ⟨⟨fun h => by (cases h), fun s2 h => ?_⟩, hb⟩
    cases h
    obtain ⟨a, c, rfl, hm⟩ := row_sml ho
    exact ⟨a, c, he, hm⟩
/-- A list of names that both sides answer. -/
theorem names_ok (t : Tr) (w : World) (e1 e2 : Ending) (h1 : (svd t = none → e1 = .returned (.slice none 0 0)) ∧ ∀ s1, svd t = some s1 → ∃ a c, e1 = .returned (.slice a s1.n c) ∧ Sml w a s1.f s1.n) (h2 : (svd t = none → e2 = .returned (.slice none 0 0)) ∧ ∀ s1, svd t = some s1 → ∃ a c, e2 = .returned (.slice a s1.n c) ∧ Sml w a s1.f s1.n) :
    ∃ v1 v2, e1 = .returned v1 ∧ e2 = .returned v2 ∧ Calls Tryz.prog 28 #[v1, v2] w fun e w' => e = .returned (.bool true) ∧ Below w.heap.size w w' := by
  cases hs : svd t with
  | none => exact ⟨_, _, h1.1 hs, h2.1 hs, same_names none none 0 0 0 (fun _ => ⟨#[]⟩) w (by decide) (.inl rfl) (.inl rfl)⟩
  | some s1 =>
    obtain ⟨a, c, e, m⟩ := h1.2 s1 hs
    obtain ⟨b, d, e', m'⟩ := h2.2 s1 hs
    exact ⟨_, _, e, e', same_names a b c d s1.n s1.f w (Nat.le_trans (vd_n 8195 t 0 s0 s1 hs (by decide)) (by decide)) m m'⟩
theorem names_v {t : Tr} {w : World} {e1 : Ending} (h1 : (svd t = none → e1 = .returned (.slice none 0 0)) ∧ ∀ s1, svd t = some s1 → ∃ a c, e1 = .returned (.slice a s1.n c) ∧ Sml w a s1.f s1.n) : ∃ v, e1 = .returned v := by
  cases hs : svd t with
  | none => exact ⟨_, h1.1 hs⟩
  | some s1 =>
    obtain ⟨a, c, e, _⟩ := h1.2 s1 hs
    exact ⟨_, e⟩
theorem names_b {t : Tr} {w w' : World} {e1 : Ending} (h1 : (svd t = none → e1 = .returned (.slice none 0 0)) ∧ ∀ s1, svd t = some s1 → ∃ a c, e1 = .returned (.slice a s1.n c) ∧ Sml w a s1.f s1.n) (b : Below w.heap.size w w') : (svd t = none → e1 = .returned (.slice none 0 0)) ∧ ∀ s1, svd t = some s1 → ∃ a c, e1 = .returned (.slice a s1.n c) ∧ Sml w' a s1.f s1.n :=
  ⟨h1.1, fun s1 h => by
    obtain ⟨a, c, e, m⟩ := h1.2 s1 h
    exact ⟨a, c, e, m.below b⟩⟩
set_option maxRecDepth 100000 in
set_option maxHeartbeats 4000000 in
theorem shows_walk (t : Tr) (w : World) (ht : Tat w.heap.size w t) (hA : TbA w.heap.size w) (hbk : Bk 1048576 8195 t) : Calls Tryz.prog 8 #[ndV (t [])] w fun e w' => e = .returned (.bool true) ∧ Below w.heap.size w w' := by
  have bx : Below w.heap.size w (w.alloc (ndX (t []))) := (Below.refl _ w).alloc (Nat.le_refl _) _
  have HT : Hid (∀ w5, Below w.heap.size w w5 → Tat w5.heap.size w5 t) := fun w5 b => (ht.below b).mono b.size
  have HA : Hid (∀ w5, Below w.heap.size w w5 → TbA w5.heap.size w5) := fun w5 b w6 b6 => hA w6 (b.trans (b6.mono b.size))
  have HBK : Hid (Bk 1048576 8195 t) := hbk
  have HX : Hid (∀ w5, Below (w.alloc (ndX (t []))).heap.size (w.alloc (ndX (t []))) w5 → Cs w5 w.heap.size 0 (t [])) := fun w5 b5 => (cells_ndX (w := w) (t [])).below b5 (by simp)
  have HB0 : Hid (∀ w5, Below (w.alloc (ndX (t []))).heap.size (w.alloc (ndX (t []))) w5 → Below w.heap.size w w5) := fun w5 b5 => bx.trans (b5.mono (by simp))
  have k1 := alive_any (w.alloc (ndX (t []))) (HA.out _ bx)
  clear ht hA hbk bx
  go_enter Tryz.func8, Tryz.ntmps8
  go_wp2_with fail
  go_fit k1
  rintro e w1 ⟨rfl, b1⟩
  have k2 := rshow_any t w1 (HT.out _ (HB0.out _ b1)) (HA.out _ (HB0.out _ b1)) HBK.out
  obtain ⟨q0, q1, q2, q3, q4, q5, q6, q7, q8⟩ := HX.out _ b1
  simp only [Nat.zero_add] at q0 q1 q2 q3 q4 q5 q6 q7 q8
  clear k1
  obtain ⟨sv, hsv⟩ : ∃ sv, sv = shV t := ⟨_, rfl⟩
  rw [← hsv] at k2
  go_wp2_with fail
  go_fit k2
  rintro e w2 ⟨rfl, b2⟩
  have c2 := b1.trans (b2.mono b1.size)
  have k3 := rgroups_any t w2 (HT.out _ (HB0.out _ c2))
  clear k2 q0 q1 q2 q3 q4 q5 q6 q7 q8
  obtain ⟨q0, q1, q2, q3, q4, q5, q6, q7, q8⟩ := HX.out _ c2
  simp only [Nat.zero_add] at q0 q1 q2 q3 q4 q5 q6 q7 q8
  go_wp2_with fail
  go_fit k3
  rintro e w3 ⟨hg, b3⟩
  obtain ⟨v1, rfl⟩ := names_v hg
  have HG1 : Hid ((svd t = none → Ending.returned v1 = .returned (.slice none 0 0)) ∧ ∀ s1, svd t = some s1 → ∃ a c, Ending.returned v1 = .returned (.slice a s1.n c) ∧ Sml w3 a s1.f s1.n) := hg
  have c3 := c2.trans (b3.mono c2.size)
  have k4 := rvalid_any t w3 (HT.out _ (HB0.out _ c3))
  clear k3 hg
  clear q0 q1 q2 q3 q4 q5 q6 q7 q8
  obtain ⟨q0, q1, q2, q3, q4, q5, q6, q7, q8⟩ := HX.out _ c3
  simp only [Nat.zero_add] at q0 q1 q2 q3 q4 q5 q6 q7 q8
  go_wp2_with fail
  go_fit k4
  rintro e w4 ⟨rfl, b4⟩
  have c4 := c3.trans (b4.mono c3.size)
  have k5 := show_any t w4 (HT.out _ (HB0.out _ c4)) (HA.out _ (HB0.out _ c4))
  rw [← hsv] at k5
  have k5v := valid_any t
  clear k4
  clear q0 q1 q2 q3 q4 q5 q6 q7 q8
  obtain ⟨q0, q1, q2, q3, q4, q5, q6, q7, q8⟩ := HX.out _ c4
  simp only [Nat.zero_add] at q0 q1 q2 q3 q4 q5 q6 q7 q8
  go_wp2_with fail
  go_fit k5
  rintro e w5 ⟨rfl, b5⟩
  have c5 := c4.trans (b5.mono c4.size)
  have k6 := valid_any t w5 (HT.out _ (HB0.out _ c5))
  clear k5 k5v
  generalize okT t = ok at *
  clear q0 q1 q2 q3 q4 q5 q6 q7 q8
  obtain ⟨q0, q1, q2, q3, q4, q5, q6, q7, q8⟩ := HX.out _ c5
  simp only [Nat.zero_add] at q0 q1 q2 q3 q4 q5 q6 q7 q8
  go_wp2_with fail
  go_fit k6
  rintro e w6 ⟨rfl, b6⟩
  have c6 := c5.trans (b6.mono c5.size)
  have k7 := groups_both t w6 (HT.out _ (HB0.out _ c6))
  clear k6
  clear q0 q1 q2 q3 q4 q5 q6 q7 q8
  obtain ⟨q0, q1, q2, q3, q4, q5, q6, q7, q8⟩ := HX.out _ c6
  simp only [Nat.zero_add] at q0 q1 q2 q3 q4 q5 q6 q7 q8
  go_wp2_with fail
  go_fit k7
  rintro e w7 ⟨hg, b7⟩
  obtain ⟨v2, rfl⟩ := names_v hg
  have c7 := c6.trans (b7.mono c6.size)
  have b37 : Below w3.heap.size w3 w7 := by
    have b34 := b4
    have b35 := b34.trans (b5.mono b34.size)
    have b36 := b35.trans (b6.mono b35.size)
    exact b36.trans (b7.mono b36.size)
  obtain ⟨u2, u1, e2, e1, k8⟩ := names_ok t w7 _ _ hg (names_b HG1.out b37)
  cases e2
  cases e1
  have HF : Hid (Below w.heap.size w w7) := HB0.out _ c7
  clear k7 hg HG1 q0 q1 q2 q3 q4 q5 q6 q7 q8
  go_wp2_with fail
  go_fit k8
  rintro e w8 ⟨rfl, b8⟩
  have HF8 : Hid (Below w.heap.size w w8) := HF.out.trans (b8.mono HF.out.size)
  clear k8
  go_wp2
  go_ret
  exact ⟨rfl, HF8.out⟩
end Go.Proofs.YtajaadagejhllaaGreatDoor
/- RxtreeShows: a tree that came in, by its bulk. -/
namespace Go.Proofs.YtajaadagejhllaaGreatDoor
open Go.RowKit Go.Lib

theorem bulk_mem {H : Type} : ∀ (l : List (DataW H)) (d : DataW H), d ∈ l → Rows.uptoBulk d ≤ Rows.uptoBulkAll l
  | x :: l, d, h => by
    rw [Rows.uptoBulkAll]
    rcases List.mem_cons.1 h with rfl | h
    · omega
    · have := bulk_mem l d h
      omega
theorem bulk_pos {H : Type} (d : DataW H) : 1 ≤ Rows.uptoBulk d := by
  unfold Rows.uptoBulk
  split <;> omega
theorem bulk_count {H : Type} : ∀ (l : List (DataW H)), l.length ≤ Rows.uptoBulkAll l
  | [] => by simp
  | x :: l => by
    have h1 := bulk_pos x
    have h2 := bulk_count l
    rw [Rows.uptoBulkAll, List.length_cons]
    omega
set_option maxRecDepth 100000 in
theorem ranges_openB {H : Type} {enc : TypeId × Value → H} {W : World} {v : Value} {d : DataW H} {p : List MemPlace} {fuel : Nat}
    (hf : DataW.trod enc Tryz.prog W 0 (fun _ => true) true fuel 22 [v] = some (d, p)) (hz : Rows.uptoBulk d ≤ 1048576) :
    ∃ (a : Option Addr) (len cap : Nat) (f : Nat → Rg), v = .slice a len cap ∧ Rml W a f len ∧ len ≤ 1048576 ∧ (a = none → len = 0 ∧ cap = 0) := by
  rcases Go.Deep.open_slice Tryz.underlying22 hf with ⟨hcs, _⟩ | ⟨x, l, c, m, n, D, Pl, hcs, _, hl, hm, hmm, hd, hall⟩
  · simp at hcs
    exact ⟨none, 0, 0, fun _ => (0, 0), hcs, .inl rfl, by omega, fun _ => ⟨rfl, rfl⟩⟩
  · simp at hcs
    have hm' : m = c := by simpa using hmm
    subst hm'
    obtain ⟨rfl, _⟩ := Prod.mk.inj hd
    have hC : Tryz.prog.cellsOf 58 = 2 := by kernel_rfl
    have each : ∀ i, i < m → ∃ u : Rg, W.cell? (x.add (i * 2)) = some (.int .i32 u.1) ∧ W.cell? (x.add (i * 2 + 1)) = some (.int .i32 u.2) := by
      intro i hi
      obtain ⟨cs', h1, h2⟩ := hall i hi
      rw [hC] at h1
      obtain ⟨_, hlen, hcell⟩ := World.cells?_some h1
      obtain ⟨xs, k, hk, hxy, _, hxl, hff⟩ := DataW.trod_struct Tryz.underlying58 h2
      match xs, hxl, cs', hlen with
      | [y0, y1], _, [v0, v1], _ =>
        have g0 := hff 0 _ rfl
        have g1 := hff 1 _ rfl
        have c3 : Tryz.prog.cellsOf 21 = 1 := by kernel_rfl
        simp [c3] at g0 g1
        obtain ⟨t, e0, _, _⟩ := DataW.trod_int Tryz.underlying21 g0
        obtain ⟨s, e1, _, _⟩ := DataW.trod_int Tryz.underlying21 g1
        have q0 := hcell 0 (by omega)
        have q1 := hcell 1 (by omega)
        rw [Go.Deep.add_add] at q0 q1
        have w0 : v0 = .int .i32 t := by simpa using e0
        have w1 : v1 = .int .i32 s := by simpa using e1
        rw [w0, w1] at q0 q1
        exact ⟨(t, s), by simpa using q0, by simpa using q1⟩
    have hI : Inhabited Rg := ⟨(0, 0)⟩
    obtain ⟨ss, hss⟩ := Go.Deep.choose_lt each
    refine ⟨some x, l, m, ss, hcs, ?_, ?_, fun h => by cases h⟩
    · by_cases h0 : l = 0
      · exact .inl h0
      · right
        obtain ⟨g, o, sp⟩ := x
        have hsp : sp = none := by
          have := (hss 0 (by omega)).1
          simpa [Addr.add] using World.cell?_spot this
        subst hsp
        have h00 := (hss 0 (by omega)).1
        rw [Go.WideShapes.add_plain] at h00
        refine ⟨g, o, rfl, block_lt_of_cell h00, fun j hj => ?_⟩
        obtain ⟨q0, q1⟩ := hss j (by omega)
        rw [Go.WideShapes.add_plain] at q0 q1
        exact ⟨q0, by rw [Nat.add_assoc]; exact q1⟩
    · rw [Rows.uptoBulk] at hz
      have hc := bulk_count ((List.range l).map D)
      rw [List.length_map, List.length_range] at hc
      omega
theorem bk_top {N : Nat} {d : Nd} {T : Nat → Tr} (h1 : d.rn ≤ N) (h2 : d.nm.size ≤ N) (h3 : ∀ j, j < d.kn → ∀ m, Bk N m (T j)) : ∀ m, Bk N m (topT d T)
  | 0 => trivial
  | m + 1 => ⟨h1, h2, fun j hj => h3 j hj m⟩
set_option maxRecDepth 100000 in
set_option maxHeartbeats 2000000 in
theorem tree_openB {H : Type} {enc : TypeId × Value → H} {W : World} : ∀ (fuel : Nat) (cs : List Value) (d : DataW H) (p : List MemPlace), DataW.trod enc Tryz.prog W 0 (fun _ => true) true fuel 25 cs = some (d, p) → Rows.uptoBulk d ≤ 1048576 → ∃ t : Tr, cs = ndC (t []) ∧ Tat W.heap.size W t ∧ ∀ m, Bk 1048576 m t := by
  intro fuel
  induction fuel using Nat.strongRecOn with
  | ind fuel ih =>
    intro cs d p hf hz
    have hlen := (DataW.trod_struct Tryz.underlying25 hf)
    obtain ⟨xs, k, hk, hxy, hcl, hxl, hff⟩ := hlen
    have hC : Tryz.prog.cellsOf 25 = 9 := by kernel_rfl
    rw [hC] at hcl
    match xs, hxl, cs, hcl with
    | [y0, y1, y2, y3, y4, y5, y6, y7, y8], _, [v0, v1, v2, v3, v4, v5, v6, v7, v8], _ =>
      have g0 := hff 0 _ rfl
      have g1 := hff 1 _ rfl
      have g2 := hff 2 _ rfl
      have g3 := hff 3 _ rfl
      have g4 := hff 4 _ rfl
      have g5 := hff 5 _ rfl
      have g6 := hff 6 _ rfl
      have g7 := hff 7 _ rfl
      have g8 := hff 8 _ rfl
      have c3 : Tryz.prog.cellsOf 3 = 1 := by kernel_rfl
      have c21 : Tryz.prog.cellsOf 21 = 1 := by kernel_rfl
      have c27 : Tryz.prog.cellsOf 22 = 1 := by kernel_rfl
      have c4 : Tryz.prog.cellsOf 4 = 1 := by kernel_rfl
      have c9 : Tryz.prog.cellsOf 9 = 1 := by kernel_rfl
      have c31 : Tryz.prog.cellsOf 23 = 1 := by kernel_rfl
      simp [c3] at g0 g3 g4 g6
      simp [c21] at g1
      simp [c27] at g2
      simp [c4] at g5
      simp [c9] at g7
      simp [c31] at g8
      obtain ⟨t0, e0, _, _⟩ := DataW.trod_int Tryz.underlying3 g0
      obtain ⟨t1, e1, _, _⟩ := DataW.trod_int Tryz.underlying21 g1
      obtain ⟨t3, e3, _, _⟩ := DataW.trod_int Tryz.underlying3 g3
      obtain ⟨t4, e4, _, _⟩ := DataW.trod_int Tryz.underlying3 g4
      obtain ⟨t5, e5, _⟩ := DataW.trod_bool Tryz.underlying4 g5
      obtain ⟨t6, e6, _, _⟩ := DataW.trod_int Tryz.underlying3 g6
      obtain ⟨t7, e7, x7, _⟩ := DataW.trod_string Tryz.underlying9 g7
      obtain ⟨d2, p2⟩ := y2
      obtain ⟨d7, p7⟩ := y7
      obtain ⟨d8, p8⟩ := y8
      have hD : d = .agg ([y0, y1, (d2, p2), y3, y4, y5, y6, (d7, p7), (d8, p8)].map (·.1)) := (Prod.mk.inj hxy).1
      have hw : ∀ (dd : DataW H), dd ∈ ([y0, y1, (d2, p2), y3, y4, y5, y6, (d7, p7), (d8, p8)].map (·.1)) → Rows.uptoBulk dd ≤ 1048576 := fun dd h => by
        rw [hD, Rows.uptoBulk] at hz
        have := bulk_mem _ dd h
        omega
      obtain ⟨ra, rn, rc, rf, ev, hR, hRb, _⟩ := ranges_openB g2 (hw d2 (by simp))
      have h7 : t7.size ≤ 1048576 := by
        have := hw d7 (by simp)
        rw [(Prod.mk.inj x7).1, Rows.uptoBulk] at this
        rw [size_len] at this
        omega
      have w0 : v0 = .int .i64 t0 := by simpa using e0
      have w1 : v1 = .int .i32 t1 := by simpa using e1
      have w3 : v3 = .int .i64 t3 := by simpa using e3
      have w4 : v4 = .int .i64 t4 := by simpa using e4
      have w5 : v5 = .bool t5 := by simpa using e5
      have w6 : v6 = .int .i64 t6 := by simpa using e6
      have w7 : v7 = .string t7 := by simpa using e7
      rcases DataW.trod_slice Tryz.underlying23 g8 with ⟨hcs, _⟩ | ⟨x, l, c, elems, rest, n, hn, hcs, hx8, _, hl, _, hel, hal, _⟩
      · have w8 : v8 = .slice none 0 0 := by simpa using hcs
        refine ⟨topT ⟨t0, t1, ra, rn, rc, rf, t3, t4, t5, t6, t7, none, 0, 0⟩ (fun _ _ => nd0), ?_, topT_at ⟨by dsimp only; omega, by dsimp only; omega, by dsimp only; omega, Nat.le_refl _⟩ hR.b (.inl rfl) (fun j hj => absurd hj (Nat.not_lt_zero _)), bk_top hRb h7 (fun j hj => absurd hj (Nat.not_lt_zero _))⟩
        rw [w0, w1, w3, w4, w5, w6, w7, w8, ev]
        rfl
      · have w8 : v8 = .slice (some x) l c := by simpa using hcs
        have hb8 := hw d8 (by simp)
        rw [(Prod.mk.inj hx8).1, Rows.uptoBulk] at hb8
        have hkn : l * 8 ≤ 140737488351232 := by
          have := bulk_count (elems.map (·.1))
          rw [List.length_map] at this
          omega
        have each : ∀ i, i < l → ∃ u : Tr, (∃ cs', W.cells? 0 (x.add (i * 9)) 9 = some cs' ∧ cs' = ndC (u [])) ∧ Tat W.heap.size W u ∧ ∀ m, Bk 1048576 m u := by
          intro i hi
          have h1 := hal i hi
          rw [hC, List.getElem?_eq_getElem (by omega : i < elems.length)] at h1
          obtain ⟨cs', h2, h3⟩ := Option.bind_eq_some_iff.1 h1
          obtain ⟨u, hu, hT⟩ := ih n (by omega) cs' elems[i].1 elems[i].2 h3 (by
            have := bulk_mem (elems.map (·.1)) elems[i].1 (List.mem_map.2 ⟨elems[i], List.getElem_mem _, rfl⟩)
            omega)
          exact ⟨u, ⟨cs', h2, hu⟩, hT⟩
        have hI : Inhabited Tr := ⟨fun _ => nd0⟩
        obtain ⟨T, hT⟩ := Go.Deep.choose_lt each
        have hcell : ∀ j, j < l → ∀ q v, q < 9 → (ndC (T j []))[q]? = some v → W.cell? (x.add (j * 9 + q)) = some v := fun j hj q v hq hv => by
          obtain ⟨⟨cs', h1, h2⟩, _⟩ := hT j hj
          obtain ⟨_, hln, hce⟩ := World.cells?_some h1
          have := hce q (by omega)
          rw [Go.Deep.add_add] at this
          rw [this]
          subst h2
          simpa using hv
        refine ⟨topT ⟨t0, t1, ra, rn, rc, rf, t3, t4, t5, t6, t7, some x, l, c⟩ T, ?_, topT_at ⟨by dsimp only; omega, hkn, by dsimp only; omega, hl⟩ hR.b ?_ (fun j hj => (hT j hj).2.1), bk_top hRb h7 (fun j hj m => (hT j hj).2.2 m)⟩
        · rw [w0, w1, w3, w4, w5, w6, w7, w8, ev]
          rfl
        · by_cases h0 : l = 0
          · exact .inl h0
          · right
            obtain ⟨g, o, sp⟩ := x
            have hc0 := hcell 0 (by omega) 0 _ (by omega) rfl
            have hsp : sp = none := by simpa [Addr.add] using World.cell?_spot hc0
            subst hsp
            rw [Go.WideShapes.add_plain] at hc0
            refine ⟨g, o, rfl, block_lt_of_cell hc0, fun j hj => ?_⟩
            have hc : ∀ q v, q < 9 → (ndC (T j []))[q]? = some v → W.cell? ⟨g, o + j * 9 + q, none⟩ = some v := fun q v hq hv => by
              have := hcell j hj q v hq hv
              rw [Go.WideShapes.add_plain] at this
              rw [Nat.add_assoc]
              exact this
            exact ⟨hc 0 _ (by omega) rfl, hc 1 _ (by omega) rfl, hc 2 _ (by omega) rfl, hc 3 _ (by omega) rfl, hc 4 _ (by omega) rfl, hc 5 _ (by omega) rfl, hc 6 _ (by omega) rfl, hc 7 _ (by omega) rfl, hc 8 _ (by omega) rfl⟩
end Go.Proofs.YtajaadagejhllaaGreatDoor
