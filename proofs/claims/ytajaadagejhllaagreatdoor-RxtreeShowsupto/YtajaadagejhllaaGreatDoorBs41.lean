/- A bundle of texts. -/
import Derived.Test.YtajaadagejhllaaGreatDoorBs10
import Derived.Test.YtajaadagejhllaaGreatDoorBs39
import Derived.Test.YtajaadagejhllaaGreatDoorBs36
import Derived.Test.YtajaadagejhllaaGreatDoorBs29
import Derived.Test.YtajaadagejhllaaGreatDoorBs06
/- Line marks in a tree; the reference's lines. -/
namespace Go.Proofs.YtajaadagejhllaaGreatDoor
open Go.RowKit

def anyN (p : Nat → Bool) : Nat → Bool
  | 0 => false
  | n + 1 => anyN p n || p n
theorem anyN_at {p : Nat → Bool} {i : Nat} (h : p i = true) : ∀ {n : Nat}, i < n → anyN p n = true
  | 0, hn => by omega
  | n + 1, hn => by
    unfold anyN
    by_cases e : i = n
    · subst e; rw [h, Bool.or_true]
    · rw [anyN_at h (show i < n by omega), Bool.true_or]
/-- Is there a line's beginning or end in a tree? -/
def liF : Nat → Tr → Bool
  | 0, _ => false
  | m + 1, t => decide ((t []).kind = 10 ∨ (t []).kind = 11) || anyN (fun j => liF m (kid t j)) (t []).kn
theorem mid_l {d : Nd} {s s1 : St} (h : mid d s = some s1) : s1.l = (s.l || decide (d.kind = 10 ∨ d.kind = 11)) := by
  unfold mid grp at h
  split at h
  · rename_i hk
    cases h
    simp [hk]
  · rename_i hk
    have e : decide (d.kind = 10 ∨ d.kind = 11) = false := decide_eq_false hk
    rw [e, Bool.or_false]
    split at h
    · split at h
      · cases h
      · cases h; rfl
    · cases h; rfl
theorem vd_l : ∀ (m : Nat) (t : Tr) (op : Int) (s s1 : St), vd m t op s = some s1 → s1.l = (s.l || liF m t)
  | 0, _, _, _, _, h => by cases h
  | m + 1, t, op, s, s1, h => by
    unfold vd at h
    split at h
    · cases h
    · cases hm : mid (t []) { s with k := s.k + 1 } with
      | none => rw [hm] at h; cases h
      | some s2 =>
        rw [hm] at h
        have h2 := mid_l hm
        have key : ∀ (o : Int) (j : Nat) (s3 : St), vds (vd m) t o j s2 = some s3 → s3.l = (s2.l || anyN (fun j => liF m (kid t j)) j) := by
          intro o j
          induction j with
          | zero => intro s3 h3; cases h3; simp [anyN]
          | succ j ih =>
            intro s3 h3
            unfold vds at h3
            cases hj : vds (vd m) t o j s2 with
            | none => rw [hj] at h3; cases h3
            | some s4 =>
              rw [hj] at h3
              rw [vd_l m _ _ _ _ h3, ih s4 hj, anyN, Bool.or_assoc]
        rw [key _ _ _ h, h2, liF, Bool.or_assoc]
theorem svd_l {t : Tr} {s1 : St} (h : svd t = some s1) : s1.l = liF 8195 t := by
  have := vd_l 8195 t 0 s0 s1 h
  rw [this]
  rfl

def LnC (m : Nat) : Prop := ∀ (t : Tr) (w : World), Tat w.heap.size w t → WF m t → Calls Tryz.prog 44 #[ndV (t [])] w fun e w' => e = .returned (.bool (liF m t)) ∧ Below w.heap.size w w'
set_option maxHeartbeats 4000000 in
set_option maxRecDepth 100000 in
theorem lines_step (m : Nat) (t : Tr) (w : World) (hIH : LnC m) (ht : Tat w.heap.size w t) (hwf : WF (m + 1) t) : Calls Tryz.prog 44 #[ndV (t [])] w fun e w' => e = .returned (.bool (liF (m + 1) t)) ∧ Below w.heap.size w w' := by
  obtain ⟨_, _, hkids⟩ := hwf
  have hb0 : Below w.heap.size w (w.alloc (ndX (t []))) := (Below.refl _ w).alloc (Nat.le_refl _) _
  obtain ⟨W0, hW0⟩ : ∃ W0, W0 = w.alloc (ndX (t [])) := ⟨_, rfl⟩
  have HCS : Hid (∀ w1, Below W0.heap.size W0 w1 → Cs w1 w.heap.size 0 (t [])) := fun w1 b1 => by rw [hW0] at b1; exact ndX_cells (w := w) (t []) b1
  have HW0 : Hid (W0 = w.alloc (ndX (t []))) := hW0
  rw [← hW0] at hb0
  have hnode := ht.node
  have HT : Hid (∀ w1, Below W0.heap.size W0 w1 → Tat w.heap.size w1 t) := fun w1 b1 => (ht.below hb0).below (b1.mono hb0.size)
  have HL : Hid (∀ w1, Below W0.heap.size W0 w1 → Below w.heap.size w w1) := fun w1 b1 => hb0.trans (b1.mono hb0.size)
  have HE : Hid (liF (m + 1) t = (decide ((t []).kind = 10 ∨ (t []).kind = 11) || anyN (fun j => liF m (kid t j)) (t []).kn)) := rfl
  obtain ⟨N, hN⟩ : ∃ N, (t []).kn = N := ⟨_, rfl⟩
  have HN : Hid ((t []).kn = N) := hN
  have hNb : (N : Int) ≤ 140737488351232 := by rw [← hN]; omega
  obtain ⟨KA, hKA⟩ : ∃ KA, (t []).ka = KA := ⟨_, rfl⟩
  have HKA : Hid ((t []).ka = KA) := hKA
  have HK : Hid (∀ w1, Below W0.heap.size W0 w1 → ∀ j, j < N → Calls Tryz.prog 44 #[ndV (t [j])] w1 fun e w' => e = .returned (.bool (liF m (kid t j))) ∧ Below w1.heap.size w1 w') := fun w1 b1 j hj => hIH (kid t j) w1 (((HT.out w1 b1).kid j (by rw [hN]; exact hj)).mono (HL.out w1 b1).size) (hkids j (by rw [hN]; exact hj))
  have hcs0 := HCS.out W0 (Below.refl _ _)
  obtain ⟨e0, e1, e2, e3, e4, e5, e6, e7, e8⟩ := hcs0
  simp only [Nat.zero_add] at e0 e1 e2 e3 e4 e5 e6 e7 e8
  rw [hN, hKA] at e8
  have hW1 : W0 = W0 := rfl
  obtain ⟨d, hd⟩ : ∃ d, t [] = d := ⟨_, rfl⟩
  have HDD : Hid (t [] = d) := hd
  rw [hd] at HCS HW0 HE e0 e1 e2 e3 e4 e5 e6 e7 e8
  have HDN : Hid (d.kn = N ∧ d.ka = KA) := by rw [← hd]; exact ⟨hN, hKA⟩
  rw [hd]
  rw [HDN.out.1] at HE
  clear hkids hIH ht hb0 hW0 hnode hN hKA hd hW1
  by_cases hk : d.kind = 10 ∨ d.kind = 11
  · have HT : Hid (liF (m + 1) t = true) := by unfold Hid; rw [HE.out, decide_eq_true hk, Bool.true_or]
    by_cases k10 : d.kind = 10
    · have y10 : (d.kind == 10) = true := by simpa using k10
      clear hk k10
      go_enter Tryz.func44, Tryz.ntmps44
      go_upto_region 1 with fail
      rw [← HW0.out]
      go_wp2
      go_ret
      exact ⟨by rw [HT.out]; rfl, HL.out _ (Below.refl _ _)⟩
    · have y10 : (d.kind == 10) = false := by simpa using k10
      have y11 : (d.kind == 11) = true := by simp; omega
      clear hk k10
      go_enter Tryz.func44, Tryz.ntmps44
      go_upto_region 1 with fail
      rw [← HW0.out]
      go_wp2
      go_ret
      exact ⟨by rw [HT.out]; rfl, HL.out _ (Below.refl _ _)⟩
  · have y10 : (d.kind == 10) = false := by simp; omega
    have y11 : (d.kind == 11) = false := by simp; omega
    have HE2 : Hid (liF (m + 1) t = anyN (fun j => liF m (kid t j)) N) := by unfold Hid; rw [HE.out, decide_eq_false hk, Bool.false_or]
    have b0 : Hid (Below W0.heap.size W0 W0) := Below.refl _ _
    clear hk
    go_enter Tryz.func44, Tryz.ntmps44
    go_upto_region 1 with fail
    rw [← HW0.out]
    go_wp2
    go_loopw [3] (fun ivv w' => ∃ i : Nat, ivv = .int .i64 (i : Int) ∧ i ≤ N ∧ Hid (anyN (fun j => liF m (kid t j)) i = false) ∧ Hid (Below W0.heap.size W0 w')) (fun ivv _ => N - (RowKit.intOf ivv).toNat)
    case atStart => exact ⟨0, rfl, by omega, rfl, b0⟩
    case round =>
      clear e0 e1 e2 e3 e4 e5 e6 e7 e8
      obtain ⟨i, rfl, hi, hF, hB⟩ := hrel
      obtain ⟨e0, e1, e2, e3, e4, e5, e6, e7, e8⟩ := HCS.out wr hB.out
      simp only [Nat.zero_add] at e0 e1 e2 e3 e4 e5 e6 e7 e8
      rw [HDN.out.1, HDN.out.2] at e8
      by_cases hlt : i < N
      · have hii : (i : Int) < N := by omega
        obtain ⟨g1, o1, hka, hg1, hcs⟩ := (HT.out wr hB.out).kids.at i (by rw [HN.out]; exact hlt)
        rw [HKA.out] at hka
        cases hka
        obtain ⟨p0, p1, p2, p3, p4, p5, p6, p7, p8⟩ := hcs
        have kL := HK.out wr hB.out i hlt
        generalize t [i] = dk at *
        cases hc : liF m (kid t i)
        · rw [hc] at kL
          have HF2 : Hid (anyN (fun j => liF m (kid t j)) (i + 1) = false) := by unfold Hid anyN; rw [hF.out, hc]; rfl
          clear hc
          go_wp2_with fail
          go_fit kL
          rintro e w3 ⟨rfl, b3⟩
          have HB3 : Hid (Below W0.heap.size W0 w3) := hB.out.trans (b3.mono hB.out.size)
          clear b3 kL
          go_wp2_with fail
          exact ⟨⟨i + 1, by go_num, by omega, HF2, HB3⟩, by simp [RowKit.intOf]; omega⟩
        · rw [hc] at kL
          have HT2 : Hid (liF (m + 1) t = true) := by unfold Hid; rw [HE2.out]; exact anyN_at hc hlt
          clear hc
          go_wp2_with fail
          go_fit kL
          rintro e w3 ⟨rfl, b3⟩
          have HB3 : Hid (Below W0.heap.size W0 w3) := hB.out.trans (b3.mono hB.out.size)
          clear b3 kL
          go_wp2
          go_ret
          exact ⟨by rw [HT2.out]; rfl, HL.out _ HB3.out⟩
      · have hii : ¬ (i : Int) < N := by omega
        have HT2 : Hid (liF (m + 1) t = false) := by
          unfold Hid
          rw [HE2.out, ← show i = N by omega]
          exact hF.out
        go_wp2
        go_ret
        exact ⟨by rw [HT2.out]; rfl, HL.out _ hB.out⟩
theorem lines_any : ∀ m, LnC m
  | 0 => fun _ _ _ h => False.elim h
  | m + 1 => fun t w ht hwf => lines_step m t w (lines_any m) ht hwf
end Go.Proofs.YtajaadagejhllaaGreatDoor
/- How long the text of a tree can be. -/
namespace Go.Proofs.YtajaadagejhllaaGreatDoor
open Go.RowKit Go.Lib

theorem tmB_size (a b : Int) (h0 : 0 ≤ a) (h1 : a ≤ 1000) (h2 : -1 ≤ b) (h3 : b ≤ 1000) : (tmB a b).size ≤ 46 := by
  have zI := itB_size a (by omega) h1
  have zJ := itB_size b h2 h3
  have c1 : (⟨#[123]⟩ : ByteArray).size = 1 := rfl
  have c2 : (⟨#[125]⟩ : ByteArray).size = 1 := rfl
  have c3 : (⟨#[44, 125]⟩ : ByteArray).size = 2 := rfl
  have c4 : (⟨#[44]⟩ : ByteArray).size = 1 := rfl
  unfold tmB
  split
  · decide
  · split
    · decide
    · split
      · decide
      · split
        · simp only [ByteArray.size_append]; omega
        · split
          · simp only [ByteArray.size_append]; omega
          · simp only [ByteArray.size_append]; omega
theorem liB_size (r : Int) : (liB r).size ≤ 20 := by
  have h1 := enB_size r
  have h2 := heB_size r
  have c1 : (⟨#[92]⟩ : ByteArray).size = 1 := rfl
  unfold liB
  split
  · rw [ByteArray.size_append]; omega
  · split
    · omega
    · omega
theorem clK_size (f : Nat → Rg) : ∀ n, (clK f n).size ≤ 1 + 41 * n
  | 0 => by show 1 ≤ 1 + 41 * 0; omega
  | n + 1 => by
    have h1 := clK_size f n
    have h2 := raB_size (f n)
    show (clK f n ++ raB (f n)).size ≤ _
    rw [ByteArray.size_append]
    omega
theorem clB_size (f : Nat → Rg) (n : Nat) : (clB f n).size ≤ 20 + 41 * n := by
  unfold clB
  split
  · show 19 ≤ _; omega
  · have h1 := clK_size f n
    have c1 : (⟨#[93]⟩ : ByteArray).size = 1 := rfl
    rw [ByteArray.size_append]
    omega
theorem mkB_size (k : Int) : (mkB k).size ≤ 2 := by
  unfold mkB
  repeat' split
  all_goals decide
/-- No list and no name of a tree is longer than that. -/
def Bk (N : Nat) : Nat → Tr → Prop
  | 0, _ => True
  | m + 1, t => (t []).rn ≤ N ∧ (t []).nm.size ≤ N ∧ ∀ j, j < (t []).kn → Bk N m (kid t j)
theorem tx_bd : ∀ (m : Nat) (t : Tr) (op : Int) (s s1 : St), vd m t op s = some s1 → Bk 1048576 m t → (tx m t).size + 8 + 67108864 * s.k ≤ 67108864 * s1.k
  | 0, _, _, _, _, h, _ => by cases h
  | m + 1, t, op, s, s1, h, hb => by
    obtain ⟨hrn, hnm, hkb⟩ := hb
    have hwf : ndB (t []) = true := by
      unfold vd at h
      split at h
      · cases h
      · rename_i hc
        cases hh : ndB (t []) with
        | true => rfl
        | false => exact absurd (.inr (.inr hh)) hc
    unfold vd at h
    split at h
    · cases h
    · cases hm : mid (t []) { s with k := s.k + 1 } with
      | none => rw [hm] at h; cases h
      | some s2 =>
        rw [hm] at h
        have h2 := mid_k hm
        dsimp only at h2
        have key : ∀ (sep : ByteArray) (o : Int) (j : Nat) (s3 : St), sep.size ≤ 1 → j ≤ (t []).kn → vds (vd m) t o j s2 = some s3 → (txK (tx m) t sep j).size + 67108864 * s2.k ≤ 67108864 * s3.k := by
          intro sep o j
          induction j with
          | zero =>
            intro s3 hs hj h3
            cases h3
            have := nil_size
            show (⟨#[]⟩ : ByteArray).size + _ ≤ _
            omega
          | succ j ih =>
            intro s3 hs hj h3
            unfold vds at h3
            cases hj2 : vds (vd m) t o j s2 with
            | none => rw [hj2] at h3; cases h3
            | some s4 =>
              rw [hj2] at h3
              have i1 := ih s4 hs (by omega) hj2
              have i2 := tx_bd m _ _ _ _ h3 (hkb j (by omega))
              have i3 : (if j = 0 then (⟨#[]⟩ : ByteArray) else sep).size ≤ 1 := by
                split
                · have := nil_size; omega
                · exact hs
              have i4 : (if brB (t []).kind (t [j]).kind = true then ((⟨#[40, 63, 58]⟩ : ByteArray) ++ tx m (kid t j)) ++ ⟨#[41]⟩ else tx m (kid t j)).size ≤ (tx m (kid t j)).size + 4 := by
                split
                · simp only [ByteArray.size_append]
                  have e1 : (⟨#[40, 63, 58]⟩ : ByteArray).size = 3 := rfl
                  have e2 : (⟨#[41]⟩ : ByteArray).size = 1 := rfl
                  omega
                · omega
              show ((txK (tx m) t sep j ++ _) ++ _).size + _ ≤ _
              rw [ByteArray.size_append, ByteArray.size_append]
              omega
        have z0 := nil_size
        have z1 : (⟨#[124]⟩ : ByteArray).size = 1 := rfl
        have k0 := key ⟨#[]⟩ _ _ _ (by omega) (Nat.le_refl _) h
        have k1 := key ⟨#[124]⟩ _ _ _ (by omega) (Nat.le_refl _) h
        show (if (t []).kind = 2 then _ else if (t []).kind = 3 then _ else if (t []).kind = 5 then _ else if (t []).kind = 4 then _ else if (t []).kind = 6 then _ else if (t []).kind = 7 then _ else _ : ByteArray).size + 8 + _ ≤ _
        split
        · have := liB_size (t []).r
          omega
        · split
          · have := clB_size (t []).rf (t []).rn
            omega
          · split
            · omega
            · split
              · omega
              · split
                · rename_i hk
                  obtain ⟨_, r0, r1, r2⟩ := ndB_rep hwf hk
                  have := tmB_size (t []).mn (t []).mx r0 r1 (by omega) (by omega)
                  have e1 : (⟨#[63]⟩ : ByteArray).size = 1 := rfl
                  have e2 : (if (t []).lz = true then (⟨#[63]⟩ : ByteArray) else ⟨#[]⟩).size ≤ 1 := by
                    split
                    · omega
                    · omega
                  rw [ByteArray.size_append, ByteArray.size_append]
                  omega
                · split
                  · have e1 : (⟨#[40]⟩ : ByteArray).size = 1 := rfl
                    have e2 : (⟨#[41]⟩ : ByteArray).size = 1 := rfl
                    have e3 : (naB (t []).nm).size ≤ (t []).nm.size + 4 := by
                      unfold naB
                      split
                      · omega
                      · rw [ByteArray.size_append, ByteArray.size_append]
                        have f1 : (⟨#[63, 80, 60]⟩ : ByteArray).size = 3 := rfl
                        have f2 : (⟨#[62]⟩ : ByteArray).size = 1 := rfl
                        omega
                    rw [ByteArray.size_append, ByteArray.size_append, ByteArray.size_append]
                    omega
                  · have := mkB_size (t []).kind
                    omega
theorem tx_small {t : Tr} {s1 : St} (h : svd t = some s1) (hb : Bk 1048576 8195 t) : (tx 8195 t).size ≤ 600000000000 := by
  have h1 := tx_bd 8195 t 0 s0 s1 h hb
  have h2 := (vd_k 8195 t 0 s0 s1 h).2
  have h3 : s0.k = 0 := rfl
  omega
end Go.Proofs.YtajaadagejhllaaGreatDoor
/- The reference's validity: valid, where a node fails at once. -/
namespace Go.Proofs.YtajaadagejhllaaGreatDoor
open Go.RowKit

/-- How a call of valid ends. -/
def Vr (S B : Nat) (v : Value) (r : Option St) (w : World) (e : Ending) (w' : World) : Prop := (r = none → e = .returned (.bool false)) ∧ (∀ s1, r = some s1 → e = .returned (.bool true) ∧ ∃ v', Cn S w' B v' s1.k s1.n s1.n s1.f ∧ Sub w v v') ∧ Kp (Mv B v) w w'
theorem Vr.no {S B : Nat} {v : Value} {w w' : World} (k : Kp (Mv B v) w w') : Vr S B v none w (.returned (.bool false)) w' := ⟨fun _ => rfl, (fun _ h => by cases h), k⟩
theorem Vr.yes {S B : Nat} {v v' : Value} {s1 : St} {w w' : World} (h : Cn S w' B v' s1.k s1.n s1.n s1.f) (hs : Sub w v v') (k : Kp (Mv B v) w w') : Vr S B v (some s1) w (.returned (.bool true)) w' := ⟨(fun h => by cases h), (fun s2 e => by cases e; exact ⟨rfl, v', h, hs⟩), k⟩
abbrev opN (ab kind op : Int) : Int := if brB ab kind = true then op + 1 else op
def VdR (S B m : Nat) : Prop := ∀ (t : Tr) (ab op : Int) (s : St) (v : Value) (w : World), Cn S w B v s.k s.n s.n s.f → Tat S w t → s.k ≤ 8194 → 8194 ≤ s.k + m → s.n ≤ 100 → S ≤ w.heap.size → 0 ≤ op → op ≤ 1000 → Calls Tryz.prog 42 #[.pointer (some ⟨B, 0, none⟩), ndV (t []), .int .i64 ab, .int .i64 op] w (Vr S B v (vd m t (opN ab (t []).kind op) s) w)
/-- The world in which valid begins its look. -/
abbrev bgW (w : World) (B : Nat) (d : Nd) (k : Nat) : World := (w.alloc (ndX d)).setCell ⟨B, 0, none⟩ (.int .i64 ((k : Int) + 1))
theorem cn_beg {S B : Nat} {v : Value} {k c n : Nat} {f : Nat → ByteArray} {w : World} (d : Nd) (hv : Cn S w B v k c n f) : Cn S (bgW w B d k) B v (k + 1) c n f ∧ Cs (bgW w B d k) w.heap.size 0 d ∧ Kp (Mv B v) w (bgW w B d k) ∧ w.heap.size < (bgW w B d k).heap.size ∧ ¬ Mv B v w.heap.size := by
  have hal : Below w.heap.size w (w.alloc (ndX d)) := (Below.refl _ w).alloc (Nat.le_refl _) _
  have hv1 := hv.below hal
  obtain ⟨hv2, hk2⟩ := hv1.put0 (k + 1)
  have e : (w.alloc (ndX d)).setCell ⟨B, 0, none⟩ (.int .i64 (((k + 1 : Nat) : Int))) = bgW w B d k := by push_cast; rfl
  rw [e] at hv2 hk2
  have hne : ¬ Mv B v w.heap.size := fun h => by have := (hv.base _ h).2; omega
  refine ⟨hv2, (ndX_cells (w := w) d (Below.refl _ _)).kp hk2 hne, (Kp.of hal).trans hk2, ?_, hne⟩
  have := hk2.size
  rw [World.size_alloc] at this
  omega

set_option maxHeartbeats 4000000 in
set_option maxRecDepth 100000 in
theorem valid_early (S B m : Nat) (t : Tr) (ab op : Int) (s : St) (v : Value) (w : World) (hv : Cn S w B v s.k s.n s.n s.f) (hk : s.k ≤ 8194) (ho0 : 0 ≤ op) (ho1 : op ≤ 1000) (hF : 8194 < s.k + 1 ∨ 250 < opN ab (t []).kind op ∨ (t []).kind < 1 ∨ 13 < (t []).kind ∨ bareB (t []) = false) :
    Calls Tryz.prog 42 #[.pointer (some ⟨B, 0, none⟩), ndV (t []), .int .i64 ab, .int .i64 op] w (Vr S B v (vd m t (opN ab (t []).kind op) s) w) := by
  have hvd : vd m t (opN ab (t []).kind op) s = none := by
    cases m with
    | zero => rfl
    | succ m =>
      show (if _ then _ else _) = _
      rw [if_pos]
      rcases hF with h | h | h | h | h
      · exact .inl h
      · exact .inr (.inl h)
      · refine .inr (.inr ?_)
        cases e : ndB (t []) with
        | false => rfl
        | true => have := (nd_bare e).2; omega
      · refine .inr (.inr ?_)
        cases e : ndB (t []) with
        | false => rfl
        | true => have := (nd_bare e).2; omega
      · refine .inr (.inr ?_)
        cases e : ndB (t []) with
        | false => rfl
        | true => rw [(nd_bare e).1] at h; cases h
  rw [hvd]
  obtain ⟨hv2, hc2, hk2, hz2, hg2⟩ := cn_beg (t []) hv
  obtain ⟨d, hd⟩ : ∃ d, t [] = d := ⟨_, rfl⟩
  rw [hd] at hF hv2 hc2 hk2 hz2 ⊢
  obtain ⟨W, hW⟩ : ∃ W, W = bgW w B d s.k := ⟨_, rfl⟩
  have HW : Hid (W = (w.alloc (ndX d)).setCell ⟨B, 0, none⟩ (.int .i64 ((s.k : Int) + 1))) := hW
  rw [← hW] at hv2 hc2 hk2 hz2
  obtain ⟨G, hG⟩ : ∃ G, G = w.heap.size := ⟨_, rfl⟩
  have HG : Hid (G = w.heap.size) := hG
  rw [← hG] at hc2 hz2 hg2
  have c0 := (hv.below ((Below.refl _ w).alloc (Nat.le_refl _) (ndX d))).c0
  have f0 := (hv.below ((Below.refl _ w).alloc (Nat.le_refl _) (ndX d))).fz 0
  have d0 := hv2.c0
  push_cast at d0
  obtain ⟨e0, e1, e2, e3, e4, e5, e6, e7, e8⟩ := hc2
  simp only [Nat.zero_add] at e0 e1 e2 e3 e4 e5 e6 e7 e8
  have HE : Hid (∀ o, Vr S B v none w (.returned (.bool false)) W ∧ Vr S B v none w (.returned (.bool false)) (W.alloc o)) := fun o => ⟨Vr.no hk2, Vr.no (hk2.alloc o)⟩
  have kB := rBrackets_any ab d.kind W
  have kBa := bare_any d W
  have hkI : (s.k : Int) ≤ 8194 := by omega
  have hFI : 8194 < (s.k : Int) + 1 ∨ 250 < opN ab d.kind op ∨ d.kind < 1 ∨ 13 < d.kind ∨ bareB d = false := by
    rcases hF with h | h
    · exact .inl (by omega)
    · exact .inr h
  clear hv hW hG hv2 hk2 hz2 hg2 hF hvd hd
  unfold opN at hFI
  cases hb : brB ab d.kind
  · rw [hb] at hFI kB
    simp only [Bool.false_eq_true, if_false] at hFI
    go_enter Tryz.func42, Tryz.ntmps42
    go_upto_region 2 with fail
    rw [← HW.out, ← HG.out]
    go_wp2_with fail
    go_fit kB
    rintro e w2 ⟨rfl, rfl⟩
    clear kB
    by_cases h1 : 8194 < (s.k : Int) + 1
    · go_wp2
      go_ret
      exact (HE.out (ndX d)).1
    by_cases h2 : 250 < op
    · go_wp2
      go_ret
      exact (HE.out (ndX d)).1
    by_cases h3 : d.kind < 1
    · go_wp2
      go_ret
      exact (HE.out (ndX d)).1
    by_cases h4 : 13 < d.kind
    · go_wp2
      go_ret
      exact (HE.out (ndX d)).1
    have h5 : bareB d = false := by
      rcases hFI with h | h | h | h | h
      · exact absurd h h1
      · exact absurd h h2
      · exact absurd h h3
      · exact absurd h h4
      · exact h
    rw [h5] at kBa
    go_wp2_with fail
    go_fit kBa
    rintro e w3 ⟨rfl, rfl⟩
    go_wp2
    go_ret
    exact (HE.out (ndX d)).2
  · rw [hb] at hFI kB
    simp only [if_true] at hFI
    go_enter Tryz.func42, Tryz.ntmps42
    go_upto_region 2 with fail
    rw [← HW.out, ← HG.out]
    go_wp2_with fail
    go_fit kB
    rintro e w2 ⟨rfl, rfl⟩
    clear kB
    by_cases h1 : 8194 < (s.k : Int) + 1
    · go_wp2
      go_ret
      exact (HE.out (ndX d)).1
    by_cases h2 : 250 < op + 1
    · go_wp2
      go_ret
      exact (HE.out (ndX d)).1
    by_cases h3 : d.kind < 1
    · go_wp2
      go_ret
      exact (HE.out (ndX d)).1
    by_cases h4 : 13 < d.kind
    · go_wp2
      go_ret
      exact (HE.out (ndX d)).1
    have h5 : bareB d = false := by
      rcases hFI with h | h | h | h | h
      · exact absurd h h1
      · exact absurd h h2
      · exact absurd h h3
      · exact absurd h h4
      · exact h
    rw [h5] at kBa
    go_wp2_with fail
    go_fit kBa
    rintro e w3 ⟨rfl, rfl⟩
    go_wp2
    go_ret
    exact (HE.out (ndX d)).2
end Go.Proofs.YtajaadagejhllaaGreatDoor
