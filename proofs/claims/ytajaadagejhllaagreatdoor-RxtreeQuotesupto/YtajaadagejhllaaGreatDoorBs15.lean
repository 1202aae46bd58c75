/- A bundle of texts. -/
import Derived.Test.YtajaadagejhllaaGreatDoorBs14
/- Show: steps of the writer; a class's text. -/
namespace Go.Proofs.YtajaadagejhllaaGreatDoor
open Go.RowKit Go.Lib

/-- From where a writer began. -/
structure Bs (S B : Nat) (v : Value) (w : World) : Prop where
  sz : S ≤ w.heap.size
  lo : ∀ k, Mv B v k → S ≤ k ∧ k < w.heap.size
theorem Bs.below {S B : Nat} {v : Value} {w w' : World} (h : Bs S B v w) (k : Kp (Mv B v) w w') : Below S w w' := k.below h.sz (fun i hi e => by have := (h.lo i e).1; omega)
/-- A writer under way: the text so far. -/
def Wq (S B : Nat) (v : Value) (w : World) (T : ByteArray) (w' : World) : Prop := ∃ v', Wt S w' B v' T ∧ Sub w v v' ∧ Kp (Mv B v) w w'
/-- What a piece of writing does. -/
def Wr (S B : Nat) (v : Value) (w : World) (T X : ByteArray) (e : Ending) (w' : World) : Prop :=
  (T.size + X.size ≤ 4096 ∧ e = .returned (.tuple #[]) ∧ Wq S B v w (T ++ X) w') ∨ (¬ T.size + X.size ≤ 4096 ∧ pan1 e ∧ Kp (Mv B v) w w')
theorem Wt.bs {S B : Nat} {v : Value} {w : World} {T : ByteArray} (h : Wt S w B v T) (hS : S ≤ w.heap.size) : Bs S B v w := ⟨hS, h.base⟩
theorem Wt.q {S B : Nat} {v : Value} {w : World} {T : ByteArray} (h : Wt S w B v T) : Wq S B v w T w := ⟨v, h, Sub.refl _ _, Kp.refl _ _⟩
namespace Wq
variable {S B : Nat} {v : Value} {w w1 w2 : World} {T X : ByteArray}
theorem kp (h : Wq S B v w T w1) : Kp (Mv B v) w w1 := by
  obtain ⟨_, _, _, k⟩ := h
  exact k
theorem below (h : Wq S B v w T w1) (b : Below w1.heap.size w1 w2) : Wq S B v w T w2 := by
  obtain ⟨v', a, s, k⟩ := h
  exact ⟨v', a.below b, s, k.trans (Kp.of b)⟩
theorem put (h : Wq S B v w T w1) (hb : Bs S B v w) (hT : T.size ≤ 4096) (X : ByteArray) : Calls Tryz.prog 52 #[.pointer (some ⟨B, 0, none⟩), .string X] w1 fun e w2 => Wr S B v w T X e w2 := by
  obtain ⟨v', a, s, k⟩ := h
  refine (put_any S B v' T X w1 a (Nat.le_trans hb.sz k.size) hT).mono fun e w2 h => ?_
  obtain ⟨⟨hy, hn⟩, hk⟩ := h
  by_cases hc : T.size + X.size ≤ 4096
  · obtain ⟨e1, v2, a2, s2⟩ := hy hc
    exact .inl ⟨hc, e1, v2, a2, s.trans s2 k.size, k.next s hk⟩
  · exact .inr ⟨hc, hn hc, k.next s hk⟩
/-- Told from further back. -/
theorem re {v' : Value} {W : World} (h : Wq S B v' W X w2) (s : Sub w v v') (k : Kp (Mv B v) w W) : Wq S B v w X w2 := by
  obtain ⟨v2, a2, s2, k2⟩ := h
  exact ⟨v2, a2, s.trans s2 k.size, k.next s k2⟩
end Wq
theorem pnc {T A X Y : ByteArray} (h : ¬ (T ++ A).size + Y.size ≤ 4096) (hle : A.size + Y.size ≤ X.size) : ¬ T.size + X.size ≤ 4096 := by
  rw [ByteArray.size_append] at h
  omega
theorem app_le {T A : ByteArray} (h : T.size + A.size ≤ 4096) : (T ++ A).size ≤ 4096 := by rw [ByteArray.size_append]; exact h
/-- The tables stay. -/
def TbA (S : Nat) (w : World) : Prop := ∀ w', Below S w w' → TbI w' ∧ TbZ w'
theorem TbA.below {S : Nat} {w w' : World} (h : TbA S w) (b : Below S w w') : TbA S w' := fun w2 b2 => h w2 (b.trans b2)

abbrev rgX (g : Rg) : Obj := .cells #[.int .i32 g.1, .int .i32 g.2] 58
theorem rgX_cells {w W : World} (g : Rg) (h : Below (w.alloc (rgX g)).heap.size (w.alloc (rgX g)) W) : W.cell? ⟨w.heap.size, 0, none⟩ = some (.int .i32 g.1) ∧ W.cell? ⟨w.heap.size, 1, none⟩ = some (.int .i32 g.2) := by
  have e : (w.alloc (rgX g)).heap[w.heap.size]? = some (rgX g) := heap_alloc_new w _
  constructor
  all_goals
    refine bcell2 h ?_
    unfold World.cell?
    rw [e]
    rfl
theorem clK_le (f : Nat → Rg) {n : Nat} : ∀ {i : Nat}, i ≤ n → (clK f i).size ≤ (clK f n).size := by
  induction n with
  | zero => intro i hi; obtain rfl : i = 0 := by omega
            exact Nat.le_refl _
  | succ n ih =>
    intro i hi
    by_cases h : i = n + 1
    · rw [h]; exact Nat.le_refl _
    · have := ih (i := i) (by omega)
      show _ ≤ (clK f n ++ raB (f n)).size
      rw [ByteArray.size_append]
      omega

set_option maxHeartbeats 4000000 in
set_option maxRecDepth 100000 in
theorem class_any (S B : Nat) (v : Value) (w : World) (T : ByteArray) (a : Option Addr) (f : Nat → Rg) (n c : Nat) (w1 : World) (hb : Bs S B v w) (hA : TbA S w) (hq : Wq S B v w T w1) (hT : T.size ≤ 4096) (hr : Rmb S w a f n)
    (hn : n ≤ 140737488351232) (hset : ∀ j, j < n → 0 ≤ (f j).1 ∧ (f j).1 ≤ 1114111 ∧ 0 ≤ (f j).2 ∧ (f j).2 ≤ 1114111) :
    Calls Tryz.prog 71 #[.pointer (some ⟨B, 0, none⟩), .slice a n c] w1 fun e w2 => Wr S B v w T (clB f n) e w2 := by
  by_cases h0 : n = 0
  · subst h0
    have k := hq.put hb hT (clB f 0)
    unfold clB at k ⊢
    rw [if_pos rfl] at k ⊢
    clear hr hset hq
    go_enter Tryz.func71, Tryz.ntmps71
    go_wp2_with fail
    go_fit k
    rintro e w2 h
    rcases h with ⟨h1, rfl, h2⟩ | ⟨h1, rfl, h2⟩
    · have H1 : Hid _ := h1
      have H2 : Hid _ := h2
      clear h1 h2
      go_wp2
      go_end0
      exact .inl ⟨H1.out, rfl, H2.out⟩
    · have H1 : Hid _ := h1
      have H2 : Hid _ := h2
      clear h1 h2
      go_wp2
      exact ⟨rfl, .inr ⟨H1.out, rfl, H2.out⟩⟩
  · have hn0 : ((n : Int) == 0) = false := by simp; omega
    have k := hq.put hb hT ⟨#[91]⟩
    have hsz : (clB f n).size = (clK f n).size + 1 := by
      unfold clB
      rw [if_neg h0, ByteArray.size_append]
      rfl
    have HE : Hid (clB f n = clK f n ++ ⟨#[93]⟩) := by unfold Hid clB; rw [if_neg h0]
    have HSZ : Hid ((clB f n).size = (clK f n).size + 1) := hsz
    have H1 : Hid (∀ i, i ≤ n → (clK f i).size ≤ (clK f n).size) := fun i hi => clK_le f hi
    have H91 : Hid (clK f 0 = ⟨#[91]⟩) := rfl
    have HB : Hid (Bs S B v w) := hb
    have HA : Hid (TbA S w) := hA
    have HR : Hid (Rmb S w a f n) := hr
    have HST : Hid (∀ j, j < n → 0 ≤ (f j).1 ∧ (f j).1 ≤ 1114111 ∧ 0 ≤ (f j).2 ∧ (f j).2 ≤ 1114111) := hset
    clear hr hset hq hb hA hsz
    go_enter Tryz.func71, Tryz.ntmps71
    go_wp2_with fail
    go_fit k
    rintro e w2 h
    rcases h with ⟨h91, rfl, q2⟩ | ⟨h91, rfl, k2⟩
    · have Q2 : Hid (Wq S B v w (T ++ clK f 0) w2) := q2
      have S2 : Hid (T.size + (clK f 0).size ≤ 4096) := h91
      clear q2 h91 k
      go_wp2_with fail
      go_loopw [15] (fun ivv w' => ∃ i : Nat, ivv = .int .i64 (i : Int) ∧ i ≤ n ∧ Hid (Wq S B v w (T ++ clK f i) w') ∧ Hid (T.size + (clK f i).size ≤ 4096)) (fun ivv _ => n - (RowKit.intOf ivv).toNat)
      case atStart => exact ⟨0, rfl, by omega, Q2, S2⟩
      case round =>
        obtain ⟨i, rfl, hi, hI, hZ⟩ := hrel
        by_cases hlt : i < n
        · have hii : (i : Int) < n := by omega
          obtain ⟨v', hwt, hsub, hkp⟩ := hI.out
          obtain ⟨g, o, rfl, hg, hlo, hhi⟩ := (HR.out.below (HB.out.below hkp)).at i hlt
          obtain ⟨l0, l1, u0, u1⟩ := HST.out i hlt
          obtain ⟨lo, hi2⟩ : ∃ lo, f i = lo := ⟨_, rfl⟩
          have HF : Hid (f i = lo) := hi2
          rw [hi2] at hlo hhi l0 l1 u0 u1
          obtain ⟨x, y⟩ := lo
          dsimp only at hlo hhi l0 l1 u0 u1
          clear hi2
          have hal : Below wr.heap.size wr (wr.alloc (rgX (x, y))) := (Below.refl _ wr).alloc (Nat.le_refl _) _
          have hcl := rgX_cells (w := wr) (x, y) (Below.refl _ _)
          have hwt2 := hwt.below hal
          have hR : ¬ Mv B v' wr.heap.size := fun e => by have := (hwt.base _ e).2; omega
          have HX : Hid (∀ W', Wq S B v' (wr.alloc (rgX (x, y))) W' = Wq S B v' (wr.alloc (rgX (x, y))) W') := fun _ => rfl
          have hRl : wr.heap.size < (wr.alloc (rgX (x, y))).heap.size := by simp
          obtain ⟨R, hRR⟩ : ∃ R, R = wr.heap.size := ⟨_, rfl⟩
          obtain ⟨W, hW⟩ : ∃ W, W = wr.alloc (rgX (x, y)) := ⟨_, rfl⟩
          have HW : Hid (W = wr.alloc (.cells #[.int .i32 x, .int .i32 y] 58)) := hW
          have HRR : Hid (R = wr.heap.size) := hRR
          rw [← hW] at hal hcl hwt2 hRl
          rw [← hRR] at hcl hR hRl
          have kp2 : Kp (Mv B v) w W := hkp.trans (Kp.of hal)
          have hbs : Bs S B v' W := hwt2.bs (Nat.le_trans HB.out.sz kp2.size)
          have tba : TbA S W := HA.out.below (HB.out.below kp2)
          have hTi : (T ++ clK f i).size ≤ 4096 := app_le hZ.out
          have kM := member_any x l0 l1 W (tba W (Below.refl _ _)).2
          have HKM : Hid (∀ w5, Kp (Mv B v') W w5 → Calls Tryz.prog 91 #[.int .i32 y] w5 fun e w' => e = .returned (.string (meB y)) ∧ Below w5.heap.size w5 w') := fun w5 k5 => member_any y u0 u1 w5 (tba w5 (hbs.below k5)).2
          have HQ : Hid (Wq S B v' W (T ++ clK f i) W) := hwt2.q
          have HBS : Hid (Bs S B v' W) := hbs
          have HCL : Hid (∀ w5, Kp (Mv B v') W w5 → w5.cell? ⟨R, 0, none⟩ = some (.int .i32 x) ∧ w5.cell? ⟨R, 1, none⟩ = some (.int .i32 y)) := fun w5 k5 => ⟨k5.cell hcl.1 hR, k5.cell hcl.2 hR⟩
          have HRE : Hid (∀ X w5, Wq S B v' W X w5 → Wq S B v w X w5) := fun X w5 h => h.re hsub kp2
          have HKR : Hid (∀ w5, Kp (Mv B v') W w5 → Kp (Mv B v) w w5) := fun w5 h => kp2.next hsub h
          have hc0 := hcl.1
          have HTi : Hid ((T ++ clK f i).size ≤ 4096) := hTi
          have HS1 : Hid (clK f (i + 1) = clK f i ++ raB (x, y)) := by rw [← HF.out]; rfl
          clear hwt hsub hkp hal hwt2 hR hRl kp2 hbs tba hTi HX hW hRR hcl l0 l1 u0 u1
          go_upto_region 6 with fail
          rw [← HW.out, ← HRR.out]
          go_wp2_with fail
          go_fit kM
          rintro e w3 ⟨rfl, b3⟩
          have q3 := HQ.out.below b3
          have k3 := q3.put HBS.out HTi.out (meB x)
          clear b3 kM hlo hhi hc0
          have Q3 : Hid _ := q3
          clear q3
          go_wp2_with fail
          go_fit k3
          rintro e w4 h
          rcases h with ⟨h1, rfl, h2⟩ | ⟨h1, rfl, h2⟩
          · have Z4 : Hid ((T ++ clK f i).size + (meB x).size ≤ 4096) := h1
            have Q4 : Hid (Wq S B v' W ((T ++ clK f i) ++ meB x) w4) := h2
            have c0 := (HCL.out w4 h2.kp).1
            have c1 := (HCL.out w4 h2.kp).2
            clear h1 h2 k3
            by_cases hxy : x = y
            · have e1 : (x != y) = false := by simpa using hxy
              have HXY : Hid (raB (x, y) = meB x) := by unfold Hid raB; rw [if_pos hxy]
              clear hxy
              go_wp2_with fail
              refine ⟨⟨i + 1, by go_num, by omega, ?_, ?_⟩, by simp [RowKit.intOf]; omega⟩
              · unfold Hid
                rw [HS1.out, HXY.out, ← ByteArray.append_assoc]
                exact HRE.out _ _ Q4.out
              · have := Z4.out
                unfold Hid
                rw [HS1.out, HXY.out]
                rw [ByteArray.size_append] at this ⊢
                omega
            · have e1 : (x != y) = true := by simpa using hxy
              have HXY : Hid (raB (x, y) = (meB x ++ ⟨#[45]⟩) ++ meB y) := by unfold Hid raB; rw [if_neg hxy]
              clear hxy
              have k4 := Q4.out.put HBS.out (app_le Z4.out) ⟨#[45]⟩
              go_wp2_with fail
              go_fit k4
              rintro e w5 h
              rcases h with ⟨h1, rfl, h2⟩ | ⟨h1, rfl, h2⟩
              · have Z5 : Hid (((T ++ clK f i) ++ meB x).size + ((⟨#[45]⟩ : ByteArray)).size ≤ 4096) := h1
                have Q5 : Hid (Wq S B v' W (((T ++ clK f i) ++ meB x) ++ (⟨#[45]⟩ : ByteArray)) w5) := h2
                have d1 := (HCL.out w5 h2.kp).2
                have k5 := HKM.out w5 h2.kp
                clear h1 h2 k4 c0 c1
                go_wp2_with fail
                go_fit k5
                rintro e w6 ⟨rfl, b6⟩
                have k6 := (Q5.out.below b6).put HBS.out (app_le Z5.out) (meB y)
                clear b6 k5 d1
                go_wp2_with fail
                go_fit k6
                rintro e w7 h
                rcases h with ⟨h1, rfl, h2⟩ | ⟨h1, rfl, h2⟩
                · have Z7 : Hid ((((T ++ clK f i) ++ meB x) ++ ⟨#[45]⟩).size + (meB y).size ≤ 4096) := h1
                  have Q7 : Hid (Wq S B v' W ((((T ++ clK f i) ++ meB x) ++ ⟨#[45]⟩) ++ meB y) w7) := h2
                  clear h1 h2 k6
                  go_wp2_with fail
                  refine ⟨⟨i + 1, by go_num, by omega, ?_, ?_⟩, by simp [RowKit.intOf]; omega⟩
                  · unfold Hid
                    have := HRE.out _ _ Q7.out
                    rw [HS1.out, HXY.out]
                    simpa only [ByteArray.append_assoc] using this
                  · have := Z7.out
                    unfold Hid
                    rw [HS1.out, HXY.out]
                    simp only [ByteArray.size_append] at this ⊢
                    omega
                · have Z7 : Hid (¬ (((T ++ clK f i) ++ meB x) ++ ⟨#[45]⟩).size + (meB y).size ≤ 4096) := h1
                  have Q7 : Hid (Kp (Mv B v') W w7) := h2
                  clear h1 h2 k6
                  go_wp2
                  refine ⟨rfl, .inr ⟨?_, rfl, HKR.out _ Q7.out⟩⟩
                  have := Z7.out
                  have h3 := H1.out (i + 1) (by omega)
                  rw [HS1.out, HXY.out] at h3
                  rw [HSZ.out]
                  simp only [ByteArray.size_append] at this h3
                  omega
              · have Z5 : Hid (¬ ((T ++ clK f i) ++ meB x).size + ((⟨#[45]⟩ : ByteArray)).size ≤ 4096) := h1
                have Q5 : Hid (Kp (Mv B v') W w5) := h2
                clear h1 h2 k4
                go_wp2
                refine ⟨rfl, .inr ⟨?_, rfl, HKR.out _ Q5.out⟩⟩
                have := Z5.out
                have h3 := H1.out (i + 1) (by omega)
                rw [HS1.out, HXY.out] at h3
                rw [HSZ.out]
                simp only [ByteArray.size_append] at this h3
                omega
          · have Z4 : Hid (¬ (T ++ clK f i).size + (meB x).size ≤ 4096) := h1
            have Q4 : Hid (Kp (Mv B v') W w4) := h2
            clear h1 h2 k3
            go_wp2
            refine ⟨rfl, .inr ⟨?_, rfl, HKR.out _ Q4.out⟩⟩
            have := Z4.out
            have h3 := H1.out (i + 1) (by omega)
            rw [HS1.out] at h3
            have h4 : (meB x).size ≤ (raB (x, y)).size := by
              unfold raB
              split
              · exact Nat.le_refl _
              · simp only [ByteArray.size_append]; omega
            rw [HSZ.out]
            simp only [ByteArray.size_append] at this h3
            omega
        · obtain rfl : i = n := by omega
          have k9 := hI.out.put HB.out (app_le hZ.out) ⟨#[93]⟩
          go_wp2_with fail
          go_fit k9
          rintro e w9 h
          rcases h with ⟨h1, rfl, h2⟩ | ⟨h1, rfl, h2⟩
          · have Z9 : Hid ((T ++ clK f i).size + ((⟨#[93]⟩ : ByteArray)).size ≤ 4096) := h1
            have Q9 : Hid (Wq S B v w ((T ++ clK f i) ++ (⟨#[93]⟩ : ByteArray)) w9) := h2
            clear h1 h2 k9
            go_wp2
            go_end0
            refine .inl ⟨?_, rfl, ?_⟩
            · have := Z9.out
              rw [HE.out]
              simp only [ByteArray.size_append] at this ⊢
              omega
            · rw [HE.out, ← ByteArray.append_assoc]
              exact Q9.out
          · have Z9 : Hid (¬ (T ++ clK f i).size + ((⟨#[93]⟩ : ByteArray)).size ≤ 4096) := h1
            have Q9 : Hid (Kp (Mv B v) w w9) := h2
            clear h1 h2 k9
            go_wp2
            refine ⟨rfl, .inr ⟨?_, rfl, Q9.out⟩⟩
            have := Z9.out
            rw [HE.out]
            simp only [ByteArray.size_append] at this ⊢
            omega
    · go_wp2
      refine ⟨rfl, .inr ⟨?_, rfl, k2⟩⟩
      have := H1.out 0 (by omega)
      rw [H91.out] at this
      rw [HSZ.out]
      have e1 : (⟨#[91]⟩ : ByteArray).size = 1 := rfl
      omega
end Go.Proofs.YtajaadagejhllaaGreatDoor
