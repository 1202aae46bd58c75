/- A bundle of texts. -/
import Derived.Test.YtbciclnffokjjaaBl42
import Derived.Test.YtbciclnffokjjaaBl30
/- RxprogListed: the walk. -/
namespace Go.Proofs.Ytbciclnffokjjaa
open Go.RowKit Go.Lib

/-- What is known of the words of a tree. -/
structure Wfct (t : Tr) (L : List ByteArray) : Prop where
  srt : Srt L
  len : L.length ≤ 64
  sz : ∀ x ∈ L, x.size ≤ 40000
  tk : ∀ x v, TkM t x v → (v = 2 ∧ x ∉ L) ∨ (v = 1 ∧ x ∈ L) ∨ (v = 0 ∧ x ∉ L)
theorem wfct {t : Tr} {L : List ByteArray} (h : wdsF t = some L) : (0 < sizF t ∧ sizF t ≤ 10000) ∧ Wfct t L := by
  obtain ⟨hz, h1, h2, h3⟩ := wds_mn h
  refine ⟨hz, h1, h2, fun x hx => ?_, fun x v hv => ?_⟩
  · obtain ⟨hk, hl, _⟩ := sizF_ok (t := t) (by omega) hz.2
    unfold wdsF at h
    rw [if_pos hz] at h
    split at h
    · cases h
    · have := wrd_size 8195 t (WF_ok hk) (by omega) L h x hx
      omega
  · rcases hv with ⟨e, hg⟩ | ⟨_, ⟨e, hm⟩ | ⟨e, hm⟩⟩
    · exact .inl ⟨e, fun hx => hg ((h3 x).2 hx)⟩
    · exact .inr (.inl ⟨e, (h3 x).1.2 hm⟩)
    · exact .inr (.inr ⟨e, fun hx => hm ((h3 x).1.1 hx)⟩)

/-- Is a text listed? -/
def lsB (s : ByteArray) (L : List ByteArray) : Bool := L.any fun x => decide (x = s)
theorem lsB_iff {s : ByteArray} {L : List ByteArray} : lsB s L = true ↔ s ∈ L := by
  unfold lsB
  rw [List.any_eq_true]
  constructor
  · rintro ⟨x, hx, h⟩; rw [← of_decide_eq_true h]; exact hx
  · intro h; exact ⟨s, h, decide_eq_true rfl⟩
theorem lsB_no {s : ByteArray} {L : List ByteArray} (h : s ∉ L) : lsB s L = false := by
  cases e : lsB s L with
  | false => rfl
  | true => exact absurd (lsB_iff.1 e) h
theorem lsB_next {s x : ByteArray} {L : List ByteArray} {i : Nat} (h : L[i]? = some x) : lsB s (L.take (i + 1)) = (lsB s (L.take i) || decide (x = s)) := by
  unfold lsB
  rw [List.take_add_one, h, List.any_append]
  simp
/-- The beginning of the law: the words of ab. -/
theorem awake_words (W w1 : World) (b1 : Below W.heap.size W w1) : Calls Try.prog 16 #[ndV (ctN w1.heap.size)] (w1.alloc (twX 97 98)) fun e w' => (∃ g c, e = .returned (.tuple #[.slice (some ⟨g, 0, none⟩) 1 c, .bool true]) ∧ w'.cell? ⟨g, 0, none⟩ = some (.string ⟨#[97, 98]⟩)) ∧ Below W.heap.size W w' := by
  have hal : Below w1.heap.size w1 (w1.alloc (twX 97 98)) := (Below.refl _ w1).alloc (Nat.le_refl _) _
  have hbb : Below W.heap.size W (w1.alloc (twX 97 98)) := b1.trans (hal.mono b1.size)
  have hc := twX_cells (w := w1) 97 98
  have := words_any (ctT w1.heap.size) (w1.alloc (twX 97 98)) (ct_at (by simp) hc.1 hc.2)
  rw [wds_ct] at this
  refine this.mono ?_
  rintro e w' ⟨⟨v, m, rfl, hst⟩, hb⟩
  rcases hst with ⟨h, _⟩ | ⟨L, hL, rfl, ho⟩
  · cases h
  · cases hL
    obtain ⟨g, c, rfl, hcell⟩ := row_cell ho (j := 0) rfl
    exact ⟨⟨g, c, rfl, hcell⟩, hbb.trans (hb.mono hbb.size)⟩

set_option maxHeartbeats 4000000 in
set_option maxRecDepth 100000 in
theorem listed_walk (t : Tr) (s : ByteArray) (w : World) (ht : Tat w.heap.size w t) (hs : s.size ≤ 140737488351232) :
    Calls Try.prog 5 #[ndV (t []), .string s] w fun e w' => e = .returned (.bool true) ∧ Below w.heap.size w w' := by
  obtain ⟨W, hW⟩ : ∃ W, W = w.alloc (ndX (t [])) := ⟨_, rfl⟩
  have HW : Hid (W = w.alloc (ndX (t []))) := hW
  have hWz : W.heap.size = w.heap.size + 1 := by rw [hW]; simp
  have hb0 : Below w.heap.size w W := by rw [hW]; exact (Below.refl _ w).alloc (Nat.le_refl _) _
  have hc0 : Cs W w.heap.size 0 (t []) := ndX_cells (w := w) (t []) (by rw [hW]; exact Below.refl _ _)
  have HK : Hid (∀ w2, Below W.heap.size W w2 → Cs w2 w.heap.size 0 (t []) ∧ Tat w2.heap.size w2 t ∧ Below w.heap.size w w2) := fun w2 b => ⟨hc0.below b (by omega), (((ht.below hb0).mono hb0.size).below b).mono b.size, hb0.trans (b.mono hb0.size)⟩
  have kL := lit_any 97 W
  have HL2 : Hid (∀ w1, Below W.heap.size W w1 → Calls Try.prog 11 #[.int .i32 98] w1 fun e w' => e = .returned (ndV (ltN 98)) ∧ Below W.heap.size W w') := fun w1 b1 => (lit_any 98 w1).mono fun e w' ⟨h1, h2⟩ => ⟨h1, b1.trans (h2.mono b1.size)⟩
  have HKP : Hid (∀ w1, Below W.heap.size W w1 → Calls Try.prog 16 #[ndV (ctN w1.heap.size)] (w1.alloc (twX 97 98)) fun e w' => (∃ g c, e = .returned (.tuple #[.slice (some ⟨g, 0, none⟩) 1 c, .bool true]) ∧ w'.cell? ⟨g, 0, none⟩ = some (.string ⟨#[97, 98]⟩)) ∧ Below W.heap.size W w') := fun w1 b1 => awake_words W w1 b1
  have HKB : Hid (∀ w2, Below W.heap.size W w2 → Cs w2 w.heap.size 0 (t []) ∧ Below w.heap.size w w2) := fun w2 b => ⟨(HK.out w2 b).1, (HK.out w2 b).2.2⟩
  clear hW hb0 hc0
  cases hR : wdsF t with
  | none =>
    have HKX : Hid (∀ w3, Below W.heap.size W w3 → (Calls Try.prog 16 #[ndV (t [])] w3 fun e w' => e = .returned (.tuple #[.slice none 0 0, .bool false]) ∧ Below W.heap.size W w')) := fun w3 b => by
      have := words_any t w3 (HK.out w3 b).2.1
      rw [hR] at this
      refine this.mono ?_
      rintro e w' ⟨⟨v, m, rfl, hst⟩, hb⟩
      rcases hst with ⟨_, rfl, rfl⟩ | ⟨L, hL, _⟩
      · exact ⟨rfl, b.trans (hb.mono b.size)⟩
      · cases hL
    clear hR ht HK
    generalize t [] = d at *
    go_enter Try.func5, Try.ntmps5
    go_upto_region 1 with fail
    rw [← HW.out]
    go_wp2_with fail
    go_fit kL
    rintro e w1 ⟨rfl, b1⟩
    have kL2 := HL2.out w1 b1
    clear kL HL2 b1
    go_wp2_with fail
    go_fit kL2
    rintro e w2 ⟨rfl, b2⟩
    have kP := HKP.out w2 b2
    clear kL2 HKP b2
    go_wp2_with fail
    go_fit kP
    rintro e w3 ⟨⟨g, c, rfl, hg⟩, b3⟩
    have kX := HKX.out w3 b3
    obtain ⟨hc3, _⟩ := HKB.out w3 b3
    obtain ⟨q0, q1, q2, q3, q4, q5, q6, q7, q8⟩ := hc3
    simp only [Nat.zero_add] at q0 q1 q2 q3 q4 q5 q6 q7 q8
    clear kP HKX b3
    go_wp2_with fail
    go_fit kX
    rintro e w5 ⟨rfl, b5⟩
    have HB5 : Hid (Below w.heap.size w w5) := (HKB.out w5 b5).2
    clear b5 kX HKB
    go_wp2
    go_ret
    exact ⟨rfl, HB5.out⟩
  | some L =>
    obtain ⟨⟨h0p, h1⟩, hF⟩ := wfct hR
    have h0 : ¬ sizF t = 0 := by omega
    obtain ⟨hok, hlen, _⟩ := sizF_ok h0 h1
    have hwf := WF_ok hok
    have hcl := cod_len 8195 t 0 hwf (by omega)
    have hpl : (prgC t).length = (cod 8195 t 0).length + 1 := by unfold prgC; simp
    obtain ⟨N, hN⟩ : ∃ N, (prgC t).length = N := ⟨_, rfl⟩
    have hN1 : N ≤ 10001 := by omega
    have HKX : Hid (∀ w3, Below W.heap.size W w3 → (Calls Try.prog 16 #[ndV (t [])] w3 fun e w' => (∃ a c, e = .returned (.tuple #[.slice a L.length c, .bool true]) ∧ w'.ownsRow w3.heap.size 9 1 (.slice a L.length c) L.length (sv L)) ∧ Below W.heap.size W w')) := fun w3 b => by
      have := words_any t w3 (HK.out w3 b).2.1
      rw [hR] at this
      refine this.mono ?_
      rintro e w' ⟨⟨v, m, rfl, hst⟩, hb⟩
      obtain ⟨a, n, c, rfl, hn, _⟩ := hst.form
      have hn := hn L rfl
      subst hn
      rcases hst with ⟨h, _, _⟩ | ⟨L', hL, rfl, ho⟩
      · cases h
      · cases hL
        exact ⟨⟨a, c, rfl, ho⟩, b.trans (hb.mono b.size)⟩
    have HKC : Hid (∀ w3, Below W.heap.size W w3 → (Calls Try.prog 10 #[ndV (t [])] w3 fun e w' => (∃ a cc gr na nn nc, e = .returned (.tuple #[prV a N cc 0 gr na nn nc, .int .i64 0]) ∧ Hid (∀ x : ByteArray, x.size ≤ 140737488351232 → ∀ w5, Below w'.heap.size w' w5 → Calls Try.prog 12 #[prV a N cc 0 gr na nn nc, .string x] w5 fun e w'' => (∃ v, e = .returned (.int .i64 v) ∧ ((v = 2 ∧ x ∉ L) ∨ (v = 1 ∧ x ∈ L) ∨ (v = 0 ∧ x ∉ L))) ∧ Below w5.heap.size w5 w'')) ∧ Below w3.heap.size w3 w')) := fun w3 b => (compile_yes t w3 (HK.out w3 b).2.1 h0 h1).mono fun e w' ⟨⟨iv, nv, s1, he, _, _, how, hnv⟩, hbw⟩ => by
      obtain ⟨a, cc, hiv, _⟩ := how.pg
      obtain ⟨na, nc, hnf⟩ := Sp.form hnv
      rw [hiv, hnf, hN] at he
      refine ⟨⟨a, cc, _, na, _, nc, he, fun x hx w5 b5 => ?_⟩, hbw⟩
      have htW := (HK.out w3 b).2.1
      have k5 : Kp (fun _ => False) w' w5 := Kp.of b5
      have := taken_tree (t := t) (S := w3.heap.size) (W := w3) (w := w5) (iv := iv) (nv := nv) (gr := (s1.n : Int)) x htW h0 h1 (how.below b5) (k5.row hnv (fun _ _ => id)) (by omega)
      rw [hiv, hnf, hN] at this
      exact this.mono fun e' w'' ⟨⟨v, he', hv⟩, hb''⟩ => ⟨⟨v, he', hF.tk x v hv⟩, hb''⟩
    have hNI : (N : Int) ≤ 10001 := by omega
    have hsI : (s.size : Int) ≤ 140737488351232 := by omega
    have HF : Hid (Srt L ∧ ∀ x ∈ L, x.size ≤ 40000) := ⟨hF.srt, hF.sz⟩
    have hLI : (L.length : Int) ≤ 64 := by have := hF.len; omega
    clear ht HK h0 h1 hok hlen hwf h0p hcl hpl hN hF hR
    generalize t [] = d at *
    go_enter Try.func5, Try.ntmps5
    go_upto_region 1 with fail
    rw [← HW.out]
    go_wp2_with fail
    go_fit kL
    rintro e w1 ⟨rfl, b1⟩
    have kL2 := HL2.out w1 b1
    clear kL HL2 b1
    go_wp2_with fail
    go_fit kL2
    rintro e w2 ⟨rfl, b2⟩
    have kP := HKP.out w2 b2
    clear kL2 HKP b2
    go_wp2_with fail
    go_fit kP
    rintro e w3 ⟨⟨g, c, rfl, hg⟩, b3⟩
    have kX := HKX.out w3 b3
    obtain ⟨hc3, _⟩ := HKB.out w3 b3
    obtain ⟨q0, q1, q2, q3, q4, q5, q6, q7, q8⟩ := hc3
    simp only [Nat.zero_add] at q0 q1 q2 q3 q4 q5 q6 q7 q8
    clear kP HKX b3
    go_wp2_with fail
    go_fit kX
    rintro e w5 ⟨⟨la, lc, rfl, hrow⟩, b5⟩
    have kC := HKC.out w5 b5
    obtain ⟨hc5, _⟩ := HKB.out w5 b5
    obtain ⟨s0, s1, s2, s3, s4, s5, s6, s7, s8⟩ := hc5
    simp only [Nat.zero_add] at s0 s1 s2 s3 s4 s5 s6 s7 s8
    have HB5 : Hid (Below W.heap.size W w5) := b5
    have HROW : Hid (w5.ownsRow w3.heap.size 9 1 (.slice la L.length lc) L.length (sv L)) := hrow
    clear kX HKC b5 hrow
    go_wp2_with fail
    go_fit kC
    rintro e w6 ⟨⟨a, cc, gr, na, nn, nc, rfl, HTK⟩, b6⟩
    obtain ⟨V, hV⟩ : ∃ V, V = w6.alloc (prX a N cc 0 gr na nn nc) := ⟨_, rfl⟩
    have HV : Hid (V = w6.alloc (prX a N cc 0 gr na nn nc)) := hV
    have b6V : Below w6.heap.size w6 V := by rw [hV]; exact (Below.refl _ w6).alloc (Nat.le_refl _) _
    have b5V : Below w5.heap.size w5 V := b6.trans (b6V.mono b6.size)
    have bV : Below W.heap.size W V := HB5.out.trans (b5V.mono HB5.out.size)
    have HKV : Hid (∀ w7, Below V.heap.size V w7 → (w7.cell? ⟨w6.heap.size, 0, none⟩ = some (.slice a N cc) ∧ w7.cell? ⟨w6.heap.size, 1, none⟩ = some (.int .i64 0) ∧ w7.cell? ⟨w6.heap.size, 2, none⟩ = some (.int .i64 gr) ∧ w7.cell? ⟨w6.heap.size, 3, none⟩ = some (.slice na nn nc)) ∧ (∀ x : ByteArray, x.size ≤ 140737488351232 → Calls Try.prog 12 #[prV a N cc 0 gr na nn nc, .string x] w7 fun e w'' => (∃ v, e = .returned (.int .i64 v) ∧ ((v = 2 ∧ x ∉ L) ∨ (v = 1 ∧ x ∈ L) ∨ (v = 0 ∧ x ∉ L))) ∧ Below V.heap.size V w'') ∧ w7.ownsRow w3.heap.size 9 1 (.slice la L.length lc) L.length (sv L) ∧ Below w.heap.size w w7) := fun w7 b7 => ⟨prX_cells a N cc 0 gr na nn nc (by rw [← hV]; exact b7), fun x hx => (HTK.out x hx w7 (b6V.trans (b7.mono b6V.size))).mono fun e w'' ⟨h1, h2⟩ => ⟨h1, b7.trans (h2.mono b7.size)⟩, (Kp.of (M := fun _ => False) (b5V.trans (b7.mono b5V.size))).row HROW.out (fun _ _ => id), (HKB.out w7 (bV.trans (b7.mono bV.size))).2⟩
    obtain ⟨⟨x0, x1, x2, x3⟩, _, _, _⟩ := HKV.out V (Below.refl _ _)
    clear hV bV b5V b6V kC HKB HTK HROW HB5 b6 q0 q1 q2 q3 q4 q5 q6 q7 q8 s0 s1 s2 s3 s4 s5 s6 s7 s8
    go_upto_region 8 with fail
    rw [← HV.out]
    go_wp2_with fail
    go_loopw [9, 10] (fun lv ivv w' => ∃ i : Nat, ivv = .int .i64 (i : Int) ∧ i ≤ L.length ∧ lv = .bool (lsB s (L.take i)) ∧ Hid (Below V.heap.size V w')) (fun _ ivv _ => L.length - (RowKit.intOf ivv).toNat)
    case atStart => exact ⟨0, rfl, Nat.zero_le _, rfl, Below.refl _ _⟩
    case round =>
      obtain ⟨i, rfl, hi, rfl, hbw⟩ := hrel
      obtain ⟨⟨y0, y1, y2, y3⟩, _, _, hbf⟩ := HKV.out wr hbw.out
      by_cases hlt : i < L.length
      · have hii : (i : Int) < L.length := by omega
        obtain ⟨x, hx⟩ : ∃ x, L[i]? = some x := ⟨_, List.getElem?_eq_getElem hlt⟩
        have or1 := (HKV.out wr hbw.out).2.2.1
        obtain ⟨g1, c1, hv1, hcx⟩ := row_cell or1 hx
        cases hv1
        have HNX : Hid (lsB s (L.take (i + 1)) = (lsB s (L.take i) || decide (x = s))) := lsB_next hx
        have hmem : x ∈ L := List.mem_of_getElem? hx
        have hxz : (x.size : Int) ≤ 40000 := by have := HF.out.2 x hmem; omega
        have hmul : 0 ≤ (x.size : Int) * N ∧ (x.size : Int) * N ≤ 40000 * 10001 := ⟨Int.mul_nonneg (by omega) (by omega), Int.mul_le_mul hxz hNI (by omega) (by omega)⟩
        obtain ⟨hm0, hm1⟩ := hmul
        have hwx : IntKind.i64.wrap ((x.size : Int) * N) = (x.size : Int) * N := by
          rw [IntKind.wrap_i64]
          generalize (x.size : Int) * N = P at *
          omega
        have HKT : Hid (∀ w7, Below V.heap.size V w7 → Calls Try.prog 12 #[prV a N cc 0 gr na nn nc, .string x] w7 fun e w'' => e = .returned (.int .i64 1) ∧ Below V.heap.size V w'') := fun w7 b7 => ((HKV.out w7 b7).2.1 x (by omega)).mono fun e w'' ⟨⟨v, he, hv⟩, hb⟩ => by
          rcases hv with ⟨_, hn⟩ | ⟨rfl, _⟩ | ⟨_, hn⟩
          · exact absurd hmem hn
          · exact ⟨he, hb⟩
          · exact absurd hmem hn
        have HNX2 : Hid (lsB s (L.take (i + 1)) = (lsB s (L.take i) || (x.toList == s.toList))) := by unfold Hid; rw [HNX.out, toList_eq]
        clear HNX
        generalize lsB s (L.take i) = lb at *
        by_cases hi0 : i = 0
        · subst hi0
          rw [show ((0 : Nat) : Int) = 0 from rfl] at hii ⊢
          go_wp2_with fail
          go_big_quiet (fail)
          obtain ⟨wq, hwq⟩ : ∃ wq, wr.drewN nq = wq := ⟨_, rfl⟩
          have bq : Below V.heap.size V wq := by rw [← hwq]; exact Below.drewN hbw.out nq
          rw [hwq]
          have HKS : Hid (∀ w', Below V.heap.size V w' → w'.cell? ⟨g1, 0, none⟩ = some (.string x) ∧ (w'.cell? ⟨w6.heap.size, 0, none⟩ = some (.slice a N cc) ∧ w'.cell? ⟨w6.heap.size, 1, none⟩ = some (.int .i64 0) ∧ w'.cell? ⟨w6.heap.size, 2, none⟩ = some (.int .i64 gr) ∧ w'.cell? ⟨w6.heap.size, 3, none⟩ = some (.slice na nn nc)) ∧ Below V.heap.size V w') := fun w7 b7 => by
            obtain ⟨e1, _, or3, _⟩ := HKV.out w7 b7
            obtain ⟨g4, c4, hv4, hc4⟩ := row_cell or3 hx
            cases hv4
            exact ⟨hc4, e1, b7⟩
          obtain ⟨hcq, ⟨p0, p1, p2, p3⟩, _⟩ := HKS.out wq bq
          clear hwq y0 y1 y2 y3 hbw hcx or1 x0 x1 x2 x3 HKV
          cases lb
          · rw [Bool.false_or] at HNX2
            by_cases hp : (x.size : Int) * N < 131072
            · have dp : decide ((x.size : Int) * N < 131072) = true := decide_eq_true hp
              go_wp2_with fail
              go_region_held3 (fun w' => w'.cell? ⟨g1, 0, none⟩ = some (.string x) ∧ (w'.cell? ⟨w6.heap.size, 0, none⟩ = some (.slice a N cc) ∧ w'.cell? ⟨w6.heap.size, 1, none⟩ = some (.int .i64 0) ∧ w'.cell? ⟨w6.heap.size, 2, none⟩ = some (.int .i64 gr) ∧ w'.cell? ⟨w6.heap.size, 3, none⟩ = some (.slice na nn nc)) ∧ Below V.heap.size V w') (first | exact HKS.out _ (by assumption) | exact HKS.out _ (Below.drew (by assumption))) (first | (go_at_call 12; go_fit (HKT.out _ (by assumption)); rintro e w9 ⟨rfl, b9⟩) | (go_at_call 12; go_fit (HKT.out _ (Below.drew (by assumption))); rintro e w9 ⟨rfl, b9⟩))
              go_wp2
              exact ⟨⟨0 + 1, by go_num, by omega, by rw [HNX2.out], b9⟩, by simp [RowKit.intOf]; omega⟩
            · have dp : decide ((x.size : Int) * N < 131072) = false := decide_eq_false hp
              go_wp2_with fail
              go_big_quiet (fail)
              go_wp2
              exact ⟨⟨0 + 1, by go_num, by omega, by rw [HNX2.out], Below.drewN bq _⟩, by simp [RowKit.intOf]; omega⟩
          · rw [Bool.true_or] at HNX2
            by_cases hp : (x.size : Int) * N < 131072
            · have dp : decide ((x.size : Int) * N < 131072) = true := decide_eq_true hp
              go_wp2_with fail
              go_region_held3 (fun w' => w'.cell? ⟨g1, 0, none⟩ = some (.string x) ∧ (w'.cell? ⟨w6.heap.size, 0, none⟩ = some (.slice a N cc) ∧ w'.cell? ⟨w6.heap.size, 1, none⟩ = some (.int .i64 0) ∧ w'.cell? ⟨w6.heap.size, 2, none⟩ = some (.int .i64 gr) ∧ w'.cell? ⟨w6.heap.size, 3, none⟩ = some (.slice na nn nc)) ∧ Below V.heap.size V w') (first | exact HKS.out _ (by assumption) | exact HKS.out _ (Below.drew (by assumption))) (first | (go_at_call 12; go_fit (HKT.out _ (by assumption)); rintro e w9 ⟨rfl, b9⟩) | (go_at_call 12; go_fit (HKT.out _ (Below.drew (by assumption))); rintro e w9 ⟨rfl, b9⟩))
              go_wp2
              exact ⟨⟨0 + 1, by go_num, by omega, by rw [HNX2.out], b9⟩, by simp [RowKit.intOf]; omega⟩
            · have dp : decide ((x.size : Int) * N < 131072) = false := decide_eq_false hp
              go_wp2_with fail
              go_big_quiet (fail)
              go_wp2
              exact ⟨⟨0 + 1, by go_num, by omega, by rw [HNX2.out], Below.drewN bq _⟩, by simp [RowKit.intOf]; omega⟩
        · obtain ⟨j, rfl⟩ : ∃ j, i = j + 1 := ⟨i - 1, by omega⟩
          obtain ⟨y, hy⟩ : ∃ y, L[j]? = some y := ⟨_, List.getElem?_eq_getElem (by omega)⟩
          obtain ⟨g2, c2, hv2, hcy⟩ := row_cell or1 hy
          cases hv2
          have hyx : tl y x = true := by
            have h2 := (List.pairwise_iff_getElem.1 HF.out.1) j (j + 1) (by omega) hlt (by omega)
            rw [List.getElem?_eq_getElem hlt] at hx
            rw [List.getElem?_eq_getElem (by omega)] at hy
            cases hx
            cases hy
            exact h2
          have hl1 : Op.bytesLess x.toList y.toList = false := by
            cases e : Op.bytesLess x.toList y.toList with
            | false => rfl
            | true =>
              have h3 := tl_trans hyx (show tl x y = true from e)
              rw [tl_irr] at h3
              cases h3
          have hl2 : (x.toList == y.toList) = false := by
            rw [toList_eq]
            refine decide_eq_false (fun e => ?_)
            rw [e, tl_irr] at hyx
            cases hyx
          have hgj : 0 < ((j + 1 : Nat) : Int) := by omega
          have hgs : ((j + 1 : Nat) : Int) - 1 = (j : Int) := by omega
          have hjj : (j : Int) < L.length := by omega
          clear hyx
          go_wp2_with fail
          go_big_quiet (fail)
          obtain ⟨i, hij⟩ : ∃ i : Nat, j + 1 = i := ⟨_, rfl⟩
          have hijI : (j : Int) + 1 = (i : Int) := by omega
          have HIJ : Hid (j + 1 = i) := hij
          rw [hij] at hx HNX2 hlt hi hcx
          try rw [hij]
          try rw [hijI]
          have hi0I : (0 : Int) ≤ (i : Int) := by omega
          have hiiI : (i : Int) < L.length := by omega
          clear hii hgj hgs hjj hi0
          obtain ⟨wq, hwq⟩ : ∃ wq, wr.drewN nq = wq := ⟨_, rfl⟩
          have bq : Below V.heap.size V wq := by rw [← hwq]; exact Below.drewN hbw.out nq
          rw [hwq]
          have HKS : Hid (∀ w', Below V.heap.size V w' → w'.cell? ⟨g1, i, none⟩ = some (.string x) ∧ (w'.cell? ⟨w6.heap.size, 0, none⟩ = some (.slice a N cc) ∧ w'.cell? ⟨w6.heap.size, 1, none⟩ = some (.int .i64 0) ∧ w'.cell? ⟨w6.heap.size, 2, none⟩ = some (.int .i64 gr) ∧ w'.cell? ⟨w6.heap.size, 3, none⟩ = some (.slice na nn nc)) ∧ Below V.heap.size V w') := fun w7 b7 => by
            obtain ⟨e1, _, or3, _⟩ := HKV.out w7 b7
            obtain ⟨g4, c4, hv4, hc4⟩ := row_cell or3 hx
            cases hv4
            exact ⟨hc4, e1, b7⟩
          obtain ⟨hcq, ⟨p0, p1, p2, p3⟩, _⟩ := HKS.out wq bq
          clear hwq y0 y1 y2 y3 hbw hcx or1 x0 x1 x2 x3 HKV hcy hl1 hl2 hy hij hijI
          cases lb
          · rw [Bool.false_or] at HNX2
            by_cases hp : (x.size : Int) * N < 131072
            · have dp : decide ((x.size : Int) * N < 131072) = true := decide_eq_true hp
              go_wp2_with fail
              go_region_held3 (fun w' => w'.cell? ⟨g1, i, none⟩ = some (.string x) ∧ (w'.cell? ⟨w6.heap.size, 0, none⟩ = some (.slice a N cc) ∧ w'.cell? ⟨w6.heap.size, 1, none⟩ = some (.int .i64 0) ∧ w'.cell? ⟨w6.heap.size, 2, none⟩ = some (.int .i64 gr) ∧ w'.cell? ⟨w6.heap.size, 3, none⟩ = some (.slice na nn nc)) ∧ Below V.heap.size V w') (first | exact HKS.out _ (by assumption) | exact HKS.out _ (Below.drew (by assumption))) (first | (go_at_call 12; go_fit (HKT.out _ (by assumption)); rintro e w9 ⟨rfl, b9⟩) | (go_at_call 12; go_fit (HKT.out _ (Below.drew (by assumption))); rintro e w9 ⟨rfl, b9⟩))
              go_wp2
              exact ⟨⟨i + 1, by go_num, by omega, by rw [HNX2.out], b9⟩, by have := HIJ.out; simp [RowKit.intOf]; omega⟩
            · have dp : decide ((x.size : Int) * N < 131072) = false := decide_eq_false hp
              go_wp2_with fail
              go_big_quiet (fail)
              go_wp2
              exact ⟨⟨i + 1, by go_num, by omega, by rw [HNX2.out], Below.drewN bq _⟩, by have := HIJ.out; simp [RowKit.intOf]; omega⟩
          · rw [Bool.true_or] at HNX2
            by_cases hp : (x.size : Int) * N < 131072
            · have dp : decide ((x.size : Int) * N < 131072) = true := decide_eq_true hp
              go_wp2_with fail
              go_region_held3 (fun w' => w'.cell? ⟨g1, i, none⟩ = some (.string x) ∧ (w'.cell? ⟨w6.heap.size, 0, none⟩ = some (.slice a N cc) ∧ w'.cell? ⟨w6.heap.size, 1, none⟩ = some (.int .i64 0) ∧ w'.cell? ⟨w6.heap.size, 2, none⟩ = some (.int .i64 gr) ∧ w'.cell? ⟨w6.heap.size, 3, none⟩ = some (.slice na nn nc)) ∧ Below V.heap.size V w') (first | exact HKS.out _ (by assumption) | exact HKS.out _ (Below.drew (by assumption))) (first | (go_at_call 12; go_fit (HKT.out _ (by assumption)); rintro e w9 ⟨rfl, b9⟩) | (go_at_call 12; go_fit (HKT.out _ (Below.drew (by assumption))); rintro e w9 ⟨rfl, b9⟩))
              go_wp2
              exact ⟨⟨i + 1, by go_num, by omega, by rw [HNX2.out], b9⟩, by have := HIJ.out; simp [RowKit.intOf]; omega⟩
            · have dp : decide ((x.size : Int) * N < 131072) = false := decide_eq_false hp
              go_wp2_with fail
              go_big_quiet (fail)
              go_wp2
              exact ⟨⟨i + 1, by go_num, by omega, by rw [HNX2.out], Below.drewN bq _⟩, by have := HIJ.out; simp [RowKit.intOf]; omega⟩
      · have hii : ¬ (i : Int) < L.length := by omega
        have hiL : i = L.length := by omega
        subst hiL
        rw [List.take_length]
        have HBF : Hid _ := hbf
        have hmul : 0 ≤ (s.size : Int) * N ∧ (s.size : Int) * N ≤ 140737488351232 * 10001 := ⟨Int.mul_nonneg (by omega) (by omega), Int.mul_le_mul hsI hNI (by omega) (by omega)⟩
        obtain ⟨hm0, hm1⟩ := hmul
        have HM : Hid ((s.size : Int) * N ≤ 140737488351232 * 10001) := hm1
        have kT := (HKV.out wr hbw.out).2.1 s hs
        have HKF : Hid (∀ w9, Below V.heap.size V w9 → Below w.heap.size w w9) := fun w9 b => (HKV.out w9 b).2.2.2
        clear hbf HKV hlt hi hbw x0 x1 x2 x3
        by_cases hbig : 1048576 < (s.size : Int) * N
        · clear kT
          go_wp2
          go_ret
          exact ⟨rfl, HBF.out⟩
        · go_wp2_with fail
          go_fit kT
          rintro e w9 ⟨⟨v, rfl, hv⟩, b9⟩
          have HB9 : Hid (Below w.heap.size w w9) := HKF.out w9 b9
          clear b9 kT HKF
          rcases hv with ⟨rfl, hn⟩ | ⟨rfl, hn⟩ | ⟨rfl, hn⟩
          · rw [lsB_no hn]
            clear hn
            go_wp2
            go_ret
            exact ⟨rfl, HB9.out⟩
          · rw [lsB_iff.2 hn]
            clear hn
            go_wp2
            go_ret
            exact ⟨rfl, HB9.out⟩
          · rw [lsB_no hn]
            clear hn
            go_wp2
            go_ret
            exact ⟨rfl, HB9.out⟩
end Go.Proofs.Ytbciclnffokjjaa
