/- A bundle of texts. -/
import Derived.Test.YtbciclnffokjjaaBk37
import Derived.Test.YtbciclnffokjjaaBk40
/- utf.Text of one rune. -/
namespace Go.Proofs.Ytbciclnffokjjaa
open Go.RowKit Go.Lib

theorem validRune_eq (x : Int) : Lib.validRune x = Utf8.valid x := by
  unfold Lib.validRune Utf8.valid
  rw [Bool.eq_iff_iff]
  simp
  omega
theorem conv_rune (w : World) (g c : Nat) (x : Int) (h : w.cell? ⟨g, 0, none⟩ = some (.int .i32 x)) :
    (convert 65 9 (.slice (some ⟨g, 0, none⟩) 1 c)).run Try.prog w = .ok (.string (Utf8.encode x)) w := by
  have := run_convert_runes (P := Try.prog) w 65 9 21 ⟨g, 0, none⟩ 1 c [x] (Nat.le_refl _) Try.underlying65 Try.underlying21 Try.underlying9 (fun j hj => by
    have : j = 0 := by simpa using hj
    subst this
    rw [Go.WideShapes.add_plain]
    exact h)
  rw [show ([x].take 1) = [x] from rfl] at this
  rw [this]
  have e : runesBytes [x] = Utf8.encode x := by
    rw [rb_cons, rb_nil]
    simp
  rw [e]
set_option maxHeartbeats 1000000 in
theorem text_one (g : Nat) (x : Int) (w : World) (h : w.cell? ⟨g, 0, none⟩ = some (.int .i32 x)) :
    Calls Try.prog 81 #[.slice (some ⟨g, 0, none⟩) 1 1] w fun e w' => e = .returned (.tuple #[.string (if Utf8.valid x = true then Utf8.encode x else ⟨#[]⟩), .int .i64 (if Utf8.valid x = true then 0 else 12)]) ∧ w' = w := by
  have hcv := conv_rune w g 1 x h
  have k1 := Try.utf8_ValidRune x w
  rw [validRune_eq] at k1
  generalize Utf8.encode x = S at *
  cases hv : Utf8.valid x
  · rw [hv] at k1
    simp only [Bool.false_eq_true, if_false]
    clear hv hcv
    go_enter Try.func81, Try.ntmps81
    go_wp2
    go_loop [8] (fun t => t = .int .i64 0) (fun t => 0)
    case atStart => exact rfl
    case round =>
      subst hrel
      have d0 : w.cell? ⟨g, 0, none⟩ = some (.int .i32 x) := h
      go_wp2_with (go_at_call 95; go_fit k1; rintro e w' ⟨rfl, rfl⟩)
      go_ret2
      exact ⟨rfl, rfl⟩
  · rw [hv] at k1
    simp only [if_true]
    clear hv
    go_enter Try.func81, Try.ntmps81
    go_wp2
    go_loop [8] (fun t => ∃ j : Nat, t = .int .i64 j ∧ j ≤ 1) (fun t => 1 - (RowKit.intOf t).toNat)
    case atStart => exact ⟨0, rfl, by omega⟩
    case round =>
      obtain ⟨j, rfl, hj⟩ := hrel
      by_cases hlt : j < 1
      · obtain rfl : j = 0 := by omega
        have d0 : w.cell? ⟨g, 0, none⟩ = some (.int .i32 x) := h
        go_wp2_with (go_at_call 95; go_fit k1; rintro e w' ⟨rfl, rfl⟩)
        go_round
        case rel => exact ⟨1, by go_num, by omega⟩
        case measure => simp [RowKit.intOf]
      · obtain rfl : j = 1 := by omega
        go_wp2
        go_ret2
        exact ⟨rfl, rfl⟩
/-- The texts of so many runes from one on, put to a stock. -/
def rngS (r : Sto) (lo : Int) : Nat → Sto
  | 0 => r
  | k + 1 => if Utf8.valid (lo + k) = true then addS (rngS r lo k) (Utf8.encode (lo + k)) else rngS r lo k
theorem rngS_ok {r : Sto} (h : r.ok) (lo : Int) : ∀ k, (rngS r lo k).ok
  | 0 => h
  | k + 1 => by
    unfold rngS
    split
    · exact addS_ok (rngS_ok h lo k) _
    · exact rngS_ok h lo k
theorem rngS_none {r : Sto} {lo : Int} {k : Nat} (h : rngS r lo k = none) : ∀ d, rngS r lo (k + d) = none
  | 0 => h
  | d + 1 => by
    have ih := rngS_none h d
    show rngS r lo (k + d + 1) = none
    unfold rngS
    rw [ih]
    split <;> rfl
set_option maxHeartbeats 2000000 in
set_option maxRecDepth 100000 in
theorem addRunes_any (S B : Nat) (v : Value) (r : Sto) (lo hi : Int) (w : World) (h : SkV S w B v r) (hr : r.ok) (hS : S ≤ w.heap.size) (h0 : 0 ≤ lo) (h1 : lo ≤ hi) (h2 : hi ≤ 1114111) :
    Calls Try.prog 60 #[.pointer (some ⟨B, 0, none⟩), .agg #[.int .i32 lo, .int .i32 hi]] w (AddP S B v (rngS r lo (hi - lo + 1).toNat) w) := by
  have hBl := h.lt
  obtain ⟨W, hW⟩ : ∃ W, W = w.alloc (.cells #[.int .i32 lo, .int .i32 hi] 50) := ⟨_, rfl⟩
  have HW : Hid (W = w.alloc (.cells #[.int .i32 lo, .int .i32 hi] 50)) := hW
  have kW : ∀ M, Kp M w W := fun M => by rw [hW]; exact (Kp.refl M w).alloc _
  have hWz : w.heap.size < W.heap.size := by rw [hW]; simp
  have hbox : W.heap[w.heap.size]? = some (.cells #[.int .i32 lo, .int .i32 hi] 50) := by rw [hW]; exact heap_alloc_new w _
  have hW1 : SkV S W B v r := h.kp (kW (fun _ => False)) id (fun _ _ => id)
  have hvl : ∀ i, v.ownBlock = some i → i < w.heap.size := fun i e => by
    rcases h with ⟨_, rfl, _⟩ | ⟨L, _, _, ho⟩
    · cases e
    · exact (ho.lt i e).2
  have HBX : Hid (∀ w2, Kp (Mv B v) W w2 → w2.cell? ⟨w.heap.size, 0, none⟩ = some (.int .i32 lo) ∧ w2.cell? ⟨w.heap.size, 1, none⟩ = some (.int .i32 hi)) := fun w2 k => by
    have hb := (k.block w.heap.size hWz (fun e => by
      rcases e with e | e
      · omega
      · have := hvl _ e; omega)).trans hbox
    constructor
    · unfold World.cell?; rw [hb]; rfl
    · unfold World.cell?; rw [hb]; rfl
  obtain ⟨b0, b1⟩ := HBX.out W (Kp.refl _ _)
  have HS : Hid (S ≤ w.heap.size ∧ SkV S W B v r ∧ r.ok) := ⟨hS, hW1, hr⟩
  have HKW : Hid (∀ M, Kp M w W) := kW
  obtain ⟨n, hn⟩ : ∃ n : Nat, (n : Int) = hi - lo := ⟨(hi - lo).toNat, by omega⟩
  have HN : Hid ((hi - lo + 1).toNat = n + 1) := by unfold Hid; omega
  have hhi : hi = lo + n := by omega
  subst hhi
  clear h hW hbox hW1 kW hr hvl hn
  go_enter Try.func60, Try.ntmps60
  go_upto_region 1 with fail
  rw [← HW.out]
  go_wp2_with fail
  go_loopw [4] (fun ivv w' => ∃ k : Nat, ivv = .int .i32 (lo + k) ∧ k ≤ n + 1 ∧ Hid (∃ v', SkV S w' B v' (rngS r lo k) ∧ Sub W v v' ∧ Kp (Mv B v) W w')) (fun ivv _ => (lo + n + 1 - RowKit.intOf ivv).toNat)
  case atStart => exact ⟨0, by simp, by omega, v, HS.out.2.1, Sub.refl _ _, Kp.refl _ _⟩
  case round =>
    obtain ⟨k, rfl, hk, hinv⟩ := hrel
    obtain ⟨v', hsk, hsub, hkp⟩ := hinv.out
    obtain ⟨b0, b1⟩ := HBX.out wr hkp
    by_cases hlt : k < n + 1
    · have hle : lo + (k : Int) ≤ lo + n := by omega
      obtain ⟨m, hbm, hst⟩ := StV.of hsk
      obtain ⟨c0, c1, _, _⟩ := kx_cells hbm
      cases m with
      | true =>
        have HP : Hid (AddP S B v (rngS r lo (lo + n - lo + 1).toNat) w (.returned (.tuple #[])) wr) := by
          have hnone : rngS r lo k = none := by
            rcases hst with ⟨h, _, _⟩ | ⟨_, _, h, _⟩
            · exact h
            · cases h
          have := rngS_none hnone (n + 1 - k)
          rw [show k + (n + 1 - k) = n + 1 by omega] at this
          rw [hnone] at hsk
          exact ⟨rfl, ⟨v', by rw [HN.out, this]; exact hsk, fun j e hj => hsub j e (by omega)⟩, (HKW.out _).trans hkp⟩
        clear hinv hsk hsub hkp hbm hst
        go_wp2
        go_end0
        exact HP.out
      | false =>
        have kT := text_one wr.heap.size (lo + k) (wr.alloc (.cells #[.int .i32 (lo + k)] 21)) (by have := heap_alloc_new wr (.cells #[.int .i32 (lo + k)] 21); unfold World.cell?; rw [this]; rfl)
        have kal : Kp (fun _ => False) wr (wr.alloc (.cells #[.int .i32 (lo + k)] 21)) := (Kp.refl _ wr).alloc _
        have HK1 : Hid (Kp (Mv B v) W (wr.alloc (.cells #[.int .i32 (lo + k)] 21))) := hkp.trans (kal.mono (fun _ _ e => e.elim))
        cases hv : Utf8.valid (lo + k)
        · rw [hv] at kT
          simp only [Bool.false_eq_true, if_false] at kT
          have HQ : Hid (∃ v', SkV S (wr.alloc (.cells #[.int .i32 (lo + k)] 21)) B v' (rngS r lo (k + 1)) ∧ Sub W v v' ∧ Kp (Mv B v) W (wr.alloc (.cells #[.int .i32 (lo + k)] 21))) := ⟨v', by
            unfold rngS
            rw [hv, if_neg (by decide)]
            exact hsk.kp kal id (fun _ _ => id), hsub, HK1.out⟩
          clear hinv hsk hsub hkp hbm hst kal hv HK1
          go_wp2_with fail
          go_fit kT
          rintro e w2 ⟨rfl, hw2⟩
          rw [← hw2] at HQ
          clear hw2 kT
          go_wp2
          exact ⟨⟨k + 1, by congr 1; omega, by omega, HQ⟩, by simp [RowKit.intOf]; omega⟩
        · rw [hv] at kT
          simp only [if_true] at kT
          have kA := add_any S B v' (rngS r lo k) (Utf8.encode (lo + k)) (wr.alloc (.cells #[.int .i32 (lo + k)] 21)) (hsk.kp kal id (fun _ _ => id)) (rngS_ok HS.out.2.2 lo k) (Nat.le_trans (Nat.le_trans HS.out.1 (Nat.le_of_lt hWz)) HK1.out.size)
          have HNX : Hid (∀ w2, AddP S B v' (addS (rngS r lo k) (Utf8.encode (lo + k))) (wr.alloc (.cells #[.int .i32 (lo + k)] 21)) (.returned (.tuple #[])) w2 → ∃ v', SkV S w2 B v' (rngS r lo (k + 1)) ∧ Sub W v v' ∧ Kp (Mv B v) W w2) := fun w2 ⟨_, ⟨v2, h1, h2⟩, h3⟩ => ⟨v2, by
            unfold rngS
            rw [hv, if_pos rfl]
            exact h1, hsub.trans h2 HK1.out.size, HK1.out.next hsub h3⟩
          clear hinv hsk hsub hkp hbm hst kal hv HK1
          generalize addS (rngS r lo k) (Utf8.encode (lo + k)) = RR at *
          generalize Utf8.encode (lo + k) = TX at *
          go_wp2_with fail
          go_fit kT
          rintro e w2 ⟨rfl, hw2⟩
          rw [← hw2] at kA HNX
          clear hw2 kT
          go_wp2_with fail
          go_fit kA
          rintro e w3 hp
          have he := hp.1
          subst he
          have HQ : Hid _ := HNX.out w3 hp
          clear hp kA HNX
          go_wp2
          exact ⟨⟨k + 1, by congr 1; omega, by omega, HQ⟩, by simp [RowKit.intOf]; omega⟩
    · obtain rfl : k = n + 1 := by omega
      have hle : ¬ lo + ((n + 1 : Nat) : Int) ≤ lo + n := by omega
      have HP : Hid (AddP S B v (rngS r lo (lo + n - lo + 1).toNat) w (.returned (.tuple #[])) wr) := ⟨rfl, ⟨v', by rw [HN.out]; exact hsk, fun j e hj => hsub j e (by omega)⟩, (HKW.out _).trans hkp⟩
      clear hinv hsk hsub hkp
      go_wp2
      go_end0
      exact HP.out
end Go.Proofs.Ytbciclnffokjjaa
