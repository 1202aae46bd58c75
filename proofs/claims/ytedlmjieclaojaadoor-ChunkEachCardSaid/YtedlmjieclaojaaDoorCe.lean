/- A stream is written: putChange. -/
import Derived.Test.YtedlmjieclaojaaDoorCd
namespace Go.Proofs.YtedlmjieclaojaaDoor
open Go.RowKit

theorem way_yes (k : Nat) (e : Int) (hk : k ≤ wayOf e) (h : rch k e = true) : k = wayOf e := by
  have hw : k ≤ 4 := Nat.le_trans hk (way_le e)
  unfold wayOf at *
  have : k = 0 ∨ k = 1 ∨ k = 2 ∨ k = 3 ∨ k = 4 := by omega
  rcases this with rfl | rfl | rfl | rfl | rfl
  · rw [if_pos h]
  · by_cases h0 : rch 0 e = true
    · rw [if_pos h0] at hk; omega
    · rw [if_neg h0, if_pos h]
  · by_cases h0 : rch 0 e = true
    · rw [if_pos h0] at hk; omega
    · rw [if_neg h0] at hk ⊢
      by_cases h1 : rch 1 e = true
      · rw [if_pos h1] at hk; omega
      · rw [if_neg h1, if_pos h]
  · by_cases h0 : rch 0 e = true
    · rw [if_pos h0] at hk; omega
    · rw [if_neg h0] at hk ⊢
      by_cases h1 : rch 1 e = true
      · rw [if_pos h1] at hk; omega
      · rw [if_neg h1] at hk ⊢
        by_cases h2 : rch 2 e = true
        · rw [if_pos h2] at hk; omega
        · rw [if_neg h2, if_pos h]
  · by_cases h0 : rch 0 e = true
    · rw [if_pos h0] at hk; omega
    · rw [if_neg h0] at hk ⊢
      by_cases h1 : rch 1 e = true
      · rw [if_pos h1] at hk; omega
      · rw [if_neg h1] at hk ⊢
        by_cases h2 : rch 2 e = true
        · rw [if_pos h2] at hk; omega
        · rw [if_neg h2] at hk ⊢
          by_cases h3 : rch 3 e = true
          · rw [if_pos h3] at hk; omega
          · rw [if_neg h3]
theorem way_no (k : Nat) (e : Int) (hk : k ≤ wayOf e) (h : rch k e = false) : k < wayOf e := by
  have : k ≠ wayOf e := fun e' => by
    have := rch_way e
    rw [← e', h] at this
    cases this
  omega

theorem btr {a b c : World} (h : Below a.heap.size a b) (k : Below b.heap.size b c) : Below a.heap.size a c := h.trans (k.mono h.size)
set_option maxHeartbeats 2000000 in
set_option maxRecDepth 100000 in
theorem putChange_any (S B : Nat) (v : Value) (L : List Int) (e : Int) (w : World) (h : Stm S w B v L) (hs : Scl w) (hS2 : 2 ≤ S) (hSB : S ≤ B) (hL : L.length + 100 ≤ 1000000000) :
    Calls Tryd.prog 41 #[.pointer (some ⟨B, 0, none⟩), .int .i64 e] w (Pp S B v L (chg e) w) := by
  have H0 : Hid (Stm S w B v L) := h
  have HS : Hid (Scl w) := hs
  have hwl := way_le e
  clear h hs
  go_enter Tryd.func41, Tryd.ntmps41
  go_wp2_with fail
  go_loopw [4] (fun kv w' => ∃ k : Nat, k ≤ wayOf e ∧ kv = .int .i64 (k : Nat) ∧ Hid (Below w.heap.size w w')) (fun kv _ => wayOf e - (RowKit.intOf kv).toNat)
  case atStart => exact ⟨0, Nat.zero_le _, rfl, Below.refl _ _⟩
  case round =>
    obtain ⟨k, hk, rfl, hb⟩ := hrel
    have hk5 : (k : Int) < 5 := by omega
    have t0 := (HS.out.below hb.out).2 k (by omega)
    obtain ⟨s1, s2⟩ := t0
    have c := reaches_any k e wr
    by_cases hr : rch k e = true
    · have HKE : Hid (k = wayOf e) := way_yes k e hk hr
      rw [hr] at c
      clear hr
      go_wp2_with fail
      go_fit c
      rintro z w1 ⟨rfl, b1⟩
      have hb1 : Below w.heap.size w w1 := hb.out.trans (b1.mono hb.out.size)
      have hS1 := H0.out.below hb1
      have hs1 := HS.out.below hb1
      have c2 := putWay_any S B v L k 4 w1 hS1 (by omega) (by decide) (by omega)
      clear c s1 s2
      go_wp2_with fail
      go_fit c2
      rintro z w2 ⟨rfl, v2, hS2', hsub2, hkp2, hrs2⟩
      have hs2 : Scl w2 := hs1.kp hkp2 (fun h => by
        rcases h with h | h
        · omega
        · have := (hS1.base 1 h).1; omega)
      obtain ⟨s1, s2⟩ := hs2.2 k (by omega)
      have hb2 := (Below.refl w2.heap.size w2)
      have HK : Hid (∀ V, Below w2.heap.size w2 V → V.cell? ⟨1, k * 2, none⟩ = some (.int .i64 (scL k)) ∧ V.cell? ⟨1, k * 2 + 1, none⟩ = some (.int .i64 (scW k : Nat))) := fun V h => ⟨bcell2 h s1, bcell2 h s2⟩
      have K1 : Hid (∀ V, Below w2.heap.size w2 V → Calls Tryd.prog 54 #[.agg #[.int .i64 (scL k), .int .i64 (scW k : Nat)], .int .i64 e] V fun r w' => r = .returned (.int .u64 (abv k e : Nat)) ∧ Below V.heap.size V w') := fun V _ => above_any k e V
      have K2 : Hid (∀ V, Below w2.heap.size w2 V → Calls Tryd.prog 31 #[.pointer (some ⟨B, 0, none⟩), .int .u64 (abv k e : Nat), .int .i64 (scW k : Nat)] V fun z w' => z = .returned (.tuple #[]) ∧ (w'.cell? ⟨1, k * 2, none⟩ = some (.int .i64 (scL k)) ∧ w'.cell? ⟨1, k * 2 + 1, none⟩ = some (.int .i64 (scW k : Nat))) ∧ Hid (Pp S B v L (chg e) w z w')) := fun V h => by
        have hle : (L ++ wy k 4).length + scW k ≤ 1000000000 := by
          rw [List.length_append, wy_len]
          have := scW_le k
          split <;> omega
        refine (put_any S B v2 (L ++ wy k 4) (abv k e) (scW k) V (hS2'.below h) ?_ (scW_le k) hle).mono ?_
        · rw [HKE.out]; exact rch_lt
        · rintro z w3 ⟨rfl, v3, hS3, hsub3, hkp3, hrs3⟩
          have hs3 : Scl w3 := (hs2.below h).kp hkp3 (fun h' => by
            rcases h' with h' | h'
            · omega
            · have := ((hS2'.below h).base 1 h').1; omega)
          refine ⟨rfl, hs3.2 k (by omega), rfl, v3, ?_, ?_, ?_, ?_⟩
          · unfold chg
            rw [← HKE.out, ← List.append_assoc]
            exact hS3
          · intro i hi hl
            exact hsub2 i (hsub3 i hi (Nat.lt_of_lt_of_le hl (Nat.le_trans hb1.size (Nat.le_trans hkp2.size h.size)))) (Nat.lt_of_lt_of_le hl hb1.size)
          · have k1 : Kp (Mv B v) w w2 := (Kp.of hb1).trans hkp2
            have k2 : Kp (Mv B v) w V := k1.trans (Kp.of h)
            exact k2.trans' hkp3 (fun i hi e' => e'.imp id (fun e' => hsub2 i e' (Nat.lt_of_lt_of_le hi hb1.size)))
          · intro i hi
            rw [hrs3 i hi, h.cell (p := ⟨B, i, none⟩) hS2'.lt, hrs2 i hi, hb1.cell (p := ⟨B, i, none⟩) H0.out.lt]
      have bD : Below w2.heap.size w2 w2.drew := (Below.refl _ _).drew
      generalize hab : ((abv k e : Nat) : Int) = A at *
      generalize scL k = l at *
      generalize scW k = n at *
      clear hS2' hsub2 hkp2 hrs2 hs2 s1 s2 hb1 hS1 hs1 c2 b1 hab HKE
      go_wp2_with fail
      go_region_held3 (fun w' => w'.cell? ⟨1, k * 2, none⟩ = some (.int .i64 l) ∧ w'.cell? ⟨1, k * 2 + 1, none⟩ = some (.int .i64 (n : Nat))) (first | assumption | exact HK.out _ (by assumption) | exact HK.out _ (Below.refl _ _).drew | exact HK.out _ (Below.refl _ _)) (first | (go_at_call 54; go_fit (K1.out _ (by assumption)); rintro z w4 ⟨rfl, b4⟩; have q4 : Below w2.heap.size w2 w4 := btr (by assumption) b4) | (go_at_call 31; go_fit (K2.out _ (by assumption)); rintro z w5 ⟨rfl, q5, b5⟩))
      clear K1 K2 HK
      go_wp2
      go_end0
      exact b5.out
    · have hr' : rch k e = false := by simpa using hr
      have hlt := way_no k e hk hr'
      rw [hr'] at c
      clear hr hr'
      go_wp2_with fail
      go_fit c
      rintro z w1 ⟨rfl, b1⟩
      have HB1 : Hid (Below w.heap.size w w1) := hb.out.trans (b1.mono hb.out.size)
      clear c s1 s2
      go_wp2
      exact ⟨⟨k + 1, by omega, by go_num, HB1⟩, by simp [RowKit.intOf]; omega⟩
end Go.Proofs.YtedlmjieclaojaaDoor
