/- The walks of the reference's half, thousandths, near. -/
import Derived.Test.YtmfeckpcnofkhabDoorStC
import Derived.Test.YtmfeckpcnofkhabDoorQs
namespace Go.Proofs.YtmfeckpcnofkhabDoor
open Go.RowKit

/-- How digits behind a point stand to one half. -/
def hfL (G : ByteArray) : Int := if G.size = 0 then -1 else if bt G 0 < 53 then -1 else if 53 < bt G 0 then 1 else if trm G G.size ≤ 1 then 0 else 1
/-- The whole part's number, cut off far out. -/
def wF (W : ByteArray) : Nat → Nat → Int → Int
  | 0, _, x => x
  | f + 1, i, x => if i < W.size ∧ x < 100000000000000 then wF W f (i + 1) (x * 10 + (bt W i - 48)) else x
theorem wF_rel (W : ByteArray) (hd : ∀ i, i < W.size → isD W i) : ∀ (f i : Nat), i ≤ W.size → W.size ≤ i + f → 0 ≤ vl W i → vl W i ≤ 1000000000000000 → (0 ≤ wF W f i (vl W i) ∧ wF W f i (vl W i) ≤ 1000000000000000) ∧ (wF W f i (vl W i) = vl W W.size ∨ 100000000000000 ≤ wF W f i (vl W i) ∧ 100000000000000 ≤ vl W W.size)
  | 0, i, h1, h2, h3, h4 => by
    obtain rfl : i = W.size := by omega
    exact ⟨⟨h3, h4⟩, .inl rfl⟩
  | f + 1, i, h1, h2, h3, h4 => by
    rw [wF]
    split
    · rename_i c
      have hdi := (hd i c.1).2
      have e : vl W (i + 1) = vl W i * 10 + (bt W i - 48) := by rw [vl]
      rw [← e]
      exact wF_rel W hd f (i + 1) (by omega) (by omega) (by omega) (by omega)
    · rename_i c
      by_cases hi : i < W.size
      · have hm := vl_mono W hd i (W.size - i) (by omega)
        rw [show i + (W.size - i) = W.size by omega] at hm
        exact ⟨⟨h3, h4⟩, .inr ⟨by omega, by omega⟩⟩
      · obtain rfl : i = W.size := by omega
        exact ⟨⟨h3, h4⟩, .inl rfl⟩
def wN (W : ByteArray) : Int := wF W W.size 0 0
theorem wN_rel (W : ByteArray) (hd : ∀ i, i < W.size → isD W i) : (0 ≤ wN W ∧ wN W ≤ 1000000000000000) ∧ (wN W = vl W W.size ∨ 100000000000000 ≤ wN W ∧ 100000000000000 ≤ vl W W.size) :=
  wF_rel W hd W.size 0 (by omega) (by omega) (by simp [vl]) (by simp [vl])
theorem wr8 (x y : Int) (h : x = y) (a : 0 ≤ y) (b : y ≤ 255) : IntKind.u8.wrap x = y := by
  subst h
  unfold IntKind.wrap IntKind.signed IntKind.bits
  simp
  omega
theorem bt_app1 (s : ByteArray) (i : Nat) (h : i < s.size + 1) : bt (s ++ ⟨#[48]⟩) i = if i < s.size then bt s i else 48 := by
  have e : (⟨#[48]⟩ : ByteArray).size = 1 := rfl
  unfold bt
  rw [get!_lt _ i (by rw [size_app, e]; omega)]
  by_cases c : i < s.size
  · rw [if_pos c, get!_lt s i c, ByteArray.getElem_append_left c]
  · rw [if_neg c, ByteArray.getElem_append_right (by omega)]
    have h1 : i - s.size = 0 := by omega
    simp only [h1]; rfl
theorem hfL_eq (F X : ByteArray) (h3 : 3 ≤ X.size) (h1 : F.size ≤ X.size) (h2 : X.size ≤ F.size ∨ X.size = 3) (hb : ∀ i, i < X.size → bt X i = 48 + dg0 F i) : hfL (X.extract 3 X.size) = hfV F := by
  have ez : (X.extract 3 X.size).size = X.size - 3 := by rw [ByteArray.size_extract]; omega
  have t1 := trm_le F F.size
  unfold hfL hfV
  rw [ez]
  by_cases s3 : X.size - 3 = 0
  · rw [if_pos s3, if_pos]
    unfold dg0
    rw [if_neg (by omega)]; omega
  · rw [if_neg s3, bt_extract, Nat.add_zero, hb 3 (by omega)]
    have hX : X.size = F.size := by omega
    have tk : dg0 F 3 = 5 → (trm (X.extract 3 X.size) (X.size - 3) ≤ 1 ↔ trm F F.size ≤ 4) := fun h5 => by
      have e : trm (X.extract 3 X.size) (X.size - 3) = trm F F.size - 3 := by
        have hb5 : bt F 3 = 53 := by unfold dg0 at h5; rw [if_pos (by omega)] at h5; omega
        have h4 : 3 < trm F F.size := by
          by_cases c : 3 < trm F F.size
          · exact c
          · have := trm_zero F F.size 3 (by omega) (by omega)
            omega
        refine trm_uniq _ _ _ (by omega) (fun i i1 i2 => ?_) (fun h => ?_)
        · rw [bt_extract, hb (3 + i) (by omega)]
          unfold dg0
          rw [if_pos (by omega), trm_zero F F.size (3 + i) (by omega) (by omega)]; omega
        · rw [bt_extract, hb _ (by omega), show 3 + (trm F F.size - 3 - 1) = trm F F.size - 1 by omega]
          unfold dg0
          rw [if_pos (by omega)]
          have := trm_last F F.size (by omega)
          omega
      rw [e]; omega
    by_cases d1 : dg0 F 3 < 5
    · rw [if_pos d1, if_pos (by omega)]
    · rw [if_neg d1, if_neg (by omega)]
      by_cases d2 : 5 < dg0 F 3
      · rw [if_pos d2, if_pos (by omega)]
      · rw [if_neg d2, if_neg (by omega)]
        have := tk (by omega)
        by_cases k1 : trm F F.size ≤ 4
        · rw [if_pos k1, if_pos (this.2 k1)]
        · rw [if_neg k1, if_neg (fun x => k1 (this.1 x))]
end Go.Proofs.YtmfeckpcnofkhabDoor
