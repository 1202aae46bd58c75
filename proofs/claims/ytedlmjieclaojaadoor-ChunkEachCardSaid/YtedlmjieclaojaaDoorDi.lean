/- The law's alive. -/
import Derived.Test.YtedlmjieclaojaaDoorDh
namespace Go.Proofs.YtedlmjieclaojaaDoor
open Go.RowKit

def xA : Smp := ⟨0, 0, true⟩
def bA : List Int := [0, 0, 128, 0, 0, 0, 0, 0, 0, 0, 112]
theorem pkA : pk (frm [xA]) = bA := by decide +kernel
theorem eA : pkE [xA] = 0 := by decide +kernel
theorem upA : unp bA = some [xA] := by
  refine unp_yes bA [xA] ?_ ⟨eA, pkA⟩
  have h := back [xA] (fun x hx => by
    rw [List.mem_singleton.1 hx]
    unfold Sok xA
    exact ⟨by decide, by decide, by decide⟩) (by decide)
  rw [pkA] at h
  rw [h]
  rfl
theorem upN : unp [] = none := by
  unfold unp
  rw [show rd [] = none by unfold rd; rw [if_pos (by decide)]]
set_option maxHeartbeats 4000000 in
set_option maxRecDepth 100000 in
theorem alive_any (w : World) (hs : Scl w) (ht : Tab w) : Calls Tryd.prog 9 #[] w fun e w' => e = .returned (.bool true) ∧ Below w.heap.size w w' := by
  have HS : Hid (Scl w) := hs
  have HT : Hid (Tab w) := ht
  have hb0 : Below w.heap.size w (w.alloc (smX xA)) := (Below.refl _ _).alloc (Nat.le_refl _) _
  have HB0 : Hid _ := hb0
  have k1 := pack_any (some ⟨w.heap.size, 0, none⟩) 1 [xA] (w.alloc (smX xA)) (.inr ⟨w.heap.size, 0, rfl, by simp, fun j x hj => by
    cases j with
    | zero => cases hj; exact ⟨by simp [xA], by simp [xA], by simp [xA]⟩
    | succ j => simp at hj⟩) (fun x hx => by
      rw [List.mem_singleton.1 hx]
      unfold Sok xA
      exact ⟨by decide, by decide, by decide⟩) (hs.below hb0) (ht.below hb0) (by decide)
  have hB : pkB [xA] = bA := by unfold pkB; rw [if_pos eA, pkA]
  unfold PkR at k1
  rw [eA, hB] at k1
  clear hs ht hb0 hB
  go_enter Tryd.func9, Tryd.ntmps9
  go_wp2_with fail
  go_fit k1
  rintro e w1 ⟨v1, rfl, o1, b1⟩
  obtain ⟨a1, c1, rfl⟩ := row_form o1
  have hb1 : Below w.heap.size w w1 := HB0.out.trans (b1.mono HB0.out.size)
  have x10 : ∃ G, a1 = some ⟨G, 0, none⟩ ∧ w1.cell? ⟨G, 10, none⟩ = some (.int .u8 112) := by
    rcases o1.2 with ⟨h, _⟩ | ⟨G, cap, cur, e, _⟩
    · cases h
    · cases e
      have := o1.cells (g := G) rfl 10 (.int .u8 112) rfl
      rw [Go.WideShapes.add_plain, Nat.zero_add] at this
      exact ⟨G, rfl, this⟩
  obtain ⟨G, rfl, x10⟩ := x10
  have hC : (w1.alloc (.cells #[.int .u8 0, .int .u8 0, .int .u8 128, .int .u8 0, .int .u8 0, .int .u8 0, .int .u8 0, .int .u8 0, .int .u8 0, .int .u8 0, .int .u8 112] 5)).heap[w1.heap.size]? = some (.cells (bc bA).toArray 5) := heap_alloc_new w1 _
  have hba : Below w1.heap.size w1 (w1.alloc (.cells #[.int .u8 0, .int .u8 0, .int .u8 128, .int .u8 0, .int .u8 0, .int .u8 0, .int .u8 0, .int .u8 0, .int .u8 0, .int .u8 0, .int .u8 112] 5)) := (Below.refl _ _).alloc (Nat.le_refl _) _
  have hb2 : Below w.heap.size w (w1.alloc (.cells #[.int .u8 0, .int .u8 0, .int .u8 128, .int .u8 0, .int .u8 0, .int .u8 0, .int .u8 0, .int .u8 0, .int .u8 0, .int .u8 0, .int .u8 112] 5)) := hb1.trans (hba.mono hb1.size)
  have hIm : Im (w1.alloc (.cells #[.int .u8 0, .int .u8 0, .int .u8 128, .int .u8 0, .int .u8 0, .int .u8 0, .int .u8 0, .int .u8 0, .int .u8 0, .int .u8 0, .int .u8 112] 5)) (some ⟨w1.heap.size, 0, none⟩) bA := .inr ⟨_, 0, rfl, by simp, fun j hj => by
    unfold World.cell?
    rw [hC]
    simp [bc, List.getD, hj]⟩
  have hBy : By bA := by
    have := pk_by (frm [xA]) (bin_frm _)
    rw [pkA] at this
    exact this
  have k2 := unpack_any (some ⟨w1.heap.size, 0, none⟩) 11 bA _ hIm hBy (HS.out.below hb2) (HT.out.below hb2) (by decide)
  unfold UpR at k2
  rw [show upE bA = 0 by unfold upE; rw [upA]; rfl, show upL bA = [xA] by unfold upL; rw [upA]; rfl] at k2
  have x10' := bcell2 hba x10
  have HBb2 : Hid _ := hb2
  clear k1 o1 b1 hb1 hC hIm hBy hba hb2 HB0
  go_wp2_with fail
  go_fit k2
  rintro e w2 ⟨v2, rfl, o2, b2⟩
  obtain ⟨a2, c2, rfl⟩ := row_form o2
  have hb3 : Below w.heap.size w w2 := HBb2.out.trans (b2.mono HBb2.out.size)
  have y10 := bcell2 b2 x10'
  have hs2 := HS.out.below hb3
  have ht2 := HT.out.below hb3
  have y2 : ∃ G2, a2 = some ⟨G2, 0, none⟩ ∧ w2.cell? ⟨G2, 2, none⟩ = some (.bool true) := by
    rcases o2.2 with ⟨h, _⟩ | ⟨G, cap, cur, e, _⟩
    · cases h
    · cases e
      have := o2.cells (g := G) rfl 2 (.bool true) rfl
      rw [Go.WideShapes.add_plain, Nat.zero_add] at this
      exact ⟨G, rfl, this⟩
  obtain ⟨G2, rfl, y2⟩ := y2
  have k3 := unpack_any none 0 [] w2 (.inl rfl) (fun j hj => by simp at hj) hs2 ht2 (by decide)
  unfold UpR at k3
  rw [show upE [] = 171 by unfold upE; rw [upN]; rfl, show upL [] = [] by unfold upL; rw [upN]; rfl] at k3
  have HB3 : Hid _ := hb3
  clear k2 o2 b2 x10 x10' hb3 HBb2 hs2 ht2
  go_wp2_with fail
  go_fit k3
  rintro e w3 ⟨v3, rfl, o3, b3⟩
  have hb4 : Below w.heap.size w w3 := HB3.out.trans (b3.mono HB3.out.size)
  have z10 := bcell2 b3 y10
  have z2 := bcell2 b3 y2
  have k4 := new_any w3 (by have := HT.out.1; have := hb4.size; omega)
  have HB4 : Hid _ := hb4
  have hsz := hb4.size
  clear k3 o3 b3 y10 y2 hb4 HB3
  go_wp2_with fail
  go_fit k4
  rintro e w4 ⟨rfl, v4, h4, b4⟩
  have hb5 : Below w.heap.size w w4 := HB4.out.trans (b4.mono HB4.out.size)
  have sok5 : Sok ⟨5, 0, false⟩ := by unfold Sok; exact ⟨by decide, by decide, by decide⟩
  have k5 := add_ok w3.heap.size w3.heap.size v4 [] ⟨5, 0, false⟩ w4 h4 (HS.out.below hb5) (HT.out.below hb5) sok5 (by decide) (fun h => by simp at h)
  have HH4 : Hid _ := h4
  have HB5 : Hid _ := hb5
  clear k4 b4 h4 hb5 HB4
  go_wp2_with fail
  go_fit k5
  rintro e w5 ⟨rfl, v5, h5, s5, q5⟩
  have hb6 : Below w.heap.size w w5 := by
    refine HB5.out.trans (q5.below HB5.out.size ?_)
    have := HH4.out.pk.SB
    rintro i hi (e | e)
    · omega
    · have := (HH4.out.pk.stm.base i e).1; omega
  have h5' : Hd w3.heap.size w5 w3.heap.size v5 [⟨5, 0, false⟩] := h5
  have k6 := add_order w3.heap.size w3.heap.size v5 [⟨5, 0, false⟩] ⟨5, 0, false⟩ w5 h5' (by decide) (by decide) (by decide)
  have HH5 : Hid _ := h5'
  have HB6 : Hid _ := hb6
  clear k5 h5 h5' s5 q5 hb6 HB5 HH4
  go_wp2_with fail
  go_fit k6
  rintro e w6 ⟨rfl, b6⟩
  have k7 := len_any w3.heap.size w3.heap.size v5 [⟨5, 0, false⟩] w6 (HH5.out.below b6)
  have HB7 : Hid (Below w.heap.size w w6) := HB6.out.trans (b6.mono HB6.out.size)
  clear k6 b6 HH5 HB6
  go_wp2_with fail
  go_fit k7
  rintro e w7 ⟨rfl, rfl⟩
  clear k7
  go_wp2
  go_ret
  exact ⟨rfl, HB7.out⟩
end Go.Proofs.YtedlmjieclaojaaDoor
