/- Keep. -/
import Derived.Test.YtjmninjaoemhjaaDoorKj
import Derived.Test.YtjmninjaoemhjaaDoorDd
namespace Go.Proofs.YtjmninjaoemhjaaDoor.K
open Go.RowKit Go.Lib Go.Shelf Go.Sort

attribute [local go_sem] Oper.semAt_some

set_option maxRecDepth 100000 in
set_option maxHeartbeats 4000000 in
theorem keep_any (a na : Option Addr) (f : Nat → Lb) (nf : Nat → ByteArray) (n c N nc : Nat) (wo : Bool) (w : World) (hn : n ≤ 4398046511104) (hN : N ≤ 8796093022208) (hs : ∀ j, j < n → (f j).1.size ≤ 140737488355328 ∧ (f j).2.size ≤ 140737488355328) (hL : Lm w a f n) (hR : Smb w.heap.size w na nf N) :
    Calls Tryd.prog 13 #[.slice a n c, .slice na N nc, .bool wo] w fun e w' => ∃ v, e = .returned v ∧ w'.ownsRow w.heap.size 26 2 v (keptL f (lf nf N) wo n).length (lcL (keptL f (lf nf N) wo n)) ∧ Below w.heap.size w w' := by
  have k0 := keeper_k na nf N nc wo w hN hR
  have hxl : (lf nf N).length ≤ 8796093022208 := by rw [lf_len]; exact hN
  generalize lf nf N = xs at k0 hxl ⊢
  have HL : Hid (Lm w a f n) := hL
  have HS : Hid (∀ j, j < n → (f j).1.size ≤ 140737488355328 ∧ (f j).2.size ≤ 140737488355328) := hs
  have hnI : (n : Int) ≤ 4398046511104 := by omega
  clear hL hR hs
  go_enter Tryd.func13, Tryd.ntmps13
  go_wp2_with fail
  go_fit k0
  rintro e w1 ⟨Bs, Bw, rfl, hk1, hb1⟩
  have HB1 : Hid (Below w.heap.size w w1) := hb1
  have HK1 : Hid (Kpr w1.heap.size w1 Bs Bw xs wo) := hk1
  clear hb1 hk1 k0
  go_wp2
  go_loopw [8, 16] (fun sv ivv w' => ∃ i : Nat, ivv = .int .i64 (i : Int) ∧ i ≤ n ∧ Hid (w'.ownsRow w1.heap.size 26 2 sv (keptL f xs wo i).length (lcL (keptL f xs wo i))) ∧ Hid (Below w1.heap.size w1 w')) (fun _ ivv _ => n - (RowKit.intOf ivv).toNat)
  case atStart => exact ⟨0, rfl, by omega, World.ownsRow_nil _ _ _ _, Below.refl _ _⟩
  case round =>
    obtain ⟨i, rfl, hi, hrow, hbw⟩ := hrel
    by_cases hlt : i < n
    · have hii : (i : Int) < n := by omega
      obtain ⟨g, o, rfl, hg, c0, c1⟩ := ((HL.out.below HB1.out).below hbw.out).at i hlt
      have hz := hbw.out.size
      obtain ⟨h1, h2⟩ := HS.out i hlt
      obtain ⟨⟨x1, x2⟩, hx⟩ : ∃ x, f i = x := ⟨_, rfl⟩
      rw [hx] at c0 c1 h1 h2
      dsimp only at c0 c1 h1 h2
      have HK : Hid (keptL f xs wo (i + 1) = keptL f xs wo i ++ if stay xs wo x1 then [(x1, x2)] else []) := by unfold Hid; rw [keptL_succ, hx]
      have hkl := keptL_le f xs wo i
      generalize keptL f xs wo i = ks at hrow HK hkl
      have hal : Below wr.heap.size wr (wr.alloc (lbX (x1, x2))) := (Below.refl _ wr).alloc (Nat.le_refl _) _
      have kC := ((HK1.out.below hbw.out).below (hal.mono hz)).stays hxl x1
      have HRA : Hid ((wr.alloc (lbX (x1, x2))).ownsRow w1.heap.size 26 2 u8 ks.length (lcL ks)) := hrow.out.alloc _
      have HBA : Hid (Below w1.heap.size w1 (wr.alloc (lbX (x1, x2)))) := hbw.out.trans (hal.mono hz)
      have HBX : Hid ((wr.alloc (lbX (x1, x2))).heap[wr.heap.size]? = some (lbX (x1, x2))) := World.alloc_heap_new wr _
      have kD := fun W => copied_any (x1, x2) W h1 h2
      have KD : Hid (∀ W, Calls Tryd.prog 29 #[lbV (x1, x2)] W fun e w' => e = .returned (lbV (x1, x2)) ∧ Below W.heap.size W w') := kD
      clear hrow hbw hal hx hz kD h1 h2
      cases hst : stay xs wo x1
      · rw [hst] at kC HK
        go_wp2_with fail
        go_fit kC
        rintro e w3 ⟨rfl, q, rfl⟩
        go_wp2
        exact ⟨⟨i + 1, by go_num, by omega, by unfold Hid; rw [HK.out, if_neg (by simp), List.append_nil]; exact HRA.out, below_drewN HBA.out q⟩, by simp [RowKit.intOf]; omega⟩
      · rw [hst] at kC HK
        go_wp2_with fail
        go_fit kC
        rintro e w3 ⟨rfl, q, rfl⟩
        have hr3 : ((wr.alloc (lbX (x1, x2))).drewN q).ownsRow w1.heap.size 26 2 u8 ks.length (lcL ks) := HRA.out
        have hb3 := below_drewN HBA.out q
        have hx3 : ((wr.alloc (lbX (x1, x2))).drewN q).heap[wr.heap.size]? = some (lbX (x1, x2)) := HBX.out
        generalize (wr.alloc (lbX (x1, x2))).drewN q = w3 at hr3 hb3 hx3 ⊢
        have d0 : w3.cell? ⟨wr.heap.size, 0, none⟩ = some (.string x1) := by unfold World.cell?; rw [hx3]; rfl
        have d1 : w3.cell? ⟨wr.heap.size, 1, none⟩ = some (.string x2) := by unfold World.cell?; rw [hx3]; rfl
        have k4 := KD.out w3
        have HR3 : Hid (w3.ownsRow w1.heap.size 26 2 u8 ks.length (lcL ks)) := hr3
        have HB3 : Hid (Below w1.heap.size w1 w3) := hb3
        clear hr3 hb3 hx3 kC HBX
        go_wp2_with fail
        go_fit k4
        rintro e w4 ⟨rfl, b4⟩
        have hr4 := (Kp.of (M := fun _ => False) b4).row HR3.out (fun _ _ => id)
        have hb4 := HB3.out.trans (b4.mono HB3.out.size)
        obtain ⟨G, cc, w6, r, o6, kp6⟩ := ap_lb w4 w1.heap.size u8 ks.length (lcL ks) (x1, x2) hb4.size (by omega) hr4
        have HAP : Hid (Below w1.heap.size w1 w6 ∧ w6.ownsRow w1.heap.size 26 2 (.slice (some ⟨G, 0, none⟩) (ks.length + 1) cc) (ks ++ [(x1, x2)]).length (lcL (ks ++ [(x1, x2)]))) := by
          refine ⟨hb4.trans (kp6.below hb4.size (fun k hk e => by have := (own_bd hr4 k e).1; omega)), ?_⟩
          have e1 : lcL (ks ++ [(x1, x2)]) = lcL ks ++ l2 (x1, x2) := by simp [lcL]
          rw [e1, List.length_append]
          exact o6
        clear hr4 hb4 b4 k4 o6 kp6 d0 d1
        go_wp2_with (at_builtin; refine wpList_append_run rfl (.tmp 24) (.tmp 27) 22 22 rfl _ _ rfl rfl r ?_)
        exact ⟨⟨i + 1, by go_num, by omega, by unfold Hid; rw [HK.out, if_pos (by simp)]; exact HAP.out.2, HAP.out.1⟩, by simp [RowKit.intOf]; omega⟩
    · obtain rfl : i = n := by omega
      have hii : ¬ (i : Int) < i := by omega
      have HE : Hid (wr.ownsRow w.heap.size 26 2 u8 (keptL f xs wo i).length (lcL (keptL f xs wo i)) ∧ Below w.heap.size w wr) := ⟨hrow.out.mono HB1.out.size, HB1.out.trans (hbw.out.mono HB1.out.size)⟩
      clear hrow hbw
      go_wp2
      go_ret
      exact ⟨_, rfl, HE.out.1, HE.out.2⟩
end Go.Proofs.YtjmninjaoemhjaaDoor.K
