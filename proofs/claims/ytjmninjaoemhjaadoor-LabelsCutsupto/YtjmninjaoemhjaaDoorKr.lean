/- With: where the label stands. -/
import Derived.Test.YtjmninjaoemhjaaDoorKq
namespace Go.Proofs.YtjmninjaoemhjaaDoor.K
open Go.RowKit Go.Lib

attribute [local go_sem] Oper.semAt_some

set_option maxHeartbeats 2000000 in
theorem with1_any (x : Lb) (nm : ByteArray) (Bn : Nat) (W : World) (hB : W.cell? ⟨Bn, 0, none⟩ = some (.string nm)) :
    Calls Tryd.prog 33 #[lbV x, .pointer (some ⟨Bn, 0, none⟩)] W fun e w' => e = .returned (.bool (gtB x.1 nm)) ∧ Below W.heap.size W w' := by
  obtain ⟨x1, x2⟩ := x
  have hal : Below W.heap.size W (W.alloc (lbX (x1, x2))) := (Below.refl _ W).alloc (Nat.le_refl _) _
  have hb' := bcell2 hal hB
  have e : (W.alloc (lbX (x1, x2))).heap[W.heap.size]? = some (lbX (x1, x2)) := heap_alloc_new W _
  have d0 : (W.alloc (lbX (x1, x2))).cell? ⟨W.heap.size, 0, none⟩ = some (.string x1) := by unfold World.cell?; rw [e]; rfl
  have HB : Hid (Below W.heap.size W (W.alloc (lbX (x1, x2)))) := hal
  have HG : Hid (gtB x1 nm = (!Op.bytesLess x1.toList nm.toList && !(x1.toList == nm.toList))) := by unfold Hid gtB; rw [Bool.not_or]
  clear e hal hB
  go_enter Tryd.func33, Tryd.ntmps33
  go_wp2
  go_ret
  exact ⟨by rw [HG.out]; rfl, HB.out⟩
set_option maxRecDepth 100000 in
set_option maxHeartbeats 4000000 in
theorem index_any (a : Option Addr) (f : Nat → Lb) (n c Bn : Nat) (nm : ByteArray) (w : World) (hn : n ≤ 1152921504606846976) (hL : Lm w a f n) (hB : w.cell? ⟨Bn, 0, none⟩ = some (.string nm)) :
    Calls Tryd.prog 32 #[.slice a n c, .func (.func 33) #[] #[.pointer (some ⟨Bn, 0, none⟩)]] w fun e w' => ((∃ i : Nat, e = .returned (.int .i64 (i : Int)) ∧ i < n ∧ gtB (f i).1 nm = true ∧ ∀ j, j < i → gtB (f j).1 nm = false) ∨ (e = .returned (.int .i64 (-1)) ∧ ∀ j, j < n → gtB (f j).1 nm = false)) ∧ Below w.heap.size w w' := by
  have HL : Hid (Lm w a f n) := hL
  have HB : Hid (w.cell? ⟨Bn, 0, none⟩ = some (.string nm)) := hB
  have hnI : (n : Int) ≤ 1152921504606846976 := by omega
  clear hL hB
  go_enter Tryd.func32, Tryd.ntmps32
  go_wp2
  go_loopw [8] (fun ivv w' => ∃ i : Nat, ivv = .int .i64 (i : Int) ∧ i ≤ n ∧ Hid (∀ j, j < i → gtB (f j).1 nm = false) ∧ Hid (Below w.heap.size w w')) (fun ivv _ => n - (RowKit.intOf ivv).toNat)
  case atStart => exact ⟨0, rfl, by omega, fun j hj => by omega, Below.refl _ _⟩
  case round =>
    obtain ⟨i, rfl, hi, hf, hbw⟩ := hrel
    by_cases hlt : i < n
    · have hii : (i : Int) < n := by omega
      obtain ⟨g, o, rfl, hg, c0, c1⟩ := (HL.out.below hbw.out).at i hlt
      have kW := with1_any (f i) nm Bn wr (bcell2 hbw.out HB.out)
      obtain ⟨⟨x1, x2⟩, hx⟩ : ∃ x, f i = x := ⟨_, rfl⟩
      have HX : Hid (f i = (x1, x2)) := hx
      rw [hx] at c0 c1 kW
      dsimp only at c0 c1 kW
      have HBW : Hid (∀ W, Below wr.heap.size wr W → Below w.heap.size w W) := fun W b => hbw.out.trans (b.mono hbw.out.size)
      clear hx hbw
      cases hgt : gtB x1 nm
      · rw [hgt] at kW
        have HF : Hid (∀ j, j < i + 1 → gtB (f j).1 nm = false) := fun j hj => by
          by_cases e : j = i
          · subst e; rw [HX.out]; exact hgt
          · exact hf.out j (by omega)
        go_wp2_with fail
        go_fit kW
        rintro e w3 ⟨rfl, b3⟩
        have HB3 : Hid (Below w.heap.size w w3) := HBW.out w3 b3
        clear b3 kW
        go_wp2
        exact ⟨⟨i + 1, by go_num, by omega, HF, HB3⟩, by simp [RowKit.intOf]; omega⟩
      · rw [hgt] at kW
        go_wp2_with fail
        go_fit kW
        rintro e w3 ⟨rfl, b3⟩
        have HB3 : Hid (Below w.heap.size w w3) := HBW.out w3 b3
        clear b3 kW
        go_wp2
        go_ret
        exact ⟨.inl ⟨i, rfl, hlt, by rw [HX.out]; exact hgt, hf.out⟩, HB3.out⟩
    · obtain rfl : i = n := by omega
      have hii : ¬ (i : Int) < i := by omega
      go_wp2
      go_ret
      exact ⟨.inr ⟨rfl, hf.out⟩, hbw.out⟩
end Go.Proofs.YtjmninjaoemhjaaDoor.K
