/- LabelsOrder: the walk. -/
import Derived.Test.YtjmninjaoemhjaaDoorDg
namespace Go.Proofs.YtjmninjaoemhjaaDoor
open Go.RowKit Go.Lib

def CI (w : World) (n : Nat) (args : Array Value) (r : Value) : Prop := ∀ W, Below w.heap.size w W → Calls Tryd.prog n args W fun e w' => e = .returned r ∧ Below W.heap.size W w'
set_option maxHeartbeats 16000000 in
set_option maxRecDepth 100000 in
theorem order_core (a b c : Option Addr) (na nb nc ca cb cc : Nat) (f : Nat → Lb) (w : World) (AB BC AC : Int) (sB : Bool) (la : Lm w a f na) (hna : na * 32 ≤ 140737488351232) (hza : a = none → na = 0 ∧ ca = 0)
    (kab : CI w 8 #[.slice a na ca, .slice b nb cb] (.int .i64 AB)) (kbc : CI w 8 #[.slice b nb cb, .slice c nc cc] (.int .i64 BC)) (kac : CI w 8 #[.slice a na ca, .slice c nc cc] (.int .i64 AC)) (kba : CI w 8 #[.slice b nb cb, .slice a na ca] (.int .i64 (-AB))) (ks : CI w 9 #[.slice a na ca, .slice b nb cb] (.bool sB))
    (hc : (AB = 1 ∧ sB = false) ∨ (AB = -1 ∧ sB = false ∧ 0 < BC) ∨ (AB = -1 ∧ sB = false ∧ BC ≤ 0 ∧ AC < 0) ∨ (AB = 0 ∧ sB = true ∧ 0 < BC) ∨ (AB = 0 ∧ sB = true ∧ BC ≤ 0 ∧ AC < 0) ∨ (AB = 0 ∧ sB = true ∧ BC = 0 ∧ AC = 0)) :
    Calls Tryd.prog 3 #[.slice a na ca, .slice b nb cb, .slice c nc cc] w fun e w' => e = .returned (.bool true) ∧ Below w.heap.size w w' := by
  have k1 := awake_any w
  have HAB : Hid (CI w 8 #[.slice a na ca, .slice b nb cb] (.int .i64 AB)) := kab
  have HBC : Hid (CI w 8 #[.slice b nb cb, .slice c nc cc] (.int .i64 BC)) := kbc
  have HAC : Hid (CI w 8 #[.slice a na ca, .slice c nc cc] (.int .i64 AC)) := kac
  have HBA : Hid (CI w 8 #[.slice b nb cb, .slice a na ca] (.int .i64 (-AB))) := kba
  have HSS : Hid (CI w 9 #[.slice a na ca, .slice b nb cb] (.bool sB)) := ks
  have HAP : Hid (∀ W, Below w.heap.size w W → ∃ a1 c1 w1 G c2 w2, (Builtin.append_ #[22, 22] 22 #[.slice (some ⟨W.heap.size, 0, none⟩) 0 0, .slice a na ca]).run Tryd.prog (W.alloc (.cells #[] 26)) = .ok (.slice a1 na c1) w1 ∧
      (Builtin.append_ #[22, 22] 22 #[.slice a1 na c1, .slice (some ⟨w1.heap.size, 0, none⟩) 1 1]).run Tryd.prog (w1.alloc (lbX lZ)) = .ok (.slice (some ⟨G, 0, none⟩) (na + 1) c2) w2 ∧ (Calls Tryd.prog 8 #[.slice a na ca, .slice (some ⟨G, 0, none⟩) (na + 1) c2] w2 fun e w' => e = .returned (.int .i64 (-1)) ∧ Below w2.heap.size w2 w') ∧ Below w.heap.size w w2) := fun W bW => by
    obtain ⟨a1, c1, w1, G, c2, w2, r1, r2, l2', b2⟩ := two_ap W a na ca f (la.below bW) hna hza
    have b := bW.trans (b2.mono bW.size)
    have k := compareList_any a (some ⟨G, 0, none⟩) na (na + 1) ca c2 f (snoc f na lZ) w2 (la.below b) l2' (by omega) (by omega)
    rw [cm_more f (snoc f na lZ) na (fun j hj => (if_neg (by omega)).symm)] at k
    exact ⟨a1, c1, w1, G, c2, w2, r1, r2, k, b⟩
  have HL1 : Hid (∀ W : World, Calls Tryd.prog 8 #[.slice (some ⟨W.heap.size, 0, none⟩) 1 1, .slice none 0 0] (W.alloc (lbX lA)) fun e w' => e = .returned (.int .i64 1) ∧ Below (W.alloc (lbX lA)).heap.size (W.alloc (lbX lA)) w') := fun W => by
    have h1 : (W.alloc (lbX lA)).heap[W.heap.size]? = some (lbX lA) := heap_alloc_new W _
    exact compareList_any (some ⟨W.heap.size, 0, none⟩) none 1 0 1 0 (fun _ => lA) (fun _ => lA) (W.alloc (lbX lA)) (.inr ⟨W.heap.size, 0, rfl, by simp, fun j hj => by
      have : j = 0 := by omega
      subst this
      exact ⟨by unfold World.cell?; rw [h1]; rfl, by unfold World.cell?; rw [h1]; rfl⟩⟩) (.inl rfl) (by decide) (by decide)
  clear kab kbc kac kba ks la hna hza
  rcases hc with ⟨rfl, rfl⟩ | ⟨rfl, rfl, h1⟩ | ⟨rfl, rfl, h1, h2⟩ | ⟨rfl, rfl, h1⟩ | ⟨rfl, rfl, h1, h2⟩ | ⟨rfl, rfl, rfl, rfl⟩
  all_goals
    go_enter Tryd.func3, Tryd.ntmps3
    go_wp2_with fail
    go_fit k1
    rintro e w1 ⟨rfl, b1⟩
    have k2 := HL1.out w1
    have B1 : Hid (Below w.heap.size w (w1.alloc (lbX lA))) := b1.alloc b1.size _
    clear k1 b1
    go_wp2_with fail
    go_fit k2
    rintro e w2 ⟨rfl, b2⟩
    have B2 : Hid (Below w.heap.size w w2) := B1.out.trans (b2.mono B1.out.size)
    have k3 := HAB.out w2 B2.out
    clear k2 b2 B1
    go_wp2_with fail
    go_fit k3
    rintro e w3 ⟨rfl, b3⟩
    have B3 : Hid (Below w.heap.size w w3) := B2.out.trans (b3.mono B2.out.size)
    have k4 := HBC.out w3 B3.out
    clear k3 b3 B2
    go_wp2_with fail
    go_fit k4
    rintro e w4 ⟨rfl, b4⟩
    have B4 : Hid (Below w.heap.size w w4) := B3.out.trans (b4.mono B3.out.size)
    have k5 := HAC.out w4 B4.out
    clear k4 b4 B3
    go_wp2_with fail
    go_fit k5
    rintro e w5 ⟨rfl, b5⟩
    have B5 : Hid (Below w.heap.size w w5) := B4.out.trans (b5.mono B4.out.size)
    have k6 := HBA.out w5 B5.out
    clear k5 b5 B4
    go_wp2_with fail
    go_fit k6
    rintro e w6 ⟨rfl, b6⟩
    have B6 : Hid (Below w.heap.size w w6) := B5.out.trans (b6.mono B5.out.size)
    have k7 := HSS.out w6 B6.out
    clear k6 b6 B5
    go_wp2_with fail
    go_fit k7
    rintro e w7 ⟨rfl, b7⟩
    have B7 : Hid (Below w.heap.size w w7) := B6.out.trans (b7.mono B6.out.size)
    clear k7 b7 B6
    obtain ⟨a1, c1, w8, G, c2, w9, r1, r2, k9, b9⟩ := HAP.out w7 B7.out
    have B9 : Hid (Below w.heap.size w w9) := b9
    clear b9 HAB HBC HAC HBA HSS HAP HL1 B7
    go_wp2_with (first | (at_builtin; refine wpList_append_run rfl (.tmp 70) (.tmp 71) 22 22 rfl _ _ rfl rfl r1 ?_) | (at_builtin; refine wpList_append_run rfl (.tmp 72) (.tmp 74) 22 22 rfl _ _ rfl rfl r2 ?_))
    go_fit k9
    rintro e w10 ⟨rfl, b10⟩
    have BA : Hid (Below w.heap.size w w10) := B9.out.trans (b10.mono B9.out.size)
    clear k9 b10 B9 r1 r2
    go_wp2
    go_ret
    exact ⟨rfl, BA.out⟩
end Go.Proofs.YtjmninjaoemhjaaDoor
