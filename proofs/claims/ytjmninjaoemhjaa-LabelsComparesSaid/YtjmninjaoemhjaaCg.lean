/- LabelsCompares: the walk. -/
import Derived.Test.YtjmninjaoemhjaaCd
import Derived.Test.YtjmninjaoemhjaaCe
import Derived.Test.YtjmninjaoemhjaaCf
namespace Go.Proofs.Ytjmninjaoemhjaa
open Go.RowKit

/-- A list of labels that lies in memory. -/
structure Ll where
  a : Option Addr
  n : Nat
  c : Nat
  f : Nat → Lb
/-- Lists of labels that a slice shows. -/
def Lls (w : World) (a : Option Addr) (q : Nat → Ll) (n : Nat) : Prop := n = 0 ∨ ∃ g o, a = some ⟨g, o, none⟩ ∧ g < w.heap.size ∧ ∀ j, j < n → w.cell? ⟨g, o + j, none⟩ = some (.slice (q j).a (q j).n (q j).c) ∧ Lm w (q j).a (q j).f (q j).n ∧ (q j).n * 32 ≤ 140737488355328 ∧ ((q j).a = none → (q j).n = 0 ∧ (q j).c = 0)
theorem Lls.at {w : World} {a : Option Addr} {q : Nat → Ll} {n : Nat} (h : Lls w a q n) (j : Nat) (hj : j < n) : ∃ g o, a = some ⟨g, o, none⟩ ∧ g < w.heap.size ∧ w.cell? ⟨g, o + j, none⟩ = some (.slice (q j).a (q j).n (q j).c) ∧ Lm w (q j).a (q j).f (q j).n ∧ (q j).n * 32 ≤ 140737488355328 ∧ ((q j).a = none → (q j).n = 0 ∧ (q j).c = 0) := by
  rcases h with h | ⟨g, o, e, hg, hat⟩
  · omega
  · exact ⟨g, o, e, hg, hat j hj⟩
/-- The two rows that are written again and again. -/
def Xy (w : World) (x y : Value) (w' : World) : Prop :=
  ∃ ax nx cx fx ay ny cy fy, x = .slice ax nx cx ∧ y = .slice ay ny cy ∧ w'.ownsRow w.heap.size 25 2 (.slice ax nx cx) nx (lc fx nx) ∧ w'.ownsRow w.heap.size 25 2 (.slice ay ny cy) ny (lc fy ny) ∧ (∀ k, (Value.slice ax nx cx).ownBlock = some k → (Value.slice ay ny cy).ownBlock = some k → False) ∧ Below w.heap.size w w'
theorem own_cut (a : Option Addr) (n m c : Nat) : (Value.slice a n c).ownBlock = (Value.slice a m c).ownBlock := by
  cases a with
  | none => rfl
  | some p => rfl
/-- Both rows written anew. -/
theorem xy_step {w W : World} {ax ay aa ba : Option Addr} {nx cx ny cy an ac bn bc : Nat} {fx fy af bf : Nat → Lb} (ox : W.ownsRow w.heap.size 25 2 (.slice ax nx cx) nx (lc fx nx)) (oy : W.ownsRow w.heap.size 25 2 (.slice ay ny cy) ny (lc fy ny)) (hxy : ∀ k, (Value.slice ax nx cx).ownBlock = some k → (Value.slice ay ny cy).ownBlock = some k → False) (bw : Below w.heap.size w W)
    (la : Lm w aa af an ∧ an * 32 ≤ 140737488355328 ∧ (aa = none → an = 0 ∧ ac = 0)) (lb : Lm w ba bf bn ∧ bn * 32 ≤ 140737488355328 ∧ (ba = none → bn = 0 ∧ bc = 0)) :
    ∃ a1 c1 w3 a2 c2 w4, (Builtin.append_ #[26, 26] 26 #[.slice ax 0 cx, .slice aa an ac]).run Try.prog W = .ok (.slice a1 an c1) w3 ∧ (Builtin.append_ #[26, 26] 26 #[.slice ay 0 cy, .slice ba bn bc]).run Try.prog w3 = .ok (.slice a2 bn c2) w4 ∧
      w4.ownsRow w.heap.size 25 2 (.slice a1 an c1) an (lc af an) ∧ w4.ownsRow w.heap.size 25 2 (.slice a2 bn c2) bn (lc bf bn) ∧ (∀ k, (Value.slice a1 an c1).ownBlock = some k → (Value.slice a2 bn c2).ownBlock = some k → False) ∧ Below w.heap.size w w4 := by
  have ox0 := own0 ox
  have oy0 := own0 oy
  rw [own_cut ax nx 0 cx, own_cut ay ny 0 cy] at hxy
  obtain ⟨a1, c1, w3, r1, o1, k1, h1⟩ := ap_row W w.heap.size ax cx bw.size ox0 aa an ac af la.2.2 (la.1.below bw) la.2.1
  have oy3 := k1.row oy0 (fun k e hM => hxy k hM e)
  have b3 : Below w.heap.size w w3 := bw.trans (k1.below bw.size (fun k hk e => by have := (own_bd ox0 k e).1; omega))
  obtain ⟨a2, c2, w4, r2, o2, k2, h2⟩ := ap_row w3 w.heap.size ay cy b3.size oy3 ba bn bc bf lb.2.2 (lb.1.below b3) lb.2.1
  have hd : ∀ k, (Value.slice a1 an c1).ownBlock = some k → (Value.slice ay 0 cy).ownBlock = some k → False := fun k e e' => by
    rcases h1 k e with h | h
    · exact hxy k h e'
    · have := (own_bd oy0 k e').2
      omega
  refine ⟨a1, c1, w3, a2, c2, w4, r1, r2, k2.row o1 (fun k e e' => hd k e e'), o2, fun k e e' => ?_, b3.trans (k2.below b3.size (fun k hk e => by have := (own_bd oy3 k e).1; omega))⟩
  rcases h2 k e' with h | h
  · exact hd k e h
  · have := (own_bd o1 k e).2
    omega
set_option maxHeartbeats 8000000 in
set_option maxRecDepth 100000 in
theorem compares_walk (a : Option Addr) (n c : Nat) (q : Nat → Ll) (w : World) (h : Lls w a q n) (hn : n ≤ 1152921504606846976) : Calls Try.prog 3 #[.slice a n c] w fun e w' => e = .returned (.bool true) ∧ Below w.heap.size w w' := by
  have HL : Hid (Lls w a q n) := h
  have h1 : (w.alloc (lbX (⟨#[97]⟩, ⟨#[49]⟩))).heap[w.heap.size]? = some (lbX (⟨#[97]⟩, ⟨#[49]⟩)) := heap_alloc_new w _
  have k1 := compareList_any (some ⟨w.heap.size, 0, none⟩) none 1 0 1 0 (fun _ => (⟨#[97]⟩, ⟨#[49]⟩)) (fun _ => (⟨#[97]⟩, ⟨#[49]⟩)) (w.alloc (lbX (⟨#[97]⟩, ⟨#[49]⟩))) (.inr ⟨w.heap.size, 0, rfl, by simp, fun j hj => by
    have : j = 0 := by omega
    subst this
    exact ⟨by unfold World.cell?; rw [h1]; rfl, by unfold World.cell?; rw [h1]; rfl⟩⟩) (.inl rfl) (by decide) (by decide)
  rw [show cm (fun _ => ((⟨#[97]⟩ : ByteArray), (⟨#[49]⟩ : ByteArray))) 1 (fun _ => (⟨#[97]⟩, ⟨#[49]⟩)) 0 = 1 from rfl] at k1
  have HB1 : Hid (Below w.heap.size w (w.alloc (lbX (⟨#[97]⟩, ⟨#[49]⟩)))) := (Below.refl _ w).alloc (Nat.le_refl _) _
  clear h h1
  go_enter Try.func3, Try.ntmps3
  go_wp2_with fail
  go_fit k1
  rintro e w1 ⟨rfl, b1⟩
  have HX : Hid (Xy w (.slice none 0 0) (.slice none 0 0) w1) := ⟨none, 0, 0, fun _ => (⟨#[]⟩, ⟨#[]⟩), none, 0, 0, fun _ => (⟨#[]⟩, ⟨#[]⟩), rfl, rfl, World.ownsRow_nil _ _ _ _, World.ownsRow_nil _ _ _ _, fun k h => (by cases h), HB1.out.trans (b1.mono HB1.out.size)⟩
  clear k1 b1 HB1
  go_wp2_with fail
  go_loopw [3, 4, 16] (fun x y t w' => ∃ i : Nat, t = .int .i64 (i : Int) ∧ i ≤ n ∧ Hid (Xy w x y w')) (fun _ _ t _ => n - (RowKit.intOf t).toNat)
  case atStart => exact ⟨0, rfl, Nat.zero_le _, HX⟩
  case round =>
    obtain ⟨i, rfl, hi, HX⟩ := hrel
    by_cases hlt : i < n
    · have hii : (i : Int) < n := by omega
      have hb1 : 0 ≤ (i : Int) ∧ (i : Int) < (n : Int) := by omega
      obtain ⟨g, o, rfl, hg, c0, l0, z0, e0⟩ := HL.out.at i hlt
      have HC : Hid (∀ j, j < n → w.cell? ⟨g, o + j, none⟩ = some (.slice (q j).a (q j).n (q j).c) ∧ Lm w (q j).a (q j).f (q j).n ∧ (q j).n * 32 ≤ 140737488355328 ∧ ((q j).a = none → (q j).n = 0 ∧ (q j).c = 0)) := fun j hj => by
        obtain ⟨g', o', e, _, h⟩ := HL.out.at j hj
        cases e
        exact h
      have f0 : wr.cell? ⟨g, o + i, none⟩ = some (.slice (q i).a (q i).n (q i).c) := by
        obtain ⟨_, _, _, _, _, _, _, _, _, _, _, _, _, b⟩ := HX.out
        exact bcell2 b c0
      obtain ⟨A, hA⟩ : ∃ A, A = q i := ⟨_, rfl⟩
      rw [← hA] at f0 l0 z0 e0
      have HL0 : Hid (Lm w A.a A.f A.n ∧ A.n * 32 ≤ 140737488355328 ∧ (A.a = none → A.n = 0 ∧ A.c = 0)) := ⟨l0, z0, e0⟩
      obtain ⟨aa, an, ac, af⟩ := A
      dsimp only at f0 HL0
      clear c0 l0 z0 e0 hA
      go_wp2_with fail
      go_loopw [3, 4, 22] (fun x y t w' => ∃ j : Nat, t = .int .i64 (j : Int) ∧ j ≤ n ∧ Hid (Xy w x y w')) (fun _ _ t _ => n - (RowKit.intOf t).toNat)
      case atStart => exact ⟨0, rfl, Nat.zero_le _, HX⟩
      case round =>
        obtain ⟨j, rfl, hj, HX2⟩ := hrel
        by_cases hjl : j < n
        · have hjj : (j : Int) < n := by omega
          have hb2 : 0 ≤ (j : Int) ∧ (j : Int) < (n : Int) := by omega
          obtain ⟨c1, l1, z1, e1⟩ := HC.out j hjl
          obtain ⟨ax, nx, cx, fx, ay, ny, cy, fy, rfl, rfl, ox, oy, hxy, bw⟩ := HX2.out
          have f1 := bcell2 bw c1
          obtain ⟨A, hA⟩ : ∃ A, A = q j := ⟨_, rfl⟩
          rw [← hA] at f1 l1 z1 e1
          have HL1 : Hid (Lm w A.a A.f A.n ∧ A.n * 32 ≤ 140737488355328 ∧ (A.a = none → A.n = 0 ∧ A.c = 0)) := ⟨l1, z1, e1⟩
          obtain ⟨ba, bn, bc, bf⟩ := A
          dsimp only at f1 HL1
          have k6 := rcompare_any aa ba an bn ac bc af bf _ (HL0.out.1.below bw) (HL1.out.1.below bw) (by have := HL0.out.2.1; omega) (by have := HL1.out.2.1; omega)
          have HOX : Hid (wr.ownsRow w.heap.size 25 2 (.slice ax nx cx) nx (lc fx nx) ∧ wr.ownsRow w.heap.size 25 2 (.slice ay ny cy) ny (lc fy ny) ∧ (∀ k, (Value.slice ax nx cx).ownBlock = some k → (Value.slice ay ny cy).ownBlock = some k → False) ∧ Below w.heap.size w wr) := ⟨ox, oy, hxy, bw⟩
          clear c1 l1 z1 e1 hA ox oy hxy bw
          go_wp2_with fail
          go_fit k6
          rintro e w2 ⟨rfl, b2⟩
          obtain ⟨a1, c1, w3, a2, c2, w4, r1, r2, o1, o2, h12, b4⟩ := xy_step (W := w2.drew) (ac := ac) (bc := bc) ((Kp.of (M := fun _ => False) b2.drew).row HOX.out.1 (fun _ _ => id)) ((Kp.of (M := fun _ => False) b2.drew).row HOX.out.2.1 (fun _ _ => id)) HOX.out.2.2.1 (HOX.out.2.2.2.trans (b2.drew.mono HOX.out.2.2.2.size)) HL0.out HL1.out
          have k5 := compareList_any a1 a2 an bn c1 c2 af bf w4 (Lm.of_row o1) (Lm.of_row o2) (by have := HL0.out.2.1; omega) (by have := HL1.out.2.1; omega)
          have HO4 : Hid (w4.ownsRow w.heap.size 25 2 (.slice a1 an c1) an (lc af an) ∧ w4.ownsRow w.heap.size 25 2 (.slice a2 bn c2) bn (lc bf bn) ∧ (∀ k, (Value.slice a1 an c1).ownBlock = some k → (Value.slice a2 bn c2).ownBlock = some k → False) ∧ Below w.heap.size w w4) := ⟨o1, o2, h12, b4⟩
          generalize cm af an bf bn = C at *
          clear k6 b2 HOX o1 o2 h12 b4 f1 HX2
          go_wp2_with fail
          go_region_law (first | refine step_append_run rfl (.tmp 30) (.tmp 31) 26 26 rfl _ _ rfl rfl r1 ?_ | refine step_append_run rfl (.tmp 34) (.tmp 35) 26 26 rfl _ _ rfl rfl r2 ?_)
          clear r1 r2
          go_wp2_with fail
          go_fit k5
          rintro e w5 ⟨rfl, b5⟩
          have HB5 : Hid (Below w.heap.size w w5 ∧ Below w4.heap.size w4 w5) := ⟨HO4.out.2.2.2.trans (b5.mono HO4.out.2.2.2.size), b5⟩
          have k7 := same_true a1 aa c1 ac an af w5 ((Lm.of_row HO4.out.1).below b5) (HL0.out.1.below HB5.out.1) (by have := HL0.out.2.1; omega)
          clear k5 b5
          go_wp2_with fail
          go_fit k7
          rintro e w6 ⟨rfl, b6⟩
          have HB6 : Hid (Below w.heap.size w w6 ∧ Below w4.heap.size w4 w6) := ⟨HB5.out.1.trans (b6.mono HB5.out.1.size), HB5.out.2.trans (b6.mono HB5.out.2.size)⟩
          have k8 := same_true a2 ba c2 bc bn bf w6 ((Lm.of_row HO4.out.2.1).below HB6.out.2) (HL1.out.1.below HB6.out.1) (by have := HL1.out.2.1; omega)
          clear k7 b6 HB5
          go_wp2_with fail
          go_fit k8
          rintro e w7 ⟨rfl, b7⟩
          have HXN : Hid (Xy w (.slice a1 an c1) (.slice a2 bn c2) w7) := by
            have b47 := HB6.out.2.trans (b7.mono HB6.out.2.size)
            exact ⟨a1, an, c1, af, a2, bn, c2, bf, rfl, rfl, (Kp.of (M := fun _ => False) b47).row HO4.out.1 (fun _ _ => id), (Kp.of (M := fun _ => False) b47).row HO4.out.2.1 (fun _ _ => id), HO4.out.2.2.1, HB6.out.1.trans (b7.mono HB6.out.1.size)⟩
          clear k8 b7 HB6 HO4
          go_wp2
          exact ⟨⟨j + 1, by go_num, by omega, HXN⟩, by simp [RowKit.intOf]; omega⟩
        · have hjj : ¬ (j : Int) < n := by omega
          go_wp2
          exact ⟨⟨i + 1, by go_num, by omega, HX2⟩, by simp [RowKit.intOf]; omega⟩
    · have hii : ¬ (i : Int) < n := by omega
      have HF : Hid (Below w.heap.size w wr) := by
        obtain ⟨_, _, _, _, _, _, _, _, _, _, _, _, _, b⟩ := HX.out
        exact b
      go_wp2
      go_ret
      exact ⟨rfl, HF.out⟩
end Go.Proofs.Ytjmninjaoemhjaa
