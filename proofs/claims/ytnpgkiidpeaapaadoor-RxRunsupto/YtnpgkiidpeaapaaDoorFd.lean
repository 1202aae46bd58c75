/- rx.Run. -/
import Derived.Test.YtnpgkiidpeaapaaDoorFc
namespace Go.Proofs.YtnpgkiidpeaapaaDoor
open Go.RowKit

/-- What a program finds in a text. -/
def Fd (x : Nat → In) (n : Nat) (st gr : Int) (nn : Nat) (s : ByteArray) (r : Option (Nat → Int)) : Prop := (SdB x n st gr nn = false ∧ r = none) ∨ (SdB x n st gr nn = true ∧ Res (sys x n s) (fun _ => true) [Sum.inl (st.toNat, 0)] (fun _ => false) (fun _ => -1) r)
theorem Fd.uniq {x : Nat → In} {n : Nat} {st gr : Int} {nn : Nat} {s : ByteArray} {r r' : Option (Nat → Int)} (h : Fd x n st gr nn s r) (h' : Fd x n st gr nn s r') : r = r' := by
  rcases h with ⟨a, b⟩ | ⟨a, b⟩ <;> rcases h' with ⟨a', b'⟩ | ⟨a', b'⟩
  · rw [b, b']
  · rw [a] at a'; cases a'
  · rw [a] at a'; cases a'
  · exact b.uniq b'
set_option maxHeartbeats 1000000 in
set_option maxRecDepth 100000 in
theorem run_any (ia : Option Addr) (n ic : Nat) (st gr : Int) (na : Option Addr) (nn nc : Nat) (x : Nat → In) (s : ByteArray) (w : World) (hI : Nml w ia x n) (hT : Lib.Utf8Tabs 0 1 w) (hn : n ≤ 1152921504606846976) (hnn : nn ≤ 1152921504606846976) (hs : s.size ≤ 2097152) :
    Calls Tryd.prog 5 #[prV ia n ic st gr na nn nc, .string s] w fun e w' => ∃ r v, Fd x n st gr nn s r ∧ e = .returned v ∧ Own w.heap.size w' v (fin s gr r) ∧ Below w.heap.size w w' := by
  obtain ⟨W, hW⟩ : ∃ W, W = w.alloc (prX ia n ic st gr na nn nc) := ⟨_, rfl⟩
  have b0 : Below w.heap.size w W := by rw [hW]; exact (Below.refl _ w).alloc (Nat.le_refl _) _
  have kS := sound_any ia n ic st gr na nn nc x W (hI.below b0) hn hnn
  have hWs : W.heap.size = w.heap.size + 1 := by rw [hW]; simp
  have HW : Hid (W = w.alloc (prX ia n ic st gr na nn nc)) := hW
  have HI : Hid (Nml w ia x n) := hI
  have HT : Hid (Lib.Utf8Tabs 0 1 w) := hT
  obtain ⟨p0, p1, p2, p3⟩ := prX_cells (w := w) (W := W) ia n ic st gr na nn nc (by rw [hW]; exact Below.refl _ _)
  rw [hW] at kS
  clear hI hT
  cases hsd : SdB x n st gr nn with
  | false =>
    rw [hsd] at kS
    have HF : Hid (Fd x n st gr nn s none) := .inl ⟨hsd, rfl⟩
    clear hsd
    go_enter Tryd.func5, Tryd.ntmps5
    go_wp2_with fail
    go_fit kS
    rintro e w1 ⟨rfl, b1⟩
    rw [← hW] at b1
    go_wp2
    go_ret
    exact ⟨none, _, HF.out, rfl, own_nil _ _, b0.trans (b1.mono b0.size)⟩
  | true =>
    rw [hsd] at kS
    obtain ⟨q1, q2, q3, q4, q5, q6⟩ := SdB_SIn hsd
    have HSD : Hid (SdB x n st gr nn = true) := hsd
    have HQ : Hid (∀ j, j < n → SIn (x j) n gr) := q6
    clear hsd q6
    go_enter Tryd.func5, Tryd.ntmps5
    go_wp2_with fail
    go_fit kS
    rintro e w1 ⟨rfl, b1⟩
    rw [← hW] at b1
    have b1' : Below w.heap.size w w1 := b0.trans (b1.mono b0.size)
    have g0 := bcell2 b1 p0
    have g1 := bcell2 b1 p1
    have g2 := bcell2 b1 p2
    have g3 := bcell2 b1 p3
    have kM := machineOf_any ia n ic st gr na nn nc x w1 (HI.out.below b1') q1 q2 q3 HQ.out
    clear kS
    go_wp2_with fail
    go_fit kM
    rintro e w2 ⟨jb, jc, rfl, hJ, b2⟩
    have b2' : Below w.heap.size w w2 := b1'.trans (b2.mono b1'.size)
    obtain ⟨W3, hW3⟩ : ∃ W3, W3 = w2.alloc (.cells (mC ia n ic st gr na nn nc jb jc (cj (jo x n st) n)) 41) := ⟨_, rfl⟩
    have b3 : Below w2.heap.size w2 W3 := by rw [hW3]; exact (Below.refl _ _).alloc (Nat.le_refl _) _
    have b3' : Below w.heap.size w W3 := b2'.trans (b3.mono b2'.size)
    have hblk : W3.heap[w2.heap.size]? = some (.cells (mC ia n ic st gr na nn nc jb jc (cj (jo x n st) n)) 41) := by rw [hW3]; exact heap_alloc_new _ _
    obtain ⟨⟨m0, m1, m2, m3, m4, m5⟩, _⟩ := six hblk
    have hJ3 := hJ.kp (Kp.of (M := fun _ => False) b3) id
    have MQ : Mq W3 x n st gr w2.heap.size ia ic na nn nc jb jc := ⟨⟨m0, m1, m2, m3, m4, m5, fun i hi => (hJ3.cell i hi).1⟩, HI.out.below b3', tabs_below HT.out (tabs_size HT.out) b3', HQ.out, q1, q2, q3, q4, q5⟩
    have kF := find_any W3 x n st gr s w2.heap.size ia ic na nn nc jb jc MQ hs
    rw [hW3] at kF
    clear kM m0 m1 m2 m3 m4 m5 hblk MQ hJ hJ3
    go_wp2_with fail
    go_fit kF
    rintro e w4 ⟨r, v, hr, rfl, hO, b4⟩
    rw [← hW3] at hO b4
    have hr2 := hr.joint (lone HQ.out q2)
    go_wp2
    go_ret
    refine ⟨r, v, .inr ⟨HSD.out, hr2⟩, rfl, ?_, b3'.trans (b4.mono b3'.size)⟩
    exact ⟨hO.1, hO.2.imp id (fun ⟨g', c', cu, e1, e2, e3⟩ => ⟨g', c', cu, e1, Nat.le_trans b3'.size e2, e3⟩)⟩
end Go.Proofs.YtnpgkiidpeaapaaDoor
