/- find, Run. -/
import Derived.Test.YtnpgkiidpeaapaaDoorFb
namespace Go.Proofs.YtnpgkiidpeaapaaDoor
open Go.RowKit

/-- The machine's own facts, ahead of a search. -/
structure Mq (w : World) (x : Nat → In) (n : Nat) (st gr : Int) (mb : Nat) (ia : Option Addr) (ic : Nat) (na : Option Addr) (nn nc jb jc : Nat) : Prop where
  mach : Mach w mb ia n ic st gr na nn nc jb jc (jtI (jo x n st)) (cj (jo x n st) n)
  ins : Nml w ia x n
  tabs : Lib.Utf8Tabs 0 1 w
  sin : ∀ j, j < n → SIn (x j) n gr
  hn : n ≤ 10000
  st0 : 0 ≤ st
  stn : st < (n : Int)
  gr0 : 0 ≤ gr
  grn : gr ≤ 100
/-- What a finding is as a list. -/
def fin (s : ByteArray) (gr : Int) : Option (Nat → Int) → List Int
  | none => []
  | some sl => (List.range (2 * (gr + 1)).toNat).map (upd (upd sl 0 0) 1 (s.size : Int))
def icells (xs : List Int) : List Value := xs.map (Value.int .i64)
theorem icells_sc (F : Nat → Int) (n : Nat) : icells ((List.range n).map F) = sc (slc F) n := by unfold icells sc slc; rw [List.map_map]; rfl
/-- A list of one's own in memory. -/
def Own (B : Nat) (W : World) (v : Value) (xs : List Int) : Prop := W.ownsRow B 3 1 v xs.length (icells xs)
theorem own_nil (B : Nat) (W : World) : Own B W (.slice none 0 0) [] := ⟨rfl, .inl ⟨rfl, rfl⟩⟩
theorem own_of {B : Nat} {W : World} {g c n : Nat} {F : Nat → Int} (h : Ri W B g c n F) : Own B W (.slice (some ⟨g, 0, none⟩) n c) ((List.range n).map F) := by
  unfold Own
  rw [icells_sc, List.length_map, List.length_range]
  exact h
set_option maxHeartbeats 1000000 in
set_option maxRecDepth 100000 in
theorem find_any (w : World) (x : Nat → In) (n : Nat) (st gr : Int) (s : ByteArray) (mb : Nat) (ia : Option Addr) (ic : Nat) (na : Option Addr) (nn nc jb jc : Nat) (h : Mq w x n st gr mb ia ic na nn nc jb jc) (hs : s.size ≤ 2097152) :
    Calls Tryd.prog 12 #[.pointer (some ⟨mb, 0, none⟩), .string s] w fun e w' => ∃ r v, Res (sys x n s) (jo x n st) [Sum.inl (st.toNat, 0)] (fun _ => false) (fun _ => -1) r ∧ e = .returned v ∧ Own w.heap.size w' v (fin s gr r) ∧ Below w.heap.size w w' := by
  have hgr0 := h.gr0
  have hgrn := h.grn
  obtain ⟨N, hN⟩ : ∃ N : Nat, (N : Int) = 2 * (gr + 1) := ⟨(2 * (gr + 1)).toNat, by omega⟩
  obtain ⟨W, hW⟩ : ∃ W, W = w.alloc (.cells #[.int .i64 (-1)] 3) := ⟨_, rfl⟩
  have b0 : Below w.heap.size w W := by rw [hW]; exact (Below.refl _ _).alloc (Nat.le_refl _) _
  have hx : W.cell? ⟨w.heap.size, 0, none⟩ = some (.int .i64 (-1)) := by
    rw [hW]
    unfold World.cell?
    rw [show (w.alloc (.cells #[.int .i64 (-1)] 3)).heap[w.heap.size]? = some (.cells #[.int .i64 (-1)] 3) from heap_alloc_new w _]
    rfl
  have kR := repeat_any w.heap.size N W hx (by omega) (by omega)
  rw [hN] at kR
  have m2 := h.mach.m2
  have m2' : (w.alloc (.cells #[.int .i64 (-1)] 3)).cell? ⟨mb, 2, none⟩ = some (.int .i64 gr) := cell_al _ m2
  have hmb : mb < w.heap.size := World.block_lt_of_cell? w _ m2
  have hWs : W.heap.size = w.heap.size + 1 := by rw [hW]; simp
  have HN : Hid ((N : Int) = 2 * (gr + 1)) := hN
  have H : Hid (Mq w x n st gr mb ia ic na nn nc jb jc) := h
  have hsi : (s.size : Int) ≤ 2097152 := by omega
  have hN2 : N ≤ 202 := by omega
  have hN1 : 2 ≤ N := by omega
  rw [hW] at kR
  clear h hN hx
  go_enter Tryd.func12, Tryd.ntmps12
  go_wp2_with fail
  go_fit kR
  rintro e w2 ⟨sb, rfl, hR, hb2⟩
  rw [← hW] at hR hb2
  have b2 : Below w.heap.size w w2 := b0.trans (hb2.mono b0.size)
  have hsb := hR.lt
  obtain ⟨k, hk⟩ : ∃ k : Cx, k = ⟨x, n, st, gr, s, mb, ia, ic, na, nn, nc, jb, jc, w2.heap.size, sb, N, N⟩ := ⟨_, rfl⟩
  have q := H.out
  have FX : Fix k w2 := by
    rw [hk]
    have hj0 : jb < w.heap.size := World.block_lt_of_cell? w _ (q.mach.js 0 (by have := q.stn; have := q.st0; omega))
    refine ⟨q.mach.below b2 hmb hj0, q.ins.below b2, tabs_below q.tabs (by have := tabs_size q.tabs; omega) b2, by show mb < sb; omega, by show jb < sb; omega, fun g o e => ?_, fun j hj h0 g o e => ?_, by show 1 < sb; have := tabs_size q.tabs; omega, q.sin, q.hn, hs, q.st0, q.stn, q.gr0, q.grn, HN.out⟩
    · obtain ⟨g', o', e', hg', _⟩ := q.ins.at 0 (by have := q.stn; have := q.st0; omega)
      have e1 : ia = some ⟨g, o, none⟩ := e
      rw [e1] at e'
      cases e'
      show g < sb
      omega
    · obtain ⟨_, _, _, _, _, _, _, _, _, hr, _⟩ := q.ins.at j hj
      obtain ⟨g', o', e', hg', _⟩ := hr.at 0 h0
      have e1 : (x j).ra = some ⟨g, o, none⟩ := e
      rw [e1] at e'
      cases e'
      show g < sb
      omega
  have RK : w2.ownsRow 0 3 1 (.slice (some ⟨k.sb, 0, none⟩) k.sn k.sp) k.sn (sc (slc fun _ => -1) k.sn) := by
    rw [hk]
    exact ⟨hR.1, hR.2.imp id (fun ⟨g', c', cu, e1, _, e3⟩ => ⟨g', c', cu, e1, Nat.zero_le _, e3⟩)⟩
  have kT := takes_any k w2 (fun _ => -1) FX (by rw [hk]) RK
  have e0 : k.y = sys x n s := by rw [hk]
  have e1 : k.J = jo x n st := by rw [hk]
  have e2 : k.s0 = (st.toNat, 0) := by rw [hk]
  have kT' : Calls Tryd.prog 20 #[.pointer (some ⟨mb, 0, none⟩), .string s, .slice (some ⟨sb, 0, none⟩) N N] w2 fun e w' => ∃ r, Res (sys x n s) (jo x n st) [Sum.inl (st.toNat, 0)] (fun _ => false) (fun _ => -1) r ∧ e = .returned (.bool r.isSome) ∧ Below sb w2 w' ∧ ∀ sl, r = some sl → w'.ownsRow 0 3 1 (.slice (some ⟨sb, 0, none⟩) N N) N (sc (slc sl) N) := by
    have := kT
    unfold GW at this
    rw [e0, e1, e2, hk] at this
    exact this
  clear kT RK FX e0 e1 e2 hk kR
  go_wp2_with fail
  go_fit kT'
  rintro e w3 ⟨r, hr, rfl, b3, hsl⟩
  have b3' : Below w.heap.size w w3 := b2.trans (b3.mono (by omega))
  cases r with
  | none =>
    have HR : Hid _ := hr
    clear kT' hsl hr
    go_wp2
    go_ret
    exact ⟨none, _, HR.out, rfl, own_nil _ _, b3'⟩
  | some sl =>
    have R0 : Ri w3 0 sb N N sl := hsl sl rfl
    have R1 := R0.put 0 (by omega) 0
    have R2 := R1.put 1 (by omega) (s.size : Int)
    obtain ⟨a1, a2⟩ := R0.cell 0 (by omega)
    obtain ⟨a3, a4⟩ := R1.cell 1 (by omega)
    have kk := ((Kp.refl (· = sb) w3).setCell (p := ⟨sb, 0, none⟩) rfl (.int .i64 0)).setCell (p := ⟨sb, 1, none⟩) rfl (.int .i64 (s.size : Int))
    have b4 := b3'.trans (kk.below (by have := b3'.size; omega) (fun i hi e => by omega))
    have R3 : Ri ((w3.setCell ⟨sb, 0, none⟩ (.int .i64 0)).setCell ⟨sb, 1, none⟩ (.int .i64 (s.size : Int))) w.heap.size sb N N (upd (upd sl 0 0) 1 (s.size : Int)) := ⟨R2.1, R2.2.imp id (fun ⟨g', c', cu, e1, _, e3⟩ => ⟨g', c', cu, e1, by cases e1; omega, e3⟩)⟩
    have O3 := own_of R3
    have eN : (2 * (gr + 1)).toNat = N := by have := HN.out; omega
    have HO : Hid (Own w.heap.size ((w3.setCell ⟨sb, 0, none⟩ (.int .i64 0)).setCell ⟨sb, 1, none⟩ (.int .i64 (s.size : Int))) (.slice (some ⟨sb, 0, none⟩) N N) (fin s gr (some sl))) := by
      show Own _ _ _ ((List.range (2 * (gr + 1)).toNat).map _)
      rw [eN]
      exact O3
    have HR : Hid _ := hr
    have HB : Hid _ := b4
    have hNi : (2 : Int) ≤ (N : Int) := by omega
    have h0i : (0 : Int) < (N : Int) := by omega
    have h1i : (1 : Int) < (N : Int) := by omega
    clear kT' hsl hr R0 R1 R2 R3 O3 eN kk b4
    generalize sl 0 = v0 at *
    generalize upd sl 0 0 1 = v1 at *
    go_wp2
    go_ret
    exact ⟨some sl, _, HR.out, rfl, HO.out, HB.out⟩
end Go.Proofs.YtnpgkiidpeaapaaDoor
