/- A bundle of texts. -/
import Derived.Test.YtjmninjaoemhjaaDoorBv02
import Derived.Deep.Cut
import Derived.BigQuiet
/- Labels: copied, Get, Make of two labels. -/
namespace Go.Proofs.YtjmninjaoemhjaaDoor
open Go.RowKit Go.Lib

set_option maxHeartbeats 4000000 in
theorem copied_any (x : Lb) (w : World) (h1 : x.1.size ≤ 140737488355328) (h2 : x.2.size ≤ 140737488355328) : Calls Tryd.prog 29 #[lbV x] w fun e w' => e = .returned (lbV x) ∧ Below w.heap.size w w' := by
  obtain ⟨x1, x2⟩ := x
  have K1 : Hid (∀ W, Calls Tryd.prog 35 #[.string x1] W fun e w' => e = .returned (.string x1) ∧ Below W.heap.size W w') := fun W => clone_any x1 W h1
  have K2 : Hid (∀ W, Calls Tryd.prog 35 #[.string x2] W fun e w' => e = .returned (.string x2) ∧ Below W.heap.size W w') := fun W => clone_any x2 W h2
  clear h1 h2
  have e1 : (w.alloc (lbX (x1, x2))).heap[w.heap.size]? = some (lbX (x1, x2)) := heap_alloc_new w _
  have e2 : ((w.alloc (lbX (x1, x2))).alloc (lbX (⟨#[]⟩, ⟨#[]⟩))).heap[w.heap.size + 1]? = some (lbX (⟨#[]⟩, ⟨#[]⟩)) := by have := heap_alloc_new (w.alloc (lbX (x1, x2))) (lbX (⟨#[]⟩, ⟨#[]⟩)); simpa using this
  have b1 : Below (w.alloc (lbX (x1, x2))).heap.size (w.alloc (lbX (x1, x2))) ((w.alloc (lbX (x1, x2))).alloc (lbX (⟨#[]⟩, ⟨#[]⟩))) := (Below.refl _ _).alloc (Nat.le_refl _) _
  have a0 : ((w.alloc (lbX (x1, x2))).alloc (lbX (⟨#[]⟩, ⟨#[]⟩))).cell? ⟨w.heap.size, 0, none⟩ = some (.string x1) := bcell2 b1 (by unfold World.cell?; rw [e1]; rfl)
  have a1 : ((w.alloc (lbX (x1, x2))).alloc (lbX (⟨#[]⟩, ⟨#[]⟩))).cell? ⟨w.heap.size, 1, none⟩ = some (.string x2) := bcell2 b1 (by unfold World.cell?; rw [e1]; rfl)
  have z0 : ((w.alloc (lbX (x1, x2))).alloc (lbX (⟨#[]⟩, ⟨#[]⟩))).cell? ⟨w.heap.size + 1, 0, none⟩ = some (.string ⟨#[]⟩) := by unfold World.cell?; rw [e2]; rfl
  have z1 : ((w.alloc (lbX (x1, x2))).alloc (lbX (⟨#[]⟩, ⟨#[]⟩))).cell? ⟨w.heap.size + 1, 1, none⟩ = some (.string ⟨#[]⟩) := by unfold World.cell?; rw [e2]; rfl
  have zf : ∀ o, ((w.alloc (lbX (x1, x2))).alloc (lbX (⟨#[]⟩, ⟨#[]⟩))).frozen? ⟨w.heap.size + 1, o, none⟩ = false := fun o => by unfold World.frozen?; rw [e2]; simp
  have HB : Hid (Below w.heap.size w ((w.alloc (lbX (x1, x2))).alloc (lbX (⟨#[]⟩, ⟨#[]⟩)))) := ((Below.refl _ w).alloc (Nat.le_refl _) _).alloc (by simp) _
  clear e1 e2 b1
  go_enter Tryd.func29, Tryd.ntmps29
  go_wp2_with fail
  generalize (w.alloc (lbX (x1, x2))).alloc (lbX (⟨#[]⟩, ⟨#[]⟩)) = W at *
  have HS : Hid (∀ w', Below W.heap.size W w' → w'.cell? ⟨w.heap.size, 0, none⟩ = some (.string x1) ∧ w'.cell? ⟨w.heap.size, 1, none⟩ = some (.string x2)) := fun w' b => ⟨bcell2 b a0, bcell2 b a1⟩
  have HZ : Hid (∀ w', Below W.heap.size W w' → w'.cell? ⟨w.heap.size + 1, 0, none⟩ = some (.string ⟨#[]⟩) ∧ w'.cell? ⟨w.heap.size + 1, 1, none⟩ = some (.string ⟨#[]⟩) ∧ ∀ o, w'.frozen? ⟨w.heap.size + 1, o, none⟩ = false) := fun w' b => ⟨bcell2 b z0, bcell2 b z1, fun o => (b.frozen (p := ⟨w.heap.size + 1, o, none⟩) (show w.heap.size + 1 < W.heap.size from World.block_lt_of_cell? W _ z0)).trans (zf o)⟩
  have HST : Hid (∀ w', Below W.heap.size W w' → ((w'.setCell ⟨w.heap.size + 1, 0, none⟩ (.string x1)).setCell ⟨w.heap.size + 1, 1, none⟩ (.string x2)).cell? ⟨w.heap.size, 0, none⟩ = some (.string x1) ∧ ((w'.setCell ⟨w.heap.size + 1, 0, none⟩ (.string x1)).setCell ⟨w.heap.size + 1, 1, none⟩ (.string x2)).cell? ⟨w.heap.size, 1, none⟩ = some (.string x2)) := fun w' b => by
    obtain ⟨s0, s1⟩ := HS.out w' b
    constructor
    · rw [World.cell?_setCell_other _ _ _ _ (by simp), World.cell?_setCell_other _ _ _ _ (by simp)]; exact s0
    · rw [World.cell?_setCell_other _ _ _ _ (by simp), World.cell?_setCell_other _ _ _ _ (by simp)]; exact s1
  clear z0 z1 zf
  go_region_held3 (fun w' => w'.cell? ⟨w.heap.size, 0, none⟩ = some (.string x1) ∧ w'.cell? ⟨w.heap.size, 1, none⟩ = some (.string x2)) (first | exact ⟨a0, a1⟩ | exact HS.out _ (by assumption) | exact HST.out _ (by assumption)) ((first | (go_at_call 35; go_fit (K1.out W.drew); rintro e w2 ⟨rfl, b2⟩; have b2' := undrew b2) | (go_at_call 35; go_fit (K2.out _); rintro e w3 ⟨rfl, b3⟩; have b3' : Below W.heap.size W _ := b2'.trans (b3.mono b2'.size); have zz := HZ.out _ b3'; obtain ⟨z0, z1, zf⟩ := zz)))
  have r0 : ((w3.setCell ⟨w.heap.size + 1, 0, none⟩ (.string x1)).setCell ⟨w.heap.size + 1, 1, none⟩ (.string x2)).cell? ⟨w.heap.size + 1, 0, none⟩ = some (.string x1) := by
    rw [World.cell?_setCell_other _ _ _ _ (by simp)]
    exact World.cell?_setCell_same' _ _ _ (by rw [z0]; rfl)
  have r1 : ((w3.setCell ⟨w.heap.size + 1, 0, none⟩ (.string x1)).setCell ⟨w.heap.size + 1, 1, none⟩ (.string x2)).cell? ⟨w.heap.size + 1, 1, none⟩ = some (.string x2) := World.cell?_setCell_same' _ _ _ (by rw [World.cell?_setCell_other _ _ _ _ (by simp), z1]; rfl)
  have HF : Hid (Below w.heap.size w ((w3.setCell ⟨w.heap.size + 1, 0, none⟩ (.string x1)).setCell ⟨w.heap.size + 1, 1, none⟩ (.string x2))) := by
    have bw := HB.out.trans (b3'.mono HB.out.size)
    have k : Kp (· = w.heap.size + 1) w3 ((w3.setCell ⟨w.heap.size + 1, 0, none⟩ (.string x1)).setCell ⟨w.heap.size + 1, 1, none⟩ (.string x2)) := ((Kp.refl (· = w.heap.size + 1) w3).setCell (p := ⟨w.heap.size + 1, 0, none⟩) rfl _).setCell (p := ⟨w.heap.size + 1, 1, none⟩) rfl _
    exact bw.trans (k.below bw.size (fun i hi e => by omega))
  rename_i hHeld
  clear hHeld z0 z1 zf b2 b2' b3 b3' HS HZ HST a0 a1
  generalize (w3.setCell ⟨w.heap.size + 1, 0, none⟩ (.string x1)).setCell ⟨w.heap.size + 1, 1, none⟩ (.string x2) = W4 at *
  go_wp2
  refine bodyPost_ret (v := lbV (x1, x2)) (by simp [results, Tryd.results29, go_sem, r0, r1]) rfl ⟨rfl, HF.out⟩
set_option maxHeartbeats 4000000 in
set_option maxRecDepth 100000 in
theorem valueOf2 (g c : Nat) (x y : Lb) (n : ByteArray) (w : World) (h : C4 w g x y) (hx : (x.1.toList == n.toList) = false) (hy : (y.1.toList == n.toList) = true) : Calls Tryd.prog 36 #[.slice (some ⟨g, 0, none⟩) 2 c, .string n] w fun e w' => e = .returned (.string y.2) ∧ Below w.heap.size w w' := by
  have HC : Hid (C4 w g x y) := h
  obtain ⟨x1, x2⟩ := x
  obtain ⟨y1, y2⟩ := y
  dsimp only at hx hy
  clear h
  go_enter Tryd.func36, Tryd.ntmps36
  go_wp2_with fail
  go_loopw [9] (fun t w' => (t = .int .i64 0 ∨ t = .int .i64 1) ∧ Hid (Below w.heap.size w w')) (fun t _ => 1 - (RowKit.intOf t).toNat)
  case atStart => exact ⟨.inl rfl, Below.refl _ _⟩
  case round =>
    obtain ⟨hj, HW⟩ := hrel
    obtain ⟨c0, c1, c2, c3, _⟩ := HC.out.below HW.out
    dsimp only at c0 c1 c2 c3
    rcases hj with rfl | rfl
    · have HN : Hid (Below w.heap.size w (wr.alloc (lbX (x1, x2)))) := HW.out.alloc HW.out.size _
      go_wp2
      exact ⟨⟨.inr rfl, HN⟩, by decide⟩
    · have HN : Hid (Below w.heap.size w (wr.alloc (lbX (y1, y2)))) := HW.out.alloc HW.out.size _
      go_wp2
      go_ret
      exact ⟨rfl, HN.out⟩
set_option maxHeartbeats 1000000 in
theorem get2 (g c : Nat) (x y : Lb) (n : ByteArray) (w : World) (h : C4 w g x y) (hx : (x.1.toList == n.toList) = false) (hy : (y.1.toList == n.toList) = true) (hs : y.2.size ≤ 140737488355328) : Calls Tryd.prog 12 #[.slice (some ⟨g, 0, none⟩) 2 c, .string n] w fun e w' => e = .returned (.string y.2) ∧ Below w.heap.size w w' := by
  have k1 := valueOf2 g c x y n w h hx hy
  have HK : Hid (∀ W, Calls Tryd.prog 35 #[.string y.2] W fun e w' => e = .returned (.string y.2) ∧ Below W.heap.size W w') := fun W => clone_any y.2 W hs
  clear h hx hy hs
  go_enter Tryd.func12, Tryd.ntmps12
  go_wp2_with fail
  go_fit k1
  rintro e w1 ⟨rfl, b1⟩
  have k2 := HK.out w1
  have H1 : Hid (Below w.heap.size w w1) := b1
  clear k1 b1
  go_wp2_with fail
  go_fit k2
  rintro e w2 ⟨rfl, b2⟩
  have H2 : Hid (Below w.heap.size w w2) := H1.out.trans (b2.mono H1.out.size)
  clear k2 b2
  go_wp2
  go_ret
  exact ⟨rfl, H2.out⟩
end Go.Proofs.YtjmninjaoemhjaaDoor
/- Labels: names of any kind; the value of a name in any list. -/
namespace Go.Proofs.YtjmninjaoemhjaaDoor
open Go.RowKit Go.Lib

/-- A sign that a name may begin with; a digit; a further sign. -/
def fiB (c : Int) : Bool := decide (97 ≤ c) && decide (c ≤ 122) || decide (65 ≤ c) && decide (c ≤ 90) || decide (c = 95)
def dgB (c : Int) : Bool := decide (48 ≤ c) && decide (c ≤ 57)
def laB (c : Int) : Bool := fiB c || dgB c
set_option maxHeartbeats 1000000 in
theorem isFirst_any (c : Int) (w : World) : Calls Tryd.prog 54 #[.int .u8 c] w fun e w' => e = .returned (.bool (fiB c)) ∧ w' = w := by
  obtain ⟨b, hb⟩ : ∃ b, fiB c = b := ⟨_, rfl⟩
  have HB : Hid (fiB c = b) := hb
  rw [hb]
  clear hb
  have h6 : (c == 95) = decide (c = 95) := rfl
  by_cases h1 : 97 ≤ c <;> by_cases h2 : c ≤ 122 <;> by_cases h3 : 65 ≤ c <;> by_cases h4 : c ≤ 90 <;> by_cases h5 : c = 95 <;> first
    | omega
    | (simp only [fiB, h1, h2, h3, h4, h5, decide_true, decide_false, Bool.and_true, Bool.and_false, Bool.or_true, Bool.or_false] at HB h6
       go_enter Tryd.func54, Tryd.ntmps54
       go_wp2
       go_ret
       refine ⟨?_, rfl⟩
       rw [← HB.out]
       first | rfl | simp [h6] | simp [h5])
set_option maxHeartbeats 1000000 in
theorem isDigit_any (c : Int) (w : World) : Calls Tryd.prog 72 #[.int .u8 c] w fun e w' => e = .returned (.bool (dgB c)) ∧ w' = w := by
  obtain ⟨b, hb⟩ : ∃ b, dgB c = b := ⟨_, rfl⟩
  have HB : Hid (dgB c = b) := hb
  rw [hb]
  clear hb
  by_cases h1 : 48 ≤ c <;> by_cases h2 : c ≤ 57 <;> first
    | omega
    | (simp only [dgB, h1, h2, decide_true, decide_false, Bool.and_true, Bool.and_false] at HB
       go_enter Tryd.func72, Tryd.ntmps72
       go_wp2
       go_ret
       refine ⟨?_, rfl⟩
       rw [← HB.out]
       first | rfl | simp)
set_option maxHeartbeats 1000000 in
theorem isLater_any (c : Int) (w : World) : Calls Tryd.prog 53 #[.int .u8 c] w fun e w' => e = .returned (.bool (laB c)) ∧ w' = w := by
  have k1 := isFirst_any c w
  have k2 := isDigit_any c w
  obtain ⟨b, hb⟩ : ∃ b, laB c = b := ⟨_, rfl⟩
  have HB : Hid (laB c = b) := hb
  rw [hb]
  clear hb
  unfold laB at HB
  generalize fiB c = f at *
  generalize dgB c = d at *
  cases f
  · go_enter Tryd.func53, Tryd.ntmps53
    go_wp2_with fail
    go_fit k1
    rintro e w1 ⟨rfl, rfl⟩
    go_wp2_with fail
    go_fit k2
    rintro e w1 ⟨rfl, rfl⟩
    go_wp2
    go_ret
    exact ⟨by rw [← HB.out]; rfl, rfl⟩
  · go_enter Tryd.func53, Tryd.ntmps53
    go_wp2_with fail
    go_fit k1
    rintro e w1 ⟨rfl, rfl⟩
    go_wp2
    go_ret
    exact ⟨by rw [← HB.out]; rfl, rfl⟩
/-- The sign at a place. -/
def bt (s : ByteArray) (i : Nat) : Int := ((s.get! i).toNat : Int)
theorem get!_in (s : ByteArray) (k : Nat) (h : k < s.size) : s.get! k = s[k]'h := by
  cases s with
  | mk d => exact getElem!_pos d k h
/-- All signs from a place on are further ones. -/
def lbF (s : ByteArray) : Nat → Nat → Bool
  | 0, _ => true
  | n + 1, i => laB (bt s i) && lbF s n (i + 1)
/-- A label's name. -/
def lbN (s : ByteArray) : Bool := lbF s s.size 0 && (decide (0 < s.size) && fiB (bt s 0))
theorem nil_iff (s : ByteArray) : s.toList = [] ↔ s.size = 0 := by
  rw [Lib.toList_data]
  obtain ⟨d⟩ := s
  show d.toList = [] ↔ d.size = 0
  simp
set_option maxHeartbeats 4000000 in
set_option maxRecDepth 100000 in
theorem isLabel_any (s : ByteArray) (w : World) (hs : s.size ≤ 140737488355328) : Calls Tryd.prog 27 #[.string s] w fun e w' => e = .returned (.bool (lbN s)) ∧ w' = w := by
  obtain ⟨b, hb⟩ : ∃ b, lbN s = b := ⟨_, rfl⟩
  have HB : Hid (lbN s = b) := hb
  rw [hb]
  clear hb
  have k1 : Hid (∀ c W, Calls Tryd.prog 53 #[.int .u8 c] W fun e w' => e = .returned (.bool (laB c)) ∧ w' = W) := fun c W => isLater_any c W
  have k2 := isFirst_any (bt s 0) w
  have HNE : Hid (s.toList = [] ↔ s.size = 0) := nil_iff s
  have hsi : (s.size : Int) ≤ 140737488355328 := by omega
  go_enter Tryd.func27, Tryd.ntmps27
  go_wp2_with fail
  go_loopw [6] (fun t w' => ∃ i f : Nat, t = .int .i64 (i : Nat) ∧ i + f = s.size ∧ Hid (lbF s s.size 0 = lbF s f i) ∧ w' = w) (fun t _ => s.size - (RowKit.intOf t).toNat)
  case atStart => exact ⟨0, s.size, rfl, by omega, rfl, rfl⟩
  case round =>
    obtain ⟨i, f, rfl, hif, hv, rfl⟩ := hrel
    by_cases hlt : i < s.size
    · have hii : (i : Int) < (s.size : Int) := by omega
      obtain ⟨g, rfl⟩ : ∃ g, f = g + 1 := ⟨f - 1, by omega⟩
      have K := k1.out (bt s i) wr
      have HV : Hid (lbF s s.size 0 = (laB (bt s i) && lbF s g (i + 1))) := hv
      clear hv
      generalize hla : laB (bt s i) = q at *
      clear hla
      have e0 : bt s i = ((s[i]'hlt).toNat : Int) := by unfold bt; rw [get!_in s i hlt]
      rw [e0] at K
      clear e0
      go_wp2_with fail
      go_fit K
      rintro e w1 ⟨rfl, rfl⟩
      cases q
      · have HE : Hid (b = false) := by
          have := HB.out
          unfold lbN at this
          rw [HV.out] at this
          exact (this.symm).trans (by simp)
        go_wp2
        go_ret
        exact ⟨by rw [HE.out]; rfl, rfl⟩
      · have HE : Hid (lbF s s.size 0 = lbF s g (i + 1)) := HV.out.trans (by simp)
        go_wp2
        exact ⟨⟨i + 1, g, by go_num, by omega, HE, trivial⟩, by simp [RowKit.intOf]; omega⟩
    · have hii : ¬ (i : Int) < (s.size : Int) := by omega
      obtain rfl : f = 0 := by omega
      have HE : Hid (b = (decide (0 < s.size) && fiB (bt s 0))) := by
        have := HB.out
        unfold lbN at this
        rw [hv.out] at this
        exact this.symm
      clear hv
      by_cases h0 : s.size = 0
      · have hne : s.toList = [] := HNE.out.2 h0
        have HE2 : Hid (b = false) := HE.out.trans (by simp [h0])
        clear h0
        go_wp2
        go_ret
        exact ⟨by rw [HE2.out]; rfl, rfl⟩
      · have hne : ¬ s.toList = [] := fun h => h0 (HNE.out.1 h)
        have hem : s.toList.isEmpty = false := by cases h : s.toList <;> simp_all
        have h0p : 0 < s.size := by omega
        have h0i : (0 : Int) < (s.size : Int) := by omega
        have HE2 : Hid (b = fiB (bt s 0)) := HE.out.trans (by simp [h0p])
        clear h0
        have e0 : bt s 0 = ((s[0]'h0p).toNat : Int) := by unfold bt; rw [get!_in s 0 h0p]
        rw [e0] at k2 HE2
        clear e0
        go_wp2_with fail
        go_fit k2
        rintro e w1 ⟨rfl, rfl⟩
        go_wp2
        go_ret
        exact ⟨by rw [HE2.out]; rfl, rfl⟩
end Go.Proofs.YtjmninjaoemhjaaDoor
/- Labels: the value of a name in any list. -/
namespace Go.Proofs.YtjmninjaoemhjaaDoor
open Go.RowKit Go.Lib

/-- The value of the first label of a name, from a place on. -/
def gvF (f : Nat → Lb) (nm : ByteArray) : Nat → Nat → ByteArray
  | 0, _ => ⟨#[]⟩
  | n + 1, i => if (f i).1.toList == nm.toList then (f i).2 else gvF f nm n (i + 1)
set_option maxHeartbeats 2000000 in
set_option maxRecDepth 100000 in
theorem valueOf_any (a : Option Addr) (f : Nat → Lb) (n c : Nat) (nm : ByteArray) (w : World) (hL : Lm w a f n) (hn : n ≤ 140737488355328) :
    Calls Tryd.prog 36 #[.slice a n c, .string nm] w fun e w' => e = .returned (.string (gvF f nm n 0)) ∧ Below w.heap.size w w' := by
  have HL : Hid (Lm w a f n) := hL
  have hni : (n : Int) ≤ 140737488355328 := by omega
  obtain ⟨v, hv⟩ : ∃ v, gvF f nm n 0 = v := ⟨_, rfl⟩
  rw [hv]
  have HV : Hid (gvF f nm n 0 = v) := hv
  clear hL hv
  go_enter Tryd.func36, Tryd.ntmps36
  go_wp2_with fail
  go_loopw [9] (fun t w' => ∃ i k : Nat, t = .int .i64 (i : Nat) ∧ i + k = n ∧ Hid (gvF f nm k i = v) ∧ Hid (Below w.heap.size w w')) (fun t _ => n - (RowKit.intOf t).toNat)
  case atStart => exact ⟨0, n, rfl, by omega, HV, Below.refl _ _⟩
  case round =>
    obtain ⟨i, k, rfl, hik, hv, hb⟩ := hrel
    by_cases hlt : i < n
    · have hii : (i : Int) < (n : Int) := by omega
      obtain ⟨m, rfl⟩ : ∃ m, k = m + 1 := ⟨k - 1, by omega⟩
      obtain ⟨g, o, rfl, hg, c0, c1⟩ := (HL.out.below hb.out).at i hlt
      have HN : Hid (Below w.heap.size w (wr.alloc (lbX (f i)))) := hb.out.alloc hb.out.size _
      have HG : Hid ((if (f i).1.toList == nm.toList then (f i).2 else gvF f nm m (i + 1)) = v) := hv
      clear hv hb
      obtain ⟨x, hx⟩ : ∃ x, f i = x := ⟨_, rfl⟩
      rw [hx] at c0 c1 HN HG
      clear hx
      obtain ⟨x1, x2⟩ := x
      dsimp only at c0 c1
      by_cases he : (x1.toList == nm.toList) = true
      · have HE : Hid (x2 = v) := by
          have := HG.out
          dsimp only at this
          rw [if_pos he] at this
          exact this
        go_wp2
        go_ret
        exact ⟨by rw [← HE.out]; rfl, HN.out⟩
      · have HE : Hid (gvF f nm m (i + 1) = v) := by
          have := HG.out
          dsimp only at this
          rw [if_neg he] at this
          exact this
        have he : (x1.toList == nm.toList) = false := by simpa using he
        go_wp2
        exact ⟨⟨i + 1, m, by go_num, by omega, HE, HN⟩, by simp [RowKit.intOf]; omega⟩
    · have hii : ¬ (i : Int) < (n : Int) := by omega
      obtain rfl : k = 0 := by omega
      have HE : Hid (v = ⟨#[]⟩) := hv.out.symm
      clear hv
      go_wp2
      go_ret
      exact ⟨by rw [HE.out]; rfl, hb.out⟩
theorem gvF_size (f : Nat → Lb) (nm : ByteArray) (M : Nat) : ∀ k i, (∀ j, j < i + k → (f j).2.size ≤ M) → (gvF f nm k i).size ≤ M
  | 0, _, _ => Nat.zero_le _
  | k + 1, i, h => by
    unfold gvF
    split
    · exact h i (by omega)
    · exact gvF_size f nm M k (i + 1) (fun j hj => h j (by omega))
set_option maxHeartbeats 1000000 in
theorem get_any (a : Option Addr) (f : Nat → Lb) (n c : Nat) (nm : ByteArray) (w : World) (hL : Lm w a f n) (hn : n ≤ 140737488355328) (hs : ∀ j, j < n → (f j).2.size ≤ 140737488355328) :
    Calls Tryd.prog 12 #[.slice a n c, .string nm] w fun e w' => e = .returned (.string (gvF f nm n 0)) ∧ Below w.heap.size w w' := by
  have k1 := valueOf_any a f n c nm w hL hn
  have hsz := gvF_size f nm 140737488355328 n 0 (fun j hj => hs j (by omega))
  generalize gvF f nm n 0 = v at *
  have HK : Hid (∀ W, Calls Tryd.prog 35 #[.string v] W fun e w' => e = .returned (.string v) ∧ Below W.heap.size W w') := fun W => clone_any v W hsz
  clear hL hs hsz
  go_enter Tryd.func12, Tryd.ntmps12
  go_wp2_with fail
  go_fit k1
  rintro e w1 ⟨rfl, b1⟩
  have k2 := HK.out w1
  have H1 : Hid (Below w.heap.size w w1) := b1
  clear k1 b1
  go_wp2_with fail
  go_fit k2
  rintro e w2 ⟨rfl, b2⟩
  have H2 : Hid (Below w.heap.size w w2) := H1.out.trans (b2.mono H1.out.size)
  clear k2 b2
  go_wp2
  go_ret
  exact ⟨rfl, H2.out⟩
end Go.Proofs.YtjmninjaoemhjaaDoor
/- Labels: Valid of any list. -/
namespace Go.Proofs.YtjmninjaoemhjaaDoor
open Go.RowKit Go.Lib

/-- A label that may stand at its place. -/
def okL (f : Nat → Lb) (i : Nat) : Bool := lbN (f i).1 && (!(f i).2.toList.isEmpty && (vld (f i).2 (f i).2.size 0 && (decide (i = 0) || Op.bytesLess (f (i - 1)).1.toList (f i).1.toList)))
/-- Labels from a place on that are a set. -/
def vaF (f : Nat → Lb) : Nat → Nat → Bool
  | 0, _ => true
  | n + 1, i => okL f i && vaF f n (i + 1)
set_option maxHeartbeats 4000000 in
set_option maxRecDepth 100000 in
theorem validL_any (a : Option Addr) (f : Nat → Lb) (n c : Nat) (w : World) (hL : Lm w a f n) (hn : n ≤ 140737488355328) (hs : ∀ j, j < n → (f j).1.size ≤ 140737488355328 ∧ (f j).2.size ≤ 140737488355328) (hT : Lib.Utf8Tabs 1 2 w) :
    Calls Tryd.prog 14 #[.slice a n c] w fun e w' => e = .returned (.bool (vaF f n 0)) ∧ Below w.heap.size w w' := by
  have HL : Hid (Lm w a f n) := hL
  have HS : Hid (∀ j, j < n → (f j).1.size ≤ 140737488355328 ∧ (f j).2.size ≤ 140737488355328) := hs
  have HT : Hid (Lib.Utf8Tabs 1 2 w) := hT
  have HZ : Hid (2 < w.heap.size) := tabs_size hT
  have hni : (n : Int) ≤ 140737488355328 := by omega
  obtain ⟨v, hv⟩ : ∃ v, vaF f n 0 = v := ⟨_, rfl⟩
  rw [hv]
  have HV : Hid (vaF f n 0 = v) := hv
  clear hL hv hs hT
  go_enter Tryd.func14, Tryd.ntmps14
  go_wp2_with fail
  go_loopw [7] (fun t w' => ∃ i k : Nat, t = .int .i64 (i : Nat) ∧ i + k = n ∧ Hid (vaF f k i = v) ∧ Hid (Below w.heap.size w w')) (fun t _ => n - (RowKit.intOf t).toNat)
  case atStart => exact ⟨0, n, rfl, by omega, HV, Below.refl _ _⟩
  case round =>
    obtain ⟨i, k, rfl, hik, hv, hb⟩ := hrel
    by_cases hlt : i < n
    · have hii : (i : Int) < (n : Int) := by omega
      obtain ⟨m, rfl⟩ : ∃ m, k = m + 1 := ⟨k - 1, by omega⟩
      obtain ⟨g, o, rfl, hg, c0, c1⟩ := (HL.out.below hb.out).at i hlt
      obtain ⟨s1, s2⟩ := HS.out i hlt
      have HG : Hid ((okL f i && vaF f m (i + 1)) = v) := hv
      clear hv
      have bA : Below w.heap.size w (wr.alloc (lbX (f i))) := hb.out.alloc hb.out.size _
      have kA := isLabel_any (f i).1 (wr.alloc (lbX (f i))) s1
      have kV := valid_any (f i).2 (wr.alloc (lbX (f i))) (by unfold maxLen; omega) (tabs_below HT.out HZ.out bA)
      have HN : Hid (Below w.heap.size w (wr.alloc (lbX (f i)))) := bA
      have HP : Hid (0 < i → ∃ j, i = j + 1 ∧ wr.cell? ⟨g, o + j * 2, none⟩ = some (.string (f j).1)) := (show _ → _ from fun h => by
        obtain ⟨g', o', e', _, d0, _⟩ := (HL.out.below hb.out).at (i - 1) (by omega)
        cases e'
        exact ⟨i - 1, by omega, d0⟩)
      have HO : Hid (okL f i = (lbN (f i).1 && (!(f i).2.toList.isEmpty && (vld (f i).2 (f i).2.size 0 && (decide (i = 0) || Op.bytesLess (f (i - 1)).1.toList (f i).1.toList))))) := (show _ = _ from rfl)
      obtain ⟨x, hx⟩ : ∃ x, f i = x := ⟨_, rfl⟩
      rw [hx] at c0 c1 HN HO kA kV s1 s2
      clear bA hx hb
      obtain ⟨x1, x2⟩ := x
      dsimp only at c0 c1 kA kV
      obtain ⟨A, hA⟩ : ∃ A, lbN x1 = A := ⟨_, rfl⟩
      obtain ⟨V, hVV⟩ : ∃ V, vld x2 x2.size 0 = V := ⟨_, rfl⟩
      dsimp only at HO
      rw [hA] at kA HO
      rw [hVV] at kV HO
      clear hA hVV s1 s2
      cases A
      · have HE : Hid (v = false) := (show _ = _ from HG.out.symm.trans (by rw [HO.out]; rfl))
        go_wp2_with fail
        go_fit kA
        rintro e w1 ⟨rfl, rfl⟩
        go_wp2
        go_ret
        exact ⟨by rw [HE.out]; rfl, HN.out⟩
      · by_cases hem : x2.toList = []
        · have HE : Hid (v = false) := (show _ = _ from HG.out.symm.trans (by rw [HO.out, hem]; rfl))
          go_wp2_with fail
          go_fit kA
          rintro e w1 ⟨rfl, rfl⟩
          go_wp2
          go_ret
          exact ⟨by rw [HE.out]; rfl, HN.out⟩
        · have hie : x2.toList.isEmpty = false := by cases h : x2.toList <;> simp_all
          cases V
          · have HE : Hid (v = false) := (show _ = _ from HG.out.symm.trans (by rw [HO.out]; simp))
            go_wp2_with fail
            go_fit kA
            rintro e w1 ⟨rfl, rfl⟩
            go_wp2_with fail
            go_fit kV
            rintro e w2 ⟨rfl, b2⟩
            have HN2 : Hid (Below w.heap.size w w2) := HN.out.trans (b2.mono HN.out.size)
            clear b2
            go_wp2
            go_ret
            exact ⟨by rw [HE.out]; rfl, HN2.out⟩
          · go_wp2_with fail
            go_fit kA
            rintro e w1 ⟨rfl, rfl⟩
            go_wp2_with fail
            go_fit kV
            rintro e w2 ⟨rfl, b2⟩
            have bw : Below wr.heap.size wr (wr.alloc (lbX (x1, x2))) := (Below.refl _ _).alloc (Nat.le_refl _) _
            have bw2 := bw.trans (b2.mono bw.size)
            have e0 : w2.cell? ⟨wr.heap.size, 0, none⟩ = some (.string x1) := bcell2 b2 (by unfold World.cell?; rw [show (wr.alloc (lbX (x1, x2))).heap[wr.heap.size]? = some (lbX (x1, x2)) from heap_alloc_new wr _]; rfl)
            have HN2 : Hid (∀ q, Hid (Below w.heap.size w (w2.drewN q))) := (show ∀ q, _ from fun q => (show Below _ _ _ from (HN.out.trans (b2.mono HN.out.size)).trans ⟨rfl, rfl, rfl, Nat.le_refl _, fun _ _ => rfl⟩))
            have HBW : Hid (Below wr.heap.size wr w2) := bw2
            clear b2 bw bw2 kA kV
            rcases Nat.eq_zero_or_pos i with h0 | h0
            · have hi1 : ¬ (0 : Int) < (i : Int) := by omega
              have hi2 : ¬ 0 < i := by omega
              have qd : decide (0 < i) = false := decide_eq_false hi2
              have HE : Hid (vaF f m (i + 1) = v) := (show _ = _ from by
                have := HG.out
                rw [HO.out, decide_eq_true h0] at this
                simpa [hie] using this)
              clear h0
              go_upto_region 6 with fail
              go_big_quiet (fail)
              have HN3 : Hid (Below w.heap.size w (w2.drewN nq)) := HN2.out nq
              go_wp2
              exact ⟨⟨i + 1, m, by go_num, by omega, HE, HN3⟩, by simp [RowKit.intOf]; omega⟩
            · obtain ⟨j, hj, d0⟩ := HP.out h0
              have hi1 : (0 : Int) < (i : Int) := by omega
              have qd : decide (0 < i) = true := decide_eq_true h0
              have d2 := bcell2 HBW.out d0
              have q1 : IntKind.i64.wrap ((i : Int) - 1) = (j : Nat) := by rw [IntKind.wrap_i64]; omega
              have q2 : (i : Int) - 1 = (j : Nat) := by omega
              have q3 : (j : Int) < (n : Int) := by omega
              have q4 : IntKind.i64.wrap (j : Int) = (j : Nat) := by rw [IntKind.wrap_i64]; omega
              have hjj : i - 1 = j := by omega
              obtain ⟨y1, hy1⟩ : ∃ y1, (f j).1 = y1 := ⟨_, rfl⟩
              rw [hjj, hy1] at HO
              rw [hy1] at d2
              obtain ⟨bl, hbl⟩ : ∃ bl, Op.bytesLess y1.toList x1.toList = bl := ⟨_, rfl⟩
              have HBL : Hid (Op.bytesLess y1.toList x1.toList = bl) := hbl
              have HJ : Hid (i = j + 1) := hj
              have HI0 : Hid (decide (i = 0) = false) := (show _ = _ from decide_eq_false (by omega))
              clear hj hjj hy1 d0 HBW
              cases bl
              · have HE : Hid (v = false) := (show _ = _ from HG.out.symm.trans (by rw [HO.out, HI0.out, HBL.out]; simp))
                go_upto_region 6 with fail
                go_big_quiet (fail)
                have HN3 : Hid (Below w.heap.size w (w2.drewN nq)) := HN2.out nq
                go_wp2
                go_ret
                exact ⟨by rw [HE.out]; rfl, HN3.out⟩
              · have HE : Hid (vaF f m (i + 1) = v) := (show _ = _ from by
                  have := HG.out
                  rw [HO.out, HI0.out, HBL.out] at this
                  simpa [hie] using this)
                go_upto_region 6 with fail
                go_big_quiet (fail)
                have HN3 : Hid (Below w.heap.size w (w2.drewN nq)) := HN2.out nq
                go_wp2
                exact ⟨⟨i + 1, m, by go_num, by omega, HE, HN3⟩, by simp [RowKit.intOf]; omega⟩
    · have hii : ¬ (i : Int) < (n : Int) := by omega
      obtain rfl : k = 0 := by omega
      have HE : Hid (v = true) := hv.out.symm
      clear hv
      go_wp2
      go_ret
      exact ⟨by rw [HE.out]; rfl, hb.out⟩
end Go.Proofs.YtjmninjaoemhjaaDoor
