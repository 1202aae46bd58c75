/- A bundle of texts. -/
import Derived.Test.YtjmninjaoemhjaaDoorBm15
import Derived.Test.YtjmninjaoemhjaaDoorBm01
import Derived.Test.YtjmninjaoemhjaaDoorBm06
/- mark. -/
namespace Go.Proofs.YtjmninjaoemhjaaDoor.K
open Go.RowKit Go.Lib

attribute [local go_sem] Oper.semAt_some

set_option maxRecDepth 100000 in
theorem conv_new (w : World) (xs : List Int) (c : Nat) :
    (convert 95 9 (.slice (some ⟨w.heap.size, 0, none⟩) xs.length c)).run Tryd.prog (w.alloc (.cells (xs.map (Value.int .u8)).toArray 5)) = .ok (.string (strOfNums xs)) (w.alloc (.cells (xs.map (Value.int .u8)).toArray 5)) := by
  refine run_convert_bytes_arg (P := Tryd.prog) _ 95 5 Tryd.underlying95 Tryd.underlying5 w.heap.size 0 xs.length c xs rfl (fun i hi => ?_) 9 Tryd.underlying9
  rw [Nat.zero_add]
  have hh : (w.alloc (.cells (xs.map (Value.int .u8)).toArray 5)).heap[w.heap.size]? = some (.cells (xs.map (Value.int .u8)).toArray 5) := by
    show (w.heap.push _)[w.heap.size]? = _
    simp
  unfold World.cell?
  rw [hh]
  simp [List.getD, hi]
set_option maxRecDepth 100000 in
theorem conv2 (w : World) (a b : Int) : (convert 95 9 (.slice (some ⟨w.heap.size, 0, none⟩) 2 2)).run Tryd.prog (w.alloc (.cells #[.int .u8 a, .int .u8 b] 5)) = .ok (.string (strOfNums [a, b])) (w.alloc (.cells #[.int .u8 a, .int .u8 b] 5)) := conv_new w [a, b] 2
set_option maxRecDepth 100000 in
theorem conv3 (w : World) (a b c : Int) : (convert 95 9 (.slice (some ⟨w.heap.size, 0, none⟩) 3 3)).run Tryd.prog (w.alloc (.cells #[.int .u8 a, .int .u8 b, .int .u8 c] 5)) = .ok (.string (strOfNums [a, b, c])) (w.alloc (.cells #[.int .u8 a, .int .u8 b, .int .u8 c] 5)) := conv_new w [a, b, c] 3
set_option maxHeartbeats 2000000 in
set_option maxRecDepth 100000 in
theorem mark_any (i k : Nat) (hi : i < 65536) (hk : k < 256) (w : World) :
    Calls Tryd.prog 46 #[.int .i64 (i : Int), .int .i64 (k : Int)] w fun e w' => e = .returned (lbV (mkB i k)) ∧ Below w.heap.size w w' := by
  have hiI : (i : Int) < 65536 := by omega
  have hkI : (k : Int) < 256 := by omega
  obtain ⟨W1, hW1⟩ : ∃ W1, W1 = w.alloc (.cells #[.string ⟨#[]⟩, .string ⟨#[]⟩] 26) := ⟨_, rfl⟩
  have HW1 : Hid (W1 = w.alloc (.cells #[.string ⟨#[]⟩, .string ⟨#[]⟩] 26)) := hW1
  obtain ⟨W2, hW2⟩ : ∃ W2, W2 = W1.alloc (.cells #[.int .u8 35, .int .u8 ((i : Int) % 256), .int .u8 ((i : Int) / 256)] 5) := ⟨_, rfl⟩
  have z1 : W1.heap.size = w.heap.size + 1 := by rw [hW1]; simp
  have z2 : W2.heap.size = w.heap.size + 2 := by rw [hW2]; simp [z1]
  have q3 := conv3 W1 35 ((i : Int) % 256) ((i : Int) / 256)
  have q2 := conv2 W2 35 (k : Int)
  rw [z1] at q3
  rw [z2] at q2
  rw [hW2, hW1] at q2
  rw [hW1] at q3
  have e2 : ((w.alloc (.cells #[.string ⟨#[]⟩, .string ⟨#[]⟩] 26)).alloc (.cells #[.int .u8 35, .int .u8 ((i : Int) % 256), .int .u8 ((i : Int) / 256)] 5)).heap.size = w.heap.size + 2 := by simp
  clear hW1 hW2 z1 z2 HW1
  go_enter Tryd.func46, Tryd.ntmps46
  go_wp2
  obtain ⟨s1, hs1⟩ : ∃ s, s = strOfNums [35, (i : Int) % 256, (i : Int) / 256] := ⟨_, rfl⟩
  obtain ⟨s2, hs2⟩ : ∃ s, s = strOfNums [35, (k : Int)] := ⟨_, rfl⟩
  have HM : Hid (mkB i k = (s1, s2)) := by unfold Hid mkB; rw [hs1, hs2]
  rw [← hs1, ← hs2]
  have a1 : Below w.heap.size w (w.alloc (lbX (s1, s2))) := (Below.refl _ w).alloc (Nat.le_refl _) _
  have a2 := (Below.refl (w.alloc (lbX (s1, s2))).heap.size (w.alloc (lbX (s1, s2)))).alloc (Nat.le_refl _) (.cells #[.int .u8 35, .int .u8 ((i : Int) % 256), .int .u8 ((i : Int) / 256)] 5)
  have a3 := a2.alloc (by simp) (.cells #[.int .u8 35, .int .u8 (k : Int)] 5)
  have eh : (w.alloc (lbX (s1, s2))).heap[w.heap.size]? = some (lbX (s1, s2)) := heap_alloc_new w _
  have r0 := bcell2 a3 (show (w.alloc (lbX (s1, s2))).cell? ⟨w.heap.size, 0, none⟩ = some (.string s1) by unfold World.cell?; rw [eh]; rfl)
  have r1 := bcell2 a3 (show (w.alloc (lbX (s1, s2))).cell? ⟨w.heap.size, 1, none⟩ = some (.string s2) by unfold World.cell?; rw [eh]; rfl)
  have HF : Hid (Below w.heap.size w _) := a1.trans (a3.mono a1.size)
  clear q2 q3 e2 a1 a2 a3 eh hs1 hs2
  generalize ((w.alloc (lbX (s1, s2))).alloc (.cells #[.int .u8 35, .int .u8 ((i : Int) % 256), .int .u8 ((i : Int) / 256)] 5)).alloc (.cells #[.int .u8 35, .int .u8 (k : Int)] 5) = W4 at *
  refine bodyPost_ret (v := lbV (s1, s2)) (by simp [results, Tryd.results46, go_sem, r0, r1]) rfl ⟨by rw [HM.out], HF.out⟩
end Go.Proofs.YtjmninjaoemhjaaDoor.K
/- Labels: one against another. -/
namespace Go.Proofs.YtjmninjaoemhjaaDoor
open Go.RowKit

set_option maxHeartbeats 4000000 in
theorem compareLabels_any (x y : Lb) (w : World) : Calls Tryd.prog 26 #[lbV x, lbV y] w fun e w' => e = .returned (.int .i64 (o2 x y)) ∧ Below w.heap.size w w' := by
  obtain ⟨x1, x2⟩ := x
  obtain ⟨y1, y2⟩ := y
  have K1 : Hid (∀ W, Calls Tryd.prog 52 #[.string x1, .string y1] W fun e w' => e = .returned (.int .i64 (od x1 y1)) ∧ w' = W) := fun W => compare_any x1 y1 W
  have K2 : Hid (∀ W, Calls Tryd.prog 52 #[.string x2, .string y2] W fun e w' => e = .returned (.int .i64 (od x2 y2)) ∧ w' = W) := fun W => compare_any x2 y2 W
  show Calls Tryd.prog 26 _ _ fun e w' => e = .returned (.int .i64 (if od x1 y1 = 0 then od x2 y2 else od x1 y1)) ∧ _
  generalize od x1 y1 = C at *
  generalize od x2 y2 = D at *
  obtain ⟨E, hE⟩ : ∃ E, E = if C = 0 then D else C := ⟨_, rfl⟩
  rw [← hE]
  have K3 : Hid (∀ (W : World) (g : Nat), g = W.heap.size → Calls Tryd.prog 51 #[.slice (some ⟨g, 0, none⟩) 2 2] (W.alloc (.cells #[.int .i64 C, .int .i64 D] 3)).drew fun e w' => e = .returned (.int .i64 E) ∧ w' = (W.alloc (.cells #[.int .i64 C, .int .i64 D] 3)).drew) := fun W g hg => by
    subst hg
    have e : ((W.alloc (.cells #[.int .i64 C, .int .i64 D] 3)).drew).heap[W.heap.size]? = some (.cells #[.int .i64 C, .int .i64 D] 3) := heap_alloc_new W _
    rw [hE]
    exact or_two _ C D _ (by unfold World.cell?; rw [e]; rfl) (by unfold World.cell?; rw [e]; rfl)
  have HB : Hid (Below w.heap.size w ((w.alloc (lbX (x1, x2))).alloc (lbX (y1, y2)))) := ((Below.refl _ w).alloc (Nat.le_refl _) _).alloc (by simp) _
  have h1 : (w.alloc (lbX (x1, x2))).heap[w.heap.size]? = some (lbX (x1, x2)) := heap_alloc_new w _
  have h2 : ((w.alloc (lbX (x1, x2))).alloc (lbX (y1, y2))).heap[w.heap.size + 1]? = some (lbX (y1, y2)) := by have := heap_alloc_new (w.alloc (lbX (x1, x2))) (lbX (y1, y2)); simpa using this
  have b1 : Below (w.alloc (lbX (x1, x2))).heap.size (w.alloc (lbX (x1, x2))) ((w.alloc (lbX (x1, x2))).alloc (lbX (y1, y2))) := (Below.refl _ _).alloc (Nat.le_refl _) _
  have c0 : ((w.alloc (lbX (x1, x2))).alloc (lbX (y1, y2))).cell? ⟨w.heap.size, 0, none⟩ = some (.string x1) := bcell2 b1 (by unfold World.cell?; rw [h1]; rfl)
  have c1 : ((w.alloc (lbX (x1, x2))).alloc (lbX (y1, y2))).cell? ⟨w.heap.size, 1, none⟩ = some (.string x2) := bcell2 b1 (by unfold World.cell?; rw [h1]; rfl)
  have d0 : ((w.alloc (lbX (x1, x2))).alloc (lbX (y1, y2))).cell? ⟨w.heap.size + 1, 0, none⟩ = some (.string y1) := by unfold World.cell?; rw [h2]; rfl
  have d1 : ((w.alloc (lbX (x1, x2))).alloc (lbX (y1, y2))).cell? ⟨w.heap.size + 1, 1, none⟩ = some (.string y2) := by unfold World.cell?; rw [h2]; rfl
  have hsz : ((w.alloc (lbX (x1, x2))).alloc (lbX (y1, y2))).heap.size = w.heap.size + 2 := by simp
  clear hE h1 h2 b1
  go_enter Tryd.func26, Tryd.ntmps26
  go_wp2_with fail
  generalize hWW : (w.alloc (lbX (x1, x2))).alloc (lbX (y1, y2)) = W at *
  have bb : Below W.heap.size W (W.alloc (.cells #[.int .i64 C, .int .i64 D] 3)).drew := ((Below.refl _ W).alloc (Nat.le_refl _) _).drew
  have HF : Hid (Below w.heap.size w (W.alloc (.cells #[.int .i64 C, .int .i64 D] 3)).drew) := HB.out.trans (bb.mono HB.out.size)
  have HS : Hid ((W.alloc (.cells #[.int .i64 C, .int .i64 D] 3)).drew.cell? ⟨w.heap.size, 0, none⟩ = some (.string x1) ∧ (W.alloc (.cells #[.int .i64 C, .int .i64 D] 3)).drew.cell? ⟨w.heap.size, 1, none⟩ = some (.string x2) ∧ (W.alloc (.cells #[.int .i64 C, .int .i64 D] 3)).drew.cell? ⟨w.heap.size + 1, 0, none⟩ = some (.string y1) ∧ (W.alloc (.cells #[.int .i64 C, .int .i64 D] 3)).drew.cell? ⟨w.heap.size + 1, 1, none⟩ = some (.string y2)) := ⟨bcell2 bb c0, bcell2 bb c1, bcell2 bb d0, bcell2 bb d1⟩
  have k3 := K3.out W W.heap.size rfl
  clear bb HB hWW hsz K3
  go_region_held3 (fun w' => w'.cell? ⟨w.heap.size, 0, none⟩ = some (.string x1) ∧ w'.cell? ⟨w.heap.size, 1, none⟩ = some (.string x2) ∧ w'.cell? ⟨w.heap.size + 1, 0, none⟩ = some (.string y1) ∧ w'.cell? ⟨w.heap.size + 1, 1, none⟩ = some (.string y2)) (first | exact ⟨c0, c1, d0, d1⟩ | exact HS.out) (first | (go_at_call 52; go_fit (K1.out _); rintro e w1 ⟨rfl, rfl⟩) | (go_at_call 52; go_fit (K2.out _); rintro e w1 ⟨rfl, rfl⟩) | (go_at_call 51; go_fit k3; rintro e w1 ⟨rfl, rfl⟩))
  go_wp2
  go_ret
  exact ⟨rfl, HF.out⟩
end Go.Proofs.YtjmninjaoemhjaaDoor
/- Labels: lists against lists. -/
namespace Go.Proofs.YtjmninjaoemhjaaDoor
open Go.RowKit

set_option maxHeartbeats 2000000 in
theorem compareFunc_any (a b : Option Addr) (n m c d : Nat) (f g : Nat → Lb) (w : World) (ha : Lm w a f n) (hb : Lm w b g m) (hn : n ≤ 1152921504606846976) (_hm : m ≤ 1152921504606846976) :
    Calls Tryd.prog 25 #[.slice a n c, .slice b m d, .func (.func 26) #[] #[]] w fun e w' => e = .returned (.int .i64 (cm f n g m)) ∧ Below w.heap.size w w' := by
  have HA : Hid (Lm w a f n) := ha
  have HB : Hid (Lm w b g m) := hb
  obtain ⟨G, hG⟩ : ∃ G, G = w.heap.size := ⟨_, rfl⟩
  have HG : Hid (G = w.heap.size) := hG
  rw [← hG]
  obtain ⟨C, hC⟩ : ∃ C, C = cm f n g m := ⟨_, rfl⟩
  have HC : Hid (cmF f g m (n - 0) 0 = C) := hC.symm
  rw [← hC]
  clear ha hb hG hC
  go_enter Tryd.func25, Tryd.ntmps25
  go_wp2
  go_loopw [13] (fun t w' => ∃ i : Nat, t = .int .i64 (i : Int) ∧ i ≤ n ∧ (i = 0 ∨ i ≤ m) ∧ Hid (cmF f g m (n - i) i = C) ∧ Hid (Below G w w')) (fun t _ => n - (RowKit.intOf t).toNat)
  case atStart => exact ⟨0, rfl, by omega, .inl rfl, HC, Below.refl _ _⟩
  case round =>
    obtain ⟨i, rfl, hi, him0, HI, HW⟩ := hrel
    by_cases hlt : i < n
    · have hii : (i : Int) < n := by omega
      have hb1 : 0 ≤ (i : Int) ∧ (i : Int) < (n : Int) := by omega
      obtain ⟨g1, p1, rfl, _, x0, x1⟩ := HA.out.at i hlt
      have hb' : Below w.heap.size w wr := HG.out ▸ HW.out
      have e0 := bcell2 hb' x0
      have e1 := bcell2 hb' x1
      by_cases hmm : i < m
      · have him : ¬ (m : Int) ≤ i := by omega
        have hb2 : 0 ≤ (i : Int) ∧ (i : Int) < (m : Int) := by omega
        obtain ⟨g2, p2, rfl, hg2, y0, y1⟩ := HB.out.at i hmm
        obtain ⟨x, hx⟩ : ∃ x, f i = x := ⟨_, rfl⟩
        obtain ⟨y, hy⟩ : ∃ y, g i = y := ⟨_, rfl⟩
        have ba : Below wr.heap.size wr (wr.alloc (lbX x)) := (Below.refl _ _).alloc (Nat.le_refl _) _
        have d0 := bcell2 ba (bcell2 hb' y0)
        have d1 := bcell2 ba (bcell2 hb' y1)
        rw [hx] at e0 e1
        rw [hy] at d0 d1
        have k := compareLabels_any x y ((wr.alloc (lbX x)).alloc (lbX y))
        have HO : Hid (o2 (f i) (g i) = o2 x y) := by unfold Hid; rw [hx, hy]
        have HBB : Hid (∀ w2, Below ((wr.alloc (lbX x)).alloc (lbX y)).heap.size ((wr.alloc (lbX x)).alloc (lbX y)) w2 → Below G w w2) := fun w2 b2 => by
          have b3 : Below wr.heap.size wr ((wr.alloc (lbX x)).alloc (lbX y)) := ba.alloc (by simp) _
          have b4 : Below wr.heap.size wr w2 := b3.trans (b2.mono b3.size)
          have hs := hb'.size
          rw [HG.out]
          exact hb'.trans (b4.mono hs)
        clear hx hy x0 x1 y0 y1 hb' ba
        obtain ⟨s1, s2⟩ := x
        obtain ⟨t1, t2⟩ := y
        dsimp only at e0 e1 d0 d1
        by_cases hz : o2 (s1, s2) (t1, t2) = 0
        · rw [hz] at k
          have HC2 : Hid (cmF f g m (n - (i + 1)) (i + 1) = C) := by
            unfold Hid
            rw [← cmF_eq hlt hmm (HO.out.trans hz)]
            exact HI.out
          clear hz HO
          go_wp2_with fail
          go_fit k
          rintro e w2 ⟨rfl, b2⟩
          have HN : Hid (Below G w w2) := HBB.out w2 b2
          clear k b2 HBB
          go_wp2
          exact ⟨⟨i + 1, by go_num, by omega, .inr (by omega), HC2, HN⟩, by simp [RowKit.intOf]; omega⟩
        · have HC2 : Hid (C = o2 (s1, s2) (t1, t2)) := by
            unfold Hid
            rw [← HO.out, ← HI.out]
            exact cmF_ne hlt hmm (fun h => hz (HO.out ▸ h))
          generalize o2 (s1, s2) (t1, t2) = Z at *
          have hz1 : (Z != 0) = true := by simpa using hz
          clear HO
          go_wp2_with fail
          go_fit k
          rintro e w2 ⟨rfl, b2⟩
          have HN : Hid (Below G w w2) := HBB.out w2 b2
          clear k b2 HBB
          go_wp2
          go_ret
          exact ⟨by rw [HC2.out]; rfl, HN.out⟩
      · have him : (m : Int) ≤ i := by omega
        have HE : Hid (C = 1) := by unfold Hid; rw [← HI.out]; exact cmF_out hlt hmm
        obtain ⟨⟨s1, s2⟩, hx⟩ : ∃ x, f i = x := ⟨_, rfl⟩
        rw [hx] at e0 e1
        dsimp only at e0 e1
        have HN : Hid (Below G w (wr.alloc (lbX (s1, s2)))) := by
          have hs := hb'.size
          unfold Hid
          rw [HG.out]
          exact hb'.trans (((Below.refl _ wr).alloc (Nat.le_refl _) _).mono hs)
        clear hx x0 x1 hb'
        go_wp2
        go_ret
        exact ⟨by rw [HE.out]; rfl, HN.out⟩
    · have hii : ¬ (i : Int) < n := by omega
      obtain rfl : i = n := by omega
      have HE : Hid (C = if i < m then -1 else 0) := by unfold Hid; rw [← HI.out]; exact cmF_end rfl
      by_cases hmm : i < m
      · have h2 : (i : Int) < (m : Int) := by omega
        rw [if_pos hmm] at HE
        go_wp2
        go_ret
        exact ⟨by rw [HE.out]; rfl, HW.out⟩
      · have h2 : ¬ (i : Int) < (m : Int) := by omega
        rw [if_neg hmm] at HE
        go_wp2
        go_ret
        exact ⟨by rw [HE.out]; rfl, HW.out⟩
theorem compareList_any (a b : Option Addr) (n m c d : Nat) (f g : Nat → Lb) (w : World) (ha : Lm w a f n) (hb : Lm w b g m) (hn : n ≤ 1152921504606846976) (hm : m ≤ 1152921504606846976) :
    Calls Tryd.prog 8 #[.slice a n c, .slice b m d] w fun e w' => e = .returned (.int .i64 (cm f n g m)) ∧ Below w.heap.size w w' := by
  have k := compareFunc_any a b n m c d f g w ha hb hn hm
  generalize cm f n g m = C at *
  clear ha hb
  go_enter Tryd.func8, Tryd.ntmps8
  go_wp2_with fail
  go_fit k
  rintro e w2 ⟨rfl, b2⟩
  have H2 : Hid _ := b2
  clear k b2
  go_wp2
  go_ret
  exact ⟨rfl, H2.out⟩
end Go.Proofs.YtjmninjaoemhjaaDoor
/- Labels: the reference's Compare; same. -/
namespace Go.Proofs.YtjmninjaoemhjaaDoor
open Go.RowKit

theorem dr_step {w W : World} (h : ∃ q, W = w.drewN q) (k : Nat) : ∃ q, W.drewN k = w.drewN q := by
  obtain ⟨q, e⟩ := h
  exact ⟨q + k, by rw [e, World.drewN_drewN]⟩
theorem dr_below {w W : World} (h : ∃ q, W = w.drewN q) : Below w.heap.size w W := by
  obtain ⟨q, e⟩ := h
  rw [e]
  exact below_drewN (Below.refl _ _) _
set_option maxHeartbeats 4000000 in
set_option maxRecDepth 100000 in
theorem rcompare_any (a b : Option Addr) (n m c d : Nat) (f g : Nat → Lb) (w : World) (ha : Lm w a f n) (hb : Lm w b g m) (hn : n ≤ 1152921504606846976) (hm : m ≤ 1152921504606846976) :
    Calls Tryd.prog 45 #[.slice a n c, .slice b m d] w fun e w' => e = .returned (.int .i64 (cm f n g m)) ∧ Below w.heap.size w w' := by
  have HA : Hid (Lm w a f n) := ha
  have HB : Hid (Lm w b g m) := hb
  obtain ⟨G, hG⟩ : ∃ G, G = w.heap.size := ⟨_, rfl⟩
  have HG : Hid (G = w.heap.size) := hG
  rw [← hG]
  obtain ⟨C, hC⟩ : ∃ C, C = cm f n g m := ⟨_, rfl⟩
  have HC : Hid (cmF f g m (n - 0) 0 = C) := hC.symm
  rw [← hC]
  clear ha hb hG hC
  go_enter Tryd.func45, Tryd.ntmps45
  go_wp2
  go_loopw [5] (fun t w' => ∃ i : Nat, t = .int .i64 (i : Int) ∧ i ≤ n ∧ i ≤ m ∧ Hid (cmF f g m (n - i) i = C) ∧ Hid (∃ k, w' = w.drewN k)) (fun t _ => n - (RowKit.intOf t).toNat)
  case atStart => exact ⟨0, rfl, by omega, by omega, HC, ⟨0, rfl⟩⟩
  case round =>
    obtain ⟨i, rfl, hi, him, HI, HW⟩ := hrel
    have HBW : Hid (∀ k, Below G w (wr.drewN k)) := fun k => by
      obtain ⟨q, e⟩ := HW.out
      rw [e, World.drewN_drewN]
      exact below_drewN (Below.refl _ _) _
    have HDW : Hid (∀ k, ∃ q, wr.drewN k = w.drewN q) := fun k => by
      obtain ⟨q, e⟩ := HW.out
      exact ⟨q + k, by rw [e, World.drewN_drewN]⟩
    by_cases hlt : i < n
    · have hii : (i : Int) < n := by omega
      have hb1 : 0 ≤ (i : Int) ∧ (i : Int) < (n : Int) := by omega
      by_cases hmm : i < m
      · have hjj : (i : Int) < m := by omega
        have hb2 : 0 ≤ (i : Int) ∧ (i : Int) < (m : Int) := by omega
        obtain ⟨g1, p1, rfl, _, x0, x1⟩ := HA.out.at i hlt
        obtain ⟨g2, p2, rfl, _, y0, y1⟩ := HB.out.at i hmm
        have hb' : Below w.heap.size w wr := HG.out ▸ HBW.out 0
        have e0 := bcell2 hb' x0
        have e1 := bcell2 hb' x1
        have d0 := bcell2 hb' y0
        have d1 := bcell2 hb' y1
        obtain ⟨⟨s1, s2⟩, hx⟩ : ∃ x, f i = x := ⟨_, rfl⟩
        obtain ⟨⟨t1, t2⟩, hy⟩ : ∃ y, g i = y := ⟨_, rfl⟩
        rw [hx] at e0 e1
        rw [hy] at d0 d1
        dsimp only at e0 e1 d0 d1
        have HO : Hid (o2 (f i) (g i) = if od s1 t1 = 0 then od s2 t2 else od s1 t1) := by unfold Hid; rw [hx, hy]; rfl
        have K1 : Hid (∀ (q : Nat) (W : World), Calls Tryd.prog 67 #[.string s1, .string t1] (W.drewN q) fun e w' => e = .returned (.int .i64 (od s1 t1)) ∧ ∃ k, w' = (W.drewN q).drewN k) := fun q W => (order_any s1 t1 _).mono fun e w' ⟨h1, h2⟩ => ⟨h1, 0, h2⟩
        have K2 : Hid (∀ (q : Nat) (W : World), Calls Tryd.prog 67 #[.string s2, .string t2] (W.drewN q) fun e w' => e = .returned (.int .i64 (od s2 t2)) ∧ ∃ k, w' = (W.drewN q).drewN k) := fun q W => (order_any s2 t2 _).mono fun e w' ⟨h1, h2⟩ => ⟨h1, 0, h2⟩
        generalize od s1 t1 = Z1 at *
        generalize od s2 t2 = Z2 at *
        clear hx hy x0 x1 y0 y1 hb'
        by_cases hz : Z1 = 0
        · subst hz
          rw [if_pos rfl] at HO
          by_cases hz2 : Z2 = 0
          · subst hz2
            have HC2 : Hid (cmF f g m (n - (i + 1)) (i + 1) = C) := by
              unfold Hid
              rw [← cmF_eq hlt hmm HO.out]
              exact HI.out
            go_wp2_with fail
            go_quiet ((go_at_call 67; exact Calls.quiet_of (K1.out _ _)))
            have f1 : (wr.drewN nq).cell? ⟨g1, p1 + i * 2 + 1, none⟩ = some (.string s2) := e1
            have f2 : (wr.drewN nq).cell? ⟨g2, p2 + i * 2 + 1, none⟩ = some (.string t2) := d1
            have HD2 : Hid (∃ q, wr.drewN nq = w.drewN q) := HDW.out _
            have HG2 : Hid (G = w.heap.size) := HG
            clear e0 e1 d0 d1 HBW HDW HW
            generalize wr.drewN nq = W2 at *
            go_wp2_with fail
            go_quiet ((go_at_call 67; exact Calls.quiet_of (K2.out _ _)))
            go_wp2
            exact ⟨⟨i + 1, by go_num, by omega, by omega, HC2, dr_step HD2.out _⟩, by simp [RowKit.intOf]; omega⟩
          · have HC2 : Hid (C = Z2) := by
              unfold Hid
              rw [← HO.out, ← HI.out]
              exact cmF_ne hlt hmm (fun h => hz2 (HO.out ▸ h))
            have hz1 : (Z2 != 0) = true := by simpa using hz2
            go_wp2_with fail
            go_quiet ((go_at_call 67; exact Calls.quiet_of (K1.out _ _)))
            have f1 : (wr.drewN nq).cell? ⟨g1, p1 + i * 2 + 1, none⟩ = some (.string s2) := e1
            have f2 : (wr.drewN nq).cell? ⟨g2, p2 + i * 2 + 1, none⟩ = some (.string t2) := d1
            have HD2 : Hid (∃ q, wr.drewN nq = w.drewN q) := HDW.out _
            have HG2 : Hid (G = w.heap.size) := HG
            clear e0 e1 d0 d1 HBW HDW HW
            generalize wr.drewN nq = W2 at *
            go_wp2_with fail
            go_quiet ((go_at_call 67; exact Calls.quiet_of (K2.out _ _)))
            go_wp2
            go_ret
            exact ⟨by rw [HC2.out]; rfl, by rw [HG2.out]; exact dr_below (dr_step HD2.out _)⟩
        · rw [if_neg hz] at HO
          have HC2 : Hid (C = Z1) := by
            unfold Hid
            rw [← HO.out, ← HI.out]
            exact cmF_ne hlt hmm (fun h => hz (HO.out ▸ h))
          have hz1 : (Z1 != 0) = true := by simpa using hz
          have hz0 : (Z1 == 0) = false := by simpa using hz
          go_wp2_with fail
          go_quiet ((go_at_call 67; exact Calls.quiet_of (K1.out _ _)))
          go_wp2
          go_ret
          exact ⟨by rw [HC2.out]; rfl, HBW.out _⟩
      · have hjj : ¬ (i : Int) < m := by omega
        have HE : Hid (C = 1) := by unfold Hid; rw [← HI.out]; exact cmF_out hlt hmm
        have h3 : ¬ (n : Int) < (m : Int) := by omega
        have h4 : (m : Int) < (n : Int) := by omega
        go_wp2
        go_ret
        exact ⟨by rw [HE.out]; rfl, HBW.out 0⟩
    · have hii : ¬ (i : Int) < n := by omega
      obtain rfl : i = n := by omega
      have HE : Hid (C = if i < m then -1 else 0) := by unfold Hid; rw [← HI.out]; exact cmF_end rfl
      by_cases hmm : i < m
      · have h2 : (i : Int) < (m : Int) := by omega
        rw [if_pos hmm] at HE
        go_wp2
        go_ret
        exact ⟨by rw [HE.out]; rfl, HBW.out 0⟩
      · have h2 : ¬ (i : Int) < (m : Int) := by omega
        have h3 : ¬ (m : Int) < (i : Int) := by omega
        rw [if_neg hmm] at HE
        go_wp2
        go_ret
        exact ⟨by rw [HE.out]; rfl, HBW.out 0⟩
theorem eqLb (x y : Lb) (w : World) : (Op.equalIn 10000 26 (lbV x) (lbV y)).run Tryd.prog w = .ok (x.1.toList == y.1.toList && x.2.toList == y.2.toList) w := by
  obtain ⟨a, b⟩ := x
  obtain ⟨c, d⟩ := y
  have u3 := Tryd.underlying9
  have a3 := Tryd.isAgg9
  have z3 := Tryd.sizeOf9
  have hS : Tryd.prog.underlying 26 = some (.struct (Tryd.prog.fieldsOf 26)) := by kernel_rfl
  rw [show (10000 : Nat) = 9999 + 1 from rfl, run_equalIn_agg w 9999 26 _ _ hS (by kernel_rfl)]
  simp only [Program.fieldsOf, Tryd.underlying26]
  go_simp
  by_cases h1 : a.toList = c.toList <;> by_cases h2 : b.toList = d.toList <;> simp [h1, h2]
theorem ne_lb (x : Lb) (w : World) : (binOp .neq 26 (lbV x) (lbV x)).run Tryd.prog w = .ok (.bool false) w := by
  rw [run_neq_struct, eqLb]
  simp
set_option maxHeartbeats 2000000 in
set_option maxRecDepth 100000 in
theorem same_true (a b : Option Addr) (c d n : Nat) (xs : Nat → Lb) (w : World) (ha : Lm w a xs n) (hb : Lm w b xs n) (hn : n ≤ 1152921504606846976) :
    Calls Tryd.prog 9 #[.slice a n c, .slice b n d] w fun r w' => r = .returned (.bool true) ∧ Below w.heap.size w w' := by
  have hN := fun a b => ne_lb (a, b)
  have HA : Hid (Lm w a xs n) := ha
  have HB : Hid (Lm w b xs n) := hb
  obtain ⟨G, hG⟩ : ∃ G, G = w.heap.size := ⟨_, rfl⟩
  have HG : Hid (G = w.heap.size) := hG
  rw [← hG]
  clear ha hb hG
  go_enter Tryd.func9, Tryd.ntmps9
  go_wp2
  go_loopw [13] (fun ivv w' => ∃ i : Nat, ivv = .int .i64 (i : Int) ∧ i ≤ n ∧ Hid (Below G w w')) (fun ivv _ => n - (RowKit.intOf ivv).toNat)
  case atStart => exact ⟨0, rfl, by omega, Below.refl _ _⟩
  case round =>
    obtain ⟨i, rfl, hi, hb⟩ := hrel
    by_cases hlt : i < n
    · have hii : (i : Int) < n := by omega
      obtain ⟨g1, o1, rfl, _, x0, x1⟩ := HA.out.at i hlt
      obtain ⟨g2, o2, rfl, _, y0, y1⟩ := HB.out.at i hlt
      have hb' : Below w.heap.size w wr := HG.out ▸ hb.out
      have e0 := bcell2 hb' x0
      have e1 := bcell2 hb' x1
      have e2 := bcell2 hb' y0
      have e3 := bcell2 hb' y1
      obtain ⟨⟨xk, xi⟩, hx⟩ : ∃ x, xs i = x := ⟨_, rfl⟩
      rw [hx] at e0 e1 e2 e3
      dsimp only at e0 e1 e2 e3
      have HB2 : Hid (∀ m, Below G w (wr.drewN m)) := fun m => below_drewN hb.out m
      clear hx x0 x1 y0 y1 hb hb'
      go_wp2_with fail
      go_big_quiet (fail)
      have HB3 : Hid _ := HB2.out nq
      generalize wr.drewN nq = W6 at *
      go_wp2
      exact ⟨⟨i + 1, by go_num, by omega, HB3⟩, by simp [RowKit.intOf]; omega⟩
    · have hii : ¬ (i : Int) < n := by omega
      go_wp2
      go_ret
      exact ⟨rfl, hb.out⟩
end Go.Proofs.YtjmninjaoemhjaaDoor
/- LabelsOrder: awake; same; the walk. -/
namespace Go.Proofs.YtjmninjaoemhjaaDoor
open Go.RowKit Go.Lib

set_option maxHeartbeats 2000000 in
set_option maxRecDepth 100000 in
theorem awake_any (w : World) : Calls Tryd.prog 7 #[] w fun e w' => e = .returned (.bool true) ∧ Below w.heap.size w w' := by
  have e1 : (w.alloc (.cells #[.string ⟨#[98]⟩, .string ⟨#[50]⟩, .string ⟨#[97]⟩, .string ⟨#[49]⟩] 26)).heap[w.heap.size]? = some (.cells #[.string ⟨#[98]⟩, .string ⟨#[50]⟩, .string ⟨#[97]⟩, .string ⟨#[49]⟩] 26) := heap_alloc_new w _
  have hc : C4 (w.alloc (.cells #[.string ⟨#[98]⟩, .string ⟨#[50]⟩, .string ⟨#[97]⟩, .string ⟨#[49]⟩] 26)) w.heap.size lB lA :=
    ⟨by unfold World.cell?; rw [e1]; rfl, by unfold World.cell?; rw [e1]; rfl, by unfold World.cell?; rw [e1]; rfl, by unfold World.cell?; rw [e1]; rfl, fun o => by unfold World.frozen?; rw [e1]; simp⟩
  have k1 := make2 w.heap.size 2 _ hc
  have HB : Hid (Below w.heap.size w (w.alloc (.cells #[.string ⟨#[98]⟩, .string ⟨#[50]⟩, .string ⟨#[97]⟩, .string ⟨#[49]⟩] 26))) := (Below.refl _ w).alloc (Nat.le_refl _) _
  clear e1 hc
  go_enter Tryd.func7, Tryd.ntmps7
  go_wp2_with fail
  go_fit k1
  rintro e w1 ⟨G, d, rfl, h1, b1⟩
  have k2 := get2 G d lA lB ⟨#[98]⟩ w1 h1 (by rw [Lib.toList_data, Lib.toList_data]; rfl) (by rw [Lib.toList_data]; exact beq_self_eq_true _) (by show 1 ≤ _; omega)
  have c0 : w1.cell? ⟨G, 0, none⟩ = some (.string ⟨#[97]⟩) := h1.1
  have HB1 : Hid (Below w.heap.size w w1) := HB.out.trans (b1.mono HB.out.size)
  clear k1 h1 b1 HB
  go_wp2_with fail
  go_fit k2
  rintro e w2 ⟨rfl, b2⟩
  have HB2 : Hid (Below w.heap.size w w2) := HB1.out.trans (b2.mono HB1.out.size)
  clear k2 b2 c0
  go_wp2
  go_ret
  exact ⟨rfl, HB2.out⟩
end Go.Proofs.YtjmninjaoemhjaaDoor
