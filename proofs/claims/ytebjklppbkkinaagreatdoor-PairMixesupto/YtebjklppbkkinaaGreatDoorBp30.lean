/- A bundle of texts. -/
import Derived.Test.YtebjklppbkkinaaGreatDoorBp29
import Derived.Deep.RegionWith
import Derived.BigRegion
import Derived.BigQuiet
/- Pair: the reference's bare, one, done. -/
namespace Go.Proofs.YtebjklppbkkinaaGreatDoor
open Go.RowKit Go.Lib Go.Shelf Go.Sort

attribute [local go_sem] Oper.semAt_some run_store_float

/-- Labels as an answer of their own. -/
def BR (l : List Lb) (w : World) (e : Ending) (w' : World) : Prop := ∃ a' m c' f', e = .returned (.slice a' m c') ∧ Below w.heap.size w w' ∧ Lm w' a' f' m ∧ K.ll f' m = l ∧ ∀ b o, a' = some ⟨b, o, none⟩ → w.heap.size ≤ b
theorem br_of {w w' : World} {l : List Lb} {e : Ending} {v : Value} (he : e = .returned v) (b : Below w.heap.size w w') (o : w'.ownsRow w.heap.size 61 2 v l.length (lcL l)) : BR l w e w' := by
  obtain ⟨a, c, rfl, _⟩ := K.row_sl o
  exact ⟨a, l.length, c, K.gL l, he, b, K.row_lm o, K.ll_gL l, fun b' o' e => (own_bd o b' (by rw [e]; rfl)).1⟩
theorem with_empty (a : Option Addr) (f : Nat → Lb) (n c : Nat) (w : World) (hn : n ≤ 2199023255552) (hL : Lm w a f n) (hS : Ls (K.ll f n)) :
    Calls Tryz.prog 63 #[.slice a n c, .string ⟨#[]⟩, .string ⟨#[]⟩] w (BR (K.ll f n) w) := by
  refine (K.rwith_any a f n c ⟨#[]⟩ ⟨#[]⟩ w hn hL).mono fun e w' h => ?_
  obtain ⟨v, he, o, b⟩ := h
  rw [rwL_none, ls_none hS] at o
  exact br_of he b o
theorem bare_any (a : Option Addr) (f : Nat → Lb) (n c : Nat) (w : World) (hn : n ≤ 2199023255552) (hL : Lm w a f n) :
    Calls Tryz.prog 35 #[.slice a n c] w (BR (drN (K.ll f n)) w) := by
  have k := K.rwith_any a f n c nmB ⟨#[]⟩ w hn hL
  rw [rwL_none] at k
  have k2 : Calls Tryz.prog 63 #[.slice a n c, .string ⟨#[95, 95, 110, 97, 109, 101, 95, 95]⟩, .string ⟨#[]⟩] w (BR (drN (K.ll f n)) w) := k.mono fun e w' h => by
    obtain ⟨v, he, o, b⟩ := h
    exact br_of he b o
  clear k hL
  generalize drN (K.ll f n) = l at *
  go_enter Tryz.func35, Tryz.ntmps35
  go_wp2_with fail
  go_fit k2
  rintro e w1 ⟨a', m, c', f', rfl, b, hl, hll, hbl⟩
  have H : Hid (Below w.heap.size w w1 ∧ Lm w1 a' f' m ∧ K.ll f' m = l ∧ ∀ b o, a' = some ⟨b, o, none⟩ → w.heap.size ≤ b) := ⟨b, hl, hll, hbl⟩
  clear k2 b hl hll hbl
  go_wp2
  go_ret
  exact ⟨a', m, c', f', rfl, H.out.1, H.out.2.1, H.out.2.2.1, H.out.2.2.2⟩
/-- done. -/
theorem done_any (a : Option Addr) (n c : Nat) (q : Nat → El) (w : World) (hE : Em w a q n) (hz : a = none → n = 0 ∧ c = 0) (hnc : n ≤ c) (hcm : c ≤ 9223372036854775807) (hn : n ≤ 1099511627776) (hO : ∀ j, j < n → Eo w (q j)) (hS : ∀ j, j < n → Ls (K.ll (q j).f (q j).n)) :
    Calls Tryz.prog 34 #[.slice a n c] w fun e w' => ∃ a' c' N r E, e = .returned (.tuple #[.slice a' N c', .int .i64 E]) ∧ Below w.heap.size w w' ∧ Em w' a' r N ∧ N ≤ n ∧ (∀ j, j < N → ∃ k, k < n ∧ q k = r j) ∧ DV ((elL q n).map kc) E ((elL r N).map kc) := by
  have k := rvector_any a n c q w hE hz hnc hcm hn hO
  have HS : Hid (∀ j, j < n → Ls (K.ll (q j).f (q j).n)) := hS
  clear hE hz hnc hcm hO hS
  go_enter Tryz.func34, Tryz.ntmps34
  go_wp2_with fail
  go_fit k
  rintro e w1 hR
  obtain ⟨E, N, a', c', r, rfl, hE, b, hm, hN, hmem, hD⟩ := (RVR.wa hR).dv HS.out
  have HB : Hid (Below w.heap.size w w1 ∧ Em w1 a' r N ∧ N ≤ n ∧ (∀ j, j < N → ∃ k, k < n ∧ q k = r j)) := ⟨b, hm, hN, hmem⟩
  have HD : Hid (DV ((elL q n).map kc) (if E = 5 then 6 else 0) ((elL r N).map kc)) := hD
  clear k hR b hm hN hmem hD
  rcases hE with rfl | rfl
  · go_wp2
    go_ret2
    have hd := HD.out
    rcases hd with ⟨_, h2, h3⟩ | ⟨h1, _⟩
    · exact ⟨none, 0, 0, r, 6, rfl, HB.out.1, .inl rfl, Nat.zero_le _, fun j hj => absurd hj (by omega), .inl ⟨rfl, rfl, h3⟩⟩
    · exact absurd h1 (by decide)
  · go_wp2
    go_ret2
    exact ⟨a', c', N, r, 0, rfl, HB.out.1, HB.out.2.1, HB.out.2.2.1, HB.out.2.2.2, by simpa using HD.out⟩
/-- What one answers. -/
def ON (V : Nat → Nat → Option Nat) (k : Nat) (yes : Bool) (p q x : Nat) (l : List Lb) (w : World) (e : Ending) (w' : World) : Prop := ∃ a' m c' f' z ok, e = .returned (.tuple #[.agg #[.slice a' m c', .float .f64 z], .bool ok]) ∧ Below w.heap.size w w' ∧ Lm w' a' f' m ∧ outP V k yes p q x l = (if ok = true then some (K.ll f' m, F.cl z) else none) ∧ (K.ll f' m = l ∨ K.ll f' m = drN l) ∧ ∀ b o, a' = some ⟨b, o, none⟩ → w.heap.size ≤ b
set_option maxRecDepth 100000 in
set_option maxHeartbeats 8000000 in
theorem one_any (s : ByteArray) (k : Nat) (hk : k < 12) (hop : F.OpK s k) (V : Nat → Nat → Option Nat) (hV : k < 6 → ∀ x y, x < 18446744073709551616 → y < 18446744073709551616 → F.BothV 50 60 s x y (V x y)) (yes : Bool) (p q x : Nat) (a : Option Addr) (f : Nat → Lb) (n c : Nat) (w : World)
    (hp : p < 18446744073709551616) (hq : q < 18446744073709551616) (hn : n ≤ 2199023255552) (hL : Lm w a f n) (hS : Ls (K.ll f n)) :
    Calls Tryz.prog 33 #[.string s, .agg #[.slice a n c, .float .f64 x], .float .f64 p, .float .f64 q, .bool yes] w (ON V k yes p q x (K.ll f n) w) := by
  have HLM : Hid (∀ W, Below w.heap.size w W → Lm W a f n) := (show ∀ W, _ → _ from fun W b => hL.below b)
  have HS : Hid (Ls (K.ll f n)) := hS
  have HB35 : Hid (∀ W, Below w.heap.size w W → Calls Tryz.prog 35 #[.slice a n c] W (BR (drN (K.ll f n)) W)) := (show ∀ W, _ → _ from fun W b => bare_any a f n c W hn (HLM.out W b))
  have HB63 : Hid (∀ W, Below w.heap.size w W → Calls Tryz.prog 63 #[.slice a n c, .string ⟨#[]⟩, .string ⟨#[]⟩] W (BR (K.ll f n) W)) := (show ∀ W, _ → _ from fun W b => with_empty a f n c W hn (HLM.out W b) HS.out)
  have kK := fun W => F.rkind_k s k (by omega) hop W
  obtain ⟨W0, hW0⟩ : ∃ W0, W0 = (w.alloc (.cells #[.slice a n c, .float .f64 x] 31)).alloc (.cells #[.slice none 0 0, .float .f64 0] 31) := ⟨_, rfl⟩
  have b0 : Below w.heap.size w W0 := by rw [hW0]; exact ((Below.refl _ w).alloc (Nat.le_refl _) _).alloc (by simp) _
  have bx : Below w.heap.size w (w.alloc (.cells #[.slice a n c, .float .f64 x] 31)) := (Below.refl _ w).alloc (Nat.le_refl _) _
  have HWS : Hid (w.heap.size ≤ W0.heap.size) := b0.size
  have HCELL : Hid (∀ W3, Below W0.heap.size W0 W3 → (W3.cell? ⟨w.heap.size + 1, 0, none⟩ = some (.slice none 0 0) ∧ W3.cell? ⟨w.heap.size + 1, 1, none⟩ = some (.float .f64 0) ∧ W3.frozen? ⟨w.heap.size + 1, 0, none⟩ = false ∧ W3.frozen? ⟨w.heap.size + 1, 1, none⟩ = false) ∧ ∀ (kk : Nat) (u : Value) (z : Nat) (a' : Option Addr) (f' : Nat → Lb) (m : Nat), Lm W3 a' f' m → (∀ b o, a' = some ⟨b, o, none⟩ → W0.heap.size ≤ b) → Below w.heap.size w (((W3.drewN kk).setCell ⟨w.heap.size + 1, 0, none⟩ u).setCell ⟨w.heap.size + 1, 1, none⟩ (.float .f64 z)) ∧ Lm (((W3.drewN kk).setCell ⟨w.heap.size + 1, 0, none⟩ u).setCell ⟨w.heap.size + 1, 1, none⟩ (.float .f64 z)) a' f' m ∧ (((W3.drewN kk).setCell ⟨w.heap.size + 1, 0, none⟩ u).setCell ⟨w.heap.size + 1, 1, none⟩ (.float .f64 z)).cell? ⟨w.heap.size + 1, 0, none⟩ = some u ∧ (((W3.drewN kk).setCell ⟨w.heap.size + 1, 0, none⟩ u).setCell ⟨w.heap.size + 1, 1, none⟩ (.float .f64 z)).cell? ⟨w.heap.size + 1, 1, none⟩ = some (.float .f64 z)) := (show ∀ W3, _ → _ from fun W3 b => by
    have s1 : (w.alloc (.cells #[.slice a n c, .float .f64 x] 31)).heap.size = w.heap.size + 1 := by simp
    have s0 : W0.heap.size = w.heap.size + 2 := by rw [hW0]; simp
    have eh : W0.heap[w.heap.size + 1]? = some (.cells #[.slice none 0 0, .float .f64 0] 31) := by rw [hW0, ← s1]; exact heap_alloc_new _ _
    have hb := b.block (w.heap.size + 1) (by omega)
    rw [eh] at hb
    refine ⟨⟨?_, ?_, ?_, ?_⟩, fun kk u z a' f' m hl hbl => ⟨?_, ?_, ?_, ?_⟩⟩
    · unfold World.cell?; rw [hb]; rfl
    · unfold World.cell?; rw [hb]; rfl
    · simp [World.frozen?, hb]
    · simp [World.frozen?, hb]
    · exact ((below_drewN (b0.trans (b.mono b0.size)) kk).setCell (p := ⟨w.heap.size + 1, 0, none⟩) (by show w.heap.size ≤ w.heap.size + 1; omega) _).setCell (p := ⟨w.heap.size + 1, 1, none⟩) (by show w.heap.size ≤ w.heap.size + 1; omega) _
    · have k3 : Kp (fun b => b = w.heap.size + 1) (W3.drewN kk) (((W3.drewN kk).setCell ⟨w.heap.size + 1, 0, none⟩ u).setCell ⟨w.heap.size + 1, 1, none⟩ (.float .f64 z)) := Kp.setCell (M := fun b => b = w.heap.size + 1) (p := ⟨w.heap.size + 1, 1, none⟩) (Kp.setCell (M := fun b => b = w.heap.size + 1) (p := ⟨w.heap.size + 1, 0, none⟩) (Kp.refl _ _) rfl _) rfl _
      exact lm_kp (hl.below (below_drewN (Below.refl _ _) kk)) k3 fun b' o' e h => by have := hbl b' o' e; omega
    · rw [World.cell?_setCell_other _ _ _ _ (by intro e; cases e)]
      exact World.cell?_setCell_same (u := .slice none 0 0) _ _ _ (show W3.cell? _ = _ by unfold World.cell?; rw [hb]; rfl)
    · refine World.cell?_setCell_same (u := .float .f64 0) _ _ _ ?_
      rw [World.cell?_setCell_other _ _ _ _ (by intro e; cases e)]
      show W3.cell? _ = _
      unfold World.cell?
      rw [hb]
      rfl)
  have HK : Hid (k < 12 ∧ F.OpK s k) := ⟨hk, hop⟩
  by_cases h6 : k < 6
  · have hkn : F.knN k = 1 := by unfold F.knN; simp [h6]
    rw [hkn] at kK
    have kv := fun W => (hV h6 p q hp hq).2 W
    have HO : Hid (outP V k yes p q x (K.ll f n) = some (drN (K.ll f n), V p q)) := (show outP V k yes p q x (K.ll f n) = _ by unfold outP; rw [if_pos h6])
    have k35 := HB35.out W0 b0
    rw [hW0] at k35 HCELL HWS
    have HB0 : Hid (Below w.heap.size w _) := hW0 ▸ b0
    clear hV hL hS hkn HB35 HB63 b0 bx hW0 hop hp hq
    generalize V p q = C at *
    go_enter Tryz.func33, Tryz.ntmps33
    go_wp2_with fail
    go_fit (kK _)
    rintro e w2 ⟨rfl, rfl⟩
    go_wp2_with fail
    go_fit k35
    rintro e w3 ⟨a', m, c', f', rfl, b3, hl3, hll3, hbl⟩
    obtain ⟨⟨z0, z1, f0, f1⟩, HFIN⟩ := HCELL.out w3 b3
    have HA : Hid (∀ kk (u : Value) (z : Nat), (fun W4 : World => Below w.heap.size w W4 ∧ Lm W4 a' f' m ∧ W4.cell? ⟨w.heap.size + 1, 0, none⟩ = some u ∧ W4.cell? ⟨w.heap.size + 1, 1, none⟩ = some (.float .f64 z)) (((w3.drewN kk).setCell ⟨w.heap.size + 1, 0, none⟩ u).setCell ⟨w.heap.size + 1, 1, none⟩ (.float .f64 z))) := (show ∀ kk u z, _ from fun kk u z => HFIN kk u z a' f' m hl3 hbl)
    have HLL : Hid (K.ll f' m = drN (K.ll f n) ∧ ∀ b o, a' = some ⟨b, o, none⟩ → w.heap.size ≤ b) := (show _ ∧ _ from ⟨hll3, fun b o e => Nat.le_trans HWS.out (hbl b o e)⟩)
    clear k35 b3 hl3 hll3 hbl HFIN HCELL
    go_wp2_with fail
    go_fit (kv _)
    rintro e w4 ⟨z, kk, rfl, rfl, hz, hc⟩
    have HZ : Hid (F.cl z = C) := hc
    clear hc hz kv
    go_wp2
    obtain ⟨q1, q2, r0, r1⟩ := HA.out kk (.slice a' m c') z
    refine bodyPost_ret (v := .tuple #[.agg #[.slice a' m c', .float .f64 z], .bool true]) (by simp [results, Tryz.results33, go_sem, r0, r1]) rfl ⟨a', m, c', f', z, true, rfl, q1, q2, ?_, .inr HLL.out.1, HLL.out.2⟩
    rw [HO.out, if_pos rfl, HLL.out.1, HZ.out]
  · have hkn : F.knN k = 2 := by unfold F.knN; simp [h6, hk]
    rw [hkn] at kK
    have kh := fun W => F.rholds_k s k (by omega) hk hop p q W
    obtain ⟨hb, hhb⟩ : ∃ b, F.hdB k p q = b := ⟨_, rfl⟩
    rw [hhb] at kh
    have HNF : Hid (∀ W3 a' f' m, Below W0.heap.size W0 W3 → Lm W3 a' f' m → (∀ b o, a' = some ⟨b, o, none⟩ → W0.heap.size ≤ b) → (W3.cell? ⟨w.heap.size + 1, 0, none⟩ = some (.slice none 0 0) ∧ W3.cell? ⟨w.heap.size + 1, 1, none⟩ = some (.float .f64 0) ∧ W3.frozen? ⟨w.heap.size + 1, 0, none⟩ = false ∧ W3.frozen? ⟨w.heap.size + 1, 1, none⟩ = false) ∧ ∀ (u : Value) (z : Nat), Below w.heap.size w ((W3.setCell ⟨w.heap.size + 1, 0, none⟩ u).setCell ⟨w.heap.size + 1, 1, none⟩ (.float .f64 z)) ∧ Lm ((W3.setCell ⟨w.heap.size + 1, 0, none⟩ u).setCell ⟨w.heap.size + 1, 1, none⟩ (.float .f64 z)) a' f' m ∧ ((W3.setCell ⟨w.heap.size + 1, 0, none⟩ u).setCell ⟨w.heap.size + 1, 1, none⟩ (.float .f64 z)).cell? ⟨w.heap.size + 1, 0, none⟩ = some u ∧ ((W3.setCell ⟨w.heap.size + 1, 0, none⟩ u).setCell ⟨w.heap.size + 1, 1, none⟩ (.float .f64 z)).cell? ⟨w.heap.size + 1, 1, none⟩ = some (.float .f64 z)) := (show ∀ W3 a' f' m, _ → _ → _ → _ from fun W3 a' f' m b hl hbl => ⟨(HCELL.out W3 b).1, fun u z => (HCELL.out W3 b).2 0 u z a' f' m hl hbl⟩)
    cases yes
    · have HO : Hid (outP V k false p q x (K.ll f n) = if hb = true then some (K.ll f n, F.cl x) else none) := (show outP V k false p q x (K.ll f n) = _ by unfold outP; rw [if_neg h6, hhb]; rfl)
      have k63 : Hid (∀ W, Below W0.heap.size W0 W → Calls Tryz.prog 63 #[.slice a n c, .string ⟨#[]⟩, .string ⟨#[]⟩] W fun e w3 => ∃ a' m c' f', e = .returned (.slice a' m c') ∧ Below W0.heap.size W0 w3 ∧ Lm w3 a' f' m ∧ K.ll f' m = K.ll f n ∧ ∀ b o, a' = some ⟨b, o, none⟩ → W0.heap.size ≤ b) := (show ∀ W, _ → _ from fun W b => (HB63.out W (b0.trans (b.mono b0.size))).mono fun e w3 h => by
        obtain ⟨a', m, c', f', he, h1, h2, h3, h4⟩ := h
        exact ⟨a', m, c', f', he, b.trans (h1.mono b.size), h2, h3, fun b' o' e' => Nat.le_trans b.size (h4 b' o' e')⟩)
      have eh0 : W0.heap[w.heap.size]? = some (.cells #[.slice a n c, .float .f64 x] 31) := by
        have h1 : (w.alloc (.cells #[.slice a n c, .float .f64 x] 31)).heap[w.heap.size]? = some (.cells #[.slice a n c, .float .f64 x] 31) := heap_alloc_new w _
        have h2 := ((Below.refl _ (w.alloc (.cells #[.slice a n c, .float .f64 x] 31))).alloc (Nat.le_refl _) (.cells #[.slice none 0 0, .float .f64 0] 31)).block w.heap.size (by simp)
        rw [hW0, h2, h1]
      have HBXC : Hid (∀ W, Below W0.heap.size W0 W → W.cell? ⟨w.heap.size, 0, none⟩ = some (.slice a n c) ∧ W.cell? ⟨w.heap.size, 1, none⟩ = some (.float .f64 x)) := (show ∀ W, _ → _ from fun W b => ⟨bcell2 b (by unfold World.cell?; rw [eh0]; rfl), bcell2 b (by unfold World.cell?; rw [eh0]; rfl)⟩)
      have bd : Below W0.heap.size W0 W0.drew := (Below.refl _ _).drew
      have bd0 : Below W0.heap.size W0 W0 := Below.refl _ _
      have hne : ¬ w.heap.size = w.heap.size + 1 := by omega
      obtain ⟨e0, e1⟩ := HBXC.out W0 bd0
      obtain ⟨e2', e3'⟩ := HBXC.out W0.drew bd
      rw [hW0] at k63 HBXC HNF bd bd0 e0 e1 e2' e3' HWS
      clear hV hL hS hkn HB35 HB63 b0 bx hW0 hop hp hq eh0 HCELL hhb
      go_enter Tryz.func33, Tryz.ntmps33
      go_wp2_with fail
      go_fit (kK _)
      rintro e w2 ⟨rfl, rfl⟩
      go_wp2_with fail
      go_fit (kh _)
      rintro e w3 ⟨rfl, rfl⟩
      go_upto_region 6 with fail
      go_region_with (go_at_call 63; go_fit (k63.out _ (by first | exact bd | exact bd0)); rintro e w3 ⟨a', m, c', f', rfl, b3, hl3, hll3, hbl⟩; obtain ⟨y0, y1⟩ := HBXC.out w3 b3; obtain ⟨⟨z0, z1, f0, f1⟩, hfin⟩ := HNF.out w3 a' f' m b3 hl3 hbl; have HFN : Hid (∀ (u : Value) (z : Nat), _ ∧ _ ∧ _ ∧ _) := hfin; have HLL : Hid (K.ll f' m = K.ll f n ∧ ∀ b o, a' = some ⟨b, o, none⟩ → w.heap.size ≤ b) := (show _ ∧ _ from ⟨hll3, fun b o e => Nat.le_trans HWS.out (hbl b o e)⟩); clear hfin b3 hl3 hll3 hbl)
      all_goals go_wp2
      all_goals
        obtain ⟨q1, q2, r0, r1⟩ := HFN.out (.slice a' m c') x
        refine bodyPost_ret (v := .tuple #[.agg #[.slice a' m c', .float .f64 x], .bool hb]) (by simp [results, Tryz.results33, go_sem, r0, r1]) rfl ⟨a', m, c', f', x, hb, rfl, q1, q2, ?_, .inl HLL.out.1, HLL.out.2⟩
        rw [HO.out, HLL.out.1]
    · have HO : Hid (outP V k true p q x (K.ll f n) = some (drN (K.ll f n), F.cl (if hb = true then 4607182418800017408 else 0))) := (show outP V k true p q x (K.ll f n) = _ by unfold outP; rw [if_neg h6, hhb]; rfl)
      have kY := fun W => F.yesNo_any hb W
      have k35 := HB35.out W0 b0
      have k35' := k35.mono fun e w3 h => (show ∃ a' m c' f', e = .returned (.slice a' m c') ∧ Below W0.heap.size W0 w3 ∧ Lm w3 a' f' m ∧ K.ll f' m = drN (K.ll f n) ∧ ∀ b o, a' = some ⟨b, o, none⟩ → W0.heap.size ≤ b from h)
      rw [hW0] at k35' HNF HWS
      clear hV hL hS hkn HB35 HB63 b0 bx hW0 hop hp hq k35 HCELL hhb
      generalize (if hb = true then 4607182418800017408 else 0) = zz at *
      go_enter Tryz.func33, Tryz.ntmps33
      go_wp2_with fail
      go_fit (kK _)
      rintro e w2 ⟨rfl, rfl⟩
      go_wp2_with fail
      go_fit (kh _)
      rintro e w3 ⟨rfl, rfl⟩
      go_wp2_with fail
      go_fit k35'
      rintro e w3 ⟨a', m, c', f', rfl, b3, hl3, hll3, hbl⟩
      obtain ⟨⟨z0, z1, f0, f1⟩, hfin⟩ := HNF.out w3 a' f' m b3 hl3 hbl
      have HFN : Hid (∀ (u : Value) (z : Nat), _ ∧ _ ∧ _ ∧ _) := hfin
      have HLL : Hid (K.ll f' m = drN (K.ll f n) ∧ ∀ b o, a' = some ⟨b, o, none⟩ → w.heap.size ≤ b) := (show _ ∧ _ from ⟨hll3, fun b o e => Nat.le_trans HWS.out (hbl b o e)⟩)
      clear hfin b3 hl3 hll3 hbl k35'
      go_wp2_with fail
      go_fit (kY _)
      rintro e w5 ⟨rfl, rfl⟩
      go_wp2
      obtain ⟨q1, q2, r0, r1⟩ := HFN.out (.slice a' m c') zz
      refine bodyPost_ret (v := .tuple #[.agg #[.slice a' m c', .float .f64 zz], .bool true]) (by simp [results, Tryz.results33, go_sem, r0, r1]) rfl ⟨a', m, c', f', zz, true, rfl, q1, q2, ?_, .inr HLL.out.1, HLL.out.2⟩
      rw [HO.out, if_pos rfl, HLL.out.1]
end Go.Proofs.YtebjklppbkkinaaGreatDoor
/- Pair: the reference's Mixed. -/
namespace Go.Proofs.YtebjklppbkkinaaGreatDoor
open Go.RowKit Go.Lib Go.Shelf Go.Sort

attribute [local go_sem] Oper.semAt_some run_store_float

theorem ap_el3 (w : World) (S : Nat) (v : Value) (n : Nat) (xs : List Value) (x : El) (hS : S ≤ w.heap.size) (hn : (n + 1) * 32 ≤ 140737488355328) (o : w.ownsRow S 31 2 v n xs) :
    ∃ g c w', (Builtin.append_ #[22, 22] 22 #[v, .slice (some ⟨w.heap.size, 0, none⟩) 1 1]).run Tryz.prog (w.alloc (elX x)) = .ok (.slice (some ⟨g, 0, none⟩) (n + 1) c) w' ∧ w'.ownsRow S 31 2 (.slice (some ⟨g, 0, none⟩) (n + 1) c) (n + 1) (xs ++ e2 x) ∧ Kp (fun k => v.ownBlock = some k) w w' ∧ (v.ownBlock = some g ∨ w.heap.size < g) := by
  obtain ⟨i0, hi, hz0, hz1, hz2⟩ := info_parts infE
  have o0 := World.ownsRow.alloc o (elX x)
  have e : (w.alloc (elX x)).heap[w.heap.size]? = some (elX x) := heap_alloc_new w _
  obtain ⟨v', w', r, o', g, _, hg⟩ := run_append_own_at (P := Tryz.prog) (w.alloc (elX x)) S 22 22 31 i0 _ 2 32 Tryz.underlying22 hi hz0 hz1 hz2 rfl (by decide) _ n xs o0 ⟨w.heap.size, 0, none⟩ 1 1 (e2 x) (by rfl)
    (fun j u hj => by
      rw [Go.WideShapes.add_plain, Nat.zero_add]
      unfold World.cell?
      rw [e]
      match j, hj with
      | 0, hj => exact hj
      | 1, hj => exact hj
      | k + 2, hj => exact absurd hj (by simp [e2])) (fun u hu => by
      simp [e2] at hu
      rcases hu with rfl | rfl <;> rfl) (by unfold maxLen; omega) (by omega) (by simp; omega)
  rcases o'.2 with ⟨_, h0⟩ | ⟨g', c', cur, rfl, hg1, hh, _⟩
  · omega
  · have b0 : Below w.heap.size w (w.alloc (elX x)) := (Below.refl _ w).alloc (Nat.le_refl _) _
    refine ⟨g', c', w', r, o', (Kp.of b0).trans ⟨g.os, g.tape, g.output, g.size, fun k hk hm => g.block k hk fun e => hm e.symm⟩, ?_⟩
    rcases hg with h | h
    · exact .inl h.symm
    · have h2 : g' = (w.alloc (elX x)).heap.size := Option.some.inj h
      simp at h2
      exact .inr (by omega)
/-- What came out so far, each with labels of its own. -/
structure RI (wB : World) (l : List Kc) (i : Nat) (qo : Nat → El) (ov : Value) (W : World) : Prop where
  row : W.ownsRow wB.heap.size 31 2 ov i (fl e2 (elL qo i))
  lab : ∀ m, m < i → Eo W (qo m) ∧ Ls (K.ll (qo m).f (qo m).n) ∧ (0 < (qo m).n → ∀ b o, (qo m).a = some ⟨b, o, none⟩ → ov.ownBlock ≠ some b)
  kcs : (elL qo i).map kc = l
  bel : Below wB.heap.size wB W
theorem RI.below {wB W W' : World} {l : List Kc} {i : Nat} {qo : Nat → El} {ov : Value} (h : RI wB l i qo ov W) (b : Below W.heap.size W W') : RI wB l i qo ov W' :=
  ⟨kept_row h.row b, fun m hm => ⟨(h.lab m hm).1.below b, (h.lab m hm).2.1, (h.lab m hm).2.2⟩, h.kcs, h.bel.trans (b.mono h.bel.size)⟩
theorem lm_lt {W : World} {a : Option Addr} {f : Nat → Lb} {n b o : Nat} (h : Lm W a f n) (hp : 0 < n) (e : a = some ⟨b, o, none⟩) : b < W.heap.size := by
  rcases h with h0 | ⟨g, o', ea, hg, _⟩
  · omega
  · rw [e] at ea
    cases ea
    exact hg
theorem RI.step {wB W W1 W2 : World} {l : List Kc} {i g c : Nat} {qo : Nat → El} {ov : Value} {x : El} (h : RI wB l i qo ov W) (b1 : Below W.heap.size W W1) (hx : Eo W1 x) (hS : Ls (K.ll x.f x.n)) (hlo : ∀ b o, x.a = some ⟨b, o, none⟩ → W.heap.size ≤ b)
    (o3 : W2.ownsRow wB.heap.size 31 2 (.slice (some ⟨g, 0, none⟩) (i + 1) c) (i + 1) (fl e2 (elL qo i) ++ e2 x)) (k3 : Kp (fun b => ov.ownBlock = some b) W1 W2) (hg : ov.ownBlock = some g ∨ W1.heap.size < g) :
    RI wB (l ++ [kc x]) (i + 1) (up qo i x) (.slice (some ⟨g, 0, none⟩) (i + 1) c) W2 := by
  have e : elL (up qo i x) (i + 1) = elL qo i ++ [x] := by
    rw [elL_succ, up_at]
    congr 1
    simp only [elL]
    exact List.map_congr_left fun m hm => up_ne _ _ _ _ (by have := List.mem_range.1 hm; omega)
  have hov : ∀ b, ov.ownBlock = some b → wB.heap.size ≤ b ∧ b < W.heap.size := own_bd h.row
  have lm3 : ∀ {y : El}, Lm W1 y.a y.f y.n → (0 < y.n → ∀ b o, y.a = some ⟨b, o, none⟩ → ov.ownBlock ≠ some b) → Lm W2 y.a y.f y.n := fun {y} hl hd => by
    rcases Nat.eq_zero_or_pos y.n with h0 | hp
    · exact .inl h0
    · exact lm_kp hl k3 fun b o ea h1 => hd hp b o ea h1
  have hxd : 0 < x.n → ∀ b o, x.a = some ⟨b, o, none⟩ → ov.ownBlock ≠ some b := fun _ b o ea h1 => by
    have := (hov b h1).2
    have := hlo b o ea
    omega
  refine ⟨?_, fun m hm => ?_, ?_, ?_⟩
  · rw [e]
    have e' : fl e2 (elL qo i ++ [x]) = fl e2 (elL qo i) ++ e2 x := by simp [fl]
    rw [e']
    exact o3
  · by_cases em : m = i
    · rw [em, up_at]
      refine ⟨⟨lm3 hx.1 hxd, hx.2⟩, hS, fun hp b o ea h1 => ?_⟩
      obtain rfl : g = b := Option.some.inj h1
      rcases hg with hg | hg
      · exact hxd hp g o ea hg
      · have := lm_lt hx.1 hp ea; omega
    · rw [up_ne _ _ _ _ em]
      obtain ⟨h1, h2, h3⟩ := h.lab m (by omega)
      have h1' := h1.below b1
      refine ⟨⟨lm3 h1'.1 h3, h1.2⟩, h2, fun hp b o ea h4 => ?_⟩
      obtain rfl : g = b := Option.some.inj h4
      rcases hg with hg | hg
      · exact h3 hp g o ea hg
      · have := lm_lt h1'.1 hp ea; omega
  · rw [e, List.map_append, h.kcs]
    rfl
  · have b2 : Below wB.heap.size wB W1 := h.bel.trans (b1.mono h.bel.size)
    exact b2.trans (k3.below b2.size fun b hb h1 => by have := (hov b h1).1; omega)
theorem eo_of {W : World} {a' : Option Addr} {f f' : Nat → Lb} {n m c' z : Nat} (hl : Lm W a' f' m) (hn : n ≤ 1048576) (hs : ∀ j, j < n → (f j).1.size ≤ 1048576 ∧ (f j).2.size ≤ 1048576) (hS : Ls (K.ll f n)) (h : K.ll f' m = K.ll f n ∨ K.ll f' m = drN (K.ll f n)) : Eo W ⟨a', m, c', f', z⟩ ∧ Ls (K.ll f' m) := by
  have sub : ∀ x ∈ K.ll f' m, x ∈ K.ll f n := fun x hx => by
    rcases h with h | h
    · rw [h] at hx; exact hx
    · rw [h] at hx; exact (List.mem_filter.1 hx).1
  have hm : m ≤ n := by
    have e1 := K.ll_len f' m
    have e2 := K.ll_len f n
    rcases h with h | h
    · rw [h, e2] at e1; omega
    · have := List.length_filter_le (fun u => !isN u) (K.ll f n)
      rw [h] at e1
      unfold drN at e1
      omega
  refine ⟨⟨hl, by show m ≤ _; omega, fun j hj => ?_⟩, ?_⟩
  · have hj' : j < m := hj
    have hx : f' j ∈ K.ll f n := sub _ (by simp only [K.ll, List.mem_map, List.mem_range]; exact ⟨j, hj', rfl⟩)
    obtain ⟨t, ht, e⟩ : ∃ t, t < n ∧ f t = f' j := by simpa [K.ll] using hx
    show (f' j).1.size ≤ _ ∧ (f' j).2.size ≤ _
    rw [← e]
    have := hs t ht
    omega
  · rcases h with h | h
    · rw [h]; exact hS
    · rw [h]; exact ls_drN hS
end Go.Proofs.YtebjklppbkkinaaGreatDoor
