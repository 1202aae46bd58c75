/- A bundle of texts. -/
import Derived.Test.YtebjklppbkkinaaGreatDoorBp29
import Derived.BigQuiet
/- Pair: Mixed. -/
namespace Go.Proofs.YtebjklppbkkinaaGreatDoor
open Go.RowKit Go.Lib Go.Shelf Go.Sort

attribute [local go_sem] Oper.semAt_some run_store_float

set_option maxRecDepth 100000 in
set_option maxHeartbeats 16000000 in
theorem mixed_any (s : ByteArray) (k : Nat) (hk : k < 16) (hop : F.OpK s k) (V : Nat → Nat → Option Nat) (hV : k < 6 → ∀ x y, x < 18446744073709551616 → y < 18446744073709551616 → F.BothV 50 60 s x y (V x y)) (X : Nat) (hX : X < 18446744073709551616) (left yes : Bool)
    (a : Option Addr) (n c : Nat) (q : Nat → El) (w : World) (kv : Calls Tryz.prog 18 #[.slice a n c] w (VR q n w)) (hn : n ≤ 1048576) (hq : ∀ j, j < n → (q j).n ≤ 1048576 ∧ (q j).x < 18446744073709551616) :
    Calls Tryz.prog 8 #[.string s, .slice a n c, .float .f64 X, .bool left, .bool yes] w (AN (MX ((elL q n).map core) (decide (k < 12)) (outC V k yes left X)) w) := by
  have HQ : Hid (∀ j, j < n → (q j).n ≤ 1048576 ∧ (q j).x < 18446744073709551616) := hq
  have HOP : Hid (F.OpK s k) := hop
  have HV : Hid (k < 6 → ∀ x y, x < 18446744073709551616 → y < 18446744073709551616 → F.BothV 50 60 s x y (V x y)) := hV
  have HXB : Hid (X < 18446744073709551616) := hX
  have HK16 : Hid (k < 16) := hk
  clear hop hV hX hq hk
  go_enter Tryz.func8, Tryz.ntmps8
  go_wp2_with fail
  go_fit kv
  rintro e w1 hVR
  obtain ⟨v, E, N, r, rfl, b1, hVo, hCV⟩ := VR.cv hVR
  obtain ⟨aO, cO, rfl, _⟩ := K.row_sl hVo.1
  have HB1 : Hid (Below w.heap.size w w1) := b1
  have HCV : Hid (CV ((elL q n).map core) E ((elL r N).map core)) := hCV
  have hNn : N ≤ n := by
    have := hCV.len
    rw [List.length_map, List.length_map, elL_len, elL_len] at this
    exact this
  clear kv hVR b1
  rcases hCV with ⟨rfl, hnil, hbad⟩ | ⟨rfl, hok, hp, hs⟩
  · have HBAD : Hid (CV ((elL q n).map core) 5 []) := .inl ⟨rfl, rfl, hbad⟩
    clear hnil hbad hVo
    go_wp2
    go_ret2
    exact ⟨none, 0, 0, r, 5, rfl, HB1.out, .inl rfl, by omega, fun j hj => absurd hj (by omega), .inl ⟨HBAD.out, rfl, rfl⟩⟩
  · have HVo : Hid (Vo w.heap.size w1 (.slice aO N cO) N r) := hVo
    have HRQ : Hid (∀ j, j < N → (r j).n ≤ 1048576 ∧ (r j).x < 18446744073709551616) := (show ∀ j, _ → _ from fun j hj => by
      have hm : core (r j) ∈ (elL q n).map core := hp.subset (List.mem_map.2 ⟨r j, List.mem_of_getElem? (elL_get r N j hj), rfl⟩)
      obtain ⟨y, hy, e⟩ := List.mem_map.1 hm
      obtain ⟨i, hi, rfl⟩ := mem_elL.1 hy
      obtain ⟨e1, _, e3⟩ := core_eq e
      have := HQ.out i hi
      rw [← e1, ← e3]
      exact this)
    have kK := F.kindOf_k s k HK16.out HOP.out w1
    clear hok hp hs hVo
    go_wp2_with fail
    go_fit kK
    rintro e w2 ⟨rfl, rfl⟩
    obtain ⟨kn, hkn⟩ : ∃ x : Nat, F.knN k = x := ⟨_, rfl⟩
    obtain ⟨w5, hw5⟩ : ∃ w5, w5 = w2.alloc (.cells #[.string s, .int .i64 (kn : Int), .bool yes] 56) := ⟨_, rfl⟩
    have b5 : Below w2.heap.size w2 w5 := by rw [hw5]; exact (Below.refl _ w2).alloc (Nat.le_refl _) _
    have eh : w5.heap[w2.heap.size]? = some (.cells #[.string s, .int .i64 (kn : Int), .bool yes] 56) := by rw [hw5]; exact heap_alloc_new w2 _
    have kT := F.takes_any s k yes w5
    have HOPV : Hid (F.opV s k yes = .agg #[.string s, .int .i64 (kn : Int), .bool yes]) := (show F.opV s k yes = _ by unfold F.opV; rw [hkn])
    rw [HOPV.out] at kT
    have s5 : w5.heap.size = w2.heap.size + 1 := by rw [hw5]; simp
    have HOB : Hid (∀ W, Below w5.heap.size w5 W → W.cell? ⟨w2.heap.size, 0, none⟩ = some (.string s) ∧ W.cell? ⟨w2.heap.size, 1, none⟩ = some (.int .i64 (kn : Int)) ∧ W.cell? ⟨w2.heap.size, 2, none⟩ = some (.bool yes)) := (show ∀ W, _ → _ from fun W b => ⟨bcell2 b (by unfold World.cell?; rw [eh]; rfl), bcell2 b (by unfold World.cell?; rw [eh]; rfl), bcell2 b (by unfold World.cell?; rw [eh]; rfl)⟩)
    have HB5 : Hid (Below w2.heap.size w2 w5 ∧ w5.heap.size = w2.heap.size + 1) := ⟨b5, s5⟩
    rw [hkn] at kK ⊢
    rw [hw5] at kT HOB HB5
    clear kK hw5 b5 eh s5 hkn
    obtain ⟨tk, htk⟩ : ∃ t, decide (k < 12) = t := ⟨_, rfl⟩
    have HTK : Hid (decide (k < 12) = tk) := htk
    rw [htk] at kT ⊢
    clear htk
    go_wp2_with fail
    go_fit kT
    rintro e w6 ⟨rfl, b6⟩
    have HB6 : Hid (Below w2.heap.size w2 w6 ∧ w2.heap.size < w6.heap.size) := (show _ ∧ _ from ⟨HB5.out.1.trans (b6.mono HB5.out.1.size), by have := b6.size; have := HB5.out.2; omega⟩)
    have HLO : Hid ((∀ t, t < N → ∀ b, (Value.slice (r t).a (r t).n (r t).c).ownBlock = some b → b < w2.heap.size) ∧ ∀ b, (Value.slice aO N cO).ownBlock = some b → b < w2.heap.size) := (show _ ∧ _ from ⟨fun t ht b hb => (own_bd (HVo.out.2.1 t ht).1 b hb).2, fun b hb => (own_bd HVo.out.1 b hb).2⟩)
    have HOB6 : Hid (∀ W, Kp (fun b => w6.heap.size ≤ b ∨ ∃ t, t < N ∧ (Value.slice (r t).a (r t).n (r t).c).ownBlock = some b) w6 W → (W.cell? ⟨w2.heap.size, 0, none⟩ = some (.string s) ∧ W.cell? ⟨w2.heap.size, 1, none⟩ = some (.int .i64 (kn : Int)) ∧ W.cell? ⟨w2.heap.size, 2, none⟩ = some (.bool yes)) ∧ Em W aO r N ∧ Below w.heap.size w W) := (show ∀ W, _ → _ from fun W kp => by
      have hk := HB6.out.2
      have hnb : ¬ (w6.heap.size ≤ w2.heap.size ∨ ∃ t, t < N ∧ (Value.slice (r t).a (r t).n (r t).c).ownBlock = some w2.heap.size) := by
        rintro (h | ⟨t, ht, h⟩)
        · omega
        · have := HLO.out.1 t ht _ h; omega
      have blk := kp.block w2.heap.size hk hnb
      obtain ⟨c0, c1, c2⟩ := HOB.out w6 b6
      refine ⟨⟨(World.cell?_of_block (a := ⟨w2.heap.size, 0, none⟩) blk).trans c0, (World.cell?_of_block (a := ⟨w2.heap.size, 1, none⟩) blk).trans c1, (World.cell?_of_block (a := ⟨w2.heap.size, 2, none⟩) blk).trans c2⟩, ?_, ?_⟩
      · refine elM_row (kp.row (kept_row HVo.out.1 HB6.out.1) fun b hb h => ?_)
        rcases h with h | ⟨t, ht, h⟩
        · have := HLO.out.2 b hb; omega
        · exact (HVo.out.2.1 t ht).2 b hb h
      · have b0 : Below w.heap.size w w6 := HB1.out.trans (HB6.out.1.mono HB1.out.size)
        refine b0.trans (kp.below b0.size fun b hb h => ?_)
        rcases h with h | ⟨t, ht, h⟩
        · have := b0.size; omega
        · have := (own_bd (HVo.out.2.1 t ht).1 b h).1; omega)
    clear kT b6 HOB HB5
    cases tk
    · have HBE : Hid (Below w.heap.size w w6) := (show Below _ _ _ from (HOB6.out w6 (Kp.refl _ _)).2.2)
      go_wp2
      go_ret2
      exact ⟨none, 0, 0, r, 7, rfl, HBE.out, .inl rfl, by omega, fun j hj => absurd hj (by omega), .inr (.inl ⟨⟨_, HCV.out⟩, HTK.out, rfl, rfl⟩)⟩
    · have HK12 : Hid (k < 12) := (show k < 12 from of_decide_eq_true HTK.out)
      have HM0 : Hid (MI w.heap.size N r w6 (outC V k yes left X) 0 0 (fun _ => zE) (.slice none 0 0) w6) := (show MI _ _ _ _ _ _ _ _ _ _ from ⟨World.ownsRow_nil _ _ _ _, fun m hm => absurd hm (by omega), fun m _ h2 => kept_row (HVo.out.2.1 m h2).1 HB6.out.1, rfl, Kp.refl _ _⟩)
      have hNi : (N : Int) ≤ 1048576 := by omega
      go_wp2_with fail
      go_loopw [15, 40] (fun ov t W => ∃ (j i : Nat) (qo : Nat → El), t = .int .i64 (j : Int) ∧ j ≤ N ∧ Hid (MI w.heap.size N r w6 (outC V k yes left X) j i qo ov W)) (fun _ t _ => N - (RowKit.intOf t).toNat)
      case atStart => exact ⟨0, 0, _, rfl, by omega, HM0⟩
      case round =>
        obtain ⟨j, i, qo, rfl, hj, HM⟩ := hrel
        by_cases hlt : j < N
        · have hjj : (j : Int) < N := by omega
          have j0 : (0 : Int) ≤ (j : Int) := by omega
          obtain ⟨⟨p0, p1, p2⟩, hEm, _⟩ := HOB6.out wr HM.out.kp
          obtain ⟨g, o, rfl, _, x0, x1⟩ := hEm.at j hlt
          obtain ⟨hrn, hrx⟩ := HRQ.out j hlt
          have HJ : Hid (j < N) := hlt
          have HBT : Hid (∀ W, Calls Tryz.prog 23 #[.agg #[.string s, .int .i64 (kn : Int), .bool yes], .float .f64 (if left = true then X else (r j).x), .float .f64 (if left = true then (r j).x else X), .float .f64 (r j).x] W fun e w' => ∃ z ok, e = .returned (.tuple #[.float .f64 z, .bool ok]) ∧ Below W.heap.size W w' ∧ z < 18446744073709551616 ∧ outC V k yes left X (core (r j)) = (if ok = true then some (nmL k yes (K.ll (r j).f (r j).n), F.cl z) else none)) := (show ∀ W, _ from fun W => by
            have := btw_any s k HK12.out HOP.out V HV.out yes (if left = true then X else (r j).x) (if left = true then (r j).x else X) (r j).x (K.ll (r j).f (r j).n) (by split; exact HXB.out; exact hrx) (by split; exact hrx; exact HXB.out) hrx W
            rw [HOPV.out] at this
            exact this)
          have HNM : Hid (∀ W, Below wr.heap.size wr W → Calls Tryz.prog 24 #[.agg #[.string s, .int .i64 (kn : Int), .bool yes], .slice (r j).a (r j).n (r j).c] W fun e w' => ∃ a' m c' f', e = .returned (.slice a' m c') ∧ m ≤ (r j).n ∧ K.ll f' m = nmL k yes (K.ll (r j).f (r j).n) ∧ K.Ir w' w.heap.size (.slice a' m c') m f' ∧ Kp (fun b => (Value.slice (r j).a (r j).n (r j).c).ownBlock = some b) W w' ∧ (∀ b, (Value.slice a' m c').ownBlock = some b → (Value.slice (r j).a (r j).n (r j).c).ownBlock = some b)) := (show ∀ W, _ → _ from fun W b => by
            have := named_any s k yes w.heap.size (r j).n (r j).c (r j).a (r j).f W (ow_ir.1 (kept_row (HM.out.left j (Nat.le_refl _) HJ.out) b)) (by omega)
            rw [HOPV.out] at this
            exact this)
          have HPB : Hid (∀ W, Below wr.heap.size wr W → W.cell? ⟨w2.heap.size, 0, none⟩ = some (.string s) ∧ W.cell? ⟨w2.heap.size, 1, none⟩ = some (.int .i64 (kn : Int)) ∧ W.cell? ⟨w2.heap.size, 2, none⟩ = some (.bool yes)) := (show ∀ W, _ → _ from fun W b => (HOB6.out W (HM.out.kp.trans (Kp.of b))).1)
          have bA : Below wr.heap.size wr (wr.alloc (elX (r j))) := (Below.refl _ wr).alloc (Nat.le_refl _) _
          have HBX : Hid (∀ W, Below (wr.alloc (elX (r j))).heap.size (wr.alloc (elX (r j))) W → (W.cell? ⟨wr.heap.size, 0, none⟩ = some (.slice (r j).a (r j).n (r j).c) ∧ W.cell? ⟨wr.heap.size, 1, none⟩ = some (.float .f64 (r j).x)) ∧ Below wr.heap.size wr W) := (show ∀ W, _ → _ from fun W b => by
            have eh : (wr.alloc (elX (r j))).heap[wr.heap.size]? = some (elX (r j)) := heap_alloc_new wr _
            exact ⟨⟨bcell2 b (by unfold World.cell?; rw [eh]; rfl), bcell2 b (by unfold World.cell?; rw [eh]; rfl)⟩, bA.trans (b.mono (by simp))⟩)
          have HST : Hid (∀ w7 w8 w9 a' m c' f' z g3 c3, Below wr.heap.size wr w7 → m ≤ (r j).n → K.ll f' m = nmL k yes (K.ll (r j).f (r j).n) → K.Ir w8 w.heap.size (.slice a' m c') m f' → Kp (fun b => (Value.slice (r j).a (r j).n (r j).c).ownBlock = some b) w7 w8 → (∀ b, (Value.slice a' m c').ownBlock = some b → (Value.slice (r j).a (r j).n (r j).c).ownBlock = some b) → outC V k yes left X (core (r j)) = some (nmL k yes (K.ll (r j).f (r j).n), F.cl z) → w9.ownsRow w6.heap.size 31 2 (.slice (some ⟨g3, 0, none⟩) (i + 1) c3) (i + 1) (fl e2 (elL qo i) ++ e2 ⟨a', m, c', f', z⟩) → Kp (fun b => u15.ownBlock = some b) w8 w9 → MI w.heap.size N r w6 (outC V k yes left X) (j + 1) (i + 1) (up qo i ⟨a', m, c', f', z⟩) (.slice (some ⟨g3, 0, none⟩) (i + 1) c3) w9) := (show ∀ w7 w8 w9 a' m c' f' z g3 c3, _ → _ → _ → _ → _ → _ → _ → _ → _ → _ from fun w7 w8 w9 a' m c' f' z g3 c3 h1 h2 h3 h4 h5 h6 h7 h8 h9 =>
            HM.out.step (x := ⟨a', m, c', f', z⟩) HJ.out h1 (fun s t hs ht hne => HVo.out.ap s t hs ht hne) (fun t ht b hb => by have := HLO.out.1 t ht b hb; have := HB6.out.2; omega) h5 h4 (by show m ≤ _; omega) h6 h8 h9 (by
              rw [h7]
              unfold kc
              rw [h3]))
          have HRO : Hid (∀ w7 w8, Below wr.heap.size wr w7 → Kp (fun b => (Value.slice (r j).a (r j).n (r j).c).ownBlock = some b) w7 w8 → w8.ownsRow w6.heap.size 31 2 u15 i (fl e2 (elL qo i)) ∧ w6.heap.size ≤ w8.heap.size) := (show ∀ w7 w8, _ → _ → _ from fun w7 w8 h1 h2 => ⟨h2.row (kept_row HM.out.row h1) (fun b hb h => by have := (own_bd HM.out.row b hb).1; have := HLO.out.1 j HJ.out b h; have := HB6.out.2; omega), by have := HM.out.kp.size; have := h1.size; have := h2.size; omega⟩)
          have HIJ : Hid (i ≤ N) := (show i ≤ N by have := HM.out.len; have := HJ.out; omega)
          have HSK : Hid (∀ w7, Below wr.heap.size wr w7 → outC V k yes left X (core (r j)) = none → MI w.heap.size N r w6 (outC V k yes left X) (j + 1) i qo u15 w7) := (show ∀ w7, _ → _ → _ from fun w7 b h => HM.out.skip b h)
          clear HM bA hEm hrx hrn
          unfold elX at HBX
          obtain ⟨⟨ea, en, ec, ef, ex⟩, hre⟩ : ∃ x, r j = x := ⟨_, rfl⟩
          generalize core (r j) = cr at *
          rw [hre] at x0 x1 HBT HNM HBX HST HRO
          dsimp only at x0 x1 HBT HNM HBX HST HRO
          clear hre
          cases left
          · have kB := HBT.out (wr.alloc (.cells #[.slice ea en ec, .float .f64 ex] 31))
            simp only [Bool.false_eq_true, if_false] at kB
            obtain ⟨s0, s1, s2⟩ := HPB.out (wr.alloc (.cells #[.slice ea en ec, .float .f64 ex] 31)) ((Below.refl _ wr).alloc (Nat.le_refl _) _)
            go_wp2_with fail
            go_fit kB
            rintro e w7 ⟨z, ok, rfl, b7, hz, hout⟩
            obtain ⟨⟨d0, d1⟩, hb7⟩ := HBX.out w7 (b7)
            obtain ⟨p0', p1', p2'⟩ := HPB.out w7 hb7
            clear kB p0 p1 p2 x0 x1 hz b7
            cases ok
            · have HN : Hid (MI _ _ _ _ _ _ _ _ _ _) := HSK.out w7 hb7 (by simpa using hout)
              clear HBX HBT HNM HPB HST HRO HSK hout hb7
              go_wp2
              exact ⟨⟨j + 1, i, qo, by go_num, by have := HJ.out; omega, HN⟩, by simp [RowKit.intOf]; have := HJ.out; omega⟩
            · have kN := HNM.out w7 hb7
              go_wp2_with fail
              go_fit kN
              rintro e w8 ⟨a', m, c', f', rfl, hm, hll, hIr, kp8, hb8⟩
              obtain ⟨hr8, hs8⟩ := HRO.out w7 w8 hb7 kp8
              obtain ⟨g3, c3, w9, r9, o9, k9⟩ := ap_el w8 w6.heap.size u15 i _ ⟨a', m, c', f', z⟩ hs8 (by have := HIJ.out; omega) hr8
              have HN : Hid (MI _ _ _ _ _ _ _ _ _ _) := HST.out w7 w8 w9 a' m c' f' z g3 c3 hb7 hm hll hIr kp8 hb8 (by simpa using hout) o9 k9
              clear HBX HBT HNM HPB HST HRO HSK hout hb7 kN hm hll hIr kp8 hb8 hr8 hs8 o9 k9
              unfold elX at r9
              dsimp only at r9
              go_wp2_with (at_builtin; refine wpList_append_run rfl (.tmp 61) (.tmp 68) 22 22 rfl _ _ rfl rfl r9 ?_)
              exact ⟨⟨j + 1, i + 1, _, by go_num, by have := HJ.out; omega, HN⟩, by simp [RowKit.intOf]; have := HJ.out; omega⟩
          · have kB0 := fun W => HBT.out W
            simp only [if_true] at kB0
            go_upto_region 13 with fail
            go_big_quiet (fail)
            have bW : Below (wr.alloc (.cells #[.slice ea en ec, .float .f64 ex] 31)).heap.size (wr.alloc (.cells #[.slice ea en ec, .float .f64 ex] 31)) ((wr.alloc (.cells #[.slice ea en ec, .float .f64 ex] 31)).drewN nq) := below_drewN (Below.refl _ _) nq
            obtain ⟨⟨e0, e1⟩, hbW⟩ := HBX.out _ bW
            obtain ⟨s0, s1, s2⟩ := HPB.out _ hbW
            generalize (wr.alloc (.cells #[.slice ea en ec, .float .f64 ex] 31)).drewN nq = W2 at *
            have HBW : Hid (Below (wr.alloc (.cells #[.slice ea en ec, .float .f64 ex] 31)).heap.size (wr.alloc (.cells #[.slice ea en ec, .float .f64 ex] 31)) W2) := bW
            have kB := kB0 W2
            clear kB0 bW hbW
            go_wp2_with fail
            go_fit kB
            rintro e w7 ⟨z, ok, rfl, b7, hz, hout⟩
            obtain ⟨⟨d0, d1⟩, hb7⟩ := HBX.out w7 (HBW.out.trans (b7.mono HBW.out.size))
            obtain ⟨p0', p1', p2'⟩ := HPB.out w7 hb7
            clear kB p0 p1 p2 x0 x1 hz b7
            cases ok
            · have HN : Hid (MI _ _ _ _ _ _ _ _ _ _) := HSK.out w7 hb7 (by simpa using hout)
              clear HBX HBT HNM HPB HST HRO HSK hout hb7
              go_wp2
              exact ⟨⟨j + 1, i, qo, by go_num, by have := HJ.out; omega, HN⟩, by simp [RowKit.intOf]; have := HJ.out; omega⟩
            · have kN := HNM.out w7 hb7
              go_wp2_with fail
              go_fit kN
              rintro e w8 ⟨a', m, c', f', rfl, hm, hll, hIr, kp8, hb8⟩
              obtain ⟨hr8, hs8⟩ := HRO.out w7 w8 hb7 kp8
              obtain ⟨g3, c3, w9, r9, o9, k9⟩ := ap_el w8 w6.heap.size u15 i _ ⟨a', m, c', f', z⟩ hs8 (by have := HIJ.out; omega) hr8
              have HN : Hid (MI _ _ _ _ _ _ _ _ _ _) := HST.out w7 w8 w9 a' m c' f' z g3 c3 hb7 hm hll hIr kp8 hb8 (by simpa using hout) o9 k9
              clear HBX HBT HNM HPB HST HRO HSK hout hb7 kN hm hll hIr kp8 hb8 hr8 hs8 o9 k9
              unfold elX at r9
              dsimp only at r9
              go_wp2_with (at_builtin; refine wpList_append_run rfl (.tmp 61) (.tmp 68) 22 22 rfl _ _ rfl rfl r9 ?_)
              exact ⟨⟨j + 1, i + 1, _, by go_num, by have := HJ.out; omega, HN⟩, by simp [RowKit.intOf]; have := HJ.out; omega⟩
        · obtain rfl : N = j := by omega
          have hjj : ¬ (N : Int) < N := by omega
          obtain ⟨ao, co, hu, _⟩ := K.row_sl HM.out.row
          subst hu
          have hiN := HM.out.len
          have kO := ordered_any w6.heap.size i co ao qo wr HM.out.row (by omega) (fun m hm => by
            obtain ⟨h1, h2, h3⟩ := HM.out.lab m hm
            refine ⟨h1, h2, fun b o e h => ?_⟩
            obtain ⟨t, ht, et⟩ := h3 b (by rw [e]; rfl)
            have := (own_bd HM.out.row b h).1
            have := HLO.out.1 t ht b et
            have := HB6.out.2
            omega)
          have HL : Hid (∀ w9, Kp (fun b => (Value.slice ao i co).ownBlock = some b) wr w9 → (∀ m, m < i → Lm w9 (qo m).a (qo m).f (qo m).n ∧ (qo m).n ≤ 4294967296) ∧ Below w.heap.size w w9) := (show ∀ w9, _ → _ from fun w9 kp => by
            refine ⟨fun m hm => ?_, ?_⟩
            · obtain ⟨h1, h2, h3⟩ := HM.out.lab m hm
              refine ⟨lm_kp h1 kp fun b o e h => ?_, h2⟩
              obtain ⟨t, ht, et⟩ := h3 b (by rw [e]; rfl)
              have := (own_bd HM.out.row b h).1
              have := HLO.out.1 t ht b et
              have := HB6.out.2
              omega
            · have b0 := (HOB6.out wr HM.out.kp).2.2
              refine b0.trans (kp.below b0.size fun b hb h => ?_)
              have := (own_bd HM.out.row b h).1
              have := (HOB6.out w6 (Kp.refl _ _)).2.2.size
              omega)
          go_wp2_with fail
          go_fit kO
          rintro e w9 hOR
          obtain ⟨a', c', N', r', E', rfl, kp9, hEm', hN', hmem, hDV⟩ := OR.dv hOR
          have HF : Hid (Below w.heap.size w w9 ∧ Em w9 a' r' N' ∧ N' ≤ 1099511627776 ∧ (∀ m, m < N' → Lm w9 (r' m).a (r' m).f (r' m).n ∧ (r' m).n ≤ 4294967296) ∧ DV (((elL r N).map core).filterMap (outC V k yes left X)) E' ((elL r' N').map kc)) := (show _ ∧ _ ∧ _ ∧ _ ∧ _ from ⟨(HL.out w9 kp9).2, hEm', by omega, fun m hm => by
            obtain ⟨i', hi', e⟩ := hmem m hm
            rw [e]
            exact (HL.out w9 kp9).1 i' hi', by rw [← HM.out.kcs]; exact hDV⟩)
          clear kO hOR kp9 hEm' hN' hmem hDV
          go_wp2
          go_ret2
          exact ⟨a', c', N', r', E', rfl, HF.out.1, HF.out.2.1, HF.out.2.2.1, HF.out.2.2.2.1, .inr (.inr ⟨HTK.out, _, HCV.out, HF.out.2.2.2.2⟩)⟩
end Go.Proofs.YtebjklppbkkinaaGreatDoor
