/- A bundle of texts. -/
import Derived.Test.YtjmninjaoemhjaaDoorBv21
import Derived.Test.YtjmninjaoemhjaaDoorBv18
import Derived.Deep.RegionHeld3
import Derived.Deep.CutBlock
import Derived.Deep.QuietTactic
/- LabelsCuts: the walk. -/
namespace Go.Proofs.YtjmninjaoemhjaaDoor
open Go.RowKit Go.Lib

theorem row_kept {W W' : World} {S e s n : Nat} {v : Value} {xs : List Value} (o : W.ownsRow S e s v n xs) (b : Below W.heap.size W W') : W'.ownsRow S e s v n xs := (Kp.of (M := fun _ => False) b).row o (fun _ _ h => h)
theorem smb_size {w w' : World} {a : Option Addr} {f : Nat → ByteArray} {n : Nat} (h : K.Smb w.heap.size w a f n) (hb : Below w.heap.size w w') : K.Smb w'.heap.size w' a f n := by
  rcases h with h | ⟨g, o, e, hg, hc⟩
  · exact .inl h
  · exact .inr ⟨g, o, e, Nat.lt_of_lt_of_le hg hb.size, fun j hj => (hb.cell (p := ⟨g, o + j, none⟩) hg).trans (hc j hj)⟩
/-- Get's contract, from a world on. -/
def GC (w3 : World) (v : Value) (ks : List Lb) : Prop := ∀ W k, Below w3.heap.size w3 W → Calls Tryd.prog 12 #[v, .string k] W fun e w' => e = .returned (.string (gvL k ks)) ∧ Below W.heap.size W w'
theorem gc_of {w3 : World} {S c : Nat} {a : Option Addr} {ks : List Lb} (o : w3.ownsRow S 26 2 (.slice a ks.length c) ks.length (lcL ks)) (hn : ks.length ≤ 140737488355328) (hs : ∀ x ∈ ks, x.2.size ≤ 140737488355328) : GC w3 (.slice a ks.length c) ks := fun W k b => get_row W S c a ks k (row_kept o b) hn hs
set_option maxHeartbeats 16000000 in
set_option maxRecDepth 100000 in
theorem cuts_walk (pa : Option Addr) (pn pc : Nat) (f : Nat → Lb) (nm vl : ByteArray) (na : Option Addr) (nn nc : Nat) (nf : Nat → ByteArray) (wo : Bool) (w : World) (hL : Lm w pa f pn) (hn : pn ≤ 1048576) (hs : ∀ j, j < pn → (f j).1.size ≤ 1048576 ∧ (f j).2.size ≤ 1048576) (hnm : nm.size ≤ 1048576) (hvl : vl.size ≤ 1048576) (hR : K.Smb w.heap.size w na nf nn) (hnn : nn ≤ 1048576) (hT : Lib.Utf8Tabs 1 2 w) :
    Calls Tryd.prog 4 #[.agg #[.slice pa pn pc, .string nm, .string vl, .slice na nn nc, .bool wo]] w fun e w' => e = .returned (.bool true) ∧ Below w.heap.size w w' := by
  have e0 : (w.alloc (.cells #[.slice pa pn pc, .string nm, .string vl, .slice na nn nc, .bool wo] 31)).heap[w.heap.size]? = some (.cells #[.slice pa pn pc, .string nm, .string vl, .slice na nn nc, .bool wo] 31) := heap_alloc_new w _
  have HC : Hid (∀ W, Below (w.alloc (.cells #[.slice pa pn pc, .string nm, .string vl, .slice na nn nc, .bool wo] 31)).heap.size (w.alloc (.cells #[.slice pa pn pc, .string nm, .string vl, .slice na nn nc, .bool wo] 31)) W → W.cell? ⟨w.heap.size, 0, none⟩ = some (.slice pa pn pc) ∧ W.cell? ⟨w.heap.size, 1, none⟩ = some (.string nm) ∧ W.cell? ⟨w.heap.size, 2, none⟩ = some (.string vl) ∧ W.cell? ⟨w.heap.size, 3, none⟩ = some (.slice na nn nc)) := fun W b =>
    ⟨bcell2 b (by unfold World.cell?; rw [e0]; rfl), bcell2 b (by unfold World.cell?; rw [e0]; rfl), bcell2 b (by unfold World.cell?; rw [e0]; rfl), bcell2 b (by unfold World.cell?; rw [e0]; rfl)⟩
  have k1 := awake_any (w.alloc (.cells #[.slice pa pn pc, .string nm, .string vl, .slice na nn nc, .bool wo] 31))
  have HB0 : Hid (Below w.heap.size w (w.alloc (.cells #[.slice pa pn pc, .string nm, .string vl, .slice na nn nc, .bool wo] 31))) := (Below.refl _ w).alloc (Nat.le_refl _) _
  have HT : Hid (∀ W, Below w.heap.size w W → Lib.Utf8Tabs 1 2 W) := (show ∀ W, _ → _ from fun W b => tabs_below hT (tabs_size hT) b)
  have HM : Hid (∀ W, Below w.heap.size w W → Calls Tryd.prog 10 #[.slice pa pn pc] W (MkR f pn W)) := fun W b => make_any pa f pn pc W (hL.below b) (by omega) (fun j hj => by have := hs j hj; omega) (HT.out W b)
  have HR : Hid (∀ W, Below w.heap.size w W → K.Smb W.heap.size W na nf nn) := (show ∀ W, _ → _ from fun W b => smb_size hR b)
  have HS : Hid (∀ j, j < pn → (f j).1.size ≤ 1048576 ∧ (f j).2.size ≤ 1048576) := hs
  clear e0 hL hs hR hT
  go_enter Tryd.func4, Tryd.ntmps4
  go_wp2_with fail
  go_fit k1
  rintro e w1 ⟨rfl, b1⟩
  obtain ⟨c0, c1, c2, c3⟩ := HC.out w1 b1
  have B1 : Hid (Below w.heap.size w w1) := HB0.out.trans (b1.mono HB0.out.size)
  have B1d : Hid (∀ q, Below w.heap.size w (w1.drewN q)) := (show ∀ q, _ from fun q => below_drewN B1.out q)
  have k2 := fun q => HM.out (w1.drewN q) (B1d.out q)
  clear k1 b1 HC HM HB0
  go_wp2_with fail
  go_quiet (fail)
  go_wp2_with fail
  go_fit (k2 _)
  rintro e w2 ⟨v, E, rfl, b2, hc⟩
  have B2 : Hid (Below w.heap.size w w2) := (B1d.out _).trans (b2.mono (B1d.out _).size)
  clear k2 b2 B1 B1d c0 c1 c2 c3
  rcases hc with ⟨hE, rfl⟩ | ⟨rfl, hG, ks, hp, hso, o2⟩
  · go_wp2
    go_ret
    exact ⟨rfl, B2.out⟩
  have HLs : Hid (Ls ks) := (show Ls ks from ls_make hG hp hso)
  have hln := ls_len hp
  have HZ : Hid (∀ x ∈ ks, x.1.size ≤ 1048576 ∧ x.2.size ≤ 1048576) := (show ∀ x ∈ ks, _ from fun x hx => by
    obtain ⟨j, hj, rfl⟩ := ls_mem hp hx
    exact HS.out j hj)
  clear hG hp hso HS
  obtain ⟨b, c, hv⟩ := row_sl o2
  subst hv
  have k3 := K.with_any b (K.gL ks) ks.length c nm vl w2 (by omega) (fun j hj => by have := HZ.out _ (gL_mem ks j hj); omega) (by omega) (by omega) (K.row_lm o2)
  have HO2 : Hid (w2.ownsRow (w1.heap.size + 1) 26 2 (.slice b ks.length c) ks.length (lcL ks)) := o2
  clear o2
  obtain ⟨Wl, hWl⟩ : ∃ Wl, K.wthL (K.gL ks) nm vl ks.length = Wl := ⟨_, rfl⟩
  have HWg : Hid (gvL nm Wl = vl) := (show gvL nm Wl = vl by rw [← hWl]; exact with_get ks nm vl)
  have HWo : Hid (∀ x ∈ ks, x.1 ≠ nm → gvL x.1 Wl = x.2) := (show ∀ x ∈ ks, _ from fun x hx h => by rw [← hWl]; exact with_other HLs.out nm vl hx h)
  have hWn : Wl.length ≤ ks.length + 1 ∧ ks.length ≤ Wl.length + 1 := by rw [← hWl]; exact with_len HLs.out nm vl
  have HWz : Hid (∀ x ∈ Wl, x.2.size ≤ 140737488355328) := (show ∀ x ∈ Wl, _ from fun x hx => by
    rw [← hWl] at hx
    rcases with_mem hx with h | rfl
    · have := HZ.out x h
      omega
    · show vl.size ≤ _
      omega)
  rw [hWl] at k3
  clear hWl
  go_wp2_with fail
  go_fit k3
  rintro e w3 ⟨v3, rfl, o3, b3⟩
  obtain ⟨b', c', hv⟩ := row_sl o3
  subst hv
  have B3 : Hid (Below w.heap.size w w3) := B2.out.trans (b3.mono B2.out.size)
  have HO3 : Hid (w3.ownsRow (w1.heap.size + 1) 26 2 (.slice b ks.length c) ks.length (lcL ks)) := row_kept HO2.out b3
  have HGW : Hid (GC w3 (.slice b' Wl.length c') Wl) := (show GC _ _ _ from gc_of o3 (by omega) HWz.out)
  have k4 := HGW.out w3 nm (Below.refl _ _)
  rw [HWg.out] at k4
  clear k3 o3 b3 HO2 B2 HWg HWz
  have hvv : (vl.toList == vl.toList) = true := beq_self_eq_true _
  go_wp2_with fail
  go_fit k4
  rintro e w4 ⟨rfl, b4⟩
  have B4 : Hid (Below w3.heap.size w3 w4) := b4
  clear k4 b4
  go_wp2_with fail
  clear hvv
  go_loopw [46] (fun t w' => ∃ i : Nat, t = .int .i64 (i : Nat) ∧ i ≤ ks.length ∧ Hid (Below w3.heap.size w3 w')) (fun t _ => ks.length - (RowKit.intOf t).toNat)
  case atStart => exact ⟨0, rfl, by omega, B4⟩
  case round =>
    obtain ⟨i, rfl, hi, HB⟩ := hrel
    by_cases hlt : i < ks.length
    · have hii : (i : Int) < (ks.length : Int) := by omega
      obtain ⟨g, o, rfl, hg, q0, q1⟩ := (K.row_lm (row_kept HO3.out HB.out)).at i hlt
      have hx := gL_mem ks i hlt
      obtain ⟨x, hx'⟩ : ∃ x, K.gL ks i = x := ⟨_, rfl⟩
      rw [hx'] at q0 q1 hx
      clear hx'
      obtain ⟨x1, x2⟩ := x
      dsimp only at q0 q1
      go_upto_region 13 with fail
      obtain ⟨WX, hWX⟩ : ∃ WX, WX = wr.alloc (lbX (x1, x2)) := ⟨_, rfl⟩
      obtain ⟨gx, hgx⟩ : ∃ gx, gx = wr.heap.size := ⟨_, rfl⟩
      have e1 : WX.heap[gx]? = some (lbX (x1, x2)) := by rw [hWX, hgx]; exact heap_alloc_new wr _
      have HN : Hid (Below w3.heap.size w3 WX) := (show Below _ _ _ by rw [hWX]; exact HB.out.alloc HB.out.size _)
      have HSX : Hid (∀ W, Below WX.heap.size WX W → (W.cell? ⟨gx, 0, none⟩ = some (.string x1) ∧ W.cell? ⟨gx, 1, none⟩ = some (.string x2)) ∧ Below WX.heap.size WX W) := (show ∀ W, _ → _ from fun W b => ⟨⟨bcell2 b (by unfold World.cell?; rw [e1]; rfl), bcell2 b (by unfold World.cell?; rw [e1]; rfl)⟩, b⟩)
      dsimp only [lbX] at hWX
      rw [← hWX, ← hgx]
      clear hWX hgx e1
      obtain ⟨⟨p0, p1⟩, _⟩ := HSX.out WX (Below.refl _ _)
      have bd : Below WX.heap.size WX WX.drew := (Below.refl _ _).drew
      by_cases he : (x1.toList == nm.toList) = true
      · obtain rfl : x1 = nm := (teq _ _).1 he
        clear he
        go_quiet (fail)
        go_wp2
        exact ⟨⟨i + 1, by go_num, by omega, below_drewN HN.out _⟩, by simp [RowKit.intOf]; omega⟩
      · have HG5 : Hid (∀ W, Below WX.heap.size WX W → Calls Tryd.prog 12 #[.slice b' Wl.length c', .string x1] W fun e w' => e = .returned (.string x2) ∧ Below W.heap.size W w') := (show ∀ W, _ → _ from fun W b => by
          have k5 := HGW.out W x1 (HN.out.trans (b.mono HN.out.size))
          rw [HWo.out (x1, x2) hx (fun h => he ((teq _ _).2 h))] at k5
          exact k5)
        have he2 : (x1.toList == nm.toList) = false := by simpa using he
        have hvv : (x2.toList == x2.toList) = true := beq_self_eq_true _
        clear he
        go_region_held3 (fun w2 => (w2.cell? ⟨gx, 0, none⟩ = some (.string x1) ∧ w2.cell? ⟨gx, 1, none⟩ = some (.string x2)) ∧ Below WX.heap.size WX w2) (first | exact HSX.out _ (by assumption) | exact HSX.out _ (Below.drew (by assumption))) (first | (go_at_call 12; go_fit (HG5.out _ (by first | exact bd | exact Below.refl _ _)); rintro e w12 ⟨rfl, b12⟩; have bc : Below WX.heap.size WX w12 := by first | exact bd.trans (b12.mono bd.size) | exact b12))
        rename_i hh
        have HNd : Hid (Below w3.heap.size w3 w12) := HN.out.trans (bc.mono HN.out.size)
        clear hvv
        go_wp2
        exact ⟨⟨i + 1, by go_num, by omega, HNd⟩, by simp [RowKit.intOf]; omega⟩
    · have hii : ¬ (i : Int) < (ks.length : Int) := by omega
      have hk9 : ks.length ≤ 1048576 := by omega
      have a1 : ¬ ((Wl.length : Int) > (ks.length : Int) + 1) := by omega
      have a2 : ¬ ((Wl.length : Int) < (ks.length : Int) - 1) := by omega
      have a3 : IntKind.i64.wrap ((ks.length : Int) + 1) = (ks.length : Int) + 1 := by rw [IntKind.wrap_i64]; omega
      have a4 : IntKind.i64.wrap ((ks.length : Int) - 1) = (ks.length : Int) - 1 := by rw [IntKind.wrap_i64]; omega
      obtain ⟨Ki, hKi⟩ : ∃ Ki, Ki = ks.filter fun l => K.stay (K.lf nf nn) false l.1 := ⟨_, rfl⟩
      obtain ⟨Ko, hKo⟩ : ∃ Ko, Ko = ks.filter fun l => K.stay (K.lf nf nn) true l.1 := ⟨_, rfl⟩
      have HCT : Hid (Ki.length + Ko.length + (if gvL nmB ks ≠ ⟨#[]⟩ ∧ gvL nmB Ki = ⟨#[]⟩ then 1 else 0) = ks.length) := (show _ = _ by rw [hKi, hKo]; exact kept_count HLs.out _)
      have HON : Hid (gvL nmB Ko = ⟨#[]⟩) := (show _ = _ by rw [hKo]; exact out_name ks _)
      have HKG : Hid (∀ x ∈ ks, gvL x.1 Ki = x.2 ∨ (gvL x.1 Ki = ⟨#[]⟩ ∧ (x.1 = nmB ∨ gvL x.1 Ko = x.2))) := (show ∀ x ∈ ks, _ from fun x hx => by rw [hKi, hKo]; exact kept_get HLs.out _ hx)
      have HLi : Hid (Ls Ki) := (show Ls Ki by rw [hKi]; exact HLs.out.filter _)
      have HLo : Hid (Ls Ko) := (show Ls Ko by rw [hKo]; exact HLs.out.filter _)
      have HZi : Hid (∀ x ∈ Ki, x.1.size ≤ 140737488355328 ∧ x.2.size ≤ 140737488355328) := (show ∀ x ∈ Ki, _ from fun x hx => by
        rw [hKi] at hx
        have := HZ.out x (List.mem_filter.1 hx).1
        omega)
      have HZo : Hid (∀ x ∈ Ko, x.1.size ≤ 140737488355328 ∧ x.2.size ≤ 140737488355328) := (show ∀ x ∈ Ko, _ from fun x hx => by
        rw [hKo] at hx
        have := HZ.out x (List.mem_filter.1 hx).1
        omega)
      have hli : Ki.length ≤ ks.length := by rw [hKi]; exact List.length_filter_le _ _
      have hlo : Ko.length ≤ ks.length := by rw [hKo]; exact List.length_filter_le _ _
      have BW : Hid (Below w.heap.size w wr) := B3.out.trans (HB.out.mono B3.out.size)
      have HKP : Hid (∀ W wo, Below wr.heap.size wr W → Calls Tryd.prog 13 #[.slice b ks.length c, .slice na nn nc, .bool wo] W fun e w' => ∃ v, e = .returned v ∧ w'.ownsRow W.heap.size 26 2 v (ks.filter fun l => K.stay (K.lf nf nn) wo l.1).length (lcL (ks.filter fun l => K.stay (K.lf nf nn) wo l.1)) ∧ Below W.heap.size W w') := (show ∀ W wo, _ → _ from fun W wo bb => by
        have bw : Below w3.heap.size w3 W := HB.out.trans (bb.mono HB.out.size)
        have k := K.keep_any b na (K.gL ks) nf ks.length c nn nc wo W (by omega) (by omega) (fun j hj => by have := HZ.out _ (gL_mem ks j hj); omega) (K.row_lm (row_kept HO3.out bw)) (HR.out W (BW.out.trans (bb.mono BW.out.size)))
        rw [kept_gL] at k
        exact k)
      have HKi : Hid (∀ W, Below wr.heap.size wr W → Calls Tryd.prog 13 #[.slice b ks.length c, .slice na nn nc, .bool false] W fun e w' => ∃ v, e = .returned v ∧ w'.ownsRow W.heap.size 26 2 v Ki.length (lcL Ki) ∧ Below W.heap.size W w') := (show ∀ W, _ → _ from fun W bb => by
        have k := HKP.out W false bb
        rw [← hKi] at k
        exact k)
      have HKo : Hid (∀ W, Below wr.heap.size wr W → Calls Tryd.prog 13 #[.slice b ks.length c, .slice na nn nc, .bool true] W fun e w' => ∃ v, e = .returned v ∧ w'.ownsRow W.heap.size 26 2 v Ko.length (lcL Ko) ∧ Below W.heap.size W w') := (show ∀ W, _ → _ from fun W bb => by
        have k := HKP.out W true bb
        rw [← hKo] at k
        exact k)
      have k6 := HKi.out wr (Below.refl _ _)
      clear hKi hKo HKP
      go_wp2_with fail
      go_fit k6
      rintro e w6 ⟨v6, rfl, o6, b6⟩
      obtain ⟨ia, ic, rfl⟩ := row_sl o6
      have B6 : Hid (Below wr.heap.size wr w6) := b6
      have k7 := HKo.out w6 b6
      clear k6 b6
      go_wp2_with fail
      go_fit k7
      rintro e w7 ⟨v7, rfl, o7, b7⟩
      obtain ⟨oa, oc, rfl⟩ := row_sl o7
      have B7 : Hid (Below wr.heap.size wr w7) := B6.out.trans (b7.mono B6.out.size)
      have B7w : Hid (Below w.heap.size w w7) := BW.out.trans (B7.out.mono BW.out.size)
      have O6 : Hid (w7.ownsRow wr.heap.size 26 2 (.slice ia Ki.length ic) Ki.length (lcL Ki)) := row_kept o6 b7
      have O7 : Hid (w7.ownsRow w6.heap.size 26 2 (.slice oa Ko.length oc) Ko.length (lcL Ko)) := o7
      have O3 : Hid (w7.ownsRow (w1.heap.size + 1) 26 2 (.slice b ks.length c) ks.length (lcL ks)) := row_kept HO3.out (HB.out.trans (B7.out.mono HB.out.size))
      have HGI : Hid (GC w7 (.slice ia Ki.length ic) Ki) := (show GC _ _ _ from gc_of O6.out (by omega) (fun x hx => (HZi.out x hx).2))
      have HGO : Hid (GC w7 (.slice oa Ko.length oc) Ko) := (show GC _ _ _ from gc_of O7.out (by omega) (fun x hx => (HZo.out x hx).2))
      have HGL : Hid (GC w7 (.slice b ks.length c) ks) := (show GC _ _ _ from gc_of O3.out (by omega) (fun x hx => by have := HZ.out x hx; omega))
      have HVI : Hid (∀ W, Below w7.heap.size w7 W → Calls Tryd.prog 14 #[.slice ia Ki.length ic] W fun e w' => e = .returned (.bool true) ∧ Below W.heap.size W w') := (show ∀ W, _ → _ from fun W bb => valid_row W _ ic ia Ki (row_kept O6.out bb) (by omega) HZi.out HLi.out (HT.out W (B7w.out.trans (bb.mono B7w.out.size))))
      have HVO : Hid (∀ W, Below w7.heap.size w7 W → Calls Tryd.prog 14 #[.slice oa Ko.length oc] W fun e w' => e = .returned (.bool true) ∧ Below W.heap.size W w') := (show ∀ W, _ → _ from fun W bb => valid_row W _ oc oa Ko (row_kept O7.out bb) (by omega) HZo.out HLo.out (HT.out W (B7w.out.trans (bb.mono B7w.out.size))))
      have BZ7 : Hid (∀ W, Below w7.heap.size w7 W → Below w.heap.size w W) := (show ∀ W, _ → _ from fun W bb => B7w.out.trans (bb.mono B7w.out.size))
      have HKS : Hid (∀ W, Below w7.heap.size w7 W → Lm W b (K.gL ks) ks.length) := (show ∀ W, _ → _ from fun W bb => K.row_lm (row_kept O3.out bb))
      have HNE : Hid (∀ x ∈ ks, x.2.toList.isEmpty = false) := (show ∀ x ∈ ks, _ from fun x hx => by
        have h1 := (HLs.out.1 x hx).2.1
        cases h2 : x.2.toList.isEmpty
        · rfl
        · exact absurd ((tempty _).1 h2) h1)
      clear k7 b7 o6 o7 HKi HKo a1 a2 a3 a4 HGW HWo HB B3 HO3 BW B6 B7 B7w O6 O7 O3 HLi HLo HZi HZo HZ HLs HR HT
      go_wp2_with fail
      go_fit (HVI.out w7 (Below.refl _ _))
      rintro e w8 ⟨rfl, b8⟩
      have B8 : Hid (Below w7.heap.size w7 w8) := b8
      clear b8
      go_wp2_with fail
      go_fit (HVO.out w8 B8.out)
      rintro e w9 ⟨rfl, b9⟩
      have B9 : Hid (Below w7.heap.size w7 w9) := B8.out.trans (b9.mono B8.out.size)
      have kO := HGO.out w9 nmB B9.out
      rw [HON.out] at kO
      dsimp only [nmB] at kO
      clear b9 HVI HVO
      go_wp2_with fail
      go_fit kO
      rintro e w10 ⟨rfl, b10⟩
      have B10 : Hid (Below w7.heap.size w7 w10) := B9.out.trans (b10.mono B9.out.size)
      have kL := HGL.out w10 nmB B10.out
      obtain ⟨M, hM⟩ : ∃ M : Nat, M = Ki.length + Ko.length := ⟨_, rfl⟩
      have hMw : IntKind.i64.wrap ((Ki.length : Int) + (Ko.length : Int)) = (M : Int) := by rw [IntKind.wrap_i64]; omega
      have hM1 : IntKind.i64.wrap ((M : Int) + 1) = (M : Int) + 1 := by rw [IntKind.wrap_i64]; omega
      rw [← hM] at HCT
      have HI := HGI.out
      obtain ⟨G, hG⟩ : ∃ G, gvL nmB ks = G := ⟨_, rfl⟩
      obtain ⟨I, hI⟩ : ∃ I, gvL nmB Ki = I := ⟨_, rfl⟩
      rw [hG] at kL HCT
      rw [hI] at HCT
      have HII : Hid (gvL nmB Ki = I) := hI
      dsimp only [nmB] at kL
      clear b10 kO hM hG hI HI
      go_wp2_with fail
      go_fit kL
      rintro e w11 ⟨rfl, b11⟩
      have B11 : Hid (Below w7.heap.size w7 w11) := B10.out.trans (b11.mono B10.out.size)
      clear b11 kL
      cases eg : G.toList.isEmpty
      · have kI := HGI.out w11 nmB B11.out
        rw [HII.out] at kI
        dsimp only [nmB] at kI
        have HG0 : Hid (G ≠ ⟨#[]⟩) := (show G ≠ ⟨#[]⟩ from fun h => by
          have h7 := (tempty G).2 h
          rw [eg] at h7
          cases h7)
        go_wp2_with fail
        go_fit kI
        rintro e w12 ⟨rfl, b12⟩
        have B12 : Hid (Below w7.heap.size w7 w12) := B11.out.trans (b12.mono B11.out.size)
        clear b12 kI
        cases ei : I.toList.isEmpty
        · have HI0 : Hid (I ≠ ⟨#[]⟩) := (show I ≠ ⟨#[]⟩ from fun h => by
            have h7 := (tempty I).2 h
            rw [ei] at h7
            cases h7)
          have hmk : ((M : Int) != (ks.length : Int)) = false := by
            have h9 := HCT.out
            rw [if_neg (fun h => HI0.out h.2)] at h9
            simp; omega
          clear HCT HG0 HI0
          go_wp2_with fail
          go_loopw [118] (fun t w' => ∃ i : Nat, t = .int .i64 (i : Nat) ∧ i ≤ ks.length ∧ Hid (Below w7.heap.size w7 w')) (fun t _ => ks.length - (RowKit.intOf t).toNat)
          case atStart => exact ⟨0, rfl, by omega, B12⟩
          case round =>
            obtain ⟨i, rfl, hi, HB⟩ := hrel
            by_cases hlt : i < ks.length
            · have hii : (i : Int) < (ks.length : Int) := by omega
              obtain ⟨g, o, rfl, hg, q0, q1⟩ := (HKS.out wr HB.out).at i hlt
              have hx := gL_mem ks i hlt
              obtain ⟨x, hx'⟩ : ∃ x, K.gL ks i = x := ⟨_, rfl⟩
              rw [hx'] at q0 q1 hx
              clear hx'
              obtain ⟨x1, x2⟩ := x
              dsimp only at q0 q1
              have hne : x2.toList.isEmpty = false := HNE.out (x1, x2) hx
              have hkg : gvL x1 Ki = x2 ∨ (gvL x1 Ki = ⟨#[]⟩ ∧ (x1 = nmB ∨ gvL x1 Ko = x2)) := HKG.out (x1, x2) hx
              go_upto_region 29 with fail
              obtain ⟨WX, hWX⟩ : ∃ WX, WX = wr.alloc (lbX (x1, x2)) := ⟨_, rfl⟩
              obtain ⟨gx, hgx⟩ : ∃ gx, gx = wr.heap.size := ⟨_, rfl⟩
              have e1 : WX.heap[gx]? = some (lbX (x1, x2)) := by rw [hWX, hgx]; exact heap_alloc_new wr _
              have HN : Hid (Below w7.heap.size w7 WX) := (show Below _ _ _ by rw [hWX]; exact HB.out.alloc HB.out.size _)
              have HSX : Hid (∀ W, Below WX.heap.size WX W → W.cell? ⟨gx, 0, none⟩ = some (.string x1) ∧ W.cell? ⟨gx, 1, none⟩ = some (.string x2)) := (show ∀ W, _ → _ from fun W b => ⟨bcell2 b (by unfold World.cell?; rw [e1]; rfl), bcell2 b (by unfold World.cell?; rw [e1]; rfl)⟩)
              dsimp only [lbX] at hWX
              rw [← hWX, ← hgx]
              clear hWX hgx e1
              obtain ⟨p0, p1⟩ := HSX.out WX (Below.refl _ _)
              have k5 := HGI.out WX x1 HN.out
              have hvv : (x2.toList == x2.toList) = true := beq_self_eq_true _
              rcases hkg with hkg | ⟨hkg, hkg2⟩
              · rw [hkg] at k5
                clear hkg
                go_wp2_with fail
                go_fit k5
                rintro e w15 ⟨rfl, b15⟩
                have B15 : Hid (Below w7.heap.size w7 w15) := HN.out.trans (b15.mono HN.out.size)
                obtain ⟨r0, r1⟩ := HSX.out w15 b15
                clear b15 k5
                go_wp2
                exact ⟨⟨i + 1, by go_num, by omega, B15⟩, by simp [RowKit.intOf]; omega⟩
              · rw [hkg] at k5
                clear hkg
                go_wp2_with fail
                go_fit k5
                rintro e w15 ⟨rfl, b15⟩
                have B15 : Hid (Below w7.heap.size w7 w15) := HN.out.trans (b15.mono HN.out.size)
                obtain ⟨r0, r1⟩ := HSX.out w15 b15
                have HSX2 : Hid (∀ W, Below w15.heap.size w15 W → W.cell? ⟨gx, 0, none⟩ = some (.string x1) ∧ W.cell? ⟨gx, 1, none⟩ = some (.string x2)) := (show ∀ W, _ → _ from fun W b => HSX.out W (b15.trans (b.mono b15.size)))
                have k6 := HGO.out w15 x1 B15.out
                clear b15 k5
                rcases hkg2 with rfl | hkg2
                · generalize gvL nmB Ko = g2 at k6
                  dsimp only [nmB] at k6 p0 p1 r0 r1
                  cases hg2 : (g2.toList == x2.toList)
                  all_goals
                    go_wp2_with fail
                    go_fit k6
                    rintro e w16 ⟨rfl, b16⟩
                    have B16 : Hid (Below w7.heap.size w7 w16) := B15.out.trans (b16.mono B15.out.size)
                    obtain ⟨s0, s1⟩ := HSX2.out w16 b16
                    dsimp only [nmB] at s0 s1
                    clear b16 k6
                    go_wp2
                    exact ⟨⟨i + 1, by go_num, by omega, B16⟩, by simp [RowKit.intOf]; omega⟩
                · rw [hkg2] at k6
                  clear hkg2
                  go_wp2_with fail
                  go_fit k6
                  rintro e w16 ⟨rfl, b16⟩
                  have B16 : Hid (Below w7.heap.size w7 w16) := B15.out.trans (b16.mono B15.out.size)
                  obtain ⟨s0, s1⟩ := HSX2.out w16 b16
                  clear b16 k6
                  go_wp2
                  exact ⟨⟨i + 1, by go_num, by omega, B16⟩, by simp [RowKit.intOf]; omega⟩
            · have hii : ¬ (i : Int) < (ks.length : Int) := by omega
              have BE : Hid (Below w.heap.size w wr) := BZ7.out wr HB.out
              go_wp2
              go_ret
              exact ⟨rfl, BE.out⟩
        · have HI0 : Hid (I = ⟨#[]⟩) := (tempty I).1 ei
          have hmk : ((M : Int) + 1 != (ks.length : Int)) = false := by
            have h9 := HCT.out
            rw [if_pos ⟨HG0.out, HI0.out⟩] at h9
            simp; omega
          clear HCT HG0 HI0
          go_wp2_with fail
          go_loopw [118] (fun t w' => ∃ i : Nat, t = .int .i64 (i : Nat) ∧ i ≤ ks.length ∧ Hid (Below w7.heap.size w7 w')) (fun t _ => ks.length - (RowKit.intOf t).toNat)
          case atStart => exact ⟨0, rfl, by omega, B12⟩
          case round =>
            obtain ⟨i, rfl, hi, HB⟩ := hrel
            by_cases hlt : i < ks.length
            · have hii : (i : Int) < (ks.length : Int) := by omega
              obtain ⟨g, o, rfl, hg, q0, q1⟩ := (HKS.out wr HB.out).at i hlt
              have hx := gL_mem ks i hlt
              obtain ⟨x, hx'⟩ : ∃ x, K.gL ks i = x := ⟨_, rfl⟩
              rw [hx'] at q0 q1 hx
              clear hx'
              obtain ⟨x1, x2⟩ := x
              dsimp only at q0 q1
              have hne : x2.toList.isEmpty = false := HNE.out (x1, x2) hx
              have hkg : gvL x1 Ki = x2 ∨ (gvL x1 Ki = ⟨#[]⟩ ∧ (x1 = nmB ∨ gvL x1 Ko = x2)) := HKG.out (x1, x2) hx
              go_upto_region 29 with fail
              obtain ⟨WX, hWX⟩ : ∃ WX, WX = wr.alloc (lbX (x1, x2)) := ⟨_, rfl⟩
              obtain ⟨gx, hgx⟩ : ∃ gx, gx = wr.heap.size := ⟨_, rfl⟩
              have e1 : WX.heap[gx]? = some (lbX (x1, x2)) := by rw [hWX, hgx]; exact heap_alloc_new wr _
              have HN : Hid (Below w7.heap.size w7 WX) := (show Below _ _ _ by rw [hWX]; exact HB.out.alloc HB.out.size _)
              have HSX : Hid (∀ W, Below WX.heap.size WX W → W.cell? ⟨gx, 0, none⟩ = some (.string x1) ∧ W.cell? ⟨gx, 1, none⟩ = some (.string x2)) := (show ∀ W, _ → _ from fun W b => ⟨bcell2 b (by unfold World.cell?; rw [e1]; rfl), bcell2 b (by unfold World.cell?; rw [e1]; rfl)⟩)
              dsimp only [lbX] at hWX
              rw [← hWX, ← hgx]
              clear hWX hgx e1
              obtain ⟨p0, p1⟩ := HSX.out WX (Below.refl _ _)
              have k5 := HGI.out WX x1 HN.out
              have hvv : (x2.toList == x2.toList) = true := beq_self_eq_true _
              rcases hkg with hkg | ⟨hkg, hkg2⟩
              · rw [hkg] at k5
                clear hkg
                go_wp2_with fail
                go_fit k5
                rintro e w15 ⟨rfl, b15⟩
                have B15 : Hid (Below w7.heap.size w7 w15) := HN.out.trans (b15.mono HN.out.size)
                obtain ⟨r0, r1⟩ := HSX.out w15 b15
                clear b15 k5
                go_wp2
                exact ⟨⟨i + 1, by go_num, by omega, B15⟩, by simp [RowKit.intOf]; omega⟩
              · rw [hkg] at k5
                clear hkg
                go_wp2_with fail
                go_fit k5
                rintro e w15 ⟨rfl, b15⟩
                have B15 : Hid (Below w7.heap.size w7 w15) := HN.out.trans (b15.mono HN.out.size)
                obtain ⟨r0, r1⟩ := HSX.out w15 b15
                have HSX2 : Hid (∀ W, Below w15.heap.size w15 W → W.cell? ⟨gx, 0, none⟩ = some (.string x1) ∧ W.cell? ⟨gx, 1, none⟩ = some (.string x2)) := (show ∀ W, _ → _ from fun W b => HSX.out W (b15.trans (b.mono b15.size)))
                have k6 := HGO.out w15 x1 B15.out
                clear b15 k5
                rcases hkg2 with rfl | hkg2
                · generalize gvL nmB Ko = g2 at k6
                  dsimp only [nmB] at k6 p0 p1 r0 r1
                  cases hg2 : (g2.toList == x2.toList)
                  all_goals
                    go_wp2_with fail
                    go_fit k6
                    rintro e w16 ⟨rfl, b16⟩
                    have B16 : Hid (Below w7.heap.size w7 w16) := B15.out.trans (b16.mono B15.out.size)
                    obtain ⟨s0, s1⟩ := HSX2.out w16 b16
                    dsimp only [nmB] at s0 s1
                    clear b16 k6
                    go_wp2
                    exact ⟨⟨i + 1, by go_num, by omega, B16⟩, by simp [RowKit.intOf]; omega⟩
                · rw [hkg2] at k6
                  clear hkg2
                  go_wp2_with fail
                  go_fit k6
                  rintro e w16 ⟨rfl, b16⟩
                  have B16 : Hid (Below w7.heap.size w7 w16) := B15.out.trans (b16.mono B15.out.size)
                  obtain ⟨s0, s1⟩ := HSX2.out w16 b16
                  clear b16 k6
                  go_wp2
                  exact ⟨⟨i + 1, by go_num, by omega, B16⟩, by simp [RowKit.intOf]; omega⟩
            · have hii : ¬ (i : Int) < (ks.length : Int) := by omega
              have BE : Hid (Below w.heap.size w wr) := BZ7.out wr HB.out
              go_wp2
              go_ret
              exact ⟨rfl, BE.out⟩
      · have HG0 : Hid (G = ⟨#[]⟩) := (tempty G).1 eg
        have hmk : ((M : Int) != (ks.length : Int)) = false := by
          have h9 := HCT.out
          rw [if_neg (fun h => h.1 HG0.out)] at h9
          simp; omega
        clear HCT HG0
        have B12 : Hid (Below w7.heap.size w7 w11) := B11.out
        go_wp2_with fail
        go_loopw [118] (fun t w' => ∃ i : Nat, t = .int .i64 (i : Nat) ∧ i ≤ ks.length ∧ Hid (Below w7.heap.size w7 w')) (fun t _ => ks.length - (RowKit.intOf t).toNat)
        case atStart => exact ⟨0, rfl, by omega, B12⟩
        case round =>
          obtain ⟨i, rfl, hi, HB⟩ := hrel
          by_cases hlt : i < ks.length
          · have hii : (i : Int) < (ks.length : Int) := by omega
            obtain ⟨g, o, rfl, hg, q0, q1⟩ := (HKS.out wr HB.out).at i hlt
            have hx := gL_mem ks i hlt
            obtain ⟨x, hx'⟩ : ∃ x, K.gL ks i = x := ⟨_, rfl⟩
            rw [hx'] at q0 q1 hx
            clear hx'
            obtain ⟨x1, x2⟩ := x
            dsimp only at q0 q1
            have hne : x2.toList.isEmpty = false := HNE.out (x1, x2) hx
            have hkg : gvL x1 Ki = x2 ∨ (gvL x1 Ki = ⟨#[]⟩ ∧ (x1 = nmB ∨ gvL x1 Ko = x2)) := HKG.out (x1, x2) hx
            go_upto_region 29 with fail
            obtain ⟨WX, hWX⟩ : ∃ WX, WX = wr.alloc (lbX (x1, x2)) := ⟨_, rfl⟩
            obtain ⟨gx, hgx⟩ : ∃ gx, gx = wr.heap.size := ⟨_, rfl⟩
            have e1 : WX.heap[gx]? = some (lbX (x1, x2)) := by rw [hWX, hgx]; exact heap_alloc_new wr _
            have HN : Hid (Below w7.heap.size w7 WX) := (show Below _ _ _ by rw [hWX]; exact HB.out.alloc HB.out.size _)
            have HSX : Hid (∀ W, Below WX.heap.size WX W → W.cell? ⟨gx, 0, none⟩ = some (.string x1) ∧ W.cell? ⟨gx, 1, none⟩ = some (.string x2)) := (show ∀ W, _ → _ from fun W b => ⟨bcell2 b (by unfold World.cell?; rw [e1]; rfl), bcell2 b (by unfold World.cell?; rw [e1]; rfl)⟩)
            dsimp only [lbX] at hWX
            rw [← hWX, ← hgx]
            clear hWX hgx e1
            obtain ⟨p0, p1⟩ := HSX.out WX (Below.refl _ _)
            have k5 := HGI.out WX x1 HN.out
            have hvv : (x2.toList == x2.toList) = true := beq_self_eq_true _
            rcases hkg with hkg | ⟨hkg, hkg2⟩
            · rw [hkg] at k5
              clear hkg
              go_wp2_with fail
              go_fit k5
              rintro e w15 ⟨rfl, b15⟩
              have B15 : Hid (Below w7.heap.size w7 w15) := HN.out.trans (b15.mono HN.out.size)
              obtain ⟨r0, r1⟩ := HSX.out w15 b15
              clear b15 k5
              go_wp2
              exact ⟨⟨i + 1, by go_num, by omega, B15⟩, by simp [RowKit.intOf]; omega⟩
            · rw [hkg] at k5
              clear hkg
              go_wp2_with fail
              go_fit k5
              rintro e w15 ⟨rfl, b15⟩
              have B15 : Hid (Below w7.heap.size w7 w15) := HN.out.trans (b15.mono HN.out.size)
              obtain ⟨r0, r1⟩ := HSX.out w15 b15
              have HSX2 : Hid (∀ W, Below w15.heap.size w15 W → W.cell? ⟨gx, 0, none⟩ = some (.string x1) ∧ W.cell? ⟨gx, 1, none⟩ = some (.string x2)) := (show ∀ W, _ → _ from fun W b => HSX.out W (b15.trans (b.mono b15.size)))
              have k6 := HGO.out w15 x1 B15.out
              clear b15 k5
              rcases hkg2 with rfl | hkg2
              · generalize gvL nmB Ko = g2 at k6
                dsimp only [nmB] at k6 p0 p1 r0 r1
                cases hg2 : (g2.toList == x2.toList)
                all_goals
                  go_wp2_with fail
                  go_fit k6
                  rintro e w16 ⟨rfl, b16⟩
                  have B16 : Hid (Below w7.heap.size w7 w16) := B15.out.trans (b16.mono B15.out.size)
                  obtain ⟨s0, s1⟩ := HSX2.out w16 b16
                  dsimp only [nmB] at s0 s1
                  clear b16 k6
                  go_wp2
                  exact ⟨⟨i + 1, by go_num, by omega, B16⟩, by simp [RowKit.intOf]; omega⟩
              · rw [hkg2] at k6
                clear hkg2
                go_wp2_with fail
                go_fit k6
                rintro e w16 ⟨rfl, b16⟩
                have B16 : Hid (Below w7.heap.size w7 w16) := B15.out.trans (b16.mono B15.out.size)
                obtain ⟨s0, s1⟩ := HSX2.out w16 b16
                clear b16 k6
                go_wp2
                exact ⟨⟨i + 1, by go_num, by omega, B16⟩, by simp [RowKit.intOf]; omega⟩
          · have hii : ¬ (i : Int) < (ks.length : Int) := by omega
            have BE : Hid (Below w.heap.size w wr) := BZ7.out wr HB.out
            go_wp2
            go_ret
            exact ⟨rfl, BE.out⟩
end Go.Proofs.YtjmninjaoemhjaaDoor
