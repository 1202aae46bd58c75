/- A bundle of texts. -/
import Derived.Test.YtbciclnffokjjaaGreatDoorBt22
/- rowFront. -/
namespace Go.Proofs.YtbciclnffokjjaaGreatDoor
open Go.RowKit Go.Lib

abbrev frV (f : Fr) : Value := .agg #[.string (bA f.1), .bool f.2]
abbrev fX (s : ByteArray) (b : Bool) : Obj := .cells #[.string s, .bool b] 37
/-- The front of a tree, m deep. -/
def FrC (m : Nat) : Prop := ∀ (t : Tr) (w : World), WF m t → lenF m t ≤ 10000 → Tat w.heap.size w t → Lib.Utf8Tabs 0 1 w → Calls Tryz.prog 15 #[ndV (t [])] w fun e w' => e = .returned (frV (frF cmC m t)) ∧ Below w.heap.size w w'
theorem row_stop {G : Nat → Fr} {n : Nat} (h : (rowF G n).2 = false) : ∀ d, rowF G (n + d) = rowF G n
  | 0 => rfl
  | d + 1 => by
    have ih := row_stop h d
    have e : rowF G (n + d + 1) = if (rowF G (n + d)).2 = true then ((rowF G (n + d)).1 ++ (G (n + d)).1, (G (n + d)).2) else rowF G (n + d) := rfl
    show rowF G (n + d + 1) = _
    rw [e, ih, if_neg (by rw [h]; decide)]
theorem row_le {G : Nat → Fr} {b : Nat} : ∀ n, (∀ q, q < n → (G q).1.length ≤ b) → (rowF G n).1.length ≤ n * b
  | 0, _ => by simp [rowF]
  | n + 1, h => by
    have ih := row_le (G := G) n (fun q hq => h q (by omega))
    have hn := h n (by omega)
    have e : (n + 1) * b = n * b + b := by rw [Nat.add_mul, Nat.one_mul]
    unfold rowF
    split
    · rw [List.length_append]
      omega
    · omega
theorem builder_below {B b : Nat} {bs : List Value} {w w' : World} (h : Lib.IsBuilderF 78 5 B b bs w) (hb : Below w.heap.size w w') : Lib.IsBuilderF 78 5 B b bs w' := by
  have key : ∀ p, Lib.BuilderAtF 78 5 B b p bs w → Lib.BuilderAtF 78 5 B b p bs w' := by
    rintro p ⟨h1, v, h2, h3, h4⟩
    exact ⟨h1, v, (hb.block b (Array.getElem?_eq_some_iff.1 h2).1).trans h2, h3.kept (grown_below hb) (by cases v.ownBlock <;> simp), h4⟩
  rcases h with h | h
  · exact .inl (key _ h)
  · exact .inr (key _ h)
theorem bc_app (l : List UInt8) (s : ByteArray) : Lib.byteCells l ++ Lib.strCells s = Lib.byteCells (l ++ s.data.toList) := by simp [Lib.byteCells, Lib.strCells]
theorem bc_len (l : List UInt8) : (Lib.byteCells l).length = l.length := by simp [Lib.byteCells]

set_option maxHeartbeats 4000000 in
set_option maxRecDepth 100000 in
theorem rowFront_any (m : Nat) (hIH : FrC m) (t : Tr) (w : World) (hk : ∀ j, j < (t []).kn → WF m (kid t j) ∧ lenF m (kid t j) ≤ 10000) (hkn : (t []).kn ≤ 8194) (ht : Tat w.heap.size w t) (hT : Lib.Utf8Tabs 0 1 w) :
    Calls Tryz.prog 32 #[.slice (t []).ka (t []).kn (t []).kc] w fun e w' => e = .returned (frV (rowF (fun q => frF cmC m (kid t q)) (t []).kn)) ∧ Below w.heap.size w w' := by
  have hsz := tabs_size hT
  obtain ⟨G, hG⟩ : ∃ G : Nat → Fr, G = fun q => frF cmC m (kid t q) := ⟨_, rfl⟩
  have HGJ : Hid (∀ j, frF cmC m (kid t j) = G j) := fun j => by rw [hG]
  have hgl : ∀ q, q < (t []).kn → (G q).1.length ≤ 40000 := fun q hq => by
    have := fr_len m _ (hk q hq).1 (hk q hq).2
    have h2 := (hk q hq).2
    rw [hG]
    dsimp only
    omega
  have HGL : Hid (∀ q, q < (t []).kn → (G q).1.length ≤ 40000) := hgl
  have HRL : Hid (∀ i, i ≤ (t []).kn → (rowF G i).1.length ≤ 400000000) := fun i hi => by
    have := row_le (G := G) (b := 40000) i (fun q hq => hgl q (by omega))
    omega
  rw [← hG]
  have IH : Hid (FrC m) := hIH
  have HKD : Hid (∀ j, j < (t []).kn → WF m (kid t j) ∧ lenF m (kid t j) ≤ 10000) := hk
  obtain ⟨W, hW⟩ : ∃ W, W = (w.alloc (fX ⟨#[]⟩ false)).alloc (.cells #[.pointer none, .slice none 0 0] 78) := ⟨_, rfl⟩
  have HW : Hid (W = (w.alloc (fX ⟨#[]⟩ false)).alloc (.cells #[.pointer none, .slice none 0 0] 78)) := hW
  have hWz : W.heap.size = w.heap.size + 2 := by rw [hW]; simp
  have hb0 : Below (w.heap.size) w W := by rw [hW]; exact ((Below.refl _ w).alloc (Nat.le_refl _) _).alloc (by simp) _
  have hbu : Lib.IsBuilderF 78 5 (w.heap.size + 1) (w.heap.size + 1) (Lib.byteCells []) W := by
    have := Lib.fresh_isBuilder 78 5 (w.alloc (fX ⟨#[]⟩ false))
    rw [World.size_alloc, ← hW] at this
    exact Lib.IsBuilderF.of this
  have hr0 : W.heap[w.heap.size]? = some (fX ⟨#[]⟩ false) := by rw [hW]; exact (Below.heap_alloc _ _ _ (by simp)).trans (World.alloc_heap_new w _)
  have HR0 : Hid (W.heap[w.heap.size]? = some (fX ⟨#[]⟩ false)) := hr0
  have HB0 : Hid (Below w.heap.size w W) := hb0
  have HBU : Hid _ := hbu
  have HTT : Hid (Lib.Utf8Tabs 0 1 w) := hT
  have HT : Hid (Tat w.heap.size w t) := ht
  obtain ⟨d, hd⟩ : ∃ d, t [] = d := ⟨_, rfl⟩
  have HD : Hid (t [] = d) := hd
  rw [hd] at HKD HGL HRL hkn
  rw [hd]
  have hknI : (d.kn : Int) ≤ 8194 := by omega
  clear hd hk hIH hG hgl ht hW hb0 hbu hr0 hT
  go_enter Tryz.func32, Tryz.ntmps32
  go_upto_region 2 with fail
  rw [← HW.out]
  go_wp2_with fail
  go_loopw [9] (fun ivv w' => ∃ i : Nat, ivv = .int .i64 (i : Int) ∧ i ≤ d.kn ∧ Hid ((rowF G i).2 = true) ∧ Hid (Lib.IsBuilderF 78 5 (w.heap.size + 1) (w.heap.size + 1) (Lib.byteCells (rowF G i).1) w') ∧ Hid (Below (w.heap.size + 1) W w') ∧ Hid (w.heap.size + 2 ≤ w'.heap.size)) (fun ivv _ => d.kn - (RowKit.intOf ivv).toNat)
  case atStart => exact ⟨0, rfl, by omega, rfl, HBU.out, Below.refl _ _, by unfold Hid; omega⟩
  case round =>
    obtain ⟨i, rfl, hi, hex, hbu, hbw, hzz⟩ := hrel
    by_cases hlt : i < d.kn
    · have hii : (i : Int) < d.kn := by omega
      have hbwr : Below w.heap.size w wr := HB0.out.trans (hbw.out.mono (by omega))
      have htr := HT.out.below hbwr
      have hlt' : i < (t []).kn := by rw [HD.out]; exact hlt
      obtain ⟨g1, o1, hka, hg1, hcs⟩ := htr.kids.at i hlt'
      rw [HD.out] at hka
      have hal : Below wr.heap.size wr (wr.alloc (ndX (t [i]))) := (Below.refl _ wr).alloc (Nat.le_refl _) _
      have hz : w.heap.size ≤ wr.heap.size := hbwr.size
      have kN := IH.out (kid t i) (wr.alloc (ndX (t [i]))) (HKD.out i hlt).1 (HKD.out i hlt).2 (((htr.kid i hlt').below (hal.mono hz)).mono (Nat.le_trans hz hal.size)) (tabs_below (tabs_below HTT.out hsz hbwr) (by omega) hal)
      change Calls Tryz.prog 15 #[ndV (t [i])] (wr.alloc (ndX (t [i]))) _ at kN
      rw [HGJ.out] at kN
      have HSS : Hid (rowF G (i + 1) = ((rowF G i).1 ++ (G i).1, (G i).2)) := by
        unfold Hid
        conv => lhs; unfold rowF
        rw [if_pos hex.out]
      have HSL : Hid ((rowF G i).1.length ≤ 400000000 ∧ (G i).1.length ≤ 40000) := ⟨HRL.out i hi, HGL.out i hlt⟩
      have HST : Hid ((G i).2 = false → rowF G d.kn = rowF G (i + 1)) := fun h => by
        have := row_stop (G := G) (n := i + 1) (by rw [HSS.out]; exact h) (d.kn - (i + 1))
        rwa [show i + 1 + (d.kn - (i + 1)) = d.kn by omega] at this
      have HR : Hid (∀ w2, Below (wr.alloc (ndX (t [i]))).heap.size (wr.alloc (ndX (t [i]))) w2 → Below wr.heap.size wr w2 ∧ wr.heap.size + 1 ≤ w2.heap.size) := fun w2 b => ⟨hal.trans (b.mono hal.size), by have := b.size; simp at this; exact this⟩
      obtain ⟨p0, p1, p2, p3, p4, p5, p6, p7, p8⟩ := hcs
      rw [hka] at *
      generalize t [i] = dk at *
      obtain ⟨⟨gt, ge⟩, hgi⟩ : ∃ x, G i = x := ⟨_, rfl⟩
      rw [hgi] at kN HSS HST HSL
      dsimp only at HSS HST HSL
      obtain ⟨rt, hrt⟩ : ∃ x, (rowF G i).1 = x := ⟨_, rfl⟩
      rw [hrt] at HSS HSL hbu
      clear htr hal hlt' hka hgi hrt hbwr
      go_wp2_with fail
      go_fit kN
      rintro e w5 ⟨rfl, b5⟩
      obtain ⟨b5', z5⟩ := HR.out _ b5
      clear b5
      have hbu5 := builder_below (builder_below hbu.out b5') ((Below.refl _ w5).alloc (Nat.le_refl _) (fX (bA gt) ge))
      have hwz5 : w.heap.size + 2 ≤ w5.heap.size := by have := hzz.out; omega
      have kW := Tryz.Builder_WriteString_k (w.heap.size + 1) (w.heap.size + 1) (Lib.byteCells rt) (bA gt) (w5.alloc (fX (bA gt) ge)) hbu5 (by rw [bc_len, bA_size]; have := HSL.out; omega) (by simp; omega)
      have HW6 : Hid (∀ w7, (Lib.BuilderAtF 78 5 (w.heap.size + 1) (w.heap.size + 1) (.pointer (some ⟨w.heap.size + 1, 0, none⟩)) (Lib.byteCells rt ++ Lib.strCells (bA gt)) w7 ∧ Below (w.heap.size + 1) (w5.alloc (fX (bA gt) ge)) w7 ∧ Lib.OthersKept 5 (some (w.heap.size + 1)) (w5.alloc (fX (bA gt) ge)) w7) → Hid (Lib.IsBuilderF 78 5 (w.heap.size + 1) (w.heap.size + 1) (Lib.byteCells (rt ++ gt)) w7) ∧ Hid (Below (w.heap.size + 1) W w7) ∧ Hid (w.heap.size + 2 ≤ w7.heap.size) ∧ w7.cell? ⟨w5.heap.size, 1, none⟩ = some (.bool ge)) := fun w7 ⟨h1, h2, h3⟩ => by
        refine ⟨.inr ?_, ?_, ?_, ?_⟩
        · rw [bc_app, bA_list] at h1
          exact h1
        · exact hbw.out.trans ((b5'.mono (by have := hzz.out; omega)).trans ((((Below.refl _ w5).alloc (Nat.le_refl _) _).mono (by omega)).trans h2))
        · have := h2.size
          simp at this
          unfold Hid
          omega
        · have := h3 w5.heap.size (fX (bA gt) ge) (World.alloc_heap_new w5 _) (by simp; omega) (fun c fz e => by cases e)
          unfold World.cell?
          rw [this]
          rfl
      clear hbu5 hbu b5' kN HR hzz hbw
      cases ge
      · go_wp2_with fail
        go_fit kW
        rintro e w7 ⟨rfl, hw7⟩
        obtain ⟨hb7, hbl7, hz7, hc7⟩ := HW6.out w7 hw7
        clear hw7 HW6 kW
        have kS := Tryz.Builder_String_any_k (w.heap.size + 1) (w.heap.size + 1) (rt ++ gt) w7 hb7.out (by have := hz7.out; omega)
        have HW8 : Hid (∀ w8, (Lib.IsBuilderF 78 5 (w.heap.size + 1) (w.heap.size + 1) (Lib.byteCells (rt ++ gt)) w8 ∧ Below (w.heap.size + 1) w7 w8 ∧ Lib.OthersKept 5 (some (w.heap.size + 1)) w7 w8) → Hid (Below (w.heap.size + 1) W w8) ∧ w8.cell? ⟨w.heap.size, 0, none⟩ = some (.string ⟨#[]⟩) ∧ w8.cell? ⟨w.heap.size, 1, none⟩ = some (.bool false) ∧ w8.frozen? ⟨w.heap.size, 0, none⟩ = false ∧ w8.frozen? ⟨w.heap.size, 1, none⟩ = false ∧ Hid (w8.heap[w.heap.size]? = some (fX ⟨#[]⟩ false))) := fun w8 ⟨_, h2, _⟩ => by
          have hb8 := hbl7.out.trans h2
          have hr8 : w8.heap[w.heap.size]? = some (fX ⟨#[]⟩ false) := (hb8.block w.heap.size (by omega)).trans HR0.out
          refine ⟨hb8, ?_, ?_, ?_, ?_, hr8⟩
          · unfold World.cell?; rw [hr8]; rfl
          · unfold World.cell?; rw [hr8]; rfl
          · unfold World.frozen?; rw [hr8]; rfl
          · unfold World.frozen?; rw [hr8]; rfl
        clear hb7 hbl7
        go_wp2_with fail
        go_fit kS
        rintro e w8 ⟨rfl, hw8⟩
        obtain ⟨hb8, r0, r1, z0, z1, hr8⟩ := HW8.out w8 hw8
        clear hw8 HW8 kS
        go_wp2
        refine bodyPost_ret (v := frV (rt ++ gt, false)) (by simp [results, Tryz.results32, go_sem, r0, r1]) rfl ⟨by rw [HST.out (by first | rfl | trivial), HSS.out], ?_⟩
        exact HB0.out.trans (((hb8.out.mono (show w.heap.size ≤ w.heap.size + 1 by omega)).setCell (p := ⟨w.heap.size, 0, none⟩) (Nat.le_refl _) _).setCell (p := ⟨w.heap.size, 1, none⟩) (Nat.le_refl _) _)
      · go_wp2_with fail
        go_fit kW
        rintro e w7 ⟨rfl, hw7⟩
        obtain ⟨hb7, hbl7, hz7, hc7⟩ := HW6.out w7 hw7
        clear hw7 HW6 kW
        go_wp2
        exact ⟨⟨i + 1, by go_num, by omega, by unfold Hid; rw [HSS.out], by unfold Hid; rw [HSS.out]; exact hb7.out, hbl7, hz7⟩, by simp [RowKit.intOf]; omega⟩
    · obtain rfl : i = d.kn := by omega
      have hii : ¬ (d.kn : Int) < d.kn := by omega
      have kS := Tryz.Builder_String_any_k (w.heap.size + 1) (w.heap.size + 1) (rowF G d.kn).1 wr hbu.out (by have := hzz.out; omega)
      have HW8 : Hid (∀ w8, (Lib.IsBuilderF 78 5 (w.heap.size + 1) (w.heap.size + 1) (Lib.byteCells (rowF G d.kn).1) w8 ∧ Below (w.heap.size + 1) wr w8 ∧ Lib.OthersKept 5 (some (w.heap.size + 1)) wr w8) → Hid (Below (w.heap.size + 1) W w8) ∧ w8.cell? ⟨w.heap.size, 0, none⟩ = some (.string ⟨#[]⟩) ∧ w8.cell? ⟨w.heap.size, 1, none⟩ = some (.bool false) ∧ w8.frozen? ⟨w.heap.size, 0, none⟩ = false ∧ w8.frozen? ⟨w.heap.size, 1, none⟩ = false) := fun w8 ⟨_, h2, _⟩ => by
        have hb8 := hbw.out.trans h2
        have hr8 : w8.heap[w.heap.size]? = some (fX ⟨#[]⟩ false) := (hb8.block w.heap.size (by omega)).trans HR0.out
        refine ⟨hb8, ?_, ?_, ?_, ?_⟩
        · unfold World.cell?; rw [hr8]; rfl
        · unfold World.cell?; rw [hr8]; rfl
        · unfold World.frozen?; rw [hr8]; rfl
        · unfold World.frozen?; rw [hr8]; rfl
      have HFX : Hid (rowF G d.kn = ((rowF G d.kn).1, true)) := by
        unfold Hid
        rw [← hex.out]
      clear hbu hbw hex
      generalize (rowF G d.kn).1 = rt at *
      go_wp2_with fail
      go_fit kS
      rintro e w8 ⟨rfl, hw8⟩
      obtain ⟨hb8, r0, r1, z0, z1⟩ := HW8.out w8 hw8
      clear hw8 HW8 kS
      go_wp2
      refine bodyPost_ret (v := frV (rt, true)) (by simp [results, Tryz.results32, go_sem, r0, r1]) rfl ⟨by rw [HFX.out], ?_⟩
      exact HB0.out.trans (((hb8.out.mono (show w.heap.size ≤ w.heap.size + 1 by omega)).setCell (p := ⟨w.heap.size, 0, none⟩) (Nat.le_refl _) _).setCell (p := ⟨w.heap.size, 1, none⟩) (Nat.le_refl _) _)
end Go.Proofs.YtbciclnffokjjaaGreatDoor
/- commonFront. -/
namespace Go.Proofs.YtbciclnffokjjaaGreatDoor
open Go.RowKit Go.Lib

theorem common_any (a b : ByteArray) (ha : a.size ≤ 1048576) (hb : b.size ≤ 1048576) (w : World) (hT : Lib.Utf8Tabs 0 1 w) :
    Calls Tryz.prog 57 #[.string a, .string b] w fun e w' => e = .returned (.string (a.extract 0 (cmF a b a.size 0))) ∧ Below w.heap.size w w' := callsIn_wide.1 (common_in 3 (Nat.le_refl _) a b ha hb w hT)
theorem common_list (a b : List UInt8) (h : VL a) : (bA a).extract 0 (cmF (bA a) (bA b) (bA a).size 0) = bA (cmC a b) := by
  rw [cmC_val a b h, bA_size]
  apply ByteArray.ext
  rw [ByteArray.data_extract]
  apply Array.toList_inj.1
  rw [Array.toList_extract, List.extract_eq_take_drop]
  simp
theorem fx_set1 {w : World} {O : Nat} {s : ByteArray} {b : Bool} (h : w.heap[O]? = some (fX s b)) (c : Bool) : (w.setCell ⟨O, 1, none⟩ (.bool c)).heap[O]? = some (fX s c) := by
  simp [World.setCell, Array.getElem?_modify, h]
theorem fx_set0 {w : World} {O : Nat} {s : ByteArray} {b : Bool} (h : w.heap[O]? = some (fX s b)) (u : ByteArray) : (w.setCell ⟨O, 0, none⟩ (.string u)).heap[O]? = some (fX u b) := by
  simp [World.setCell, Array.getElem?_modify, h]
theorem fx_cells {w : World} {O : Nat} {s : ByteArray} {b : Bool} (h : w.heap[O]? = some (fX s b)) : w.cell? ⟨O, 0, none⟩ = some (.string s) ∧ w.cell? ⟨O, 1, none⟩ = some (.bool b) ∧ w.frozen? ⟨O, 0, none⟩ = false ∧ w.frozen? ⟨O, 1, none⟩ = false := by
  refine ⟨?_, ?_, ?_, ?_⟩
  · unfold World.cell?; rw [h]; rfl
  · unfold World.cell?; rw [h]; rfl
  · unfold World.frozen?; rw [h]; rfl
  · unfold World.frozen?; rw [h]; rfl
theorem com_le {G : Nat → Fr} : ∀ n, (comF cmC G n).1.length ≤ (G 0).1.length := comF_len

set_option maxHeartbeats 4000000 in
set_option maxRecDepth 100000 in
theorem commonFront_any (m : Nat) (hIH : FrC m) (t : Tr) (w : World) (hk : ∀ j, j < (t []).kn → WF m (kid t j) ∧ lenF m (kid t j) ≤ 10000) (hkn : (t []).kn ≤ 8194) (hk1 : 2 ≤ (t []).kn) (ht : Tat w.heap.size w t) (hT : Lib.Utf8Tabs 0 1 w) :
    Calls Tryz.prog 33 #[.slice (t []).ka (t []).kn (t []).kc] w fun e w' => e = .returned (frV (comF cmC (fun q => frF cmC m (kid t q)) ((t []).kn - 1))) ∧ Below w.heap.size w w' := by
  have hsz := tabs_size hT
  obtain ⟨G, hG⟩ : ∃ G : Nat → Fr, G = fun q => frF cmC m (kid t q) := ⟨_, rfl⟩
  have HGJ : Hid (∀ j, frF cmC m (kid t j) = G j) := fun j => by rw [hG]
  have hgl : ∀ q, q < (t []).kn → (G q).1.length ≤ 40000 := fun q hq => by
    have := fr_len m _ (hk q hq).1 (hk q hq).2
    have h2 := (hk q hq).2
    rw [hG]
    dsimp only
    omega
  have HGL : Hid (∀ q, q < (t []).kn → (G q).1.length ≤ 40000) := hgl
  have HVL : Hid (∀ i, VL (comF cmC G i).1 ∧ (comF cmC G i).1.length ≤ 40000) := fun i => ⟨VL.coms (by rw [hG]; exact VL.fr m _ (hk 0 (by omega)).1) i, Nat.le_trans (com_le i) (hgl 0 (by omega))⟩
  rw [← hG]
  have IH : Hid (FrC m) := hIH
  have HKD : Hid (∀ j, j < (t []).kn → WF m (kid t j) ∧ lenF m (kid t j) ≤ 10000) := hk
  obtain ⟨W, hW⟩ : ∃ W, W = w.alloc (fX ⟨#[]⟩ false) := ⟨_, rfl⟩
  have HW : Hid (W = w.alloc (fX ⟨#[]⟩ false)) := hW
  have hWz : W.heap.size = w.heap.size + 1 := by rw [hW]; simp
  have hb0 : Below (w.heap.size) w W := by rw [hW]; exact (Below.refl _ w).alloc (Nat.le_refl _) _
  have hr0 : W.heap[w.heap.size]? = some (fX ⟨#[]⟩ false) := by rw [hW]; exact World.alloc_heap_new w _
  have HR0 : Hid (W.heap[w.heap.size]? = some (fX ⟨#[]⟩ false)) := hr0
  have HB0 : Hid (Below w.heap.size w W) := hb0
  have HTT : Hid (Lib.Utf8Tabs 0 1 w) := hT
  have HT : Hid (Tat w.heap.size w t) := ht
  obtain ⟨g1, o1, hka, hg1, hcs⟩ := (ht.below hb0).kids.at 0 (by omega)
  have kN := IH.out (kid t 0) W (HKD.out 0 (by omega)).1 (HKD.out 0 (by omega)).2 (((ht.below hb0).kid 0 (by omega)).mono hb0.size) (tabs_below hT hsz hb0)
  change Calls Tryz.prog 15 #[ndV (t [0])] W _ at kN
  rw [HGJ.out] at kN
  have HKC : Hid (t [] = t [] ∧ ∀ w2, Below w.heap.size w w2 → ∀ i, i < (t []).kn → Cs w2 g1 (o1 + i * 9) (t [i])) := ⟨rfl, fun w2 hb i hi => by
    obtain ⟨g2, o2, hka2, _, hcs2⟩ := (ht.below hb).kids.at i hi
    rw [hka] at hka2
    cases hka2
    exact hcs2⟩
  obtain ⟨p0, p1, p2, p3, p4, p5, p6, p7, p8⟩ := hcs
  simp only [Nat.zero_mul, Nat.add_zero] at p0 p1 p2 p3 p4 p5 p6 p7 p8
  have HKZ : Hid ((t []).kn ≤ (t []).kc) := ht.node.2.2.2
  obtain ⟨d, hd⟩ : ∃ d, t [] = d := ⟨_, rfl⟩
  have HD : Hid (t [] = d) := hd
  rw [hd] at HKD HGL hkn hk1 hka HKC HKZ
  rw [hd]
  rw [hka]
  have hknI : (d.kn : Int) ≤ 8194 := by omega
  have hk1I : 2 ≤ (d.kn : Int) := by omega
  have hkc1 : ¬ d.kc = 1 := by have := HKZ.out; omega
  have hkcI : (d.kn : Int) ≤ d.kc := by have := HKZ.out; omega
  clear hd hk hIH hG hgl ht hW hb0 hr0 hT hka
  generalize t [0] = d0 at *
  obtain ⟨⟨gt, ge⟩, hgi⟩ : ∃ x, G 0 = x := ⟨_, rfl⟩
  have HG0 : Hid (G 0 = (gt, ge)) := hgi
  rw [hgi] at kN
  clear hgi
  go_enter Tryz.func33, Tryz.ntmps33
  go_upto_region 1 with fail
  rw [← HW.out]
  go_wp2_with fail
  go_fit kN
  rintro e w1 ⟨rfl, b1⟩
  have hb1 : Below (w.heap.size + 1) W w1 := b1.mono (by omega)
  have HB1 : Hid (Below (w.heap.size + 1) W w1 ∧ w.heap.size + 1 ≤ w1.heap.size) := ⟨hb1, by have := b1.size; omega⟩
  clear b1 hb1 kN
  have HX1 : Hid ((w1.alloc (fX (bA gt) ge)).heap[w1.heap.size]? = some (fX (bA (comF cmC G 0).1) (comF cmC G 0).2) ∧ Below (w.heap.size + 1) W (w1.alloc (fX (bA gt) ge)) ∧ w.heap.size + 1 ≤ w1.heap.size) := ⟨by
    have e : comF cmC G 0 = G 0 := rfl
    rw [e, HG0.out]
    exact World.alloc_heap_new w1 _, HB1.out.1.trans (((Below.refl _ w1).alloc (Nat.le_refl _) _).mono HB1.out.2), HB1.out.2⟩
  go_wp2_with fail
  go_loopw [14] (fun ivv w' => ∃ i : Nat, ivv = .int .i64 (i : Int) ∧ i ≤ d.kn - 1 ∧ Hid (w'.heap[w1.heap.size]? = some (fX (bA (comF cmC G i).1) (comF cmC G i).2)) ∧ Hid (Below (w.heap.size + 1) W w')) (fun ivv _ => d.kn - (RowKit.intOf ivv).toNat)
  case atStart => exact ⟨0, rfl, by omega, HX1.out.1, HX1.out.2.1⟩
  case round =>
    obtain ⟨i, rfl, hi, hfx, hbw⟩ := hrel
    by_cases hlt : i < d.kn - 1
    · have hii : (i : Int) < (d.kn : Int) - 1 := by omega
      have hbwr : Below w.heap.size w wr := HB0.out.trans (hbw.out.mono (by omega))
      have htr := HT.out.below hbwr
      have hlt' : i + 1 < (t []).kn := by rw [HD.out]; omega
      have hcs := HKC.out.2 wr hbwr (i + 1) (by omega)
      rw [show o1 + (i + 1) * 9 = o1 + 9 + i * 9 by omega] at hcs
      have hal : Below wr.heap.size wr (wr.alloc (ndX (t [i + 1]))) := (Below.refl _ wr).alloc (Nat.le_refl _) _
      have hz : w.heap.size ≤ wr.heap.size := hbwr.size
      have kN := IH.out (kid t (i + 1)) (wr.alloc (ndX (t [i + 1]))) (HKD.out (i + 1) (by omega)).1 (HKD.out (i + 1) (by omega)).2 (((htr.kid (i + 1) hlt').below (hal.mono hz)).mono (Nat.le_trans hz hal.size)) (tabs_below (tabs_below HTT.out hsz hbwr) (by omega) hal)
      change Calls Tryz.prog 15 #[ndV (t [i + 1])] (wr.alloc (ndX (t [i + 1]))) _ at kN
      rw [HGJ.out] at kN
      have HSS : Hid (comF cmC G (i + 1) = (cmC (comF cmC G i).1 (G (i + 1)).1, (comF cmC G i).2 && (G (i + 1)).2 && ((G (i + 1)).1 == (comF cmC G i).1))) := rfl
      have HSL : Hid (VL (comF cmC G i).1 ∧ (comF cmC G i).1.length ≤ 40000 ∧ (G (i + 1)).1.length ≤ 40000) := ⟨(HVL.out i).1, (HVL.out i).2, HGL.out (i + 1) (by omega)⟩
      have HR : Hid (∀ w2, Below (wr.alloc (ndX (t [i + 1]))).heap.size (wr.alloc (ndX (t [i + 1]))) w2 → Below wr.heap.size wr w2 ∧ wr.heap.size + 1 ≤ w2.heap.size) := fun w2 b => ⟨hal.trans (b.mono hal.size), by have := b.size; simp at this; exact this⟩
      obtain ⟨p0, p1, p2, p3, p4, p5, p6, p7, p8⟩ := hcs
      have HRZ : Hid (w1.heap.size < wr.heap.size) := (Array.getElem?_eq_some_iff.1 hfx.out).1
      have HTR : Hid (Lib.Utf8Tabs 0 1 wr) := tabs_below HTT.out hsz hbwr
      generalize t [i + 1] = dk at *
      obtain ⟨⟨ft, fe⟩, hgi⟩ : ∃ x, G (i + 1) = x := ⟨_, rfl⟩
      obtain ⟨⟨ot, oe⟩, hoi⟩ : ∃ x, comF cmC G i = x := ⟨_, rfl⟩
      rw [hgi] at kN HSS HSL
      rw [hoi] at HSS HSL hfx
      dsimp only at HSS HSL hfx
      clear htr hal hlt' hgi hoi hbwr
      go_wp2_with fail
      go_fit kN
      rintro e w5 ⟨rfl, b5⟩
      obtain ⟨b5', z5⟩ := HR.out _ b5
      clear b5
      obtain ⟨V, hV⟩ : ∃ V, V = w5.alloc (fX (bA ft) fe) := ⟨_, rfl⟩
      have HV : Hid (V = w5.alloc (fX (bA ft) fe)) := hV
      have hO : V.heap[w1.heap.size]? = some (fX (bA ot) oe) := by rw [hV]; exact (Below.heap_alloc _ _ _ (by have := HRZ.out; omega)).trans ((b5'.block _ HRZ.out).trans hfx.out)
      have hF : V.heap[w5.heap.size]? = some (fX (bA ft) fe) := by rw [hV]; exact World.alloc_heap_new w5 _
      have hVb : Below wr.heap.size wr V := by rw [hV]; exact b5'.trans (((Below.refl _ w5).alloc (Nat.le_refl _) _).mono b5'.size)
      obtain ⟨c0, c1, z0, z1⟩ := fx_cells hO
      obtain ⟨f0, f1, _, _⟩ := fx_cells hF
      have hOF : ¬ w5.heap.size = w1.heap.size := by have := HRZ.out; omega
      have hVt : Lib.Utf8Tabs 0 1 V := tabs_below HTR.out (by omega) hVb
      have HKC2 : Hid (∀ X : Bool, Calls Tryz.prog 57 #[.string (bA ot), .string (bA ft)] (V.setCell ⟨w1.heap.size, 1, none⟩ (.bool X)) fun e w' => e = .returned (.string (bA (cmC ot ft))) ∧ Below (V.setCell ⟨w1.heap.size, 1, none⟩ (.bool X)).heap.size (V.setCell ⟨w1.heap.size, 1, none⟩ (.bool X)) w') := fun X => by
        have := common_any (bA ot) (bA ft) (by rw [bA_size]; have := HSL.out; omega) (by rw [bA_size]; have := HSL.out; omega) (V.setCell ⟨w1.heap.size, 1, none⟩ (.bool X)) (tabs_below hVt (B := w1.heap.size) (by have := HB1.out.2; omega) ((Below.refl _ V).setCell (p := ⟨w1.heap.size, 1, none⟩) (Nat.le_refl _) _))
        rwa [common_list ot ft HSL.out.1] at this
      have HD7 : Hid (∀ (X : Bool) (w7 : World), Below (V.setCell ⟨w1.heap.size, 1, none⟩ (.bool X)).heap.size (V.setCell ⟨w1.heap.size, 1, none⟩ (.bool X)) w7 → w7.cell? ⟨w1.heap.size, 0, none⟩ = some (.string (bA ot)) ∧ w7.frozen? ⟨w1.heap.size, 0, none⟩ = false ∧ Hid (∀ u, (w7.setCell ⟨w1.heap.size, 0, none⟩ (.string u)).heap[w1.heap.size]? = some (fX u X) ∧ Below (w.heap.size + 1) W (w7.setCell ⟨w1.heap.size, 0, none⟩ (.string u)))) := fun X w7 h7 => by
        have hs1 := fx_set1 hO X
        have h8 := (h7.block w1.heap.size (Array.getElem?_eq_some_iff.1 hs1).1).trans hs1
        obtain ⟨e0, _, e1, _⟩ := fx_cells h8
        refine ⟨e0, e1, fun u => ⟨fx_set0 h8 u, ?_⟩⟩
        have hz1 := HB1.out.2
        have hz2 := HRZ.out
        have b1 := ((hVb.mono (show w.heap.size + 1 ≤ wr.heap.size by omega)).setCell (p := ⟨w1.heap.size, 1, none⟩) (show w.heap.size + 1 ≤ w1.heap.size by omega) (.bool X))
        have b2 := b1.trans (h7.mono (by have := b1.size; omega))
        exact hbw.out.trans (b2.setCell (p := ⟨w1.heap.size, 0, none⟩) (show w.heap.size + 1 ≤ w1.heap.size by omega) _)
      have heq : ((bA ft).toList == (bA ot).toList) = (ft == ot) := by
        rw [toList_eq, Bool.eq_iff_iff]
        simp only [decide_eq_true_iff, beq_iff_eq]
        constructor
        · intro e
          have := congrArg (fun x : ByteArray => x.data.toList) e
          rw [bA_list, bA_list] at this
          exact this
        · intro e
          rw [e]
      clear hV hO hF hVb hVt b5' hbw hfx HR kN HKC
      go_upto_region 6 with fail
      rw [← HV.out]
      cases oe
      · have kC := HKC2.out false
        go_wp2_with fail
        go_fit kC
        rintro e w7 ⟨rfl, b7⟩
        obtain ⟨e0, e1, HE7⟩ := HD7.out false w7 b7
        clear b7 kC HD7 HKC2
        go_wp2
        exact ⟨⟨i + 1, by go_num, by omega, by unfold Hid; rw [HSS.out]; exact (HE7.out _).1, (HE7.out _).2⟩, by simp [RowKit.intOf]; omega⟩
      · cases fe
        · have kC := HKC2.out false
          go_wp2_with fail
          go_fit kC
          rintro e w7 ⟨rfl, b7⟩
          obtain ⟨e0, e1, HE7⟩ := HD7.out false w7 b7
          clear b7 kC HD7 HKC2
          go_wp2
          exact ⟨⟨i + 1, by go_num, by omega, by unfold Hid; rw [HSS.out]; exact (HE7.out _).1, (HE7.out _).2⟩, by simp [RowKit.intOf]; omega⟩
        · have kC := HKC2.out (ft == ot)
          go_wp2_with fail
          go_fit kC
          rintro e w7 ⟨rfl, b7⟩
          obtain ⟨e0, e1, HE7⟩ := HD7.out (ft == ot) w7 b7
          clear b7 kC HD7 HKC2
          go_wp2
          exact ⟨⟨i + 1, by go_num, by omega, by unfold Hid; rw [HSS.out]; exact (HE7.out _).1, (HE7.out _).2⟩, by simp [RowKit.intOf]; omega⟩
    · obtain rfl : i = d.kn - 1 := by omega
      have hii : ¬ ((d.kn - 1 : Nat) : Int) < (d.kn : Int) - 1 := by omega
      obtain ⟨c0, c1, _, _⟩ := fx_cells hfx.out
      have hr8 : wr.heap[w.heap.size]? = some (fX ⟨#[]⟩ false) := (hbw.out.block w.heap.size (by omega)).trans HR0.out
      obtain ⟨r0, r1, z0, z1⟩ := fx_cells hr8
      have HBW : Hid (Below w.heap.size w wr) := HB0.out.trans (hbw.out.mono (by omega))
      have HFX : Hid (comF cmC G (d.kn - 1) = ((comF cmC G (d.kn - 1)).1, (comF cmC G (d.kn - 1)).2)) := rfl
      have hne : ¬ w1.heap.size = w.heap.size := by have := HB1.out.2; omega
      clear hfx hbw hr8
      generalize (comF cmC G (d.kn - 1)).1 = ot at *
      generalize (comF cmC G (d.kn - 1)).2 = oe at *
      go_wp2
      refine bodyPost_ret (v := frV (ot, oe)) (by simp [results, Tryz.results33, go_sem, r0, r1]) rfl ⟨by rw [HFX.out], ?_⟩
      exact (HBW.out.setCell (p := ⟨w.heap.size, 0, none⟩) (Nat.le_refl _) _).setCell (p := ⟨w.heap.size, 1, none⟩) (Nat.le_refl _) _
end Go.Proofs.YtbciclnffokjjaaGreatDoor
