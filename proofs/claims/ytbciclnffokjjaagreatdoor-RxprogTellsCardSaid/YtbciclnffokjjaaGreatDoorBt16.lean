/- A bundle of texts. -/
import Derived.Test.YtbciclnffokjjaaGreatDoorBt15
/- Words: each text of one stock with each of another behind it. -/
namespace Go.Proofs.YtbciclnffokjjaaGreatDoor
open Go.RowKit

theorem addsS_app (r : Sto) (L M : List ByteArray) : addsS r (L ++ M) = addsS (addsS r L) M := by unfold addsS; rw [List.foldl_append]
theorem addsS_none : ∀ L, addsS none L = none
  | [] => rfl
  | _ :: L => addsS_none L
/-- Texts of one list with those of another behind them. -/
def prdL (L M : List ByteArray) : List ByteArray := L.flatMap fun x => M.map fun y => x ++ y
def jnS (a b : Sto) : Sto := if nonS a = true ∨ nonS b = true then some [] else a.bind fun L => b.bind fun M => addsS (some []) (prdL L M)
theorem nil_ok : Sto.ok (some []) := fun L e => by cases e; exact ⟨List.Pairwise.nil, by simp⟩
theorem jnS_ok (a b : Sto) : (jnS a b).ok := by
  unfold jnS
  split
  · exact nil_ok
  · cases a with
    | none => exact none_ok
    | some L =>
      cases b with
      | none => exact none_ok
      | some M => exact addsS_ok nil_ok _
theorem prd_take (L M : List ByteArray) (i : Nat) (x : ByteArray) (h : L[i]? = some x) : prdL (L.take (i + 1)) M = prdL (L.take i) M ++ M.map fun y => x ++ y := by
  have : L.take (i + 1) = L.take i ++ [x] := by rw [List.take_add_one, h]; rfl
  unfold prdL
  rw [this, List.flatMap_append]
  simp
theorem prd_split (L M : List ByteArray) (i j : Nat) (x : ByteArray) (h : L[i]? = some x) : ∃ R, prdL L M = prdL (L.take i) M ++ ((M.take j).map fun y => x ++ y) ++ R := by
  refine ⟨(M.drop j).map (fun y => x ++ y) ++ prdL (L.drop (i + 1)) M, ?_⟩
  have e : L = L.take (i + 1) ++ L.drop (i + 1) := (List.take_append_drop _ _).symm
  conv => lhs; rw [e]
  unfold prdL
  rw [List.flatMap_append]
  have := prd_take L M i x h
  unfold prdL at this
  rw [this, List.append_assoc, List.append_assoc]
  congr 1
  rw [← List.append_assoc]
  congr 1
  rw [← List.map_append, List.take_append_drop]
/-- Sizes of texts. -/
def Szs (r : Sto) (b : Nat) : Prop := ∀ L, r = some L → ∀ x ∈ L, x.size ≤ b

set_option maxHeartbeats 8000000 in
set_option maxRecDepth 100000 in
theorem joined_any (Sa Sb : Nat) (av bv : Value) (am bm : Bool) (ra rb : Sto) (w : World) (ha : StV Sa w av am ra) (hb : StV Sb w bv bm rb) (oa : ra.ok) (ob : rb.ok) (za : Szs ra 1000000000000) (zb : Szs rb 1000000000000) :
    Calls Tryz.prog 52 #[kV av am, kV bv bm] w (NewP w (jnS ra rb)) := by
  obtain ⟨W, hW⟩ : ∃ W, W = ((w.alloc (kX av am)).alloc (kX bv bm)).alloc (kX (.slice none 0 0) false) := ⟨_, rfl⟩
  have HW : Hid (W = ((w.alloc (kX av am)).alloc (kX bv bm)).alloc (kX (.slice none 0 0) false)) := hW
  have hWb : Below w.heap.size w W := by rw [hW]; exact (((Below.refl _ w).alloc (Nat.le_refl _) _).alloc (by simp) _).alloc (by simp; omega) _
  have hWz : W.heap.size = w.heap.size + 3 := by rw [hW]; simp
  have h0 : W.heap[w.heap.size]? = some (kX av am) := by rw [hW]; exact (Below.heap_alloc _ _ _ (by simp; omega)).trans ((Below.heap_alloc _ _ _ (by simp)).trans (heap_alloc_new w _))
  have h1 : W.heap[w.heap.size + 1]? = some (kX bv bm) := by
    rw [hW]
    refine (Below.heap_alloc _ _ _ (by simp)).trans ?_
    have := heap_alloc_new (w.alloc (kX av am)) (kX bv bm)
    rwa [World.size_alloc] at this
  have h2 : W.heap[w.heap.size + 2]? = some (kX (.slice none 0 0) false) := by
    rw [hW]
    have := heap_alloc_new ((w.alloc (kX av am)).alloc (kX bv bm)) (kX (.slice none 0 0) false)
    rwa [World.size_alloc, World.size_alloc] at this
  have HK : Hid (∀ w2, Below W.heap.size W w2 → w2.heap[w.heap.size]? = some (kX av am) ∧ w2.heap[w.heap.size + 1]? = some (kX bv bm) ∧ w2.heap[w.heap.size + 2]? = some (kX (.slice none 0 0) false) ∧ StV Sa w2 av am ra ∧ StV Sb w2 bv bm rb ∧ Below w.heap.size w w2 ∧ w.heap.size + 3 ≤ w2.heap.size) := fun w2 b => ⟨(b.block _ (by omega)).trans h0, (b.block _ (by omega)).trans h1, (b.block _ (by omega)).trans h2, ha.kp (Kp.of (M := fun _ => False) ((hWb.trans (b.mono hWb.size)))) (fun _ _ => id), hb.kp (Kp.of (M := fun _ => False) ((hWb.trans (b.mono hWb.size)))) (fun _ _ => id), hWb.trans (b.mono hWb.size), by have := b.size; omega⟩
  have HNA : Hid (∀ w2, Below W.heap.size W w2 → Calls Tryz.prog 70 #[.pointer (some ⟨w.heap.size, 0, none⟩)] w2 fun e w' => e = .returned (.bool (nonS ra)) ∧ Below W.heap.size W w') := fun w2 b => (isNone_any Sa w.heap.size av am ra w2 (HK.out w2 b).1 (HK.out w2 b).2.2.2.1 oa).mono fun e w' ⟨e1, e2⟩ => ⟨e1, b.trans (e2.mono b.size)⟩
  have HNB : Hid (∀ w2, Below W.heap.size W w2 → Calls Tryz.prog 70 #[.pointer (some ⟨w.heap.size + 1, 0, none⟩)] w2 fun e w' => e = .returned (.bool (nonS rb)) ∧ Below W.heap.size W w') := fun w2 b => (isNone_any Sb (w.heap.size + 1) bv bm rb w2 (HK.out w2 b).2.1 (HK.out w2 b).2.2.2.2.1 ob).mono fun e w' ⟨e1, e2⟩ => ⟨e1, b.trans (e2.mono b.size)⟩
  have kA := HNA.out W (Below.refl _ _)
  -- what a short answer leaves
  have HFN : Hid (∀ (w2 : World) (m : Bool) (r : Sto), Below W.heap.size W w2 → StV w.heap.size w2 (.slice none 0 0) m r → NewP w r (.returned (kV (.slice none 0 0) m)) ((w2.setCell ⟨w.heap.size + 2, 0, none⟩ (.slice none 0 0)).setCell ⟨w.heap.size + 2, 1, none⟩ (.bool m))) := fun w2 m r b hs => by
    have k2 : Kp (fun k => k = w.heap.size + 2) w2 ((w2.setCell ⟨w.heap.size + 2, 0, none⟩ (.slice none 0 0)).setCell ⟨w.heap.size + 2, 1, none⟩ (.bool m)) := ((Kp.refl (fun k => k = w.heap.size + 2) w2).setCell (p := ⟨w.heap.size + 2, 0, none⟩) (show w.heap.size + 2 = w.heap.size + 2 from rfl) _).setCell (p := ⟨w.heap.size + 2, 1, none⟩) (show w.heap.size + 2 = w.heap.size + 2 from rfl) _
    refine ⟨⟨_, m, rfl, hs.kp k2 (fun i e => by cases e)⟩, ?_⟩
    exact ((HK.out w2 b).2.2.2.2.2.1.setCell (p := ⟨w.heap.size + 2, 0, none⟩) (show w.heap.size ≤ w.heap.size + 2 by omega) _).setCell (p := ⟨w.heap.size + 2, 1, none⟩) (show w.heap.size ≤ w.heap.size + 2 by omega) _
  clear hW hWb h0 h1 h2
  by_cases hna : nonS ra = true
  · have HE : Hid (jnS ra rb = some []) := by unfold Hid jnS; rw [if_pos (.inl hna)]
    rw [hna] at kA
    have HF2 : Hid (∀ w2, Below W.heap.size W w2 → (w2.cell? ⟨w.heap.size + 2, 0, none⟩ = some (.slice none 0 0) ∧ w2.cell? ⟨w.heap.size + 2, 1, none⟩ = some (.bool false) ∧ w2.frozen? ⟨w.heap.size + 2, 0, none⟩ = false ∧ w2.frozen? ⟨w.heap.size + 2, 1, none⟩ = false) ∧ NewP w (jnS ra rb) (.returned (kV (.slice none 0 0) false)) ((w2.setCell ⟨w.heap.size + 2, 0, none⟩ (.slice none 0 0)).setCell ⟨w.heap.size + 2, 1, none⟩ (.bool false))) := fun w2 b => ⟨kx_cells (HK.out w2 b).2.2.1, by rw [HE.out]; exact HFN.out w2 false _ b (.inr ⟨[], rfl, rfl, rfl, .inl ⟨rfl, rfl⟩⟩)⟩
    clear ha hb oa ob za zb HK HNA HNB HFN hna HE
    go_enter Tryz.func52, Tryz.ntmps52
    go_upto_region 1 with fail
    rw [← HW.out]
    go_wp2_with fail
    go_fit kA
    rintro e w2 ⟨rfl, b2⟩
    obtain ⟨⟨r0, r1, z0, z1⟩, HP0⟩ := HF2.out w2 b2
    have HP : Hid (NewP w (jnS ra rb) (.returned (kV (.slice none 0 0) false)) ((w2.setCell ⟨w.heap.size + 2, 0, none⟩ (.slice none 0 0)).setCell ⟨w.heap.size + 2, 1, none⟩ (.bool false))) := HP0
    clear HP0 b2 HF2 kA
    go_wp2
    exact bodyPost_ret (v := kV (.slice none 0 0) false) (by simp [results, Tryz.results52, go_sem, r0, r1]) rfl HP.out
  have hna' : nonS ra = false := by simpa using hna
  rw [hna'] at kA
  by_cases hnb : nonS rb = true
  · have HE : Hid (jnS ra rb = some []) := by unfold Hid jnS; rw [if_pos (.inr hnb)]
    have HKB := HNB
    rw [hnb] at HKB
    have HF2 : Hid (∀ w2, Below W.heap.size W w2 → (w2.cell? ⟨w.heap.size + 2, 0, none⟩ = some (.slice none 0 0) ∧ w2.cell? ⟨w.heap.size + 2, 1, none⟩ = some (.bool false) ∧ w2.frozen? ⟨w.heap.size + 2, 0, none⟩ = false ∧ w2.frozen? ⟨w.heap.size + 2, 1, none⟩ = false) ∧ NewP w (jnS ra rb) (.returned (kV (.slice none 0 0) false)) ((w2.setCell ⟨w.heap.size + 2, 0, none⟩ (.slice none 0 0)).setCell ⟨w.heap.size + 2, 1, none⟩ (.bool false))) := fun w2 b => ⟨kx_cells (HK.out w2 b).2.2.1, by rw [HE.out]; exact HFN.out w2 false _ b (.inr ⟨[], rfl, rfl, rfl, .inl ⟨rfl, rfl⟩⟩)⟩
    clear ha hb oa ob za zb HNA HFN HNB hna hna' hnb HE
    go_enter Tryz.func52, Tryz.ntmps52
    go_upto_region 1 with fail
    rw [← HW.out]
    go_wp2_with fail
    go_fit kA
    rintro e w1 ⟨rfl, b1⟩
    have kB := HKB.out w1 b1
    clear b1 HKB kA
    go_wp2_with fail
    go_fit kB
    rintro e w2 ⟨rfl, b2⟩
    obtain ⟨⟨r0, r1, z0, z1⟩, HP0⟩ := HF2.out w2 b2
    have HP : Hid (NewP w (jnS ra rb) (.returned (kV (.slice none 0 0) false)) ((w2.setCell ⟨w.heap.size + 2, 0, none⟩ (.slice none 0 0)).setCell ⟨w.heap.size + 2, 1, none⟩ (.bool false))) := HP0
    clear HP0 b2 HF2 kB HK
    go_wp2
    exact bodyPost_ret (v := kV (.slice none 0 0) false) (by simp [results, Tryz.results52, go_sem, r0, r1]) rfl HP.out
  have hnb' : nonS rb = false := by simpa using hnb
  have HKB := HNB
  rw [hnb'] at HKB
  have hjn : jnS ra rb = ra.bind fun L => rb.bind fun M => addsS (some []) (prdL L M) := by
    unfold jnS
    rw [if_neg (by rw [hna', hnb']; decide)]
  rcases ha with ⟨rfl, rfl, rfl⟩ | ⟨L, rfl, rfl, hao⟩
  · have HE : Hid (jnS none rb = none) := hjn
    have HF2 : Hid (∀ w2, Below W.heap.size W w2 → (w2.cell? ⟨w.heap.size + 2, 0, none⟩ = some (.slice none 0 0) ∧ w2.cell? ⟨w.heap.size + 2, 1, none⟩ = some (.bool false) ∧ w2.frozen? ⟨w.heap.size + 2, 0, none⟩ = false ∧ w2.frozen? ⟨w.heap.size + 2, 1, none⟩ = false) ∧ NewP w (jnS none rb) (.returned (kV (.slice none 0 0) true)) ((w2.setCell ⟨w.heap.size + 2, 0, none⟩ (.slice none 0 0)).setCell ⟨w.heap.size + 2, 1, none⟩ (.bool true))) := fun w2 b => ⟨kx_cells (HK.out w2 b).2.2.1, by rw [HE.out]; exact HFN.out w2 true _ b (.inl ⟨rfl, rfl, rfl⟩)⟩
    clear hb oa ob za zb HNA HFN HNB hna hna' hnb hnb' hjn HE
    go_enter Tryz.func52, Tryz.ntmps52
    go_upto_region 1 with fail
    rw [← HW.out]
    go_wp2_with fail
    go_fit kA
    rintro e w1 ⟨rfl, b1⟩
    have kB := HKB.out w1 b1
    clear b1 HKB kA
    go_wp2_with fail
    go_fit kB
    rintro e w2 ⟨rfl, b2⟩
    obtain ⟨⟨r0, r1, z0, z1⟩, HP0⟩ := HF2.out w2 b2
    have HP : Hid (NewP w (jnS none rb) (.returned (kV (.slice none 0 0) true)) ((w2.setCell ⟨w.heap.size + 2, 0, none⟩ (.slice none 0 0)).setCell ⟨w.heap.size + 2, 1, none⟩ (.bool true))) := HP0
    obtain ⟨_, x1, _, _⟩ := kx_cells (HK.out w2 b2).1
    clear HP0 b2 HF2 kB HK
    go_wp2
    exact bodyPost_ret (v := kV (.slice none 0 0) true) (by simp [results, Tryz.results52, go_sem, r0, r1]) rfl HP.out
  rcases hb with ⟨rfl, rfl, rfl⟩ | ⟨M, rfl, rfl, hbo⟩
  · have HE : Hid (jnS (some L) none = none) := hjn
    have HF2 : Hid (∀ w2, Below W.heap.size W w2 → (w2.cell? ⟨w.heap.size + 2, 0, none⟩ = some (.slice none 0 0) ∧ w2.cell? ⟨w.heap.size + 2, 1, none⟩ = some (.bool false) ∧ w2.frozen? ⟨w.heap.size + 2, 0, none⟩ = false ∧ w2.frozen? ⟨w.heap.size + 2, 1, none⟩ = false) ∧ NewP w (jnS (some L) none) (.returned (kV (.slice none 0 0) true)) ((w2.setCell ⟨w.heap.size + 2, 0, none⟩ (.slice none 0 0)).setCell ⟨w.heap.size + 2, 1, none⟩ (.bool true))) := fun w2 b => ⟨kx_cells (HK.out w2 b).2.2.1, by rw [HE.out]; exact HFN.out w2 true _ b (.inl ⟨rfl, rfl, rfl⟩)⟩
    clear  oa ob za zb HNA HFN HNB hna hna' hnb hnb' hjn HE hao
    go_enter Tryz.func52, Tryz.ntmps52
    go_upto_region 1 with fail
    rw [← HW.out]
    go_wp2_with fail
    go_fit kA
    rintro e w1 ⟨rfl, b1⟩
    have kB := HKB.out w1 b1
    clear b1 HKB kA
    go_wp2_with fail
    go_fit kB
    rintro e w2 ⟨rfl, b2⟩
    obtain ⟨⟨r0, r1, z0, z1⟩, HP0⟩ := HF2.out w2 b2
    have HP : Hid (NewP w (jnS (some L) none) (.returned (kV (.slice none 0 0) true)) ((w2.setCell ⟨w.heap.size + 2, 0, none⟩ (.slice none 0 0)).setCell ⟨w.heap.size + 2, 1, none⟩ (.bool true))) := HP0
    obtain ⟨_, x1, _, _⟩ := kx_cells (HK.out w2 b2).1
    obtain ⟨_, y1, _, _⟩ := kx_cells (HK.out w2 b2).2.1
    clear HP0 b2 HF2 kB HK
    go_wp2
    exact bodyPost_ret (v := kV (.slice none 0 0) true) (by simp [results, Tryz.results52, go_sem, r0, r1]) rfl HP.out
  have hll := (oa L rfl).2
  have hml := (ob M rfl).2
  obtain ⟨a1, n1, c1, rfl, hn1, _⟩ := StV.form (.inr ⟨L, rfl, rfl, hao⟩ : StV Sa w av false (some L))
  obtain ⟨a2, n2, c2, rfl, hn2, _⟩ := StV.form (.inr ⟨M, rfl, rfl, hbo⟩ : StV Sb w bv false (some M))
  have hn1 := hn1 L rfl
  have hn2 := hn2 M rfl
  subst hn1
  subst hn2
  have HE : Hid (jnS (some L) (some M) = addsS (some []) (prdL L M)) := hjn
  have HSZ : Hid ((∀ x ∈ L, x.size ≤ 1000000000000) ∧ ∀ y ∈ M, y.size ≤ 1000000000000) := ⟨za L rfl, zb M rfl⟩
  have HRW : Hid (∀ w2, Below W.heap.size W w2 → w2.ownsRow Sa 9 1 (.slice a1 L.length c1) L.length (sv L) ∧ w2.ownsRow Sb 9 1 (.slice a2 M.length c2) M.length (sv M) ∧ (∀ i, (Value.slice a1 L.length c1).ownBlock = some i → i < w2.heap.size) ∧ (∀ i, (Value.slice a2 M.length c2).ownBlock = some i → i < w2.heap.size)) := fun w2 b => by
    have k : Kp (fun _ => False) w w2 := Kp.of (HK.out w2 b).2.2.2.2.2.1
    have q1 := k.row hao (fun _ _ => id)
    have q2 := k.row hbo (fun _ _ => id)
    exact ⟨q1, q2, fun i e => (q1.lt i e).2, fun i e => (q2.lt i e).2⟩
  have hl1 : (L.length : Int) ≤ 64 := by omega
  have hl2 : (M.length : Int) ≤ 64 := by omega
  clear oa ob za zb HNA HFN HNB hna hna' hnb hnb' hjn hao hbo
  go_enter Tryz.func52, Tryz.ntmps52
  go_upto_region 1 with fail
  rw [← HW.out]
  go_wp2_with fail
  go_fit kA
  rintro e w1 ⟨rfl, b1⟩
  have kB := HKB.out w1 b1
  clear b1 HKB kA
  go_wp2_with fail
  go_fit kB
  rintro e w2 ⟨rfl, b2⟩
  obtain ⟨x0, x1, x2, _, _, xb, xz⟩ := HK.out w2 b2
  obtain ⟨ro1, ro2, rl1, rl2⟩ := HRW.out w2 b2
  obtain ⟨V, hV⟩ : ∃ V, V = w2.alloc (kX (.slice none 0 0) false) := ⟨_, rfl⟩
  have HV : Hid (V = w2.alloc (kX (.slice none 0 0) false)) := hV
  have kV0 : Kp (fun _ => False) w2 V := by rw [hV]; exact (Kp.refl _ w2).alloc _
  have hVz : V.heap.size = w2.heap.size + 1 := by rw [hV]; simp
  have hVB : V.heap[w2.heap.size]? = some (kX (.slice none 0 0) false) := by rw [hV]; exact heap_alloc_new w2 _
  have HC : Hid (∀ w', Kp (Mv w2.heap.size (.slice none 0 0)) V w' → (w'.cell? ⟨w.heap.size, 0, none⟩ = some (.slice a1 L.length c1) ∧ w'.cell? ⟨w.heap.size + 1, 0, none⟩ = some (.slice a2 M.length c2) ∧ w'.cell? ⟨w.heap.size + 2, 0, none⟩ = some (.slice none 0 0) ∧ w'.cell? ⟨w.heap.size + 2, 1, none⟩ = some (.bool false) ∧ w'.frozen? ⟨w.heap.size + 2, 0, none⟩ = false ∧ w'.frozen? ⟨w.heap.size + 2, 1, none⟩ = false) ∧ w'.ownsRow Sa 9 1 (.slice a1 L.length c1) L.length (sv L) ∧ w'.ownsRow Sb 9 1 (.slice a2 M.length c2) M.length (sv M)) := fun w' k => by
    have nm : ∀ i, i < w2.heap.size → ¬ Mv w2.heap.size (.slice none 0 0) i := fun i hi e => by
      rcases e with e | e
      · omega
      · cases e
    have bl : ∀ i o, i < w2.heap.size → w2.heap[i]? = some o → w'.heap[i]? = some o := fun i o hi h => (k.block i (by omega) (nm i hi)).trans ((kV0.block i hi id).trans h)
    obtain ⟨p0, _, _, _⟩ := kx_cells (bl _ _ (by omega) x0)
    obtain ⟨p1, _, _, _⟩ := kx_cells (bl _ _ (by omega) x1)
    obtain ⟨p2, p3, p4, p5⟩ := kx_cells (bl _ _ (by omega) x2)
    exact ⟨⟨p0, p1, p2, p3, p4, p5⟩, k.row (kV0.row ro1 (fun _ _ => id)) (fun i e => nm i (rl1 i e)), k.row (kV0.row ro2 (fun _ _ => id)) (fun i e => nm i (rl2 i e))⟩
  have HS0 : Hid (SkV w.heap.size V w2.heap.size (.slice none 0 0) (some [])) := .inr ⟨[], rfl, hVB, rfl, .inl ⟨rfl, rfl⟩⟩
  have HBZ : Hid (w.heap.size + 3 ≤ w2.heap.size ∧ Below w.heap.size w V) := ⟨xz, xb.trans (kV0.below (by omega) (fun _ _ => id))⟩
  -- the answer out of the stock
  have HFI : Hid (∀ (w' : World) (v' : Value) (m : Bool) (r : Sto), SkV w.heap.size w' w2.heap.size v' r → Sub V (.slice none 0 0) v' → Kp (Mv w2.heap.size (.slice none 0 0)) V w' → w'.heap[w2.heap.size]? = some (kX v' m) → NewP w r (.returned (kV v' m)) ((w'.setCell ⟨w.heap.size + 2, 0, none⟩ v').setCell ⟨w.heap.size + 2, 1, none⟩ (.bool m))) := fun w' v' m r hs hsub k hm => by
    have k2 : Kp (fun k => k = w.heap.size + 2) w' ((w'.setCell ⟨w.heap.size + 2, 0, none⟩ v').setCell ⟨w.heap.size + 2, 1, none⟩ (.bool m)) := ((Kp.refl (fun k => k = w.heap.size + 2) w').setCell (p := ⟨w.heap.size + 2, 0, none⟩) (show w.heap.size + 2 = w.heap.size + 2 from rfl) _).setCell (p := ⟨w.heap.size + 2, 1, none⟩) (show w.heap.size + 2 = w.heap.size + 2 from rfl) _
    obtain ⟨m', hm', hst⟩ := StV.of hs
    have : m' = m := by rw [hm] at hm'; cases hm'; rfl
    subst this
    refine ⟨⟨_, _, rfl, hst.kp k2 (fun i e hi => ?_)⟩, ?_⟩
    · have hi' : i = w.heap.size + 2 := hi
      have := hsub i e (by omega)
      cases this
    · have hb : Below w.heap.size w w' := HBZ.out.2.trans (k.below (by have := HBZ.out.2.size; exact this) (fun i hi e => by
        rcases e with e | e
        · omega
        · cases e))
      exact (hb.setCell (p := ⟨w.heap.size + 2, 0, none⟩) (show w.heap.size ≤ w.heap.size + 2 by omega) _).setCell (p := ⟨w.heap.size + 2, 1, none⟩) (show w.heap.size ≤ w.heap.size + 2 by omega) _
  obtain ⟨⟨q0, q1, q2, q3, q4, q5⟩, _, _⟩ := HC.out V (Kp.refl _ _)
  obtain ⟨_, y1, _, _⟩ := kx_cells x0
  obtain ⟨_, y2, _, _⟩ := kx_cells x1
  clear b2 HK HRW kB x0 x1 x2 xb xz ro1 ro2 rl1 rl2 hV kV0 hVB hVz
  go_upto_region 6 with fail
  rw [← HV.out]
  go_wp2_with fail
  go_loopw [25] (fun ivv w' => ∃ i : Nat, ivv = .int .i64 (i : Int) ∧ i ≤ L.length ∧ Hid (∃ v', SkV w.heap.size w' w2.heap.size v' (addsS (some []) (prdL (L.take i) M)) ∧ Sub V (.slice none 0 0) v' ∧ Kp (Mv w2.heap.size (.slice none 0 0)) V w')) (fun ivv _ => L.length - (RowKit.intOf ivv).toNat)
  case atStart => exact ⟨0, rfl, by omega, _, HS0.out, Sub.refl _ _, Kp.refl _ _⟩
  case round =>
    obtain ⟨i, rfl, hi, hinv⟩ := hrel
    by_cases hlt : i < L.length
    · have hii : (i : Int) < L.length := by omega
      obtain ⟨v', hsk, hsub, hkp⟩ := hinv.out
      obtain ⟨x, hx⟩ : ∃ x, L[i]? = some x := ⟨_, List.getElem?_eq_getElem hlt⟩
      obtain ⟨⟨p0, p1, _, _, _, _⟩, or1, or2⟩ := HC.out wr hkp
      obtain ⟨g, cc, hv, hcell⟩ := row_cell or1 hx
      cases hv
      have HX : Hid (L[i]? = some x) := hx
      have HI0 : Hid (∃ v', SkV w.heap.size wr w2.heap.size v' (addsS (addsS (some []) (prdL (L.take i) M)) ((M.take 0).map fun y => x ++ y)) ∧ Sub V (.slice none 0 0) v' ∧ Kp (Mv w2.heap.size (.slice none 0 0)) V wr) := ⟨v', hsk, hsub, hkp⟩
      have hxz : (x.size : Int) ≤ 1000000000000 := by have := HSZ.out.1 x (List.mem_of_getElem? hx); omega
      clear hsk hsub hkp hinv hx or1 or2 q0 q1 q2 q3 q4 q5
      go_wp2_with fail
      go_loopw [32] (fun jvv w' => ∃ j : Nat, jvv = .int .i64 (j : Int) ∧ j ≤ M.length ∧ Hid (∃ v', SkV w.heap.size w' w2.heap.size v' (addsS (addsS (some []) (prdL (L.take i) M)) ((M.take j).map fun y => x ++ y)) ∧ Sub V (.slice none 0 0) v' ∧ Kp (Mv w2.heap.size (.slice none 0 0)) V w')) (fun jvv _ => M.length - (RowKit.intOf jvv).toNat)
      case atStart => exact ⟨0, rfl, by omega, HI0⟩
      case round =>
        obtain ⟨j, rfl, hj, hinv⟩ := hrel
        by_cases hlt2 : j < M.length
        · have hjj : (j : Int) < M.length := by omega
          obtain ⟨v', hsk, hsub, hkp⟩ := hinv.out
          obtain ⟨y, hy⟩ : ∃ y, M[j]? = some y := ⟨_, List.getElem?_eq_getElem hlt2⟩
          obtain ⟨⟨t0, t1, t2, t3, t4, t5⟩, or1, or2⟩ := HC.out wr hkp
          obtain ⟨g2, cc2, hv2, hcell2⟩ := row_cell or2 hy
          cases hv2
          have hyz : (y.size : Int) ≤ 1000000000000 := by have := HSZ.out.2 y (List.mem_of_getElem? hy); omega
          have kA := add_any w.heap.size w2.heap.size v' _ (x ++ y) wr hsk (addsS_ok (addsS_ok nil_ok _) _) (by have := HBZ.out.2.size; have := hkp.size; omega)
          have HN : Hid (∀ w3, AddP w.heap.size w2.heap.size v' (addS (addsS (addsS (some []) (prdL (L.take i) M)) ((M.take j).map fun y => x ++ y)) (x ++ y)) wr (.returned (.tuple #[])) w3 → ∃ v2 m, w3.heap[w2.heap.size]? = some (kX v2 m) ∧ (w3.cell? ⟨w.heap.size + 2, 0, none⟩ = some (.slice none 0 0) ∧ w3.cell? ⟨w.heap.size + 2, 1, none⟩ = some (.bool false) ∧ w3.frozen? ⟨w.heap.size + 2, 0, none⟩ = false ∧ w3.frozen? ⟨w.heap.size + 2, 1, none⟩ = false) ∧ Hid (m = false → ∃ v', SkV w.heap.size w3 w2.heap.size v' (addsS (addsS (some []) (prdL (L.take i) M)) ((M.take (j + 1)).map fun y => x ++ y)) ∧ Sub V (.slice none 0 0) v' ∧ Kp (Mv w2.heap.size (.slice none 0 0)) V w3) ∧ Hid (m = true → NewP w (jnS (some L) (some M)) (.returned (kV v2 m)) ((w3.setCell ⟨w.heap.size + 2, 0, none⟩ v2).setCell ⟨w.heap.size + 2, 1, none⟩ (.bool m))) ∧ ∃ a n c, v2 = .slice a n c) := fun w3 ⟨_, ⟨v2, s1, s2⟩, s3⟩ => by
            have hk3 := hkp.next hsub s3
            have hs3 := hsub.trans s2 hkp.size
            have er : addS (addsS (addsS (some []) (prdL (L.take i) M)) ((M.take j).map fun y => x ++ y)) (x ++ y) = addsS (addsS (some []) (prdL (L.take i) M)) ((M.take (j + 1)).map fun y => x ++ y) := by
              have : M.take (j + 1) = M.take j ++ [y] := by rw [List.take_add_one, hy]; rfl
              rw [this, List.map_append, addsS_app]
              rfl
            rw [er] at s1
            obtain ⟨m, hm, hst⟩ := StV.of s1
            obtain ⟨fa, fn, fc, ff, _, _⟩ := hst.form
            obtain ⟨⟨_, _, z2, z3, z4, z5⟩, _, _⟩ := HC.out w3 hk3
            refine ⟨v2, m, hm, ⟨z2, z3, z4, z5⟩, fun _ => ⟨v2, s1, hs3, hk3⟩, fun he => ?_, fa, fn, fc, ff⟩
            have hnone : addsS (addsS (some []) (prdL (L.take i) M)) ((M.take (j + 1)).map fun y => x ++ y) = none := by
              rcases hst with ⟨h, _, _⟩ | ⟨_, _, h, _⟩
              · exact h
              · rw [he] at h; cases h
            obtain ⟨R, hR⟩ := prd_split L M i (j + 1) x HX.out
            have : jnS (some L) (some M) = none := by
              rw [HE.out, hR, addsS_app, addsS_app, hnone, addsS_none]
            rw [this]
            rw [hnone] at s1
            exact HFI.out w3 v2 m none s1 hs3 hk3 hm
          clear hsk hsub hkp hinv hy or1 or2 hcell HI0
          generalize addS (addsS (addsS (some []) (prdL (L.take i) M)) ((M.take j).map fun y => x ++ y)) (x ++ y) = RR at *
          go_wp2_with fail
          go_fit kA
          rintro e w3 hp
          have he := hp.1
          subst he
          obtain ⟨v2, m, hm, ⟨z2, z3, z4, z5⟩, HQ0, HQ1, fa, fn, fc, rfl⟩ := HN.out w3 hp
          obtain ⟨e0, e1, _, _⟩ := kx_cells hm
          clear hp kA HN hm
          cases m
          · have HQ : Hid _ := HQ0.out rfl
            clear HQ0 HQ1
            go_wp2
            exact ⟨⟨j + 1, by go_num, by omega, HQ⟩, by simp [RowKit.intOf]; omega⟩
          · have HP : Hid (NewP w (jnS (some L) (some M)) (.returned (kV (.slice fa fn fc) true)) ((w3.setCell ⟨w.heap.size + 2, 0, none⟩ (.slice fa fn fc)).setCell ⟨w.heap.size + 2, 1, none⟩ (.bool true))) := HQ1.out rfl
            clear HQ0 HQ1
            go_wp2
            exact bodyPost_ret (v := kV (.slice fa fn fc) true) (by simp [results, Tryz.results52, go_sem, z2, z3]) rfl HP.out
        · obtain rfl : j = M.length := by omega
          have hjj : ¬ (M.length : Int) < M.length := by omega
          have HQ : Hid (∃ v', SkV w.heap.size wr w2.heap.size v' (addsS (some []) (prdL (L.take (i + 1)) M)) ∧ Sub V (.slice none 0 0) v' ∧ Kp (Mv w2.heap.size (.slice none 0 0)) V wr) := by
            obtain ⟨v', s1, s2, s3⟩ := hinv.out
            refine ⟨v', ?_, s2, s3⟩
            rw [prd_take L M i x HX.out, addsS_app]
            rw [List.take_length] at s1
            exact s1
          clear hinv HI0
          go_wp2
          exact ⟨⟨i + 1, by go_num, by omega, HQ⟩, by simp [RowKit.intOf]; omega⟩
    · obtain rfl : i = L.length := by omega
      have hii : ¬ (L.length : Int) < L.length := by omega
      have HPX : Hid (∃ v' m, wr.heap[w2.heap.size]? = some (kX v' m) ∧ (wr.cell? ⟨w.heap.size + 2, 0, none⟩ = some (.slice none 0 0) ∧ wr.cell? ⟨w.heap.size + 2, 1, none⟩ = some (.bool false) ∧ wr.frozen? ⟨w.heap.size + 2, 0, none⟩ = false ∧ wr.frozen? ⟨w.heap.size + 2, 1, none⟩ = false) ∧ (∃ a n c, v' = .slice a n c) ∧ Hid (NewP w (jnS (some L) (some M)) (.returned (kV v' m)) ((wr.setCell ⟨w.heap.size + 2, 0, none⟩ v').setCell ⟨w.heap.size + 2, 1, none⟩ (.bool m)))) := by
        obtain ⟨v', s1, s2, s3⟩ := hinv.out
        obtain ⟨m, hm, hst⟩ := StV.of s1
        obtain ⟨fa, fn, fc, ff, _, _⟩ := hst.form
        obtain ⟨⟨_, _, z2, z3, z4, z5⟩, _, _⟩ := HC.out wr s3
        rw [List.take_length] at s1
        exact ⟨v', m, hm, ⟨z2, z3, z4, z5⟩, ⟨fa, fn, fc, ff⟩, by unfold Hid; rw [HE.out]; exact HFI.out wr v' m _ s1 s2 s3 hm⟩
      obtain ⟨v', m, hm, ⟨z2, z3, z4, z5⟩, ⟨fa, fn, fc, rfl⟩, HP⟩ := HPX.out
      obtain ⟨e0, e1, _, _⟩ := kx_cells hm
      clear hinv HPX hm
      go_wp2
      exact bodyPost_ret (v := kV (.slice fa fn fc) m) (by simp [results, Tryz.results52, go_sem, z2, z3]) rfl HP.out
end Go.Proofs.YtbciclnffokjjaaGreatDoor
