/- A bundle of texts. -/
import Derived.Test.YtajaadagejhllaaGreatDoorBs30
/- Show: a whole tree. -/
namespace Go.Proofs.YtajaadagejhllaaGreatDoor
open Go.RowKit Go.Lib

/-- The canonical text of a tree with or without line marks. -/
def shB (l : Bool) (t : Tr) : ByteArray := (if l = true then (⟨#[40, 63, 109, 41]⟩ : ByteArray) else ⟨#[]⟩) ++ tx 8195 t
abbrev wrX : Obj := .cells #[.slice none 0 0] 81
theorem wt_new (w : World) : Wt w.heap.size (w.alloc wrX) w.heap.size (.slice none 0 0) ⟨#[]⟩ := by
  have e : (w.alloc wrX).heap[w.heap.size]? = some wrX := heap_alloc_new w _
  refine ⟨?_, ?_, ⟨rfl, .inl ⟨rfl, rfl⟩⟩, by simp [Value.ownBlock], Nat.le_refl _⟩
  · unfold World.cell?; rw [e]; rfl
  · intro o
    unfold World.frozen?
    rw [e]
    simp
set_option maxRecDepth 100000 in
theorem conv_row {w : World} {S : Nat} {v : Value} {T : ByteArray} (h : w.ownsRow S 5 1 v T.size (strCells T)) : (convert 53 9 v).run Tryz.prog w = .ok (.string T) w := by
  rcases h.2 with ⟨e, e2⟩ | ⟨g, c, cur, e, _⟩
  · rw [e]
    have : T = ⟨#[]⟩ := by
      have : T.data = #[] := Array.eq_empty_of_size_eq_zero e2
      cases T
      simp at this
      rw [this]
    rw [this]
    exact run_convert_bytes_nil (P := Tryz.prog) w 53 5 Tryz.underlying53 Tryz.underlying5 0 0 9 Tryz.underlying9
  · have hc := h.cells (g := g) (by rw [e]; rfl)
    rw [e]
    have := run_convert_bytes_arg (P := Tryz.prog) w 53 5 Tryz.underlying53 Tryz.underlying5 g 0 T.size c (T.data.toList.map fun b => (b.toNat : Int)) (by rw [List.length_map, Array.length_toList]; rfl) (fun i hi => by
      have hi' : i < T.data.toList.length := by rw [Array.length_toList]; exact hi
      have := hc i (.int .u8 ((T.data.toList[i]'hi').toNat : Int)) (by unfold strCells; rw [List.getElem?_map, List.getElem?_eq_getElem hi']; rfl)
      rw [Go.WideShapes.add_plain] at this
      rw [this]
      congr 2
      simp [List.getD, List.getElem?_eq_getElem hi']) 9 Tryz.underlying9
    rw [this]
    congr 2
    unfold strOfNums
    rw [List.map_map]
    have e3 : List.map ((fun n : Int => UInt8.ofNat n.toNat) ∘ fun b : UInt8 => (b.toNat : Int)) T.data.toList = T.data.toList :=
      (List.map_congr_left fun b _ => show UInt8.ofNat b.toNat = id b by simp).trans (List.map_id _)
    rw [e3]
abbrev svX (k : Int) (a : Option Addr) (n c : Nat) (l : Bool) : Obj := .cells #[.int .i64 k, .slice a n c, .bool l] 55
/-- How a text ends that was to be told. -/
def Sh (w : World) (X : ByteArray) (e : Ending) (w' : World) : Prop := ((X.size ≤ 4096 ∧ e = .returned (.string X)) ∨ (¬ X.size ≤ 4096 ∧ pan1 e)) ∧ Below w.heap.size w w'
set_option maxHeartbeats 4000000 in
set_option maxRecDepth 100000 in
theorem shown_any (t : Tr) (w : World) (k : Int) (a : Option Addr) (n c : Nat) (l : Bool) (ht : Tat w.heap.size w t) (hA : TbA w.heap.size w) (hwf : WF 8195 t) :
    Calls Tryz.prog 41 #[ndV (t []), svV k (.slice a n c) l] w fun e w' => Sh w (shB l t) e w' := by
  obtain ⟨V, hV⟩ : ∃ V, V = (w.alloc (ndX (t []))).alloc (svX k a n c l) := ⟨_, rfl⟩
  have bV : Below w.heap.size w V := by rw [hV]; exact two_below _ _
  have hVz : V.heap.size = w.heap.size + 1 + 1 := by rw [hV]; simp
  have hX1 : V.heap[w.heap.size]? = some (ndX (t [])) := by
    rw [hV]
    rw [show ((w.alloc (ndX (t []))).alloc (svX k a n c l)).heap[w.heap.size]? = (w.alloc (ndX (t []))).heap[w.heap.size]? from heap_alloc_old _ _ (by simp)]
    exact heap_alloc_new w _
  have hX2 : V.heap[w.heap.size + 1]? = some (svX k a n c l) := by rw [hV]; have := heap_alloc_new (w.alloc (ndX (t []))) (svX k a n c l); simpa using this
  have bW : Below V.heap.size V (V.alloc wrX) := (Below.refl _ V).alloc (Nat.le_refl _) _
  have hwt := wt_new V
  have htW := ((ht.below bV).mono bV.size).below bW
  have hAW : TbA V.heap.size (V.alloc wrX) := fun w' b => hA w' (bV.trans ((bW.trans b).mono bV.size))
  obtain ⟨W, hW⟩ : ∃ W, W = V.alloc wrX := ⟨_, rfl⟩
  rw [← hW] at bW hwt htW hAW
  have HB : Hid (Bs V.heap.size V.heap.size (.slice none 0 0) W) := hwt.bs bW.size
  have HQ : Hid (Wq V.heap.size V.heap.size (.slice none 0 0) W ⟨#[]⟩ W) := hwt.q
  have HN : Hid (∀ T5 w5, Wq V.heap.size V.heap.size (.slice none 0 0) W T5 w5 → T5.size ≤ 4096 → Calls Tryz.prog 53 #[.pointer (some ⟨V.heap.size, 0, none⟩), ndV (t [])] w5 fun e w' => Wr V.heap.size V.heap.size (.slice none 0 0) W T5 (tx 8195 t) e w') := fun T5 w5 q h5 => q.use fun v1 b => wnode_any _ _ 8195 t T5 v1 w5 b (Nat.le_trans HB.out.sz q.kp.size) h5 (htW.below (HB.out.below q.kp)) (hAW.below (HB.out.below q.kp)) hwf
  have HL : Hid (∀ w5, Kp (Mv V.heap.size (.slice none 0 0)) W w5 → Below w.heap.size w w5) := fun w5 k5 => bV.trans ((bW.trans (HB.out.below k5)).mono bV.size)
  have HX : Hid (∀ w5, Kp (Mv V.heap.size (.slice none 0 0)) W w5 → Cs w5 w.heap.size 0 (t []) ∧ w5.cell? ⟨w.heap.size + 1, 2, none⟩ = some (.bool l)) := fun w5 k5 => by
    have b5 : Below V.heap.size V w5 := bW.trans (HB.out.below k5)
    have y1 := (b5.block w.heap.size (by omega)).trans hX1
    have y2 := (b5.block (w.heap.size + 1) (by omega)).trans hX2
    refine ⟨⟨?_, ?_, ?_, ?_, ?_, ?_, ?_, ?_, ?_⟩, ?_⟩
    all_goals
      unfold World.cell?
      first | rw [y1] | rw [y2]
      rfl
  have HE : Hid (shB l t = (if l = true then (⟨#[40, 63, 109, 41]⟩ : ByteArray) else ⟨#[]⟩) ++ tx 8195 t) := rfl
  have HW : Hid (W = ((w.alloc (ndX (t []))).alloc (svX k a n c l)).alloc wrX) := by rw [← hV]; exact hW
  generalize hXX : tx 8195 t = X at *
  clear hXX
  obtain ⟨e0c, el⟩ := HX.out W (Kp.refl _ _)
  generalize t [] = d at *
  obtain ⟨e0, e1, e2, e3, e4, e5, e6, e7, e8⟩ := e0c
  simp only [Nat.zero_add] at e0 e1 e2 e3 e4 e5 e6 e7 e8
  rw [hVz] at HQ HN HL HX HB
  clear ht hA hwf hV bV hX1 hX2 bW hwt htW hAW hW
  cases l
  · have k4 := HN.out ⟨#[]⟩ W HQ.out (by decide)
    go_enter Tryz.func41, Tryz.ntmps41
    go_upto_region 2 with fail
    rw [← HW.out]
    go_wp2_with fail
    go_fit k4
    rintro e w4 h
    rcases h with ⟨h1, rfl, h2⟩ | ⟨h1, rfl, h2⟩
    · obtain ⟨v4, wt4, _, kp4⟩ := h2
      obtain ⟨a4, c4, rfl⟩ := wt4.form
      have g0 := wt4.c0
      have cv := conv_row wt4.row
      have HLL : Hid (Below w.heap.size w w4) := HL.out _ kp4
      have HR : Hid (shB false t = (⟨#[]⟩ : ByteArray) ++ X) := by unfold Hid; rw [HE.out]; rfl
      have HZ : Hid ((shB false t).size ≤ 4096) := by
        unfold Hid
        rw [HR.out, ByteArray.size_append]
        exact h1
      have HS4 : Hid (∀ x : ByteArray, x = (⟨#[]⟩ : ByteArray) ++ X → x = shB false t) := fun x h => by rw [h, HR.out]
      obtain ⟨Y, hY⟩ : ∃ Y, Y = (⟨#[]⟩ : ByteArray) ++ X := ⟨_, rfl⟩
      rw [← hY] at cv g0
      have hYY := HS4.out Y hY
      have HYY : Hid (Y = shB false t) := hYY
      clear wt4 kp4 h1 k4 e0 e1 e2 e3 e4 e5 e6 e7 e8 el HS4 HR HE hY hYY
      go_wp2
      go_ret
      exact ⟨.inl ⟨HZ.out, by rw [← HYY.out]; rfl⟩, HLL.out⟩
    · have HLL : Hid (Below w.heap.size w w4) := HL.out _ h2
      have HR : Hid (shB false t = (⟨#[]⟩ : ByteArray) ++ X) := by unfold Hid; rw [HE.out]; rfl
      have HZ : Hid (¬ (shB false t).size ≤ 4096) := by
        unfold Hid
        rw [HR.out, ByteArray.size_append]
        exact h1
      clear h1 h2 k4
      go_wp2
      exact ⟨rfl, .inr ⟨HZ.out, rfl⟩, HLL.out⟩
  · have k3 := HQ.out.put HB.out (by decide) ⟨#[40, 63, 109, 41]⟩
    go_enter Tryz.func41, Tryz.ntmps41
    go_upto_region 2 with fail
    rw [← HW.out]
    go_wp2_with fail
    go_fit k3
    rintro e w3 h
    rcases h with ⟨h1, rfl, h2⟩ | ⟨h1, _, _⟩
    · have Q3 : Hid (Wq (w.heap.size + 1 + 1) (w.heap.size + 1 + 1) (Value.slice none 0 0) W ((⟨#[]⟩ : ByteArray) ++ ⟨#[40, 63, 109, 41]⟩) w3) := h2
      obtain ⟨e0c, el⟩ := HX.out w3 h2.kp
      clear e0 e1 e2 e3 e4 e5 e6 e7 e8 h1 h2 k3
      obtain ⟨e0, e1, e2, e3, e4, e5, e6, e7, e8⟩ := e0c
      simp only [Nat.zero_add] at e0 e1 e2 e3 e4 e5 e6 e7 e8
      have k4 := HN.out _ w3 Q3.out (by decide)
      go_wp2_with fail
      go_fit k4
      rintro e w4 h
      rcases h with ⟨h1, rfl, h2⟩ | ⟨h1, rfl, h2⟩
      · obtain ⟨v4, wt4, _, kp4⟩ := h2
        obtain ⟨a4, c4, rfl⟩ := wt4.form
        have g0 := wt4.c0
        have cv := conv_row wt4.row
        have HLL : Hid (Below w.heap.size w w4) := HL.out _ kp4
        have HR : Hid (shB true t = ((⟨#[]⟩ : ByteArray) ++ ⟨#[40, 63, 109, 41]⟩) ++ X) := by unfold Hid; rw [HE.out]; rfl
        have HZ : Hid ((shB true t).size ≤ 4096) := by
          unfold Hid
          rw [HR.out, ByteArray.size_append]
          exact h1
        have HS4 : Hid (∀ x : ByteArray, x = ((⟨#[]⟩ : ByteArray) ++ ⟨#[40, 63, 109, 41]⟩) ++ X → x = shB true t) := fun x h => by rw [h, HR.out]
        obtain ⟨Y, hY⟩ : ∃ Y, Y = ((⟨#[]⟩ : ByteArray) ++ ⟨#[40, 63, 109, 41]⟩) ++ X := ⟨_, rfl⟩
        rw [← hY] at cv g0
        have hYY := HS4.out Y hY
        have HYY : Hid (Y = shB true t) := hYY
        clear wt4 kp4 h1 k4 e0 e1 e2 e3 e4 e5 e6 e7 e8 el HS4 HR HE hY hYY
        go_wp2
        go_ret
        exact ⟨.inl ⟨HZ.out, by rw [← HYY.out]; rfl⟩, HLL.out⟩
      · have HLL : Hid (Below w.heap.size w w4) := HL.out _ h2
        have HR : Hid (shB true t = ((⟨#[]⟩ : ByteArray) ++ ⟨#[40, 63, 109, 41]⟩) ++ X) := by unfold Hid; rw [HE.out]; rfl
        have HZ : Hid (¬ (shB true t).size ≤ 4096) := by
          unfold Hid
          rw [HR.out, ByteArray.size_append]
          exact h1
        clear h1 h2 k4
        go_wp2
        exact ⟨rfl, .inr ⟨HZ.out, rfl⟩, HLL.out⟩
    · exact absurd (by decide) h1
end Go.Proofs.YtajaadagejhllaaGreatDoor
