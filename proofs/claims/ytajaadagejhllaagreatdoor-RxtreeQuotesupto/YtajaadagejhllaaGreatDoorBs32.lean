/- A bundle of texts. -/
import Derived.Test.YtajaadagejhllaaGreatDoorBs31
/- Show: the face. -/
namespace Go.Proofs.YtajaadagejhllaaGreatDoor
open Go.RowKit Go.Lib

/-- What Show answers. -/
def shV (t : Tr) : ByteArray × Int := match svd t with
  | none => (⟨#[]⟩, 2)
  | some s1 => if (shB s1.l t).size ≤ 4096 then (shB s1.l t, 0) else (⟨#[]⟩, 1)
set_option maxRecDepth 100000 in
theorem reason_one (w : World) : Calls Tryz.prog 30 #[.iface 26 (.int .i64 1)] w fun e w' => e = .returned (.int .i64 1) ∧ w' = w := by
  have hta : ∀ w : World, Sem.run Tryz.prog (Instr.typeAssert (Value.iface 26 (Value.int IntKind.i64 1)) 20 26 true) w = .ok (.tuple #[.int .i64 1, .bool true]) w := fun _ => by kernel_rfl
  go_enter Tryz.func30, Tryz.ntmps30
  go_wp2
  go_ret
  exact ⟨rfl, rfl⟩
theorem store_one (w : World) (B : Nat) (y : Int) (x : Value) (hc : w.cell? ⟨B, 0, none⟩ = some x) (hf : w.frozen? ⟨B, 0, none⟩ = false) : Sem.run Tryz.prog (storeCells ⟨B, 0, none⟩ [Value.int .i64 y]) w = .ok () (w.setCell ⟨B, 0, none⟩ (.int .i64 y)) := by
  have := run_storeCells_cells (P := Tryz.prog) B 0 [Value.int .i64 y] 0 w (fun j hj => by
    have : j = 0 := by simpa using hj
    subst this
    simp [hc]) (fun j hj => by
    have : j = 0 := by simpa using hj
    subst this
    simpa using hf) (by intro u hu; simp at hu; subst hu; rfl)
  exact this
set_option maxRecDepth 100000 in
theorem show_idle (B : Nat) (w : World) (x : Value) (hc : w.cell? ⟨B, 0, none⟩ = some x) (hf : w.frozen? ⟨B, 0, none⟩ = false) : CallsD Tryz.prog 40 #[.pointer (some ⟨B, 0, none⟩)] .returning w fun e u' w' => e = .returned (.tuple #[]) ∧ u' = .returning ∧ w' = w.setCell ⟨B, 0, none⟩ (.int .i64 0) := by
  have hst := store_one w B 0 x hc hf
  refine callsD_of_wpS Tryz.func40 rfl fun c₀ cs hu => ?_
  apply wpS_region
  simp [wpOpsS, go_sem, recoverD, hu, Tryz.ntmps40]
  refine (reason_nil w).mono ?_
  rintro e w' ⟨rfl, rfl⟩
  cases c₀
  simp_all [bodyPostS, results, Tryz.results40, Oper.upon]
  rfl
set_option maxRecDepth 100000 in
theorem show_panicking (B : Nat) (w : World) (x : Value) (y : Int) (hr : Calls Tryz.prog 30 #[.iface 26 (.int .i64 y)] w fun e w' => e = .returned (.int .i64 y) ∧ w' = w) (hc : w.cell? ⟨B, 0, none⟩ = some x) (hf : w.frozen? ⟨B, 0, none⟩ = false) (older : List PanicEntry) : CallsD Tryz.prog 40 #[.pointer (some ⟨B, 0, none⟩)] (.panicking ({ v := .iface 26 (.int .i64 y), recovered := false } :: older)) w fun e u' w' => e = .returned (.tuple #[]) ∧ u' = .panicking ({ v := .iface 26 (.int .i64 y), recovered := true } :: older) ∧ w' = w.setCell ⟨B, 0, none⟩ (.int .i64 y) := by
  have hst := store_one w B y x hc hf
  refine callsD_of_wpS Tryz.func40 rfl fun c₀ cs hu => ?_
  apply wpS_region
  simp [wpOpsS, go_sem, recoverD, hu, Tryz.ntmps40]
  refine hr.mono ?_
  rintro e w' ⟨rfl, rfl⟩
  cases c₀
  simp_all [bodyPostS, results, Tryz.results40, Oper.upon]
  rfl
abbrev erX (x : Int) : Obj := .cells #[.int .i64 x] 26


set_option maxHeartbeats 4000000 in
set_option maxRecDepth 100000 in
theorem show_no (t : Tr) (w : World) (ht : Tat w.heap.size w t) (hA : TbA w.heap.size w) (hs : svd t = none) :
    Calls Tryz.prog 24 #[ndV (t [])] w fun e w' => e = .returned (.tuple #[.string ⟨#[]⟩, .int .i64 2]) ∧ Below w.heap.size w w' := by
  obtain ⟨V, hV⟩ : ∃ V, V = (w.alloc (ndX (t []))).alloc (erX 0) := ⟨_, rfl⟩
  have bV : Below w.heap.size w V := by rw [hV]; exact two_below _ _
  have hVz : V.heap.size = w.heap.size + 1 + 1 := by rw [hV]; simp
  have hX1 : V.heap[w.heap.size]? = some (ndX (t [])) := by
    rw [hV]
    rw [show ((w.alloc (ndX (t []))).alloc (erX 0)).heap[w.heap.size]? = (w.alloc (ndX (t []))).heap[w.heap.size]? from heap_alloc_old _ _ (by simp)]
    exact heap_alloc_new w _
  have hX2 : V.heap[w.heap.size + 1]? = some (erX 0) := by rw [hV]; have := heap_alloc_new (w.alloc (ndX (t []))) (erX 0); simpa using this
  have htV := (ht.below bV).mono bV.size
  have hAV : TbA V.heap.size V := fun w' b => hA w' (bV.trans (b.mono bV.size))
  have HX : Hid (∀ w5, Below V.heap.size V w5 → Cs w5 w.heap.size 0 (t []) ∧ w5.cell? ⟨w.heap.size + 1, 0, none⟩ = some (.int .i64 0) ∧ w5.frozen? ⟨w.heap.size + 1, 0, none⟩ = false) := fun w5 b5 => by
    have y1 := (b5.block w.heap.size (by omega)).trans hX1
    have y2 := (b5.block (w.heap.size + 1) (by omega)).trans hX2
    refine ⟨⟨?_, ?_, ?_, ?_, ?_, ?_, ?_, ?_, ?_⟩, ?_, ?_⟩
    iterate 9
      unfold World.cell?
      rw [y1]
      rfl
    · unfold World.cell?
      rw [y2]
      rfl
    · unfold World.frozen?
      rw [y2]
      simp
  have HW : Hid (V = (w.alloc (ndX (t []))).alloc (erX 0)) := hV
  have HL : Hid (∀ w5 u, Below V.heap.size V w5 → Below w.heap.size w (w5.setCell ⟨w.heap.size + 1, 0, none⟩ u)) := fun w5 u b5 => (bV.trans (b5.mono bV.size)).setCell (p := ⟨w.heap.size + 1, 0, none⟩) (by show w.heap.size ≤ w.heap.size + 1; omega) u
  have kS := fun w1 (b1 : Below V.heap.size V w1) => surveyed_no t w1 ((htV.below b1).mono b1.size) hs
  obtain ⟨e0c, ec, ef⟩ := HX.out V (Below.refl _ _)
  generalize t [] = d at *
  obtain ⟨e0, e1, e2, e3, e4, e5, e6, e7, e8⟩ := e0c
  simp only [Nat.zero_add] at e0 e1 e2 e3 e4 e5 e6 e7 e8
  have b0 : Below V.heap.size V V.drew := (Below.refl _ _).drew
  clear ht hA hV bV hX1 hX2 htV hAV hs hVz
  go_enter_defers Tryz.func24, Tryz.ntmps24
  go_upto_region 2 with fail
  rw [← HW.out]
  refine wp_region_any (by kernel_rfl) ?_
  change wpAny _ _ _ _ _ _ _ (World.drew _)
  refine wpAny_ready (rs := [0, 1]) (by kernel_rfl) (by simp) ?_
  refine AllReady.cons rfl (fun K hK => ?_) ?_
  · go_simp
    refine hK _ _ ?_
    clear hK K
    refine wpAny_ready (rs := [1]) (by kernel_rfl) (by simp) ?_
    refine AllReady.cons rfl (fun K hK => ?_) ?_
    · go_simp
      refine hK _ _ ?_
      clear hK K
      refine wpAny_ready (rs := [2]) (by kernel_rfl) (by simp) ?_
      refine AllReady.cons rfl (fun K hK => ?_) ?_
      · go_simp
        go_fit (kS _ b0)
        rintro e w3 ⟨hp, b3⟩
        have hp' : e = _ := hp
        subst hp'
        clear hp hK
        have hx3 := HX.out _ (b0.trans (b3.mono b0.size))
        go_simp
        refine leaves_cons (f := 40) (args := #[.pointer (some ⟨w.heap.size + 1, 0, none⟩)]) (by simp) (by simp [go_sem]) ?_
        refine (show_panicking (w.heap.size + 1) w3 _ 2 (reason_two w3) hx3.2.1 hx3.2.2 []).mono ?_
        rintro e u' w4 ⟨rfl, rfl, rfl⟩
        have HLL : Hid _ := HL.out w3 (.int .i64 2) (b0.trans (b3.mono b0.size))
        have hc4 : (w3.setCell ⟨w.heap.size + 1, 0, none⟩ (.int .i64 2)).cell? ⟨w.heap.size + 1, 0, none⟩ = some (.int .i64 2) := World.cell?_setCell_same' _ _ _ (by rw [hx3.2.1]; rfl)
        simp [Leaves, settle, results, Tryz.results24, go_sem, hc4]
        exact HLL.out
      exact AllReady.nil
    exact AllReady.nil
  refine AllReady.cons rfl (fun K hK => ?_) ?_
  · go_simp
    refine hK _ _ ?_
    clear hK K
    refine wpAny_ready (rs := [0, 2]) (by kernel_rfl) (by simp) ?_
    refine AllReady.cons rfl (fun K hK => ?_) ?_
    · go_simp
      refine hK _ _ ?_
      clear hK K
      refine wpAny_ready (rs := [2]) (by kernel_rfl) (by simp) ?_
      refine AllReady.cons rfl (fun K hK => ?_) ?_
      · go_simp
        go_fit (kS _ b0)
        rintro e w3 ⟨hp, b3⟩
        have hp' : e = _ := hp
        subst hp'
        clear hp hK
        have hx3 := HX.out _ (b0.trans (b3.mono b0.size))
        go_simp
        refine leaves_cons (f := 40) (args := #[.pointer (some ⟨w.heap.size + 1, 0, none⟩)]) (by simp) (by simp [go_sem]) ?_
        refine (show_panicking (w.heap.size + 1) w3 _ 2 (reason_two w3) hx3.2.1 hx3.2.2 []).mono ?_
        rintro e u' w4 ⟨rfl, rfl, rfl⟩
        have HLL : Hid _ := HL.out w3 (.int .i64 2) (b0.trans (b3.mono b0.size))
        have hc4 : (w3.setCell ⟨w.heap.size + 1, 0, none⟩ (.int .i64 2)).cell? ⟨w.heap.size + 1, 0, none⟩ = some (.int .i64 2) := World.cell?_setCell_same' _ _ _ (by rw [hx3.2.1]; rfl)
        simp [Leaves, settle, results, Tryz.results24, go_sem, hc4]
        exact HLL.out
      exact AllReady.nil
    refine AllReady.cons rfl (fun K hK => ?_) ?_
    · go_simp
      go_fit (kS _ b0)
      rintro e w3 ⟨hp, b3⟩
      have hp' : e = _ := hp
      subst hp'
      clear hp hK
      have hx3 := HX.out _ (b0.trans (b3.mono b0.size))
      go_simp
      refine leaves_cons (f := 40) (args := #[.pointer (some ⟨w.heap.size + 1, 0, none⟩)]) (by simp) (by simp [go_sem]) ?_
      refine (show_panicking (w.heap.size + 1) w3 _ 2 (reason_two w3) hx3.2.1 hx3.2.2 []).mono ?_
      rintro e u' w4 ⟨rfl, rfl, rfl⟩
      have HLL : Hid _ := HL.out w3 (.int .i64 2) (b0.trans (b3.mono b0.size))
      have hc4 : (w3.setCell ⟨w.heap.size + 1, 0, none⟩ (.int .i64 2)).cell? ⟨w.heap.size + 1, 0, none⟩ = some (.int .i64 2) := World.cell?_setCell_same' _ _ _ (by rw [hx3.2.1]; rfl)
      simp [Leaves, settle, results, Tryz.results24, go_sem, hc4]
      exact HLL.out
    exact AllReady.nil
  exact AllReady.nil

set_option maxHeartbeats 4000000 in
set_option maxRecDepth 100000 in
theorem show_long (t : Tr) (w : World) (s1 : St) (ht : Tat w.heap.size w t) (hA : TbA w.heap.size w) (hs : svd t = some s1) (hz : ¬ (shB s1.l t).size ≤ 4096) :
    Calls Tryz.prog 24 #[ndV (t [])] w fun e w' => e = .returned (.tuple #[.string ⟨#[]⟩, .int .i64 1]) ∧ Below w.heap.size w w' := by
  obtain ⟨V, hV⟩ : ∃ V, V = (w.alloc (ndX (t []))).alloc (erX 0) := ⟨_, rfl⟩
  have bV : Below w.heap.size w V := by rw [hV]; exact two_below _ _
  have hVz : V.heap.size = w.heap.size + 1 + 1 := by rw [hV]; simp
  have hX1 : V.heap[w.heap.size]? = some (ndX (t [])) := by
    rw [hV]
    rw [show ((w.alloc (ndX (t []))).alloc (erX 0)).heap[w.heap.size]? = (w.alloc (ndX (t []))).heap[w.heap.size]? from heap_alloc_old _ _ (by simp)]
    exact heap_alloc_new w _
  have hX2 : V.heap[w.heap.size + 1]? = some (erX 0) := by rw [hV]; have := heap_alloc_new (w.alloc (ndX (t []))) (erX 0); simpa using this
  have htV := (ht.below bV).mono bV.size
  have hAV : TbA V.heap.size V := fun w' b => hA w' (bV.trans (b.mono bV.size))
  have HX : Hid (∀ w5, Below V.heap.size V w5 → Cs w5 w.heap.size 0 (t []) ∧ w5.cell? ⟨w.heap.size + 1, 0, none⟩ = some (.int .i64 0) ∧ w5.frozen? ⟨w.heap.size + 1, 0, none⟩ = false) := fun w5 b5 => by
    have y1 := (b5.block w.heap.size (by omega)).trans hX1
    have y2 := (b5.block (w.heap.size + 1) (by omega)).trans hX2
    refine ⟨⟨?_, ?_, ?_, ?_, ?_, ?_, ?_, ?_, ?_⟩, ?_, ?_⟩
    iterate 9
      unfold World.cell?
      rw [y1]
      rfl
    · unfold World.cell?
      rw [y2]
      rfl
    · unfold World.frozen?
      rw [y2]
      simp
  have HW : Hid (V = (w.alloc (ndX (t []))).alloc (erX 0)) := hV
  have HL : Hid (∀ w5 u, Below V.heap.size V w5 → Below w.heap.size w (w5.setCell ⟨w.heap.size + 1, 0, none⟩ u)) := fun w5 u b5 => (bV.trans (b5.mono bV.size)).setCell (p := ⟨w.heap.size + 1, 0, none⟩) (by show w.heap.size ≤ w.heap.size + 1; omega) u
  have kS := fun w1 (b1 : Below V.heap.size V w1) => surveyed_yes t w1 s1 ((htV.below b1).mono b1.size) hs
  have hwf : WF 8195 t := WF_ok (by unfold okT; rw [hs]; rfl)
  have HSH : Hid (∀ w1, Below V.heap.size V w1 → ∀ a c, Calls Tryz.prog 41 #[ndV (t []), svV s1.k (.slice a s1.n c) s1.l] w1 fun e w' => Sh w1 (shB s1.l t) e w') := fun w1 b1 a c => shown_any t w1 s1.k a s1.n c s1.l ((htV.below b1).mono b1.size) (fun w' b => hAV w' (b1.trans (b.mono b1.size))) hwf
  have HZ : Hid (¬ (shB s1.l t).size ≤ 4096) := hz
  generalize shB s1.l t = X at *
  clear hwf hz
  obtain ⟨e0c, ec, ef⟩ := HX.out V (Below.refl _ _)
  generalize t [] = d at *
  obtain ⟨e0, e1, e2, e3, e4, e5, e6, e7, e8⟩ := e0c
  simp only [Nat.zero_add] at e0 e1 e2 e3 e4 e5 e6 e7 e8
  have b0 : Below V.heap.size V V.drew := (Below.refl _ _).drew
  clear ht hA hV bV hX1 hX2 htV hAV hs hVz
  go_enter_defers Tryz.func24, Tryz.ntmps24
  go_upto_region 2 with fail
  rw [← HW.out]
  refine wp_region_any (by kernel_rfl) ?_
  change wpAny _ _ _ _ _ _ _ (World.drew _)
  refine wpAny_ready (rs := [0, 1]) (by kernel_rfl) (by simp) ?_
  refine AllReady.cons rfl (fun K hK => ?_) ?_
  · go_simp
    refine hK _ _ ?_
    clear hK K
    refine wpAny_ready (rs := [1]) (by kernel_rfl) (by simp) ?_
    refine AllReady.cons rfl (fun K hK => ?_) ?_
    · go_simp
      refine hK _ _ ?_
      clear hK K
      refine wpAny_ready (rs := [2]) (by kernel_rfl) (by simp) ?_
      refine AllReady.cons rfl (fun K hK => ?_) ?_
      · go_simp
        go_fit (kS _ b0)
        rintro e w3 ⟨⟨a, c, rfl, _⟩, b3⟩
        have b3' : Below V.heap.size V w3 := b0.trans (b3.mono b0.size)
        have hx3 := HX.out _ b3'
        obtain ⟨⟨f0, f1, f2, f3, f4, f5, f6, f7, f8⟩, fc, ff⟩ := hx3
        simp only [Nat.zero_add] at f0 f1 f2 f3 f4 f5 f6 f7 f8
        have kH := HSH.out w3 b3' a c
        clear b3
        go_simp
        refine hK _ _ ?_
        clear hK K
        refine wpAny_ready (rs := [3]) (by kernel_rfl) (by simp) ?_
        refine AllReady.cons rfl (fun K hK => ?_) ?_
        · go_simp
          go_fit kH
          rintro e w4 ⟨h, b4⟩
          have b4' : Below V.heap.size V w4 := b3'.trans (b4.mono b3'.size)
          rcases h with ⟨h, _⟩ | ⟨_, hp⟩
          · exact absurd h HZ.out
          have hp' : e = _ := hp
          subst hp'
          clear hp hK b4
          have hx3 := HX.out _ (b4')
          go_simp
          refine leaves_cons (f := 40) (args := #[.pointer (some ⟨w.heap.size + 1, 0, none⟩)]) (by simp) (by simp [go_sem]) ?_
          refine (show_panicking (w.heap.size + 1) w4 _ 1 (reason_one w4) hx3.2.1 hx3.2.2 []).mono ?_
          rintro e u' w4 ⟨rfl, rfl, rfl⟩
          have HLL : Hid _ := HL.out w4 (.int .i64 1) (b4')
          have hc4 : (w4.setCell ⟨w.heap.size + 1, 0, none⟩ (.int .i64 1)).cell? ⟨w.heap.size + 1, 0, none⟩ = some (.int .i64 1) := World.cell?_setCell_same' _ _ _ (by rw [hx3.2.1]; rfl)
          simp [Leaves, settle, results, Tryz.results24, go_sem, hc4]
          exact HLL.out
        exact AllReady.nil
      exact AllReady.nil
    exact AllReady.nil
  refine AllReady.cons rfl (fun K hK => ?_) ?_
  · go_simp
    refine hK _ _ ?_
    clear hK K
    refine wpAny_ready (rs := [0, 2]) (by kernel_rfl) (by simp) ?_
    refine AllReady.cons rfl (fun K hK => ?_) ?_
    · go_simp
      refine hK _ _ ?_
      clear hK K
      refine wpAny_ready (rs := [2]) (by kernel_rfl) (by simp) ?_
      refine AllReady.cons rfl (fun K hK => ?_) ?_
      · go_simp
        go_fit (kS _ b0)
        rintro e w3 ⟨⟨a, c, rfl, _⟩, b3⟩
        have b3' : Below V.heap.size V w3 := b0.trans (b3.mono b0.size)
        have hx3 := HX.out _ b3'
        obtain ⟨⟨f0, f1, f2, f3, f4, f5, f6, f7, f8⟩, fc, ff⟩ := hx3
        simp only [Nat.zero_add] at f0 f1 f2 f3 f4 f5 f6 f7 f8
        have kH := HSH.out w3 b3' a c
        clear b3
        go_simp
        refine hK _ _ ?_
        clear hK K
        refine wpAny_ready (rs := [3]) (by kernel_rfl) (by simp) ?_
        refine AllReady.cons rfl (fun K hK => ?_) ?_
        · go_simp
          go_fit kH
          rintro e w4 ⟨h, b4⟩
          have b4' : Below V.heap.size V w4 := b3'.trans (b4.mono b3'.size)
          rcases h with ⟨h, _⟩ | ⟨_, hp⟩
          · exact absurd h HZ.out
          have hp' : e = _ := hp
          subst hp'
          clear hp hK b4
          have hx3 := HX.out _ (b4')
          go_simp
          refine leaves_cons (f := 40) (args := #[.pointer (some ⟨w.heap.size + 1, 0, none⟩)]) (by simp) (by simp [go_sem]) ?_
          refine (show_panicking (w.heap.size + 1) w4 _ 1 (reason_one w4) hx3.2.1 hx3.2.2 []).mono ?_
          rintro e u' w4 ⟨rfl, rfl, rfl⟩
          have HLL : Hid _ := HL.out w4 (.int .i64 1) (b4')
          have hc4 : (w4.setCell ⟨w.heap.size + 1, 0, none⟩ (.int .i64 1)).cell? ⟨w.heap.size + 1, 0, none⟩ = some (.int .i64 1) := World.cell?_setCell_same' _ _ _ (by rw [hx3.2.1]; rfl)
          simp [Leaves, settle, results, Tryz.results24, go_sem, hc4]
          exact HLL.out
        exact AllReady.nil
      exact AllReady.nil
    refine AllReady.cons rfl (fun K hK => ?_) ?_
    · go_simp
      go_fit (kS _ b0)
      rintro e w3 ⟨⟨a, c, rfl, _⟩, b3⟩
      have b3' : Below V.heap.size V w3 := b0.trans (b3.mono b0.size)
      have hx3 := HX.out _ b3'
      obtain ⟨⟨f0, f1, f2, f3, f4, f5, f6, f7, f8⟩, fc, ff⟩ := hx3
      simp only [Nat.zero_add] at f0 f1 f2 f3 f4 f5 f6 f7 f8
      have kH := HSH.out w3 b3' a c
      clear b3
      go_simp
      refine hK _ _ ?_
      clear hK K
      refine wpAny_ready (rs := [0]) (by kernel_rfl) (by simp) ?_
      refine AllReady.cons rfl (fun K hK => ?_) ?_
      · go_simp
        refine hK _ _ ?_
        clear hK K
        refine wpAny_ready (rs := [3]) (by kernel_rfl) (by simp) ?_
        refine AllReady.cons rfl (fun K hK => ?_) ?_
        · go_simp
          go_fit kH
          rintro e w4 ⟨h, b4⟩
          have b4' : Below V.heap.size V w4 := b3'.trans (b4.mono b3'.size)
          rcases h with ⟨h, _⟩ | ⟨_, hp⟩
          · exact absurd h HZ.out
          have hp' : e = _ := hp
          subst hp'
          clear hp hK b4
          have hx3 := HX.out _ (b4')
          go_simp
          refine leaves_cons (f := 40) (args := #[.pointer (some ⟨w.heap.size + 1, 0, none⟩)]) (by simp) (by simp [go_sem]) ?_
          refine (show_panicking (w.heap.size + 1) w4 _ 1 (reason_one w4) hx3.2.1 hx3.2.2 []).mono ?_
          rintro e u' w4 ⟨rfl, rfl, rfl⟩
          have HLL : Hid _ := HL.out w4 (.int .i64 1) (b4')
          have hc4 : (w4.setCell ⟨w.heap.size + 1, 0, none⟩ (.int .i64 1)).cell? ⟨w.heap.size + 1, 0, none⟩ = some (.int .i64 1) := World.cell?_setCell_same' _ _ _ (by rw [hx3.2.1]; rfl)
          simp [Leaves, settle, results, Tryz.results24, go_sem, hc4]
          exact HLL.out
        exact AllReady.nil
      exact AllReady.nil
    exact AllReady.nil
  exact AllReady.nil

set_option maxHeartbeats 4000000 in
set_option maxRecDepth 100000 in
theorem show_ok (t : Tr) (w : World) (s1 : St) (ht : Tat w.heap.size w t) (hA : TbA w.heap.size w) (hs : svd t = some s1) (hz : (shB s1.l t).size ≤ 4096) :
    Calls Tryz.prog 24 #[ndV (t [])] w fun e w' => e = .returned (.tuple #[.string (shB s1.l t), .int .i64 0]) ∧ Below w.heap.size w w' := by
  obtain ⟨V, hV⟩ : ∃ V, V = (w.alloc (ndX (t []))).alloc (erX 0) := ⟨_, rfl⟩
  have bV : Below w.heap.size w V := by rw [hV]; exact two_below _ _
  have hVz : V.heap.size = w.heap.size + 1 + 1 := by rw [hV]; simp
  have hX1 : V.heap[w.heap.size]? = some (ndX (t [])) := by
    rw [hV]
    rw [show ((w.alloc (ndX (t []))).alloc (erX 0)).heap[w.heap.size]? = (w.alloc (ndX (t []))).heap[w.heap.size]? from heap_alloc_old _ _ (by simp)]
    exact heap_alloc_new w _
  have hX2 : V.heap[w.heap.size + 1]? = some (erX 0) := by rw [hV]; have := heap_alloc_new (w.alloc (ndX (t []))) (erX 0); simpa using this
  have htV := (ht.below bV).mono bV.size
  have hAV : TbA V.heap.size V := fun w' b => hA w' (bV.trans (b.mono bV.size))
  have HX : Hid (∀ w5, Below V.heap.size V w5 → Cs w5 w.heap.size 0 (t []) ∧ w5.cell? ⟨w.heap.size + 1, 0, none⟩ = some (.int .i64 0) ∧ w5.frozen? ⟨w.heap.size + 1, 0, none⟩ = false) := fun w5 b5 => by
    have y1 := (b5.block w.heap.size (by omega)).trans hX1
    have y2 := (b5.block (w.heap.size + 1) (by omega)).trans hX2
    refine ⟨⟨?_, ?_, ?_, ?_, ?_, ?_, ?_, ?_, ?_⟩, ?_, ?_⟩
    iterate 9
      unfold World.cell?
      rw [y1]
      rfl
    · unfold World.cell?
      rw [y2]
      rfl
    · unfold World.frozen?
      rw [y2]
      simp
  have HW : Hid (V = (w.alloc (ndX (t []))).alloc (erX 0)) := hV
  have HL : Hid (∀ w5 u, Below V.heap.size V w5 → Below w.heap.size w (w5.setCell ⟨w.heap.size + 1, 0, none⟩ u)) := fun w5 u b5 => (bV.trans (b5.mono bV.size)).setCell (p := ⟨w.heap.size + 1, 0, none⟩) (by show w.heap.size ≤ w.heap.size + 1; omega) u
  have kS := fun w1 (b1 : Below V.heap.size V w1) => surveyed_yes t w1 s1 ((htV.below b1).mono b1.size) hs
  have hwf : WF 8195 t := WF_ok (by unfold okT; rw [hs]; rfl)
  have HSH : Hid (∀ w1, Below V.heap.size V w1 → ∀ a c, Calls Tryz.prog 41 #[ndV (t []), svV s1.k (.slice a s1.n c) s1.l] w1 fun e w' => Sh w1 (shB s1.l t) e w') := fun w1 b1 a c => shown_any t w1 s1.k a s1.n c s1.l ((htV.below b1).mono b1.size) (fun w' b => hAV w' (b1.trans (b.mono b1.size))) hwf
  have HZ : Hid ((shB s1.l t).size ≤ 4096) := hz
  generalize shB s1.l t = X at *
  clear hwf hz
  obtain ⟨e0c, ec, ef⟩ := HX.out V (Below.refl _ _)
  generalize t [] = d at *
  obtain ⟨e0, e1, e2, e3, e4, e5, e6, e7, e8⟩ := e0c
  simp only [Nat.zero_add] at e0 e1 e2 e3 e4 e5 e6 e7 e8
  have b0 : Below V.heap.size V V.drew := (Below.refl _ _).drew
  clear ht hA hV bV hX1 hX2 htV hAV hs hVz
  go_enter_defers Tryz.func24, Tryz.ntmps24
  go_upto_region 2 with fail
  rw [← HW.out]
  refine wp_region_any (by kernel_rfl) ?_
  change wpAny _ _ _ _ _ _ _ (World.drew _)
  refine wpAny_ready (rs := [0, 1]) (by kernel_rfl) (by simp) ?_
  refine AllReady.cons rfl (fun K hK => ?_) ?_
  · go_simp
    refine hK _ _ ?_
    clear hK K
    refine wpAny_ready (rs := [1]) (by kernel_rfl) (by simp) ?_
    refine AllReady.cons rfl (fun K hK => ?_) ?_
    · go_simp
      refine hK _ _ ?_
      clear hK K
      refine wpAny_ready (rs := [2]) (by kernel_rfl) (by simp) ?_
      refine AllReady.cons rfl (fun K hK => ?_) ?_
      · go_simp
        go_fit (kS _ b0)
        rintro e w3 ⟨⟨a, c, rfl, _⟩, b3⟩
        have b3' : Below V.heap.size V w3 := b0.trans (b3.mono b0.size)
        have hx3 := HX.out _ b3'
        obtain ⟨⟨f0, f1, f2, f3, f4, f5, f6, f7, f8⟩, fc, ff⟩ := hx3
        simp only [Nat.zero_add] at f0 f1 f2 f3 f4 f5 f6 f7 f8
        have kH := HSH.out w3 b3' a c
        clear b3
        go_simp
        refine hK _ _ ?_
        clear hK K
        refine wpAny_ready (rs := [3]) (by kernel_rfl) (by simp) ?_
        refine AllReady.cons rfl (fun K hK => ?_) ?_
        · go_simp
          go_fit kH
          rintro e w4 ⟨h, b4⟩
          have b4' : Below V.heap.size V w4 := b3'.trans (b4.mono b3'.size)
          rcases h with ⟨_, rfl⟩ | ⟨h, _⟩
          rotate_left
          · exact absurd HZ.out h
          have hx4 := HX.out _ b4'
          have gc := hx4.2.1
          have gf := hx4.2.2
          clear b4 hx4
          go_simp
          refine hK _ _ ?_
          clear hK K
          refine wpAny_ready (rs := [4]) (by kernel_rfl) (by simp) ?_
          refine AllReady.cons rfl (fun K hK => ?_) ?_
          · go_simp
            refine hK _ _ ?_
            clear hK K
            refine wpAny_ready (rs := [5]) (by kernel_rfl) (by simp) ?_
            refine AllReady.cons rfl (fun K hK => ?_) ?_
            · go_simp
              refine hK _ _ ?_
              clear hK K
              refine wpAny_done (by kernel_rfl) ?_ _
              have hm4 : (w4.setCell ⟨w.heap.size + 1, 0, none⟩ (.int .i64 0)).cell? ⟨w.heap.size + 1, 0, none⟩ = some (.int .i64 0) := World.cell?_setCell_same' _ _ _ (by rw [gc]; rfl)
              have hf4 : (w4.setCell ⟨w.heap.size + 1, 0, none⟩ (.int .i64 0)).frozen? ⟨w.heap.size + 1, 0, none⟩ = false := by rw [World.frozen?_setCell]; exact gf
              have HLL : Hid _ := HL.out w4 (.int .i64 0) b4'
              go_wp2
              refine leaves_cons (f := 40) (args := #[.pointer (some ⟨w.heap.size + 1, 0, none⟩)]) (by simp) (by simp [go_sem]) ?_
              refine (show_idle (w.heap.size + 1) _ _ hm4 hf4).mono ?_
              rintro e u' w5 ⟨rfl, rfl, rfl⟩
              have hc5 : ((w4.setCell ⟨w.heap.size + 1, 0, none⟩ (.int .i64 0)).setCell ⟨w.heap.size + 1, 0, none⟩ (.int .i64 0)).cell? ⟨w.heap.size + 1, 0, none⟩ = some (.int .i64 0) := World.cell?_setCell_same' _ _ _ (by rw [hm4]; rfl)
              simp [Leaves, settle, results, Tryz.results24, go_sem, hc5]
              exact HLL.out.setCell (p := ⟨w.heap.size + 1, 0, none⟩) (by show w.heap.size ≤ w.heap.size + 1; omega) _
            exact AllReady.nil
          exact AllReady.nil
        exact AllReady.nil
      exact AllReady.nil
    exact AllReady.nil
  refine AllReady.cons rfl (fun K hK => ?_) ?_
  · go_simp
    refine hK _ _ ?_
    clear hK K
    refine wpAny_ready (rs := [0, 2]) (by kernel_rfl) (by simp) ?_
    refine AllReady.cons rfl (fun K hK => ?_) ?_
    · go_simp
      refine hK _ _ ?_
      clear hK K
      refine wpAny_ready (rs := [2]) (by kernel_rfl) (by simp) ?_
      refine AllReady.cons rfl (fun K hK => ?_) ?_
      · go_simp
        go_fit (kS _ b0)
        rintro e w3 ⟨⟨a, c, rfl, _⟩, b3⟩
        have b3' : Below V.heap.size V w3 := b0.trans (b3.mono b0.size)
        have hx3 := HX.out _ b3'
        obtain ⟨⟨f0, f1, f2, f3, f4, f5, f6, f7, f8⟩, fc, ff⟩ := hx3
        simp only [Nat.zero_add] at f0 f1 f2 f3 f4 f5 f6 f7 f8
        have kH := HSH.out w3 b3' a c
        clear b3
        go_simp
        refine hK _ _ ?_
        clear hK K
        refine wpAny_ready (rs := [3]) (by kernel_rfl) (by simp) ?_
        refine AllReady.cons rfl (fun K hK => ?_) ?_
        · go_simp
          go_fit kH
          rintro e w4 ⟨h, b4⟩
          have b4' : Below V.heap.size V w4 := b3'.trans (b4.mono b3'.size)
          rcases h with ⟨_, rfl⟩ | ⟨h, _⟩
          rotate_left
          · exact absurd HZ.out h
          have hx4 := HX.out _ b4'
          have gc := hx4.2.1
          have gf := hx4.2.2
          clear b4 hx4
          go_simp
          refine hK _ _ ?_
          clear hK K
          refine wpAny_ready (rs := [4]) (by kernel_rfl) (by simp) ?_
          refine AllReady.cons rfl (fun K hK => ?_) ?_
          · go_simp
            refine hK _ _ ?_
            clear hK K
            refine wpAny_ready (rs := [5]) (by kernel_rfl) (by simp) ?_
            refine AllReady.cons rfl (fun K hK => ?_) ?_
            · go_simp
              refine hK _ _ ?_
              clear hK K
              refine wpAny_done (by kernel_rfl) ?_ _
              have hm4 : (w4.setCell ⟨w.heap.size + 1, 0, none⟩ (.int .i64 0)).cell? ⟨w.heap.size + 1, 0, none⟩ = some (.int .i64 0) := World.cell?_setCell_same' _ _ _ (by rw [gc]; rfl)
              have hf4 : (w4.setCell ⟨w.heap.size + 1, 0, none⟩ (.int .i64 0)).frozen? ⟨w.heap.size + 1, 0, none⟩ = false := by rw [World.frozen?_setCell]; exact gf
              have HLL : Hid _ := HL.out w4 (.int .i64 0) b4'
              go_wp2
              refine leaves_cons (f := 40) (args := #[.pointer (some ⟨w.heap.size + 1, 0, none⟩)]) (by simp) (by simp [go_sem]) ?_
              refine (show_idle (w.heap.size + 1) _ _ hm4 hf4).mono ?_
              rintro e u' w5 ⟨rfl, rfl, rfl⟩
              have hc5 : ((w4.setCell ⟨w.heap.size + 1, 0, none⟩ (.int .i64 0)).setCell ⟨w.heap.size + 1, 0, none⟩ (.int .i64 0)).cell? ⟨w.heap.size + 1, 0, none⟩ = some (.int .i64 0) := World.cell?_setCell_same' _ _ _ (by rw [hm4]; rfl)
              simp [Leaves, settle, results, Tryz.results24, go_sem, hc5]
              exact HLL.out.setCell (p := ⟨w.heap.size + 1, 0, none⟩) (by show w.heap.size ≤ w.heap.size + 1; omega) _
            exact AllReady.nil
          exact AllReady.nil
        exact AllReady.nil
      exact AllReady.nil
    refine AllReady.cons rfl (fun K hK => ?_) ?_
    · go_simp
      go_fit (kS _ b0)
      rintro e w3 ⟨⟨a, c, rfl, _⟩, b3⟩
      have b3' : Below V.heap.size V w3 := b0.trans (b3.mono b0.size)
      have hx3 := HX.out _ b3'
      obtain ⟨⟨f0, f1, f2, f3, f4, f5, f6, f7, f8⟩, fc, ff⟩ := hx3
      simp only [Nat.zero_add] at f0 f1 f2 f3 f4 f5 f6 f7 f8
      have kH := HSH.out w3 b3' a c
      clear b3
      go_simp
      refine hK _ _ ?_
      clear hK K
      refine wpAny_ready (rs := [0]) (by kernel_rfl) (by simp) ?_
      refine AllReady.cons rfl (fun K hK => ?_) ?_
      · go_simp
        refine hK _ _ ?_
        clear hK K
        refine wpAny_ready (rs := [3]) (by kernel_rfl) (by simp) ?_
        refine AllReady.cons rfl (fun K hK => ?_) ?_
        · go_simp
          go_fit kH
          rintro e w4 ⟨h, b4⟩
          have b4' : Below V.heap.size V w4 := b3'.trans (b4.mono b3'.size)
          rcases h with ⟨_, rfl⟩ | ⟨h, _⟩
          rotate_left
          · exact absurd HZ.out h
          have hx4 := HX.out _ b4'
          have gc := hx4.2.1
          have gf := hx4.2.2
          clear b4 hx4
          go_simp
          refine hK _ _ ?_
          clear hK K
          refine wpAny_ready (rs := [4]) (by kernel_rfl) (by simp) ?_
          refine AllReady.cons rfl (fun K hK => ?_) ?_
          · go_simp
            refine hK _ _ ?_
            clear hK K
            refine wpAny_ready (rs := [5]) (by kernel_rfl) (by simp) ?_
            refine AllReady.cons rfl (fun K hK => ?_) ?_
            · go_simp
              refine hK _ _ ?_
              clear hK K
              refine wpAny_done (by kernel_rfl) ?_ _
              have hm4 : (w4.setCell ⟨w.heap.size + 1, 0, none⟩ (.int .i64 0)).cell? ⟨w.heap.size + 1, 0, none⟩ = some (.int .i64 0) := World.cell?_setCell_same' _ _ _ (by rw [gc]; rfl)
              have hf4 : (w4.setCell ⟨w.heap.size + 1, 0, none⟩ (.int .i64 0)).frozen? ⟨w.heap.size + 1, 0, none⟩ = false := by rw [World.frozen?_setCell]; exact gf
              have HLL : Hid _ := HL.out w4 (.int .i64 0) b4'
              go_wp2
              refine leaves_cons (f := 40) (args := #[.pointer (some ⟨w.heap.size + 1, 0, none⟩)]) (by simp) (by simp [go_sem]) ?_
              refine (show_idle (w.heap.size + 1) _ _ hm4 hf4).mono ?_
              rintro e u' w5 ⟨rfl, rfl, rfl⟩
              have hc5 : ((w4.setCell ⟨w.heap.size + 1, 0, none⟩ (.int .i64 0)).setCell ⟨w.heap.size + 1, 0, none⟩ (.int .i64 0)).cell? ⟨w.heap.size + 1, 0, none⟩ = some (.int .i64 0) := World.cell?_setCell_same' _ _ _ (by rw [hm4]; rfl)
              simp [Leaves, settle, results, Tryz.results24, go_sem, hc5]
              exact HLL.out.setCell (p := ⟨w.heap.size + 1, 0, none⟩) (by show w.heap.size ≤ w.heap.size + 1; omega) _
            exact AllReady.nil
          exact AllReady.nil
        exact AllReady.nil
      exact AllReady.nil
    exact AllReady.nil
  exact AllReady.nil

theorem show_any (t : Tr) (w : World) (ht : Tat w.heap.size w t) (hA : TbA w.heap.size w) :
    Calls Tryz.prog 24 #[ndV (t [])] w fun e w' => e = .returned (.tuple #[.string (shV t).1, .int .i64 (shV t).2]) ∧ Below w.heap.size w w' := by
  cases hs : svd t with
  | none =>
    have e : shV t = (⟨#[]⟩, 2) := by unfold shV; rw [hs]
    rw [e]
    exact show_no t w ht hA hs
  | some s1 =>
    by_cases hz : (shB s1.l t).size ≤ 4096
    · have e : shV t = (shB s1.l t, 0) := by unfold shV; rw [hs]; dsimp only; rw [if_pos hz]
      rw [e]
      exact show_ok t w s1 ht hA hs hz
    · have e : shV t = (⟨#[]⟩, 1) := by unfold shV; rw [hs]; dsimp only; rw [if_neg hz]
      rw [e]
      exact show_long t w s1 ht hA hs hz

end Go.Proofs.YtajaadagejhllaaGreatDoor
