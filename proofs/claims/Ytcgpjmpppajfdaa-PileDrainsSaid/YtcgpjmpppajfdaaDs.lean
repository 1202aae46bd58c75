/- drained: the walk. -/
import Derived.Test.YtcgpjmpppajfdaaDr
namespace Go.Proofs.Ytcgpjmpppajfdaa
open Go.RowKit Go.Shelf

attribute [local go_sem] Oper.semAt_some

/-- A range of drained between two rounds. -/
structure DI (w : World) (G Bp b bx : Nat) (flat : Bool) (v0 : Value) (more : Bool) (most stop : Int) (late : It) (B0 : List Rk) (m0 : Nat) (W : World) (l : List It) (B : List Rk) (m n : Nat) (v vl : Value) (f : Nat → Rk) : Prop where
  dm : DM w G Bp b bx (lvF flat) v0 more most stop late W l m n v vl f
  bk : Bk (Kf flat) B n f m
  tr : Tr (Kf flat) more late 0 l B0 m0 B m
  hm : m ≤ m0 + 1 ∧ (l = [] → m = m0)
  hn : n + l.length ≤ B0.length + 1 ∧ (l = [] → n = B0.length)
  hj : ∀ j, 0 < j → j < l.length → (j : Int) ≠ stop ∧ (j : Int) ≤ most

def DI1 (w : World) (G Bp b bx : Nat) (flat : Bool) (v0 : Value) (more : Bool) (most stop : Int) (late : It) (B0 : List Rk) (m0 : Nat) (W : World) : Prop := ∃ l B m n v vl f, DI w G Bp b bx flat v0 more most stop late B0 m0 W l B m n v vl f ∧ (0 < l.length → (l.length : Int) ≠ stop ∧ (l.length : Int) ≤ most)
def DIs (w : World) (G Bp b bx : Nat) (flat : Bool) (v0 : Value) (more : Bool) (most stop : Int) (late : It) (B0 : List Rk) (m0 : Nat) (W : World) : Prop := ∃ l B m n v vl f, DI w G Bp b bx flat v0 more most stop late B0 m0 W l B m n v vl f ∧ B = []
def DIx (w : World) (G Bp b bx : Nat) (flat : Bool) (v0 : Value) (more : Bool) (most stop : Int) (late : It) (B0 : List Rk) (m0 : Nat) (W : World) : Prop := ∃ l B m n v vl f, DI w G Bp b bx flat v0 more most stop late B0 m0 W l B m n v vl f ∧ (((l.length : Int) = stop ∨ most < (l.length : Int)) ∧ 0 < l.length)

set_option maxRecDepth 100000 in
set_option maxHeartbeats 4000000 in
theorem drained_any (Bp b bx n0 m0 M : Nat) (flat : Bool) (v0 : Value) (f0 : Nat → Rk) (more : Bool) (stop : Int) (late : It) (B0 : List Rk) (w : World) (hp : Pl w b bx (lvF flat) v0 n0 f0 m0) (hB : Bk (Kf flat) B0 n0 f0 m0) (hBp : w.heap[Bp]? = some (.cells #[.pointer (some ⟨b, 0, none⟩)] 28)) (hn : (n0 + 2) * 24 ≤ 140737488355328) (hm : m0 + 2 ≤ 1152921504606846976) :
    Calls Try.prog 19 #[.pointer (some ⟨b, 0, none⟩), .func (.func 43) #[] #[.pointer (some ⟨Bp, 0, none⟩)], .int .i64 (M : Int), .int .i64 stop, .bool more, iv late] w fun e w' =>
      ∃ vl l B m n v f, e = .returned vl ∧ Ir w' w.heap.size vl l.length (lk l) ∧ Pl w' b bx (lvF flat) v n f m ∧ Bk (Kf flat) B n f m ∧ Tr (Kf flat) more late 0 l B0 m0 B m ∧ (B = [] ∨ (((l.length : Int) = stop ∨ (M : Int) < l.length) ∧ 0 < l.length)) ∧ (∀ j, 0 < j → j < l.length → (j : Int) ≠ stop ∧ (j : Int) ≤ M) ∧ m ≤ m0 + 1 ∧ n + l.length ≤ B0.length + 1 ∧ (∀ g, v.ownBlock = some g → v0.ownBlock = some g ∨ w.heap.size ≤ g) ∧ Kp (fun k => k = b ∨ v0.ownBlock = some k) w w' := by
  refine (callsIn_wide (n := 3)).1 ?_
  obtain ⟨xk, xi⟩ := late
  have hne := fun w' => eq_seq Bp w'
  obtain ⟨G, hG⟩ : ∃ G, G = w.heap.size := ⟨_, rfl⟩
  obtain ⟨W0, hW0⟩ : ∃ W0, W0 = (((((w.alloc (.cells #[.pointer (some ⟨b, 0, none⟩)] 28)).alloc (.cells #[.int .i64 (M : Int)] 3)).alloc (.cells #[.int .i64 stop] 3)).alloc (.cells #[.bool more] 4)).alloc (.cells #[.int .i64 xk, .int .i64 xi] 24)).alloc (.cells #[.slice none 0 0] 22) := ⟨_, rfl⟩
  have hb0 : Below w.heap.size w W0 := by
    rw [hW0]
    exact ((((((Below.refl _ w).alloc (Nat.le_refl _) _).alloc (by simp) _).alloc (by simp; omega) _).alloc (by simp; omega) _).alloc (by simp; omega) _).alloc (by simp; omega) _
  have hs0 : W0.heap.size = G + 6 := by rw [hW0, hG]; simp
  have dm0 : DM w G Bp b bx (lvF flat) v0 more (M : Int) stop (xk, xi) W0 [] m0 n0 v0 (.slice none 0 0) f0 := by
    have x0 := (((((Boxed.new w 28 (.pointer (some ⟨b, 0, none⟩))).alloc (.cells #[.int .i64 (M : Int)] 3)).alloc (.cells #[.int .i64 stop] 3)).alloc (.cells #[.bool more] 4)).alloc (.cells #[.int .i64 xk, .int .i64 xi] 24)).alloc (.cells #[.slice none 0 0] 22)
    have x1 := ((((Boxed.new (w.alloc (.cells #[.pointer (some ⟨b, 0, none⟩)] 28)) 3 (.int .i64 (M : Int))).alloc (.cells #[.int .i64 stop] 3)).alloc (.cells #[.bool more] 4)).alloc (.cells #[.int .i64 xk, .int .i64 xi] 24)).alloc (.cells #[.slice none 0 0] 22)
    have x2 := (((Boxed.new ((w.alloc (.cells #[.pointer (some ⟨b, 0, none⟩)] 28)).alloc (.cells #[.int .i64 (M : Int)] 3)) 3 (.int .i64 stop)).alloc (.cells #[.bool more] 4)).alloc (.cells #[.int .i64 xk, .int .i64 xi] 24)).alloc (.cells #[.slice none 0 0] 22)
    have x3 := ((Boxed.new (((w.alloc (.cells #[.pointer (some ⟨b, 0, none⟩)] 28)).alloc (.cells #[.int .i64 (M : Int)] 3)).alloc (.cells #[.int .i64 stop] 3)) 4 (.bool more)).alloc (.cells #[.int .i64 xk, .int .i64 xi] 24)).alloc (.cells #[.slice none 0 0] 22)
    have x5 := Boxed.new (((((w.alloc (.cells #[.pointer (some ⟨b, 0, none⟩)] 28)).alloc (.cells #[.int .i64 (M : Int)] 3)).alloc (.cells #[.int .i64 stop] 3)).alloc (.cells #[.bool more] 4)).alloc (.cells #[.int .i64 xk, .int .i64 xi] 24)) 22 (.slice none 0 0)
    simp only [World.size_alloc] at x0 x1 x2 x3 x5
    rw [← hW0] at x0 x1 x2 x3 x5
    rw [← hG] at x0 x1 x2 x3 x5
    have x4 : W0.heap[G + 4]? = some (iX (xk, xi)) := by
      rw [hW0]
      have h1 := heap_alloc_new ((((w.alloc (.cells #[.pointer (some ⟨b, 0, none⟩)] 28)).alloc (.cells #[.int .i64 (M : Int)] 3)).alloc (.cells #[.int .i64 stop] 3)).alloc (.cells #[.bool more] 4)) (iX (xk, xi))
      simp only [World.size_alloc] at h1
      rw [← hG] at h1
      exact (Below.heap_alloc _ _ _ (by simp; omega)).trans h1
    have lb : b < w.heap.size := World.block_lt_of_cell? w _ hp.cm
    have lx : bx < w.heap.size := World.block_lt_of_cell? w _ hp.hp.bxc
    have lp : Bp < w.heap.size := (Array.getElem?_eq_some_iff.1 hBp).1
    refine ⟨hp.below hb0, (hb0.block Bp lp).trans hBp, x0, x1, x2, x3, x4, x5, World.ownsRow_nil _ _ _ _, fun g e => .inl e, Kp.of hb0, by omega, by omega, ⟨fun e => ?_, by omega, fun e => ?_⟩, fun g e => by have := (World.ownsRow.lt hp.hp.row g e).2; omega, hG.symm⟩
    · have h1 := hp.cm
      unfold World.cell? at h1
      rw [← e, hBp] at h1
      simp at h1
    · exact row_tag hp.hp.row hBp (by decide) e rfl
  have HI0 : Hid (DI w G Bp b bx flat v0 more (M : Int) stop (xk, xi) B0 m0 W0 [] B0 m0 n0 v0 (.slice none 0 0) f0) := ⟨dm0, hB, ⟨rfl, rfl⟩, ⟨by omega, fun _ => rfl⟩, ⟨by simp [hB.len], fun _ => hB.len.symm⟩, fun j _ h => by simp at h⟩
  have HW0 : Hid (W0 = (((((w.alloc (.cells #[.pointer (some ⟨b, 0, none⟩)] 28)).alloc (.cells #[.int .i64 (M : Int)] 3)).alloc (.cells #[.int .i64 stop] 3)).alloc (.cells #[.bool more] 4)).alloc (.cells #[.int .i64 xk, .int .i64 xi] 24)).alloc (.cells #[.slice none 0 0] 22)) := hW0
  have HG : Hid (G = w.heap.size) := hG
  have hB0 := hB.len
  rw [← hG]
  clear hW0 hp hB hBp dm0 hG hb0
  show CallsIn Fence.wide 3 Try.prog 19 #[.pointer (some ⟨b, 0, none⟩), .func (.func 43) #[] #[.pointer (some ⟨Bp, 0, none⟩)], .int .i64 (M : Int), .int .i64 stop, .bool more, .agg #[.int .i64 xk, .int .i64 xi]] w _
  refine callsIn_of_wp_marks Try.func19 rfl trivial ?_ rfl
  simp only [Try.ntmps19, List.size_toArray, List.length_cons, List.length_nil, Nat.reduceAdd, Nat.reduceSub, Array.replicate_succ, Array.replicate_zero, List.push_toArray, List.append_toArray, List.nil_append, List.cons_append]
  gi_wp2
  rw [← HW0.out, ← HG.out]
  have hGw : w.heap.size = G := HG.out.symm
  have own1 : ∀ (X Y : World) (row : Option Nat) (l : List It) (B : List Rk) (m n : Nat) (v vl : Value) (f : Nat → Rk), DI w G Bp b bx flat v0 more (M : Int) stop (xk, xi) B0 m0 X l B m n v vl f → X.grownBy Y row → (∀ r, row = some r → W0.heap.size ≤ r ∧ ∃ o : Obj, X.heap[r]? = some o ∧ o.isCells = false) → DI w G Bp b bx flat v0 more (M : Int) stop (xk, xi) B0 m0 Y l B m n v vl f := fun X Y row l B m n v vl f h hg hr =>
    ⟨h.dm.turned row hg (fun r e => by rw [hs0] at hr; exact hr r e), h.bk, h.tr, h.hm, h.hn, h.hj⟩
  have HAll : Hid (∀ (W : World) l B m n v vl f, DI w G Bp b bx flat v0 more (M : Int) stop (xk, xi) B0 m0 W l B m n v vl f → lenB (G + 5) W = l.length) := fun W l B m n v vl f h => by
    obtain ⟨a, c, e⟩ := slice_of h.dm.row
    unfold lenB
    rw [h.dm.c5.cell, e]
  refine wpIn_rangeDrain (by omega) (by omega) (Bp := Bp) rfl rfl (fun W => M + 1 - lenB (G + 5) W) (fun W l o o' h h1 h2 => by show M + 1 - _ = M + 1 - _; rw [lenB_put (G + 5) W l o o' h h1 h2])
    (DI1 w G Bp b bx flat v0 more (M : Int) stop (xk, xi) B0 m0)
    (DIs w G Bp b bx flat v0 more (M : Int) stop (xk, xi) B0 m0)
    (fun x k W => ∃ l B m n v vl f bi, DM w G Bp b bx (lvF flat) v0 more (M : Int) stop (xk, xi) W l m n v vl f ∧ Bk (Kf flat) (B.eraseIdx bi) n f m ∧ Fst (Kf flat) (B.map (·.1)) bi ∧ lk (B.map (·.1)) bi = x ∧ Tr (Kf flat) more (xk, xi) 0 l B0 m0 B m ∧ (m ≤ m0 + 1 ∧ (l = [] → m = m0)) ∧ (n + 1 + l.length ≤ B0.length + 1 ∧ (l = [] → n + 1 = B0.length)) ∧ (∀ j, 0 < j → j < l.length → (j : Int) ≠ stop ∧ (j : Int) ≤ (M : Int)) ∧ (0 < l.length → (l.length : Int) ≠ stop ∧ (l.length : Int) ≤ (M : Int)) ∧ k = M + 1 - l.length)
    (fun c W => c = .exit 0 ∧ DIx w G Bp b bx flat v0 more (M : Int) stop (xk, xi) B0 m0 W)
    (fun s X Y row hs hg hr => by obtain ⟨l, B, m, n, v, vl, f, h, e⟩ := hs; exact ⟨l, B, m, n, v, vl, f, own1 X Y row l B m n v vl f h hg hr, e⟩)
    (fun s X Y row hs hg hr => by obtain ⟨l, B, m, n, v, vl, f, h, e⟩ := hs; exact ⟨l, B, m, n, v, vl, f, own1 X Y row l B m n v vl f h hg hr, e⟩)
    (fun x k s X Y row hs hg hr => by obtain ⟨l, B, m, n, v, vl, f, bi, h, e⟩ := hs; exact ⟨l, B, m, n, v, vl, f, bi, h.turned row hg (fun r e => by rw [hs0] at hr; exact hr r e), e⟩)
    (fun c s X Y row hs hg hr => by obtain ⟨hc, l, B, m, n, v, vl, f, h, e⟩ := hs; exact ⟨hc, l, B, m, n, v, vl, f, own1 X Y row l B m n v vl f h hg hr, e⟩)
    ⟨[], B0, m0, n0, v0, _, f0, HI0.out, fun h => by simp at h⟩ ?pop
    (fun x a' W => ∃ B, W.heap[B]? = some (.cells #[.int .i64 x.1, .int .i64 x.2] 24) ∧ a' = { tmps := #[.pointer (some ⟨b, 0, none⟩), .func (.func 43) #[] #[.pointer (some ⟨Bp, 0, none⟩)], .int .i64 (M : Int), .int .i64 stop, .bool more, .agg #[.int .i64 xk, .int .i64 xi], .pointer (some ⟨G, 0, none⟩), undef, .pointer (some ⟨G + 1, 0, none⟩), .pointer (some ⟨G + 2, 0, none⟩), .pointer (some ⟨G + 3, 0, none⟩), .pointer (some ⟨G + 4, 0, none⟩), .slice none 0 0, .pointer (some ⟨G + 5, 0, none⟩), .pointer (some ⟨B, 0, none⟩), .func (.func 43) #[] #[.pointer (some ⟨Bp, 0, none⟩)], .bool false, .func (.func 43) #[] #[.pointer (some ⟨Bp, 0, none⟩)], iv x, undef, undef, undef, undef, undef, undef, undef, undef, undef, undef, undef, undef, undef, undef, undef, undef, undef, undef, undef, undef, undef, undef, undef, undef], defers := [] })
    (fun x a' s X Y row hs hg hr => by obtain ⟨B, h, e⟩ := hs; exact ⟨B, heap_turned h rfl ⟨row, hg, fun r e => (hr r e).2⟩, e⟩) ?assign ?body ?done ?stop
  case pop =>
    rintro W ⟨l, B, m, n, v, vl, f, h, hj2⟩
    refine ⟨some ⟨b, 0, none⟩, h.dm.bp.cell, ?_⟩
    cases n with
    | zero =>
      left
      have e0 : B = [] := List.eq_nil_of_length_eq_zero h.bk.len
      exact (ppop_none b bx m (lvF flat) v f W h.dm.pl).mono fun e W' ⟨he, hb⟩ => ⟨he, ⟨l, B, m, 0, v, vl, f, ⟨h.dm.below hb, h.bk, h.tr, h.hm, h.hn, h.hj⟩, e0⟩, keeps_below hb⟩
    | succ p =>
      right
      have hBl : 0 < (B.map (·.1)).length := by rw [List.length_map, h.bk.len]; omega
      obtain ⟨bi, hbi⟩ := exists_fst flat (B.map (·.1)) hBl
      obtain ⟨hx, bk'⟩ := h.bk.pop (isF flat) hbi
      obtain ⟨g, c, rfl⟩ : ∃ g c, v = .slice (some ⟨g, 0, none⟩) (p + 1) c := by
        rcases h.dm.pl.hp.row.2 with ⟨_, e⟩ | ⟨g, c, _, e, _⟩
        · omega
        · exact ⟨g, c, e⟩
      have hlen := HAll.out W _ _ _ _ _ _ _ h
      refine ⟨(f 0).1, (ppop_some (aF flat) b bx g c p m (lvF flat) f W (ahF flat) h.dm.pl (by have := h.hn.1; omega)).mono fun e W' ⟨he, p', k'⟩ => ?_⟩
      obtain ⟨dm', kf⟩ := h.dm.pile k' (fun j e => e.imp id (fun e => by rw [e]; rfl)) p' (fun g' e => .inl e)
      refine ⟨he, ⟨l, B, m, p, _, vl, _, bi, dm', bk', hbi, hx.symm, h.tr, h.hm, ⟨by have := h.hn.1; omega, fun e => by have := h.hn.2 e; omega⟩, h.hj, hj2, by rw [hlen]⟩, kf _⟩
  case assign =>
    rintro l ⟨yk, yi⟩ k W K ⟨l1, B, m, n, v, vl, f, bi, dm, rest⟩ hK
    have HD : Hid _ := dm
    have HR : Hid _ := rest
    clear dm rest
    gi_wp2
    exact hK _ _ (keeps_below ((Below.refl _ W).alloc (Nat.le_refl _) _)) ⟨l1, B, m, n, v, vl, f, bi, DM.below HD.out ((Below.refl _ W).alloc (Nat.le_refl _) _), HR.out⟩ ⟨W.heap.size, heap_alloc_new W _, rfl⟩
  case body =>
    rintro l ⟨yk, yi⟩ k a' W ⟨l1, B, m, n, v, vl, f, bi, dm, bk', hbi, hx, htr, hmm, hnn, hj, hj2, hk⟩ ⟨B1, hB1, rfl⟩
    obtain ⟨g', c', w', r, b0, dm', kf⟩ := dm.app (yk, yi) (by have := hnn.1; omega)
    have x0 : W.cell? ⟨B1, 0, none⟩ = some (.int .i64 yk) := by unfold World.cell?; rw [hB1]; rfl
    have x1 : W.cell? ⟨B1, 1, none⟩ = some (.int .i64 yi) := by unfold World.cell?; rw [hB1]; rfl
    have hc := dm.c5.cell
    have d0 := b0.cell
    have z0 := b0.frozen
    obtain ⟨L, hL⟩ : ∃ L, L = l1.length := ⟨_, rfl⟩
    have hll : (l1 ++ [(yk, yi)]).length = L + 1 := by simp [hL]
    have hLb : (L : Int) ≤ 5864062014805 := by have := hnn.1; omega
    have HEND : Hid (∀ (W3 : World) (m3 n3 : Nat) (v3 : Value) (f3 : Nat → Rk), KeepsFrom W0.heap.size W W3 → DM w G Bp b bx (lvF flat) v0 more (M : Int) stop (xk, xi) W3 (l1 ++ [(yk, yi)]) m3 n3 v3 (.slice (some ⟨g', 0, none⟩) (L + 1) c') f3 →
        Bk (Kf flat) (if more = true ∧ 0 + l1.length = 0 then B.eraseIdx bi ++ [((xk, xi), (m : Int))] else B.eraseIdx bi) n3 f3 m3 → m3 = (if more = true ∧ 0 + l1.length = 0 then m + 1 else m) → n3 ≤ (if more = true ∧ 0 + l1.length = 0 then n + 1 else n) →
        (((L : Int) + 1 = stop ∨ (M : Int) < (L : Int) + 1) → KeepsFrom W0.heap.size W W3 ∧ Code.exit 0 = Code.exit 0 ∧ DIx w G Bp b bx flat v0 more (M : Int) stop (xk, xi) B0 m0 W3) ∧
        ((¬ (L : Int) + 1 = stop ∧ ¬ (M : Int) < (L : Int) + 1) → KeepsFrom W0.heap.size W W3 ∧ DI1 w G Bp b bx flat v0 more (M : Int) stop (xk, xi) B0 m0 W3 ∧ M + 1 - lenB (G + 5) W3 < k)) := fun W3 m3 n3 v3 f3 hkf dm3 bk3 hm3 hn3 => by
      have htr2 := htr.snoc hbi
      rw [hx, ← hm3] at htr2
      have di : DI w G Bp b bx flat v0 more (M : Int) stop (xk, xi) B0 m0 W3 (l1 ++ [(yk, yi)]) _ m3 n3 v3 _ f3 := ⟨dm3, bk3, htr2, ⟨?_, fun e => by simp at e⟩, ⟨?_, fun e => by simp at e⟩, fun j hj0 hjl => ?_⟩
      · have hlc : ((l1 ++ [(yk, yi)]).length : Int) = (L : Int) + 1 := by rw [hll]; omega
        refine ⟨fun h => ⟨hkf, rfl, _, _, _, _, _, _, _, di, ?_⟩, fun h => ⟨hkf, ⟨_, _, _, _, _, _, _, di, fun _ => ?_⟩, ?_⟩⟩
        · rw [hlc]; exact ⟨h, by rw [hll]; omega⟩
        · rw [hlc]; exact ⟨h.1, by omega⟩
        · rw [HAll.out _ _ _ _ _ _ _ _ di, hll, hk, ← hL]
          omega
      · rw [hm3]
        split
        · rename_i hx2
          have : l1 = [] := List.eq_nil_of_length_eq_zero (by omega)
          have := hmm.2 this
          omega
        · exact hmm.1
      · rw [hll]
        split at hn3
        · rename_i hx2
          have h0 : l1 = [] := List.eq_nil_of_length_eq_zero (by omega)
          have := hnn.2 h0
          omega
        · have := hnn.1; omega
      · rw [hll] at hjl
        by_cases hje : j = L
        · subst hje
          rw [hL] at hj0 ⊢
          exact hj2 hj0
        · exact hj j hj0 (by omega)
    rw [← hL] at r dm' kf
    have DM' : Hid _ := dm'
    have KF : Hid _ := kf
    have BK' : Hid _ := bk'
    have HLL : Hid (L = l1.length) := hL
    have bnd1 : (n + 1) * 24 ≤ 140737488355328 := by have := hnn.1; omega
    have bnd2 : m ≤ 1152921504606846976 := by have := hmm.1; omega
    clear hs0 hB1 dm b0 dm' kf bk' hbi hx htr hmm hnn hj hj2 hk hll hL
    have y5 := DM'.out.c5.cell
    have y3 := DM'.out.c3.cell
    have y2 := DM'.out.c2.cell
    have y1 := DM'.out.c1.cell
    have y0 := DM'.out.c0.cell
    have hs4 := DM'.out.c4
    have q0 : (w'.setCell ⟨G + 5, 0, none⟩ (.slice (some ⟨g', 0, none⟩) (L + 1) c')).cell? ⟨G + 4, 0, none⟩ = some (.int .i64 xk) := by unfold World.cell?; rw [hs4]; rfl
    have q1 : (w'.setCell ⟨G + 5, 0, none⟩ (.slice (some ⟨g', 0, none⟩) (L + 1) c')).cell? ⟨G + 4, 1, none⟩ = some (.int .i64 xi) := by unfold World.cell?; rw [hs4]; rfl
    clear hs4
    cases more with
    | false =>
      have HE : Hid _ := HEND.out _ m n v f (KF.out _) DM'.out (by rw [if_neg (by simp)]; exact BK'.out) (by rw [if_neg (by simp)]) (by rw [if_neg (by simp)]; exact Nat.le_refl _)
      clear HEND BK' DM' KF
      by_cases hst : (L : Int) + 1 = stop
      · have hs : ((L : Int) + 1 == stop) = true := by simpa using hst
        have HF_ : Hid _ := (HE.out).1 (.inl hst)
        clear hst
        gi_wp2_with (gi_at_builtin; refine wpIn_append_run rfl (.tmp 19) (.tmp 21) 22 22 rfl _ _ rfl rfl r ?_)
        first | exact ⟨HF_.out.1, rfl, HF_.out.2.2⟩ | exact ⟨HF_.out.1, rfl, HF_.out.2⟩ | exact ⟨HF_.out.1, HF_.out.2⟩ | exact ⟨HF_.out.1, HF_.out.2.2⟩
      · have hs : ((L : Int) + 1 == stop) = false := by simpa using hst
        by_cases hgt : (M : Int) < (L : Int) + 1
        · have HF_ : Hid _ := (HE.out).1 (.inr hgt)
          clear hst
          gi_wp2_with (gi_at_builtin; refine wpIn_append_run rfl (.tmp 19) (.tmp 21) 22 22 rfl _ _ rfl rfl r ?_)
          first | exact ⟨HF_.out.1, rfl, HF_.out.2.2⟩ | exact ⟨HF_.out.1, rfl, HF_.out.2⟩ | exact ⟨HF_.out.1, HF_.out.2⟩ | exact ⟨HF_.out.1, HF_.out.2.2⟩
        · have HF_ : Hid _ := (HE.out).2 ⟨hst, hgt⟩
          clear hst
          gi_wp2_with (gi_at_builtin; refine wpIn_append_run rfl (.tmp 19) (.tmp 21) 22 22 rfl _ _ rfl rfl r ?_)
          exact HF_.out

    | true =>
      by_cases hL0 : L = 0
      · have hl1 : ((L : Int) + 1 == 1) = true := by simp [hL0]
        have hyes : (true = true ∧ 0 + l1.length = 0) := ⟨rfl, by rw [← HLL.out]; omega⟩
        have kP := ppush_any (aF flat) b bx n m (lvF flat) v f (xk, xi) _ (ahF flat) DM'.out.pl bnd1 bnd2
        have HE : Hid (∀ w3, (∃ g3 c3, Pl w3 b bx (lvF flat) (.slice (some ⟨g3, 0, none⟩) (n + 1) c3) (n + 1) (riseF (aF flat) (up f n ((xk, xi), (m : Int))) n) (m + 1) ∧ Kp (fun k => k = b ∨ v.ownBlock = some k) (w'.setCell ⟨G + 5, 0, none⟩ (.slice (some ⟨g', 0, none⟩) (L + 1) c')) w3 ∧ (v.ownBlock = some g3 ∨ (w'.setCell ⟨G + 5, 0, none⟩ (.slice (some ⟨g', 0, none⟩) (L + 1) c')).heap.size ≤ g3)) → w3.cell? ⟨G + 5, 0, none⟩ = some (.slice (some ⟨g', 0, none⟩) (L + 1) c') ∧ w3.cell? ⟨G + 2, 0, none⟩ = some (.int .i64 stop) ∧ w3.cell? ⟨G + 1, 0, none⟩ = some (.int .i64 (M : Int)) ∧ ((((L : Int) + 1 = stop ∨ (M : Int) < (L : Int) + 1) → KeepsFrom W0.heap.size W w3 ∧ Code.exit 0 = Code.exit 0 ∧ DIx w G Bp b bx flat v0 true (M : Int) stop (xk, xi) B0 m0 w3) ∧ ((¬ (L : Int) + 1 = stop ∧ ¬ (M : Int) < (L : Int) + 1) → KeepsFrom W0.heap.size W w3 ∧ DI1 w G Bp b bx flat v0 true (M : Int) stop (xk, xi) B0 m0 w3 ∧ M + 1 - lenB (G + 5) w3 < k))) := fun w3 ⟨g3, c3, p3, k3, hg3⟩ => by
          obtain ⟨dm3, kf3⟩ := DM'.out.pile k3 (fun j e => e) p3 (fun g e => by
            have e' : g3 = g := Option.some.inj e
            rw [← e']
            exact hg3)
          have he := HEND.out w3 (m + 1) (n + 1) _ _ ((KF.out _).trans (kf3 _)) dm3 (by rw [if_pos hyes]; exact BK'.out.push (isF flat) (xk, xi)) (by rw [if_pos hyes]) (by rw [if_pos hyes]; exact Nat.le_refl _)
          exact ⟨dm3.c5.cell, dm3.c2.cell, dm3.c1.cell, he⟩
        clear HEND BK' DM' KF hyes hL0
        by_cases hst : (L : Int) + 1 = stop
        · have hs : ((L : Int) + 1 == stop) = true := by simpa using hst
          have HST : Hid ((L : Int) + 1 = stop) := hst
          clear hst
          gi_wp2_with (first | (gi_at_builtin; refine wpIn_append_run rfl (.tmp 19) (.tmp 21) 22 22 rfl _ _ rfl rfl r ?_) | (refine ⟨trivial, ?_⟩; gi_at_call 13; refine (CallsIn.inRound l (callsIn_wide.2 kP)).mono ?_; rintro r3 w3 ⟨rfl, hex⟩; obtain ⟨u5, u2, u1, he⟩ := HE.out w3 hex; have HF_ : Hid _ := he.1 (.inl HST.out); clear hex he))
          first | exact ⟨HF_.out.1, rfl, HF_.out.2.2⟩ | exact ⟨HF_.out.1, rfl, HF_.out.2⟩ | exact ⟨HF_.out.1, HF_.out.2⟩ | exact ⟨HF_.out.1, HF_.out.2.2⟩
        · have hs : ((L : Int) + 1 == stop) = false := by simpa using hst
          have HST : Hid (¬ (L : Int) + 1 = stop) := hst
          clear hst
          by_cases hgt : (M : Int) < (L : Int) + 1
          · have HGT : Hid ((M : Int) < (L : Int) + 1) := hgt
            gi_wp2_with (first | (gi_at_builtin; refine wpIn_append_run rfl (.tmp 19) (.tmp 21) 22 22 rfl _ _ rfl rfl r ?_) | (refine ⟨trivial, ?_⟩; gi_at_call 13; refine (CallsIn.inRound l (callsIn_wide.2 kP)).mono ?_; rintro r3 w3 ⟨rfl, hex⟩; obtain ⟨u5, u2, u1, he⟩ := HE.out w3 hex; have HF_ : Hid _ := he.1 (.inr HGT.out); clear hex he))
            first | exact ⟨HF_.out.1, rfl, HF_.out.2.2⟩ | exact ⟨HF_.out.1, rfl, HF_.out.2⟩ | exact ⟨HF_.out.1, HF_.out.2⟩ | exact ⟨HF_.out.1, HF_.out.2.2⟩
          · have HGT : Hid (¬ (M : Int) < (L : Int) + 1) := hgt
            gi_wp2_with (first | (gi_at_builtin; refine wpIn_append_run rfl (.tmp 19) (.tmp 21) 22 22 rfl _ _ rfl rfl r ?_) | (refine ⟨trivial, ?_⟩; gi_at_call 13; refine (CallsIn.inRound l (callsIn_wide.2 kP)).mono ?_; rintro r3 w3 ⟨rfl, hex⟩; obtain ⟨u5, u2, u1, he⟩ := HE.out w3 hex; have HF_ : Hid _ := he.2 ⟨HST.out, HGT.out⟩; clear hex he))
            exact HF_.out
      · have hl1 : ((L : Int) + 1 == 1) = false := by simp; omega
        have hno : ¬ (true = true ∧ 0 + l1.length = 0) := fun h => hL0 (by rw [HLL.out]; omega)
        have HE : Hid _ := HEND.out _ m n v f (KF.out _) DM'.out (by rw [if_neg hno]; exact BK'.out) (by rw [if_neg hno]) (by rw [if_neg hno]; exact Nat.le_refl _)
        clear HEND BK' DM' KF hno hL0
        by_cases hst : (L : Int) + 1 = stop
        · have hs : ((L : Int) + 1 == stop) = true := by simpa using hst
          have HF_ : Hid _ := (HE.out).1 (.inl hst)
          clear hst
          gi_wp2_with (gi_at_builtin; refine wpIn_append_run rfl (.tmp 19) (.tmp 21) 22 22 rfl _ _ rfl rfl r ?_)
          first | exact ⟨HF_.out.1, rfl, HF_.out.2.2⟩ | exact ⟨HF_.out.1, rfl, HF_.out.2⟩ | exact ⟨HF_.out.1, HF_.out.2⟩ | exact ⟨HF_.out.1, HF_.out.2.2⟩
        · have hs : ((L : Int) + 1 == stop) = false := by simpa using hst
          by_cases hgt : (M : Int) < (L : Int) + 1
          · have HF_ : Hid _ := (HE.out).1 (.inr hgt)
            clear hst
            gi_wp2_with (gi_at_builtin; refine wpIn_append_run rfl (.tmp 19) (.tmp 21) 22 22 rfl _ _ rfl rfl r ?_)
            first | exact ⟨HF_.out.1, rfl, HF_.out.2.2⟩ | exact ⟨HF_.out.1, rfl, HF_.out.2⟩ | exact ⟨HF_.out.1, HF_.out.2⟩ | exact ⟨HF_.out.1, HF_.out.2.2⟩
          · have HF_ : Hid _ := (HE.out).2 ⟨hst, hgt⟩
            clear hst
            gi_wp2_with (gi_at_builtin; refine wpIn_append_run rfl (.tmp 19) (.tmp 21) 22 22 rfl _ _ rfl rfl r ?_)
            exact HF_.out
  case done =>
    rintro D W hD ⟨l, B, m, n, v, vl, f, h, e⟩ hK
    have hc := h.dm.c5.cell
    have HDI : Hid _ := h
    clear h
    gi_wp2
    refine ⟨by simp, .inl ⟨_, _, rfl, run_takeDeferred hK, ?_⟩⟩
    have h' := own1 W (W.putObj D (.deferred none)) (some D) l B m n v vl f HDI.out (grownBy_putObj' W D _) (fun r e => by cases e; exact ⟨hD, _, hK, rfl⟩)
    exact ⟨_, results_tmp rfl _ _ _, vl, l, B, m, n, v, f, rfl, row_base h'.dm.row (by omega), h'.dm.pl, h'.bk, h'.tr, .inl e, h'.hj, h'.hm.1, h'.hn.1, fun g e => (h'.dm.hv g e).imp id (fun e => by omega), h'.dm.kp⟩
  case stop =>
    rintro D c W hD ⟨rfl, l, B, m, n, v, vl, f, h, e⟩ hK
    have hc := h.dm.c5.cell
    have HDI : Hid _ := h
    clear h
    gi_wp2
    refine ⟨by simp, .inl ⟨_, _, rfl, run_takeDeferred hK, ?_⟩⟩
    have h' := own1 W (W.putObj D (.deferred none)) (some D) l B m n v vl f HDI.out (grownBy_putObj' W D _) (fun r e => by cases e; exact ⟨hD, _, hK, rfl⟩)
    exact ⟨_, results_tmp rfl _ _ _, vl, l, B, m, n, v, f, rfl, row_base h'.dm.row (by omega), h'.dm.pl, h'.bk, h'.tr, .inr e, h'.hj, h'.hm.1, h'.hn.1, fun g e => (h'.dm.hv g e).imp id (fun e => by omega), h'.dm.kp⟩
end Go.Proofs.Ytcgpjmpppajfdaa
