/- A bundle of texts. -/
import Derived.Test.YtbciclnffokjjaaDoorBb03
/- commonText: the walk. -/
namespace Go.Proofs.YtbciclnffokjjaaDoor
open Go.RowKit Go.Lib Go.Shelf

attribute [local go_sem] Oper.semAt_some

/-- The three boxes of commonText. -/
def CB (h : Nat) (a b : ByteArray) (W : World) (v : ByteArray) : Prop := Boxed W h 9 (.string a) ∧ Boxed W (h + 1) 9 (.string b) ∧ Boxed W (h + 2) 9 (.string v) ∧ h + 4 ≤ W.heap.size
theorem boxed_keep {X Y : World} {row : Option Nat} {B : Nat} {t : TypeId} {v : Value} (h : Boxed X B t v) (hg : X.grownBy Y row) (hrow : ∀ r, row = some r → ∃ o : Obj, X.heap[r]? = some o ∧ o.isCells = false) : Boxed Y B t v :=
  h.kept hg (fun e' => by
    obtain ⟨o, ho, hc⟩ := hrow B e'.symm
    rw [show X.heap[B]? = _ from h] at ho; cases ho; cases hc)
theorem CB.keep {h : Nat} {a b v : ByteArray} {X Y : World} {row : Option Nat} (g : CB h a b X v) (hg : X.grownBy Y row) (hrow : ∀ r, row = some r → ∃ o : Obj, X.heap[r]? = some o ∧ o.isCells = false) : CB h a b Y v :=
  ⟨boxed_keep g.1 hg hrow, boxed_keep g.2.1 hg hrow, boxed_keep g.2.2.1 hg hrow, Nat.le_trans g.2.2.2 hg.size⟩
theorem CB.below {h : Nat} {a b v : ByteArray} {X Y : World} (g : CB h a b X v) (hb : Below X.heap.size X Y) : CB h a b Y v := g.keep (grown_below hb) (fun r e => by cases e)
theorem CB.set {h : Nat} {a b v : ByteArray} {X : World} (g : CB h a b X v) (u : ByteArray) : CB h a b (X.setCell ⟨h + 2, 0, none⟩ (.string u)) u :=
  ⟨g.1.kept (grownBy_setCell' X _ _) (by simp), g.2.1.kept (grownBy_setCell' X _ _) (by simp), g.2.2.1.set _, Nat.le_trans g.2.2.2 (grownBy_setCell' X _ _).size⟩
/-- Up to here the second text has the same runes. -/
def okP {a : ByteArray} (b : ByteArray) (pre : List (Plc a)) : Prop := ∀ x ∈ pre, (nxt b x.1.1.toNat).1 = x.1.2
theorem keeps_below {X Y : World} (hb : Below X.heap.size X Y) : KeepsOthers X Y := KeepsOthers.of_grownBy (grown_below hb) (fun j o ej hj => by cases ej)

set_option maxRecDepth 100000 in
set_option maxHeartbeats 4000000 in
theorem common_in (n : Nat) (hn : 3 ≤ n) (a b : ByteArray) (ha : a.size ≤ 1048576) (hb : b.size ≤ 1048576) (w : World) (hT : Lib.Utf8Tabs 0 1 w) :
    CallsIn Fence.wide n Tryd.prog 32 #[.string a, .string b] w fun e w' => e = .returned (.string (a.extract 0 (cmF a b a.size 0))) ∧ Below w.heap.size w w' := by
  have hsz := tabs_size hT
  have h1 : 1 ≤ n := by omega
  have bA := Boxed.new w 9 (.string a)
  have bB := Boxed.new (w.alloc (.cells #[.string a] 9)) 9 (.string b)
  have bC := Boxed.new ((w.alloc (.cells #[.string a] 9)).alloc (.cells #[.string b] 9)) 9 (.string ⟨#[]⟩)
  rw [World.size_alloc] at bB
  rw [World.size_alloc, World.size_alloc] at bC
  have hB0 : Below w.heap.size w (((w.alloc (.cells #[.string a] 9)).alloc (.cells #[.string b] 9)).alloc (.cells #[.string ⟨#[]⟩] 9)) := (((Below.refl _ w).alloc (Nat.le_refl _) _).alloc (by simp) _).alloc (by simp; omega) _
  have G0 : Boxed (((w.alloc (.cells #[.string a] 9)).alloc (.cells #[.string b] 9)).alloc (.cells #[.string ⟨#[]⟩] 9)) w.heap.size 9 (.string a) ∧ Boxed (((w.alloc (.cells #[.string a] 9)).alloc (.cells #[.string b] 9)).alloc (.cells #[.string ⟨#[]⟩] 9)) (w.heap.size + 1) 9 (.string b) ∧ Boxed (((w.alloc (.cells #[.string a] 9)).alloc (.cells #[.string b] 9)).alloc (.cells #[.string ⟨#[]⟩] 9)) (w.heap.size + 2) 9 (.string ⟨#[]⟩) := ⟨(bA.alloc _).alloc _, bB.alloc _, bC⟩
  have hsz0 : (((w.alloc (.cells #[.string a] 9)).alloc (.cells #[.string b] 9)).alloc (.cells #[.string ⟨#[]⟩] 9)).heap.size = w.heap.size + 3 := by simp
  obtain ⟨W0, hW0⟩ : ∃ W0, W0 = ((w.alloc (.cells #[.string a] 9)).alloc (.cells #[.string b] 9)).alloc (.cells #[.string ⟨#[]⟩] 9) := ⟨_, rfl⟩
  have HW0 : Hid (W0 = ((w.alloc (.cells #[.string a] 9)).alloc (.cells #[.string b] 9)).alloc (.cells #[.string ⟨#[]⟩] 9)) := hW0
  rw [← hW0] at hB0 G0 hsz0
  have cA := all_in (n - 1) a W0
  have hc0 := G0.1.cell
  have HBX : Hid (Boxed (W0.alloc (.cells #[.string a] 9)) W0.heap.size 9 (.string a)) := Boxed.new W0 9 (.string a)
  have G1 : Hid (CB w.heap.size a b (W0.alloc (.cells #[.string a] 9)) ⟨#[]⟩) := ⟨G0.1.alloc _, G0.2.1.alloc _, G0.2.2.alloc _, by simp [hsz0]⟩
  have hB1 : Below w.heap.size w (W0.alloc (.cells #[.string a] 9)) := hB0.alloc hB0.size _
  have hT1 := tabs_below hT hsz hB1
  have hsz1 : (W0.alloc (.cells #[.string a] 9)).heap.size = w.heap.size + 4 := by simp [hsz0]
  rw [hsz0] at HBX cA
  obtain ⟨W1, hW1⟩ : ∃ W1, W1 = W0.alloc (.cells #[.string a] 9) := ⟨_, rfl⟩
  rw [← hW1] at HBX G1 hB1 hT1 hsz1 cA
  clear bA bB bC hW0 hW1 G0 hB0
  refine callsIn_of_wp_marks Tryd.func32 rfl trivial ?_ rfl
  simp only [Tryd.ntmps32, List.size_toArray, List.length_cons, List.length_nil, Nat.reduceAdd, Nat.reduceSub, Array.replicate_succ, Array.replicate_zero, List.push_toArray, List.append_toArray, List.nil_append, List.cons_append]
  gi_wp2_with (rw [← HW0.out])
  gi_wp2_with (refine ⟨trivial, ?_⟩; gi_at_call 44; refine cA.mono ?_; rintro e w1 ⟨rfl, rfl⟩)
  refine wpIn_rangeFunc_ownF rfl h1 (gf := 57) (lb := #[.pointer (some ⟨w.heap.size + 3, 0, none⟩)]) rfl trivial (enters_of Tryd.func57 (by kernel_rfl) rfl)
    (als_stops (n - 1) (by omega) (w.heap.size + 3) (w.heap.size + 4) a ha w1 HBX.out.cell (by omega) (by omega) (by omega) hT1) AK_t (AK_b (by omega)) (Below.refl _ _) (fun _ => rfl)
    (fun pre W => (CB w.heap.size a b W ⟨#[]⟩ ∧ okP b pre) ∧ Below w.heap.size w W)
    (fun c pre W => (c = .ret ∧ ∃ pre' x, pre = pre' ++ [x] ∧ okP b pre' ∧ (nxt b x.1.1.toNat).1 ≠ x.1.2 ∧ CB w.heap.size a b W (a.extract 0 x.1.1.toNat)) ∧ Below w.heap.size w W)
    (OwnFrom.and (Own.from (fun s A B row hs hg hr => by obtain ⟨g, h⟩ := hs; exact ⟨g.keep hg hr, h⟩) _) (ownFrom_below (Nat.le_refl _) hB1.size))
    (fun c => OwnFrom.and (Own.from (fun s A B row hs hg hr => by obtain ⟨hc, p', x, h1, h2, h3, g⟩ := hs; exact ⟨hc, p', x, h1, h2, h3, g.keep hg hr⟩) _) (ownFrom_below (Nat.le_refl _) hB1.size))
    ⟨⟨G1.out, fun x hx => by cases hx⟩, hB1⟩
    (fun x => { tmps := #[.string a, .string b, .pointer (some ⟨w.heap.size, 0, none⟩), .pointer (some ⟨w.heap.size + 1, 0, none⟩), .pointer (some ⟨w.heap.size + 1 + 1, 0, none⟩), .int .i64 x.1.1, .int .i32 x.1.2, undef, undef, .string a, .func (.func 57) #[] #[.pointer (some ⟨w.heap.size + 3, 0, none⟩)], .int .i64 x.1.1, .int .i32 x.1.2, undef, undef, undef, undef, undef, undef, undef, undef, undef, undef, undef, undef, undef], defers := [] }) ?assign ?body ?done ?stop
  case assign =>
    intro l x W K hK
    gi_wp2
    exact hK
  case body =>
    rintro l pre x W ⟨⟨G, hok⟩, hB⟩ hlt
    obtain ⟨⟨at_, r⟩, hx0, hx1⟩ := x
    dsimp only at hx0 hx1 ⊢
    obtain ⟨p, rfl⟩ : ∃ p : Nat, at_ = p := ⟨at_.toNat, by omega⟩
    have cN := next_any b p W (by unfold maxLen; omega) (tabs_below hT hsz hB)
    have e1 : nxtZ b (p : Int) = nxt b p := by unfold nxtZ; rw [if_pos (by omega)]; simp
    rw [e1] at cN
    have hcb := G.2.1.cell
    have HG : Hid (CB w.heap.size a b W ⟨#[]⟩) := G
    have HOK : Hid (okP b pre) := hok
    have HB : Hid (Below w.heap.size w W) := hB
    have HCC : Hid (∀ w2, Below W.heap.size W w2 → w2.cell? ⟨w.heap.size, 0, none⟩ = some (.string a) ∧ w2.cell? ⟨w.heap.size + 1 + 1, 0, none⟩ = some (.string ⟨#[]⟩) ∧ w2.frozen? ⟨w.heap.size + 1 + 1, 0, none⟩ = false) := fun w2 h => ⟨(G.below h).1.cell, (G.below h).2.2.1.cell, (G.below h).2.2.1.frozen⟩
    have hWz : w.heap.size + 4 ≤ W.heap.size := G.2.2.2
    by_cases he : (nxt b p).1 = r
    · have hbe : ((nxt b p).1 != r) = false := by simpa using he
      have HEE : Hid ((nxt b (p : Int).toNat).1 = r) := by unfold Hid; rw [Int.toNat_natCast]; exact he
      clear e1 G hok hB he
      generalize (nxt b p).2 = K2 at *
      generalize (nxt b p).1 = K1 at *
      gi_wp2_with (refine ⟨trivial, fun _ => by omega, ?_⟩; gi_at_call 45; refine (CallsIn.inRound l (callsIn_wide.2 cN)).mono ?_; rintro e w2 ⟨rfl, hb2⟩)
      refine ⟨keeps_below hb2, ⟨hb2.mono hWz, (keeps_below hb2).walks⟩, ⟨HG.out.below hb2, ?_⟩, HB.out.trans (hb2.mono HB.out.size)⟩
      intro y hy
      rcases List.mem_append.1 hy with hy | hy
      · exact HOK.out y hy
      · rcases List.mem_singleton.1 hy with rfl
        exact HEE.out
    · have hbe : ((nxt b p).1 != r) = true := by simpa using he
      have HEE : Hid (¬ (nxt b (p : Int).toNat).1 = r) := by unfold Hid; rw [Int.toNat_natCast]; exact he
      clear e1 G hok hB he
      generalize (nxt b p).2 = K2 at *
      generalize (nxt b p).1 = K1 at *
      gi_wp2_with (refine ⟨trivial, fun _ => by omega, ?_⟩; gi_at_call 45; refine (CallsIn.inRound l (callsIn_wide.2 cN)).mono ?_; rintro e w2 ⟨rfl, hb2⟩; obtain ⟨q1, q2, q3⟩ := HCC.out w2 hb2; clear hcb)
      exact ⟨(keeps_below hb2).trans (KeepsOthers.setCell _ _ _), ⟨rfl, pre, _, rfl, HOK.out, HEE.out, (HG.out.below hb2).set _⟩, (HB.out.trans (hb2.mono HB.out.size)).setCell (p := ⟨w.heap.size + 1 + 1, 0, none⟩) (show w.heap.size ≤ w.heap.size + 1 + 1 by omega) _⟩
  case done =>
    rintro D ys W hD hys ⟨⟨G, hok⟩, hB⟩ hK
    have hc1 := G.1.cell
    have hc2 : W.cell? ⟨w.heap.size + 1 + 1, 0, none⟩ = some (.string ⟨#[]⟩) := G.2.2.1.cell
    have hf2 : W.frozen? ⟨w.heap.size + 1 + 1, 0, none⟩ = false := G.2.2.1.frozen
    have HE : Hid (cmF a b a.size 0 = a.size) := cmF_all a b a.size 0 (fun x hx => by
      have hx' : x ∈ al a := hx
      rw [← hys] at hx'
      obtain ⟨y, hy, rfl⟩ := List.mem_map.1 hx'
      exact hok y hy)
    have hGs := (G.set a).2.2.1
    have hKs : (W.setCell ⟨w.heap.size + 2, 0, none⟩ (.string a)).heap[D]? = some (.deferred (some [])) := (Below.heap_setCell _ _ _ D (fun e => by dsimp only at e; omega)).trans hK
    gi_wp2
    refine ⟨by simp, .inl ⟨_, _, rfl, run_takeDeferred hKs, ?_⟩⟩
    have hq : ((W.setCell ⟨w.heap.size + 1 + 1, 0, none⟩ (.string a)).putObj D (.deferred none)).cell? ⟨w.heap.size + 1 + 1, 0, none⟩ = some (.string a) := (boxed_keep hGs (grownBy_putObj' _ D _) (fun r e => by cases e; exact ⟨_, hKs, rfl⟩)).cell
    refine ⟨.string a, ?_, ?_, ?_⟩
    · simp [results, Tryd.results32, go_sem, hq]
    · rw [HE.out]
      simp
    · exact (hB.setCell (p := ⟨w.heap.size + 1 + 1, 0, none⟩) (show w.heap.size ≤ w.heap.size + 1 + 1 by omega) _).trans (belowK_b (w := w) (Nat.le_refl _) _ D _ _ (by omega) hKs rfl rfl)
  case stop =>
    rintro D c pre W hD hpre ⟨⟨rfl, pre', x, rfl, hok, hx, G⟩, hB⟩ hK
    have hc2 : W.cell? ⟨w.heap.size + 1 + 1, 0, none⟩ = some (.string (a.extract 0 x.1.1.toNat)) := G.2.2.1.cell
    have HE : Hid (cmF a b a.size 0 = x.1.1.toNat) := cmF_part a b a.size 0 (pre'.map (·.1)) x.1 (by rw [List.map_append] at hpre; exact hpre) (fun y hy => by
      obtain ⟨z, hz, rfl⟩ := List.mem_map.1 hy
      exact hok z hz) hx
    gi_wp2
    refine ⟨by simp, .inl ⟨_, _, rfl, run_takeDeferred hK, ?_⟩⟩
    have hq : (W.putObj D (.deferred none)).cell? ⟨w.heap.size + 1 + 1, 0, none⟩ = some (.string (a.extract 0 x.1.1.toNat)) := (boxed_keep G.2.2.1 (grownBy_putObj' _ D _) (fun r e => by cases e; exact ⟨_, hK, rfl⟩)).cell
    refine ⟨.string (a.extract 0 x.1.1.toNat), ?_, ?_, ?_⟩
    · simp [results, Tryd.results32, go_sem, hq]
    · rw [HE.out]
    · exact hB.trans (belowK_b (w := w) (Nat.le_refl _) _ D _ _ (by omega) hK rfl rfl)
end Go.Proofs.YtbciclnffokjjaaDoor
/- utf.Text of one rune. -/
namespace Go.Proofs.YtbciclnffokjjaaDoor
open Go.RowKit Go.Lib

theorem validRune_eq (x : Int) : Lib.validRune x = Utf8.valid x := by
  unfold Lib.validRune Utf8.valid
  rw [Bool.eq_iff_iff]
  simp
  omega
theorem conv_rune (w : World) (g c : Nat) (x : Int) (h : w.cell? ⟨g, 0, none⟩ = some (.int .i32 x)) :
    (convert 54 9 (.slice (some ⟨g, 0, none⟩) 1 c)).run Tryd.prog w = .ok (.string (Utf8.encode x)) w := by
  have := run_convert_runes (P := Tryd.prog) w 54 9 21 ⟨g, 0, none⟩ 1 c [x] (Nat.le_refl _) Tryd.underlying54 Tryd.underlying21 Tryd.underlying9 (fun j hj => by
    have : j = 0 := by simpa using hj
    subst this
    rw [Go.WideShapes.add_plain]
    exact h)
  rw [show ([x].take 1) = [x] from rfl] at this
  rw [this]
  have e : runesBytes [x] = Utf8.encode x := by
    rw [rb_cons, rb_nil]
    simp
  rw [e]
set_option maxHeartbeats 1000000 in
theorem text_one (g : Nat) (x : Int) (w : World) (h : w.cell? ⟨g, 0, none⟩ = some (.int .i32 x)) :
    Calls Tryd.prog 15 #[.slice (some ⟨g, 0, none⟩) 1 1] w fun e w' => e = .returned (.tuple #[.string (if Utf8.valid x = true then Utf8.encode x else ⟨#[]⟩), .int .i64 (if Utf8.valid x = true then 0 else 12)]) ∧ w' = w := by
  have hcv := conv_rune w g 1 x h
  have k1 := Tryd.utf8_ValidRune x w
  rw [validRune_eq] at k1
  generalize Utf8.encode x = S at *
  cases hv : Utf8.valid x
  · rw [hv] at k1
    simp only [Bool.false_eq_true, if_false]
    clear hv hcv
    go_enter Tryd.func15, Tryd.ntmps15
    go_wp2
    go_loop [8] (fun t => t = .int .i64 0) (fun t => 0)
    case atStart => exact rfl
    case round =>
      subst hrel
      have d0 : w.cell? ⟨g, 0, none⟩ = some (.int .i32 x) := h
      go_wp2_with (go_at_call 29; go_fit k1; rintro e w' ⟨rfl, rfl⟩)
      go_ret2
      exact ⟨rfl, rfl⟩
  · rw [hv] at k1
    simp only [if_true]
    clear hv
    go_enter Tryd.func15, Tryd.ntmps15
    go_wp2
    go_loop [8] (fun t => ∃ j : Nat, t = .int .i64 j ∧ j ≤ 1) (fun t => 1 - (RowKit.intOf t).toNat)
    case atStart => exact ⟨0, rfl, by omega⟩
    case round =>
      obtain ⟨j, rfl, hj⟩ := hrel
      by_cases hlt : j < 1
      · obtain rfl : j = 0 := by omega
        have d0 : w.cell? ⟨g, 0, none⟩ = some (.int .i32 x) := h
        go_wp2_with (go_at_call 29; go_fit k1; rintro e w' ⟨rfl, rfl⟩)
        go_round
        case rel => exact ⟨1, by go_num, by omega⟩
        case measure => simp [RowKit.intOf]
      · obtain rfl : j = 1 := by omega
        go_wp2
        go_ret2
        exact ⟨rfl, rfl⟩
end Go.Proofs.YtbciclnffokjjaaDoor
