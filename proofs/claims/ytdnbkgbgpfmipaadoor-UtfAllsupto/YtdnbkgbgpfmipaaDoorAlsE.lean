/- UtfAlls: the walk of the law's own gone. -/
import Derived.Test.YtdnbkgbgpfmipaaDoorAlsD
namespace Go.Proofs.YtdnbkgbgpfmipaaDoor
open Go.RowKit Go.Lib Go.Shelf

attribute [local go_sem] Oper.semAt_some

/-- What is gone over before a stop. -/
def gn (stop : Int) (L : List (Int × Int)) : List (Int × Int) := if 0 < stop ∧ stop ≤ L.length then L.take stop.toNat else L
theorem row_base {w : World} {B B' e n : Nat} {v : Value} {xs : List Value} (h : w.ownsRow B e 1 v n xs) (hB : B' ≤ B) : w.ownsRow B' e 1 v n xs := by
  refine ⟨h.1, ?_⟩
  rcases h.2 with h0 | ⟨g, cap, cur, hv, hb, r⟩
  · exact .inl h0
  · exact .inr ⟨g, cap, cur, hv, Nat.le_trans hB hb, r⟩

theorem eq_nil (x : Value) (w : World) : (binOp .eql 39 (.func (.func 30) #[] #[x]) .nilFunc).run Tryd.prog w = .ok (.bool false) w := by kernel_rfl

set_option maxRecDepth 100000 in
set_option maxHeartbeats 4000000 in
theorem gone_in (n : Nat) (hn : 3 ≤ n) (Bs : Nat) (s : ByteArray) (hs : s.size ≤ 1048576) (stop : Int) (w : World) (hBs : w.cell? ⟨Bs, 0, none⟩ = some (.string s)) (hT : Lib.Utf8Tabs 0 1 w) :
    CallsIn Fence.wide n Tryd.prog 15 #[.func (.func 30) #[] #[.pointer (some ⟨Bs, 0, none⟩)], .int .i64 stop] w fun e w' => ∃ v1 v2, e = .returned (.tuple #[v1, v2]) ∧
      w'.ownsRow w.heap.size 3 1 v1 (gn stop (al s)).length (pcells (gn stop (al s))) ∧ w'.ownsRow w.heap.size 21 1 v2 (gn stop (al s)).length (qcells (gn stop (al s))) ∧ Below w.heap.size w w' := by
  have hsz := tabs_size hT
  have hBl := lt_of_cell hBs
  have hal : (al s).length ≤ s.size := alF_len s s.size 0
  have h1 : 1 ≤ n := by omega
  have bS := Boxed.new w 3 (.int .i64 stop)
  have bP := Boxed.new (w.alloc (.cells #[.int .i64 stop] 3)) 35 (.slice none 0 0)
  have bR := Boxed.new ((w.alloc (.cells #[.int .i64 stop] 3)).alloc (.cells #[.slice none 0 0] 35)) 25 (.slice none 0 0)
  rw [World.size_alloc] at bP
  rw [World.size_alloc, World.size_alloc] at bR
  have hB0 : Below w.heap.size w (((w.alloc (.cells #[.int .i64 stop] 3)).alloc (.cells #[.slice none 0 0] 35)).alloc (.cells #[.slice none 0 0] 25)) := (((Below.refl _ w).alloc (Nat.le_refl _) _).alloc (by simp) _).alloc (by simp; omega) _
  have G0 : GB w.heap.size stop (((w.alloc (.cells #[.int .i64 stop] 3)).alloc (.cells #[.slice none 0 0] 35)).alloc (.cells #[.slice none 0 0] 25)) [] (.slice none 0 0) (.slice none 0 0) :=
    ⟨(bS.alloc _).alloc _, bP.alloc _, bR, World.ownsRow_nil _ _ _ _, World.ownsRow_nil _ _ _ _⟩
  have hsz0 : (((w.alloc (.cells #[.int .i64 stop] 3)).alloc (.cells #[.slice none 0 0] 35)).alloc (.cells #[.slice none 0 0] 25)).heap.size = w.heap.size + 3 := by simp
  have hne := fun w' => eq_nil (.pointer (some ⟨Bs, 0, none⟩)) w'
  refine callsIn_of_wp_marks Tryd.func15 rfl trivial ?_ rfl
  simp only [Tryd.ntmps15, List.size_toArray, List.length_cons, List.length_nil, Nat.reduceAdd, Nat.reduceSub, Array.replicate_succ, Array.replicate_zero, List.push_toArray, List.append_toArray, List.nil_append, List.cons_append]
  gi_wp2
  refine wpIn_rangeFunc_ownF rfl h1 (gf := 30) (lb := #[.pointer (some ⟨Bs, 0, none⟩)]) rfl trivial (enters_of Tryd.func30 (by kernel_rfl) rfl)
    (als_stops (n - 1) (by omega) Bs w.heap.size s hs _ ((hB0.cell (p := ⟨Bs, 0, none⟩) hBl).trans hBs) hBl hsz hB0.size (tabs_below hT hsz hB0)) AK_t (AK_b hB0.size) (Below.refl _ _) (fun _ => rfl)
    (fun pre W => ((∃ v1 v2, GB w.heap.size stop W pre v1 v2) ∧ ¬ (0 < stop ∧ stop ≤ pre.length)) ∧ Below w.heap.size w W)
    (fun c pre W => (c = .exit 0 ∧ (∃ v1 v2, GB w.heap.size stop W pre v1 v2) ∧ stop = pre.length ∧ 0 < stop) ∧ Below w.heap.size w W)
    (OwnFrom.and (Own.from (fun s A B row hs hg hr => by obtain ⟨⟨v1, v2, g⟩, h⟩ := hs; exact ⟨⟨v1, v2, g.keep hg hr⟩, h⟩) _) (ownFrom_below (Nat.le_refl _) hB0.size))
    (fun c => OwnFrom.and (Own.from (fun s A B row hs hg hr => by obtain ⟨hc, ⟨v1, v2, g⟩, h⟩ := hs; exact ⟨hc, ⟨v1, v2, g.keep hg hr⟩, h⟩) _) (ownFrom_below (Nat.le_refl _) hB0.size))
    ⟨⟨⟨_, _, G0⟩, by simp⟩, hB0⟩
    (fun x => { tmps := #[.func (.func 30) #[] #[.pointer (some ⟨Bs, 0, none⟩)], .int .i64 stop, undef, .pointer (some ⟨w.heap.size, 0, none⟩), .slice none 0 0, .slice none 0 0, .pointer (some ⟨w.heap.size + 1, 0, none⟩), .pointer (some ⟨w.heap.size + 2, 0, none⟩), .int .i64 x.1, .int .i32 x.2, .func (.func 30) #[] #[.pointer (some ⟨Bs, 0, none⟩)], .bool false, .func (.func 30) #[] #[.pointer (some ⟨Bs, 0, none⟩)], .int .i64 x.1, .int .i32 x.2, undef, undef, undef, undef, undef, undef, undef, undef, undef, undef, undef, undef, undef, undef], defers := [] }) ?assign ?body ?done ?stop
  case assign =>
    intro l x W K hK
    gi_wp2
    exact hK
  case body =>
    rintro l pre x W ⟨⟨⟨v1, v2, G⟩, hst⟩, hB⟩ hlt
    obtain ⟨g1, c1, w1, g2, c2, w2, r1, hc1, hf1, hc2, r2, hc3, hf3, G2, hk2, hb2⟩ := G.step x.1 x.2 (by omega)
    have hc0 := G.2.1.cell
    have hz0 := G2.1.cell
    have hz1 := G2.2.1.cell
    gi_wp2_with (first | (gi_at_builtin; refine wpIn_append_run rfl (.tmp 15) (.tmp 17) 35 35 rfl _ _ rfl rfl r1 ?_) | (gi_at_builtin; refine wpIn_append_run rfl (.tmp 19) (.tmp 21) 25 25 rfl _ _ rfl rfl r2 ?_))
    · have hx : (pre.length : Int) + 1 = stop := by rename_i hq; exact eq_of_beq hq
      exact ⟨hk2, ⟨rfl, ⟨_, _, G2⟩, by simp; omega, by omega⟩, hB.trans hb2⟩
    · have hx : ¬ (pre.length : Int) + 1 = stop := by rename_i hq; exact fun e => by rw [beq_iff_eq.2 e] at hq; cases hq
      exact ⟨hk2, ⟨hb2, hk2.walks⟩, ⟨⟨_, _, G2⟩, by simp; omega⟩, hB.trans hb2⟩
  case done =>
    rintro D ys W hD rfl ⟨⟨⟨v1, v2, G⟩, hst⟩, hB⟩ hK
    have hc1 := G.2.1.cell
    have hc2 : W.cell? ⟨w.heap.size + 1 + 1, 0, none⟩ = some v2 := G.2.2.1.cell
    have HG : Hid (gn stop (al s) = al s) := by show _ = _; unfold gn; rw [if_neg hst]
    gi_wp2
    gi_region
    gi_wp2
    refine ⟨by simp, .inl ⟨_, _, rfl, run_takeDeferred (show W.drew.heap[D]? = _ from hK), ?_⟩⟩
    refine ⟨_, results_tmp2 rfl _ _ _, v1, v2, rfl, ?_, ?_, hB.drew.trans (belowK_b (w := w) (Nat.le_refl _) W.drew D _ _ (by rw [hsz0] at hD; omega) hK rfl rfl)⟩
    · rw [HG.out]; exact ownsRow_putObj (row_base G.2.2.2.1 (by omega)).drew _ hK rfl
    · rw [HG.out]; exact ownsRow_putObj (row_base G.2.2.2.2 (by omega)).drew _ hK rfl
  case stop =>
    rintro D c pre W hD hpre ⟨⟨rfl, ⟨v1, v2, G⟩, hst, hpos⟩, hB⟩ hK
    have hc1 := G.2.1.cell
    have hc2 : W.cell? ⟨w.heap.size + 1 + 1, 0, none⟩ = some v2 := G.2.2.1.cell
    have hpl := hpre.length_le
    have HG : Hid (gn stop (al s) = pre) := by
      show _ = _
      unfold gn
      rw [if_pos ⟨hpos, by omega⟩, show stop.toNat = pre.length by omega]
      exact (List.prefix_iff_eq_take.1 hpre).symm
    gi_wp2
    gi_region
    gi_wp2
    refine ⟨by simp, .inl ⟨_, _, rfl, run_takeDeferred (show W.drew.heap[D]? = _ from hK), ?_⟩⟩
    refine ⟨_, results_tmp2 rfl _ _ _, v1, v2, rfl, ?_, ?_, hB.drew.trans (belowK_b (w := w) (Nat.le_refl _) W.drew D _ _ (by rw [hsz0] at hD; omega) hK rfl rfl)⟩
    · rw [HG.out]; exact ownsRow_putObj (row_base G.2.2.2.1 (by omega)).drew _ hK rfl
    · rw [HG.out]; exact ownsRow_putObj (row_base G.2.2.2.2 (by omega)).drew _ hK rfl
end Go.Proofs.YtdnbkgbgpfmipaaDoor
