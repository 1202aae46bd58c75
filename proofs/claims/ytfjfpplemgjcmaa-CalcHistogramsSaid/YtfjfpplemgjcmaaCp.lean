/- CalcHistograms: the row. -/
import Derived.Test.YtfjfpplemgjcmaaCn
import Derived.Test.YtfjfpplemgjcmaaOp
import Derived.SizedLaws
namespace Go.Proofs.Ytfjfpplemgjcmaa
open Go.ChangeShapes Go.WideShapes Go.ChangeAt Go.RowKit

/-- Buckets that came in. -/
theorem buckets_open {H : Type} {enc : TypeId × Value → H} {W : World} {a : Option Addr} {len cap : Nat} {d : DataW H} {p : List MemPlace} {fuel : Nat}
    (hf : DataW.trod enc Try.prog W 0 (fun _ => true) true fuel 36 [Value.slice a len cap] = some (d, p)) (hz : ∀ n ∈ d.weights Try.prog 36, n ≤ reachBytes) :
    ∃ bs : Nat → Bk, Bml W a bs len ∧ BW bs len ∧ len ≤ cap ∧ 16 * cap ≤ 140737488355328 := by
  rcases Go.Deep.open_slice Try.underlying36 hf with ⟨hcs, _⟩ | ⟨x, l, c, m, n, D, Pl, hcs, _, hl, hm, hmm, hd, hall⟩
  · simp at hcs
    obtain ⟨_, rfl, rfl⟩ := hcs
    exact ⟨fun _ => (0, 0), .inl rfl, fun j hj => absurd hj (by omega), Nat.le_refl _, by omega⟩
  · simp at hcs
    obtain ⟨rfl, rfl, rfl⟩ := hcs
    have hm' : m = cap := by simpa using hmm
    subst hm'
    obtain ⟨rfl, _⟩ := Prod.mk.inj hd
    have hC : Try.prog.cellsOf 34 = 2 := by kernel_rfl
    have each : ∀ i, i < m → ∃ u : Bk, W.cell? (x.add (i * 2)) = some (.float .f64 u.1) ∧ W.cell? (x.add (i * 2 + 1)) = some (.float .f64 u.2) ∧ u.1 < 18446744073709551616 ∧ u.2 < 18446744073709551616 := by
      intro i hi
      obtain ⟨cs', h1, h2⟩ := hall i hi
      rw [hC] at h1
      obtain ⟨_, hlen, hcell⟩ := World.cells?_some h1
      obtain ⟨xs, k, hk, hxy, _, hxl, hff⟩ := DataW.trod_struct Try.underlying34 h2
      match xs, hxl, cs', hlen with
      | [y0, y1], _, [v0, v1], _ =>
        have g0 := hff 0 _ rfl
        have g1 := hff 1 _ rfl
        have c23 : Try.prog.cellsOf 23 = 1 := by kernel_rfl
        simp [c23] at g0 g1
        obtain ⟨u, e0, hu, _⟩ := trod_float Try.underlying23 g0
        obtain ⟨v, e1, hv, _⟩ := trod_float Try.underlying23 g1
        have q0 := hcell 0 (by omega)
        have q1 := hcell 1 (by omega)
        rw [Go.Deep.add_add] at q0 q1
        rw [e0, e1] at q0 q1
        exact ⟨(u, v), by simpa using q0, by simpa using q1, hu, hv⟩
    have hI : Inhabited Bk := ⟨(0, 0)⟩
    obtain ⟨bs, hbs⟩ := Go.Deep.choose_lt each
    refine ⟨bs, ?_, fun j hj => (hbs j (by omega)).2.2, hl, ?_⟩
    · by_cases h0 : len = 0
      · exact .inl h0
      · right
        obtain ⟨g, o, sp⟩ := x
        have hsp : sp = none := by
          have := (hbs 0 (by omega)).1
          simpa [Addr.add] using World.cell?_spot this
        subst hsp
        have h00 := (hbs 0 (by omega)).1
        rw [Go.WideShapes.add_plain] at h00
        refine ⟨g, o, rfl, block_lt_of_cell h00, fun j hj => ?_⟩
        obtain ⟨q0, q1, _⟩ := hbs j (by omega)
        rw [Go.WideShapes.add_plain] at q0 q1
        exact ⟨q0, by rw [Nat.add_assoc]; exact q1⟩
    · have hb : Try.prog.bytesOf 34 = 16 := by kernel_rfl
      have hr : reachBytes = 140737488351232 := by decide
      have := hz ((((List.range len).map D).length + ((List.range (m - len)).map fun j => D (len + j)).length) * 16) (by
        simp only [DataW.weights, Try.underlying36, hb]
        exact List.mem_cons.2 (.inl rfl))
      simp at this
      omega

set_option maxRecDepth 100000 in
theorem histograms_lifted (os : Os) (started : os.Started) (H : Type) (enc : TypeId × Value → H) :
    ReturnsInHanded {} Try.checked os 7 .any (Rows.calcHistogramsSpec.pre6 enc Try.prog Try.f7 Rows.calcHistogramsRow.domain false) (Rows.calcHistogramsSpec.post enc Try.prog Try.f7 false true false false) := by
  refine returnsInHanded_of_change_sized (C := Try.checked) own started (by kernel_rfl) Try.func7
    (ChangeSpec.witness6 (enc := enc) (C := Try.checked) false ⟨#[], #[.float .f64 0, .slice none 0 0], []⟩ 8 (by kernel_rfl) (by kernel_rfl) (by kernel_rfl) (by kernel_rfl)) ?_
  intro W base args ds gs before hval0 hW hcnd hsz0 _
  have hval : ∀ (j : Nat) t v, Try.f7.params[j]? = some t → args[j]? = some v → Value.okWide Try.prog W .any base t v := hval0
  have hsz : (DataW.weightsEach Try.prog (Try.f7.params.toList ++ Rows.calcHistogramsSpec.plain.varTypes Try.prog) (ds ++ gs)).all (· ≤ reachBytes) = true := hsz0
  have hW' := hW
  obtain ⟨p, q, hA0, hV, rfl, hfz, hnd⟩ := hW
  have hA : DataW.TrodAll enc Try.prog W 0 (fun _ => true) true Try.f7.params.toList args.toList ds p := hA0
  rw [Try.params7] at hA hval hsz
  obtain ⟨v0, v1, d0, d1, p0, p1, rfl, rfl, rfl, h0, h1⟩ := trodAll_two hA
  obtain ⟨rfl, rfl⟩ := trodVars_none hV
  obtain ⟨x0, rfl, rfl, rfl, w0⟩ := open_float Try.underlying23 (hval 0 23 v0 rfl rfl) h0
  obtain ⟨a1, n1, c1, rfl⟩ := okWide_slice Try.underlying36 (hval 1 36 v1 rfl rfl)
  have k1 := h1
  have lt1 : ∀ x ∈ p1, x.block < W.heap.size := by obtain ⟨m, hm⟩ := k1; exact DataW.trod_lt m _ _ _ hm
  have z1 : ∀ n ∈ d1.weights Try.prog 36, n ≤ reachBytes := fun n hn => by
    have := List.all_eq_true.1 hsz _ (DataW.weights_mem_each (j := 1) (t := 36) (d := d1) rfl rfl n hn)
    simpa using this
  have walk : Calls Try.prog 7 #[.float .f64 x0, .slice a1 n1 c1] W fun e w' => e = .returned (.bool true) ∧ Below W.heap.size W w' := by
    obtain ⟨f1, hf1⟩ := h1
    obtain ⟨bs, hI, hs, hc, hl⟩ := buckets_open hf1 z1
    exact histograms_walk x0 a1 c1 n1 bs W hI hs (by omega) hc (by omega)
  refine walk.mono fun e W' ⟨he, bel⟩ => ?_
  subst he
  exact ⟨_, rfl, _, _, _, [], _, [], hW', trodAll_mk1 (shut_bool Try.underlying4 _), trodAll_mk2 (shut_float Try.underlying23 w0) (Below.trod laidOut (by kernel_rfl) (of_decide_eq_true (by kernel_rfl)) k1 bel lt1), rfl, bel.frame _, fun h => by cases h⟩

theorem histograms_said : Rows.CalcHistogramsSaid :=
  OpenClaim.holds_of_wide 7 Try.f7 rfl rfl rfl rfl rfl rfl rfl ⟨rfl, rfl, rfl, rfl, rfl⟩ rfl rfl rfl rfl rfl (by kernel_rfl) Try.func7 (by kernel_rfl)
    (of_decide_eq_true (by kernel_rfl)) (by unfold Func.isWrapper; first | (rw [if_pos (by decide +kernel)]; kernel_rfl) | (rw [if_neg (by decide +kernel)]; exact ⟨rfl, rfl⟩))
    (fun os started H enc _ => histograms_lifted os started H enc)
#print axioms histograms_said
end Go.Proofs.Ytfjfpplemgjcmaa
