/- CalcLeaves: the row. -/
import Derived.Test.YtfjfpplemgjcmabLd
import Derived.Test.YtfjfpplemgjcmabOp
import Derived.SizedLaws
namespace Go.Proofs.Ytfjfpplemgjcmab
open Go.ChangeShapes Go.WideShapes Go.ChangeAt Go.RowKit

/-- A list of floats that came in, its length and its room. -/
theorem floats_came {H : Type} {enc : TypeId × Value → H} {W : World} {a : Option Addr} {len cap : Nat} {d : DataW H} {p : List MemPlace} {fuel : Nat} {t : TypeId} (ht : Try.prog.underlying t = some (.slice 23))
    (hf : DataW.trod enc Try.prog W 0 (fun _ => true) true fuel t [Value.slice a len cap] = some (d, p)) (hz : ∀ n ∈ d.weights Try.prog t, n ≤ reachBytes) :
    ∃ (xs : List Nat), xs.length = len ∧ Fm W a xs ∧ Wd xs ∧ len * 8 ≤ 140737488355328 ∧ len ≤ cap ∧ (a = none → cap = 0) := by
  rcases Go.Deep.open_slice1 ht (by kernel_rfl) hf with ⟨hcs, _⟩ | ⟨x, l, c, m, n, V, D, Pl, hcs, _, hl, hm, hmm, hd, hall⟩
  · simp at hcs
    obtain ⟨_, rfl, rfl⟩ := hcs
    exact ⟨[], rfl, .inl rfl, fun j hj => absurd hj (by simp), by omega, by omega, fun _ => rfl⟩
  · simp at hcs
    obtain ⟨rfl, rfl, rfl⟩ := hcs
    have hm' : m = cap := by simpa using hmm
    subst hm'
    unfold maxLen at hm
    obtain ⟨rfl, _⟩ := Prod.mk.inj hd
    have hz2 : ∀ i, i < m → ∃ z : Nat, V i = .float .f64 z ∧ z < 18446744073709551616 := fun i hi => by
      obtain ⟨z, h1, h2, _⟩ := trod_float Try.underlying23 (hall i hi).2
      exact ⟨z, h1, h2⟩
    obtain ⟨Z, hZ⟩ := Go.Deep.choose_lt hz2
    have hlen : ((List.range len).map Z).length = len := by simp
    have hget : ∀ i, i < len → ((List.range len).map Z).getD i 0 = Z i := fun i hi => by simp [List.getD, hi]
    refine ⟨(List.range len).map Z, hlen, ?_, fun j hj => ?_, ?_, hl, fun h => by cases h⟩
    · by_cases h0 : len = 0
      · left
        rw [h0]; rfl
      · right
        obtain ⟨g, o, sp⟩ := x
        have hsp : sp = none := by
          have := (hall 0 (by omega)).1
          simpa [Addr.add] using World.cell?_spot this
        subst hsp
        have h00 := (hall 0 (by omega)).1
        rw [Go.WideShapes.add_plain] at h00
        refine ⟨g, o, rfl, block_lt_of_cell h00, fun i hi => ?_⟩
        rw [hlen] at hi
        have := (hall i (by omega)).1
        rw [Go.WideShapes.add_plain] at this
        rw [hget i hi, this, (hZ i (by omega)).1]
    · rw [hlen] at hj
      rw [hget j hj]
      exact (hZ j (by omega)).2
    · have hb : Try.prog.bytesOf 23 = 8 := by kernel_rfl
      have hr : reachBytes = 140737488351232 := by decide
      have := hz ((((List.range len).map D).length + ((List.range (m - len)).map fun j => D (len + j)).length) * 8) (by
        simp only [DataW.weights, ht, hb]
        exact List.mem_cons.2 (.inl rfl))
      simp at this
      omega

/-- Buckets that came in. -/
theorem buckets_came {H : Type} {enc : TypeId × Value → H} {W : World} {a : Option Addr} {len cap : Nat} {d : DataW H} {p : List MemPlace} {fuel : Nat}
    (hf : DataW.trod enc Try.prog W 0 (fun _ => true) true fuel 38 [Value.slice a len cap] = some (d, p)) (hz : ∀ n ∈ d.weights Try.prog 38, n ≤ reachBytes) :
    ∃ bs : Nat → Bk, Bml W a bs len ∧ BW bs len ∧ len ≤ cap ∧ 16 * cap ≤ 140737488355328 ∧ (a = none → cap = 0) := by
  rcases Go.Deep.open_slice Try.underlying38 hf with ⟨hcs, _⟩ | ⟨x, l, c, m, n, D, Pl, hcs, _, hl, hm, hmm, hd, hall⟩
  · simp at hcs
    obtain ⟨_, rfl, rfl⟩ := hcs
    exact ⟨fun _ => (0, 0), .inl rfl, fun j hj => absurd hj (by omega), Nat.le_refl _, by omega, fun _ => rfl⟩
  · simp at hcs
    obtain ⟨rfl, rfl, rfl⟩ := hcs
    have hm' : m = cap := by simpa using hmm
    subst hm'
    obtain ⟨rfl, _⟩ := Prod.mk.inj hd
    have hC : Try.prog.cellsOf 40 = 2 := by kernel_rfl
    have each : ∀ i, i < m → ∃ u : Bk, W.cell? (x.add (i * 2)) = some (.float .f64 u.1) ∧ W.cell? (x.add (i * 2 + 1)) = some (.float .f64 u.2) ∧ u.1 < 18446744073709551616 ∧ u.2 < 18446744073709551616 := by
      intro i hi
      obtain ⟨cs', h1, h2⟩ := hall i hi
      rw [hC] at h1
      obtain ⟨_, hlen, hcell⟩ := World.cells?_some h1
      obtain ⟨xs, k, hk, hxy, _, hxl, hff⟩ := DataW.trod_struct Try.underlying40 h2
      match xs, hxl, cs', hlen with
      | [y0, y1], _, [v0, v1], _ =>
        have g0 := hff 0 _ rfl
        have g1 := hff 1 _ rfl
        have c23 : Try.prog.cellsOf 23 = 1 := by kernel_rfl
        simp [c23] at g0 g1
        obtain ⟨u, e0, hu, _⟩ := trod_float Try.underlying23 g0
        obtain ⟨v, e1, hv, _⟩ := trod_float Try.underlying23 g1
        have q0 := hcell 0 (by omega)
        have q1 := hcell 1 (by omega)
        rw [Go.Deep.add_add] at q0 q1
        rw [e0, e1] at q0 q1
        exact ⟨(u, v), by simpa using q0, by simpa using q1, hu, hv⟩
    have hI : Inhabited Bk := ⟨(0, 0)⟩
    obtain ⟨bs, hbs⟩ := Go.Deep.choose_lt each
    refine ⟨bs, ?_, fun j hj => (hbs j (by omega)).2.2, hl, ?_, fun h => by cases h⟩
    · by_cases h0 : len = 0
      · exact .inl h0
      · right
        obtain ⟨g, o, sp⟩ := x
        have hsp : sp = none := by
          have := (hbs 0 (by omega)).1
          simpa [Addr.add] using World.cell?_spot this
        subst hsp
        have h00 := (hbs 0 (by omega)).1
        rw [Go.WideShapes.add_plain] at h00
        refine ⟨g, o, rfl, block_lt_of_cell h00, fun j hj => ?_⟩
        obtain ⟨q0, q1, _⟩ := hbs j (by omega)
        rw [Go.WideShapes.add_plain] at q0 q1
        exact ⟨q0, by rw [Nat.add_assoc]; exact q1⟩
    · have hb : Try.prog.bytesOf 40 = 16 := by kernel_rfl
      have hr : reachBytes = 140737488351232 := by decide
      have := hz ((((List.range len).map D).length + ((List.range (m - len)).map fun j => D (len + j)).length) * 16) (by
        simp only [DataW.weights, Try.underlying38, hb]
        exact List.mem_cons.2 (.inl rfl))
      simp at this
      omega

set_option maxRecDepth 100000 in
theorem leaves_lifted (os : Os) (started : os.Started) (H : Type) (enc : TypeId × Value → H) :
    ReturnsInHanded {} Try.checked os 6 .any (Rows.calcLeavesSpec.pre6 enc Try.prog Try.f6 Rows.calcLeavesRow.domain false) (Rows.calcLeavesSpec.post enc Try.prog Try.f6 false true false false) := by
  refine returnsInHanded_of_change_sized (C := Try.checked) own started (by kernel_rfl) Try.func6
    (ChangeSpec.witness6 (enc := enc) (C := Try.checked) false ⟨#[], #[.slice none 0 0, .float .f64 0, .slice none 0 0], []⟩ 8 (by kernel_rfl) (by kernel_rfl) (by kernel_rfl) (by kernel_rfl)) ?_
  intro W base args ds gs before hval0 hW hcnd hsz0 _
  have hval : ∀ (j : Nat) t v, Try.f6.params[j]? = some t → args[j]? = some v → Value.okWide Try.prog W .any base t v := hval0
  have hsz : (DataW.weightsEach Try.prog (Try.f6.params.toList ++ Rows.calcLeavesSpec.plain.varTypes Try.prog) (ds ++ gs)).all (· ≤ reachBytes) = true := hsz0
  have hW' := hW
  obtain ⟨p, q, hA0, hV, rfl, hfz, hnd⟩ := hW
  have hA : DataW.TrodAll enc Try.prog W 0 (fun _ => true) true Try.f6.params.toList args.toList ds p := hA0
  rw [Try.params6] at hA hval hsz
  obtain ⟨v0, v1, v2, d0, d1, d2, p0, p1, p2, rfl, rfl, rfl, h0, h1, h2⟩ := trodAll_three hA
  obtain ⟨rfl, rfl⟩ := trodVars_none hV
  obtain ⟨a0, n0, c0, rfl⟩ := okWide_slice Try.underlying35 (hval 0 35 v0 rfl rfl)
  obtain ⟨x1, rfl, rfl, rfl, w1⟩ := open_float Try.underlying23 (hval 1 23 v1 rfl rfl) h1
  obtain ⟨a2, n2, c2, rfl⟩ := okWide_slice Try.underlying38 (hval 2 38 v2 rfl rfl)
  have k0 := h0
  have k2 := h2
  have lt0 : ∀ x ∈ p0, x.block < W.heap.size := by obtain ⟨m, hm⟩ := k0; exact DataW.trod_lt m _ _ _ hm
  have lt2 : ∀ x ∈ p2, x.block < W.heap.size := by obtain ⟨m, hm⟩ := k2; exact DataW.trod_lt m _ _ _ hm
  have z0 : ∀ n ∈ d0.weights Try.prog 35, n ≤ reachBytes := fun n hn => by
    have := List.all_eq_true.1 hsz _ (DataW.weights_mem_each (j := 0) (t := 35) (d := d0) rfl rfl n hn)
    simpa using this
  have z2 : ∀ n ∈ d2.weights Try.prog 38, n ≤ reachBytes := fun n hn => by
    have := List.all_eq_true.1 hsz _ (DataW.weights_mem_each (j := 2) (t := 38) (d := d2) rfl rfl n hn)
    simpa using this
  have walk : Calls Try.prog 6 #[.slice a0 n0 c0, .float .f64 x1, .slice a2 n2 c2] W fun e w' => e = .returned (.bool true) ∧ Below W.heap.size W w' := by
    obtain ⟨f0, hf0⟩ := h0
    obtain ⟨f2, hf2⟩ := h2
    obtain ⟨xs, rfl, hI, hs, hl, hc, hc0⟩ := floats_came Try.underlying35 hf0 z0
    obtain ⟨bs, hI2, hs2, hc2, hl2, hc20⟩ := buckets_came hf2 z2
    exact leaves_walk a0 c0 xs x1 a2 c2 n2 bs W hI hs hl hc0 hI2 hs2 (by omega) hc20
  refine walk.mono fun e W' ⟨he, bel⟩ => ?_
  subst he
  exact ⟨_, rfl, _, _, _, [], _, [], hW', trodAll_mk1 (shut_bool Try.underlying4 _), trodAll_mk3 (Below.trod laidOut (by kernel_rfl) (of_decide_eq_true (by kernel_rfl)) k0 bel lt0) (shut_float Try.underlying23 w1) (Below.trod laidOut (by kernel_rfl) (of_decide_eq_true (by kernel_rfl)) k2 bel lt2), rfl, bel.frame _, fun h => by cases h⟩

theorem leaves_said : Rows.CalcLeavesSaid :=
  OpenClaim.holds_of_wide 6 Try.f6 rfl rfl rfl rfl rfl rfl rfl ⟨rfl, rfl, rfl, rfl, rfl⟩ rfl rfl rfl rfl rfl (by kernel_rfl) Try.func6 (by kernel_rfl)
    (of_decide_eq_true (by kernel_rfl)) (by unfold Func.isWrapper; first | (rw [if_pos (by decide +kernel)]; kernel_rfl) | (rw [if_neg (by decide +kernel)]; exact ⟨rfl, rfl⟩))
    (fun os started H enc _ => leaves_lifted os started H enc)
#print axioms leaves_said
end Go.Proofs.Ytfjfpplemgjcmab
