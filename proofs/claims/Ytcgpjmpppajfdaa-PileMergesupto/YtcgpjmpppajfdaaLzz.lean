
/- PileMerges: the statement. -/
import Derived.Test.YtcgpjmpppajfdaaLy
import Derived.Test.YtcgpjmpppajfdaaIp
namespace Go.Proofs.Ytcgpjmpppajfdaa.Li
open Go.ChangeShapes Go.WideShapes Go.ChangeAt Go.RowKit

theorem bulk_snoc {H : Type} (x : DataW H) : ∀ l : List (DataW H), Rows.uptoBulkAll (l ++ [x]) = Rows.uptoBulkAll l + Rows.uptoBulk x
  | [] => by simp [Rows.uptoBulkAll]
  | d :: r => by
    show Rows.uptoBulk d + Rows.uptoBulkAll (r ++ [x]) = Rows.uptoBulk d + Rows.uptoBulkAll r + _
    rw [bulk_snoc x r]
    omega
theorem bulk_pos {H : Type} (d : DataW H) : 1 ≤ Rows.uptoBulk d := by
  cases d with
  | lit l => cases l <;> simp [Rows.uptoBulk]
  | _ => simp [Rows.uptoBulk]
theorem tot_bulk {H : Type} {q : Nat → Ls} {D : Nat → DataW H} : ∀ {n : Nat}, (∀ i, i < n → (q i).2.1 ≤ Rows.uptoBulk (D i)) → tot (QL q) n ≤ Rows.uptoBulkAll ((List.range n).map D) ∧ n ≤ Rows.uptoBulkAll ((List.range n).map D)
  | 0, _ => ⟨Nat.zero_le _, Nat.zero_le _⟩
  | n + 1, h => by
    have ih := tot_bulk (n := n) fun i hi => h i (by omega)
    have h1 := h n (by omega)
    have h2 := bulk_pos (D n)
    rw [List.range_succ, List.map_append]
    show tot (QL q) n + (things (q n)).length ≤ _ ∧ _
    rw [things_len, show ([n].map D) = [D n] from rfl, bulk_snoc]
    omega
set_option maxRecDepth 100000 in
theorem lists_open0 {H : Type} {enc : TypeId × Value → H} {W : World} {a : Option Addr} {len cap : Nat} {d : DataW H} {p : List MemPlace} {fuel : Nat}
    (hf : DataW.trod enc Try.prog W 0 (fun _ => true) true fuel 53 [Value.slice a len cap] = some (d, p)) :
    ∃ q : Nat → Ls, Lml W a q len ∧ len ≤ Rows.uptoBulk d ∧ tot (QL q) len ≤ Rows.uptoBulk d := by
  rcases Go.Deep.open_slice1 Try.underlying53 (by kernel_rfl) hf with ⟨hcs, _⟩ | ⟨x, l, c, m, n, V, D, Pl, hcs, _, hl, hm, hmm, hd, hall⟩
  · simp at hcs
    obtain ⟨_, rfl, rfl⟩ := hcs
    exact ⟨fun _ => (none, 0, 0, fun _ => (0, 0)), .inl rfl, Nat.zero_le _, Nat.zero_le _⟩
  · simp at hcs
    obtain ⟨rfl, rfl, rfl⟩ := hcs
    have hm' : m = cap := by simpa using hmm
    subst hm'
    obtain ⟨rfl, _⟩ := Prod.mk.inj hd
    have each : ∀ i, i < len → ∃ u : Ls, W.cell? (x.add i) = some (.slice u.1 u.2.1 u.2.2.1) ∧ Iml W u.1 u.2.2.2 u.2.1 ∧ u.2.1 ≤ u.2.2.1 ∧ u.2.1 ≤ Rows.uptoBulk (D i) := by
      intro i hi
      obtain ⟨h1, h2⟩ := hall i (by omega)
      have hs : ∃ a l c, V i = .slice a l c := by
        rcases Go.Deep.open_slice Try.underlying22 h2 with ⟨hcs, _⟩ | ⟨x', l', c', _, _, _, _, hcs, _⟩
        · simp at hcs
          exact ⟨none, 0, 0, hcs⟩
        · simp at hcs
          exact ⟨_, _, _, hcs⟩
      obtain ⟨a', l', c', ev⟩ := hs
      rw [ev] at h1 h2
      obtain ⟨ss, hI, hc, _, hb⟩ := items_open0 h2
      exact ⟨(a', l', c', ss), h1, hI, hc, by show l' ≤ _; omega⟩
    have hI : Inhabited Ls := ⟨(none, 0, 0, fun _ => (0, 0))⟩
    obtain ⟨q, hq⟩ := Go.Deep.choose_lt each
    have hb := tot_bulk (q := q) (D := D) (n := len) (fun i hi => (hq i hi).2.2.2)
    refine ⟨q, ?_, ?_, ?_⟩
    · by_cases h0 : len = 0
      · exact .inl h0
      · right
        obtain ⟨g, o, sp⟩ := x
        have hsp : sp = none := by
          have := (hq 0 (by omega)).1
          simpa [Addr.add] using World.cell?_spot this
        subst hsp
        have h00 := (hq 0 (by omega)).1
        rw [Go.WideShapes.add_plain] at h00
        refine ⟨g, o, rfl, block_lt_of_cell h00, fun j hj => ?_⟩
        obtain ⟨q0, q1, q2, _⟩ := hq j hj
        rw [Go.WideShapes.add_plain] at q0
        exact ⟨q0, q1, q2⟩
    · simp only [Rows.uptoBulk]
      omega
    · simp only [Rows.uptoBulk]
      omega

set_option maxRecDepth 100000 in
theorem merges_lifted (os : Os) (started : os.Started) (H : Type) (enc : TypeId × Value → H) (F : Stop.Interp) :
    ReturnsInHanded {} Try.checked os 7 .any ((Rows.OpenSpec.upto Rows.pileMergesSpec).pre6 enc Try.prog Try.f7 Rows.pileMergesUptoRow.domain false) (((Rows.OpenSpec.upto Rows.pileMergesSpec).at F).post enc Try.prog Try.f7 false true false false) := by
  refine returnsInHanded_of_cond (C := Try.checked) (s := Rows.OpenSpec.upto Rows.pileMergesSpec) (k := Rows.uptoSmall) rfl own started (by kernel_rfl) Try.func7
    (OpenSpec.witness (enc := enc) (C := Try.checked) (s := Rows.OpenSpec.upto Rows.pileMergesSpec) (k := Rows.uptoSmall) rfl false ⟨#[], #[.slice none 0 0, .bool false], []⟩ 8 (by kernel_rfl) (by kernel_rfl) (by kernel_rfl)
      (x := ([.nil, .lit (.bool false)], [], [])) (by kernel_rfl) rfl (by kernel_rfl)) ?_
  intro W base args ds gs before hval0 hW _ hk _
  have hval : ∀ (j : Nat) t v, Try.f7.params[j]? = some t → args[j]? = some v → Value.okWide Try.prog W .any base t v := hval0
  have hW' := hW
  obtain ⟨p, q, hA0, hV, rfl, _, _⟩ := hW
  have hA : DataW.TrodAll enc Try.prog W 0 (fun _ => true) true Try.f7.params.toList args.toList ds p := hA0
  rw [Try.params7] at hA hval
  obtain ⟨v0, v1, d0, d1, p0, p1, rfl, rfl, rfl, h0, h1⟩ := trodAll_two hA
  obtain ⟨rfl, rfl⟩ := trodVars_none hV
  obtain ⟨a0, n0, c0, rfl⟩ := okWide_slice Try.underlying53 (hval 0 53 v0 rfl rfl)
  obtain ⟨b1, rfl⟩ := okWide_bool Try.underlying4 (hval 1 4 v1 rfl rfl)
  have k0 := h0
  have k1 := h1
  have lt0 : ∀ x ∈ p0, x.block < W.heap.size := by obtain ⟨m, hm⟩ := k0; exact DataW.trod_lt m _ _ _ hm
  have lt1 : ∀ x ∈ p1, x.block < W.heap.size := by obtain ⟨m, hm⟩ := k1; exact DataW.trod_lt m _ _ _ hm
  have hkk := of_decide_eq_true hk
  simp only [Rows.uptoBulkAll, List.append_nil] at hkk
  have walk : Calls Try.prog 7 #[.slice a0 n0 c0, .bool b1] W fun e w' => e = .returned (.bool true) ∧ Below W.heap.size W w' := by
    obtain ⟨fuel, hf⟩ := h0
    obtain ⟨qs, hI, hl1, hl2⟩ := lists_open0 hf
    exact merges_walk a0 n0 c0 qs b1 W hI (by omega) (by omega)
  refine walk.mono fun e W' ⟨he, bel⟩ => ?_
  subst he
  exact ⟨_, rfl, _, _, _, [], _, [], hW', trodAll_mk1 (shut_bool Try.underlying4 _), trodAll_mk2 (Below.trod laidOut (by kernel_rfl) (of_decide_eq_true (by kernel_rfl)) k0 bel lt0) (Below.trod laidOut (by kernel_rfl) (of_decide_eq_true (by kernel_rfl)) k1 bel lt1), rfl, bel.frame _, fun h => by cases h⟩
end Go.Proofs.Ytcgpjmpppajfdaa.Li
namespace Go.Proofs.Ytcgpjmpppajfdaa
open Go.ChangeShapes Go.WideShapes Go.ChangeAt Go.RowKit

theorem merges_said : Rows.PileMergesUptoSaid :=
  OpenClaim.holds_of_cond 7 Try.f7 rfl rfl rfl rfl rfl rfl rfl ⟨rfl, rfl, rfl, rfl, rfl⟩ rfl rfl rfl rfl rfl (by kernel_rfl) Try.func7 (by kernel_rfl)
    (of_decide_eq_true (by kernel_rfl)) (by unfold Func.isWrapper; first | (rw [if_pos (by decide +kernel)]; kernel_rfl) | (rw [if_neg (by decide +kernel)]; exact ⟨rfl, rfl⟩))
    (fun os started H enc _ F => Li.merges_lifted os started H enc F)
#print axioms merges_said
end Go.Proofs.Ytcgpjmpppajfdaa
