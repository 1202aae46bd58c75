
/- PileWords: the statement. -/
import Derived.Test.YtcgpjmpppajfdaaZc
import Derived.SizedLaws
import Derived.ProofKit
import Derived.OpenShut
import Derived.ChangeSlices
import Derived.ChangeSame
import Derived.ChangeOld
import Derived.Carry
import Derived.Deep.Slices
namespace Go.Proofs.Ytcgpjmpppajfdaa.Ws
open Go.ChangeShapes Go.WideShapes Go.ChangeAt Go.RowKit

theorem own : ownKnob Try.prog.godebug = none := by kernel_rfl
theorem laidOut : laidOutB Try.prog = true := by kernel_rfl
theorem bulk_len {H : Type} : ∀ l : List (DataW H), l.length ≤ Rows.uptoBulkAll l
  | [] => Nat.zero_le _
  | d :: r => by
    have h1 : 1 ≤ Rows.uptoBulk d := by
      cases d with
      | lit l => cases l <;> simp [Rows.uptoBulk]
      | _ => simp [Rows.uptoBulk]
    have := bulk_len r
    simp only [Rows.uptoBulkAll, List.length_cons]
    omega
set_option maxRecDepth 100000 in
theorem words_open0 {H : Type} {enc : TypeId × Value → H} {W : World} {a : Option Addr} {len cap : Nat} {d : DataW H} {p : List MemPlace} {fuel : Nat}
    (hf : DataW.trod enc Try.prog W 0 (fun _ => true) true fuel 41 [Value.slice a len cap] = some (d, p)) :
    ∃ ss : Nat → ByteArray, Iml W a ss len ∧ len ≤ cap ∧ (0 < cap → ∃ g o, a = some ⟨g, o, none⟩) ∧ len + 1 ≤ Rows.uptoBulk d := by
  rcases Go.Deep.open_slice1 Try.underlying41 (by kernel_rfl) hf with ⟨hcs, hd⟩ | ⟨x, l, c, m, n, V, D, Pl, hcs, _, hl, hm, hmm, hd, hall⟩
  · simp at hcs
    obtain ⟨rfl, rfl, rfl⟩ := hcs
    obtain ⟨rfl, _⟩ := Prod.mk.inj hd
    exact ⟨fun _ => ⟨#[]⟩, .inl rfl, Nat.le_refl _, fun h => absurd h (by omega), Nat.le_refl _⟩
  · simp at hcs
    obtain ⟨rfl, rfl, rfl⟩ := hcs
    have hm' : m = cap := by simpa using hmm
    subst hm'
    obtain ⟨rfl, _⟩ := Prod.mk.inj hd
    have each : ∀ i, i < m → ∃ u : ByteArray, W.cell? (x.add i) = some (.string u) := by
      intro i hi
      obtain ⟨h1, h2⟩ := hall i hi
      obtain ⟨s, e, _⟩ := DataW.trod_string (by kernel_rfl) h2
      have e' : V i = .string s := by simpa using e
      exact ⟨s, by rw [← e']; exact h1⟩
    have hI : Inhabited ByteArray := ⟨⟨#[]⟩⟩
    obtain ⟨ss, hss⟩ := Go.Deep.choose_lt each
    obtain ⟨g, o, sp⟩ := x
    have hsp : m ≠ 0 → sp = none := fun h0 => by
      have := hss 0 (by omega)
      simpa [Addr.add] using World.cell?_spot this
    refine ⟨ss, ?_, hl, ?_, ?_⟩
    · by_cases h0 : len = 0
      · exact .inl h0
      · right
        have h1 := hsp (by omega)
        subst h1
        have h00 := hss 0 (by omega)
        rw [Go.WideShapes.add_plain] at h00
        refine ⟨g, o, rfl, block_lt_of_cell h00, fun j hj => ?_⟩
        have q0 := hss j (by omega)
        rw [Go.WideShapes.add_plain] at q0
        exact q0
    · intro h0
      have h1 := hsp (by omega)
      subst h1
      exact ⟨g, o, rfl⟩
    · have h1 := bulk_len ((List.range len).map D)
      simp at h1
      simp only [Rows.uptoBulk]
      omega
set_option maxRecDepth 100000 in
theorem words_lifted (os : Os) (started : os.Started) (H : Type) (enc : TypeId × Value → H) (F : Stop.Interp) :
    ReturnsInHanded {} Try.checked os 5 .any ((Rows.OpenSpec.upto Rows.pileWordsSpec).pre6 enc Try.prog Try.f5 Rows.pileWordsUptoRow.domain false) (((Rows.OpenSpec.upto Rows.pileWordsSpec).at F).post enc Try.prog Try.f5 false true false false) := by
  refine returnsInHanded_of_cond (C := Try.checked) (s := Rows.OpenSpec.upto Rows.pileWordsSpec) (k := Rows.uptoSmall) rfl own started (by kernel_rfl) Try.func5
    (OpenSpec.witness (enc := enc) (C := Try.checked) (s := Rows.OpenSpec.upto Rows.pileWordsSpec) (k := Rows.uptoSmall) rfl false ⟨#[], #[.slice none 0 0, .int .i64 0, .int .i64 0], []⟩ 8 (by kernel_rfl) (by kernel_rfl) (by kernel_rfl)
      (x := ([.nil, .lit (.int .i64 0), .lit (.int .i64 0)], [], [])) (by kernel_rfl) rfl (by kernel_rfl)) ?_
  intro W base args ds gs before hval0 hW _ hk _
  have hval : ∀ (j : Nat) t v, Try.f5.params[j]? = some t → args[j]? = some v → Value.okWide Try.prog W .any base t v := hval0
  have hW' := hW
  obtain ⟨p, q, hA0, hV, rfl, _, _⟩ := hW
  have hA : DataW.TrodAll enc Try.prog W 0 (fun _ => true) true Try.f5.params.toList args.toList ds p := hA0
  rw [Try.params5] at hA hval
  obtain ⟨v0, v1, v2, d0, d1, d2, p0, p1, p2, rfl, rfl, rfl, h0, h1, h2⟩ := trodAll_three hA
  obtain ⟨rfl, rfl⟩ := trodVars_none hV
  obtain ⟨a0, n0, c0, rfl⟩ := okWide_slice Try.underlying41 (hval 0 41 v0 rfl rfl)
  obtain ⟨i1, rfl⟩ := okWide_int Try.underlying3 (hval 1 3 v1 rfl rfl)
  obtain ⟨i2, rfl⟩ := okWide_int Try.underlying3 (hval 2 3 v2 rfl rfl)
  have k0 := h0
  have k1 := h1
  have k2 := h2
  have lt0 : ∀ x ∈ p0, x.block < W.heap.size := by obtain ⟨m, hm⟩ := k0; exact DataW.trod_lt m _ _ _ hm
  have lt1 : ∀ x ∈ p1, x.block < W.heap.size := by obtain ⟨m, hm⟩ := k1; exact DataW.trod_lt m _ _ _ hm
  have lt2 : ∀ x ∈ p2, x.block < W.heap.size := by obtain ⟨m, hm⟩ := k2; exact DataW.trod_lt m _ _ _ hm
  have hkk := of_decide_eq_true hk
  simp only [Rows.uptoBulkAll, List.append_nil] at hkk
  have walk : Calls Try.prog 5 #[.slice a0 n0 c0, .int .i64 i1, .int .i64 i2] W fun e w' => e = .returned (.bool true) ∧ Below W.heap.size W w' := by
    obtain ⟨fuel, hf⟩ := h0
    obtain ⟨fuel1, hf1⟩ := h1
    obtain ⟨fuel2, hf2⟩ := h2
    obtain ⟨t1, e1, _, w1⟩ := DataW.trod_int Try.underlying3 hf1
    obtain ⟨t2, e2, _, w2⟩ := DataW.trod_int Try.underlying3 hf2
    have e1' : i1 = t1 := by have e : [Value.int .i64 i1] = [Value.int .i64 t1] := e1; simpa using e
    have e2' : i2 = t2 := by have e : [Value.int .i64 i2] = [Value.int .i64 t2] := e2; simpa using e
    subst e1' e2'
    simp [Lit.wf, IntKind.min, IntKind.max, IntKind.signed, IntKind.bits] at w1 w2
    obtain ⟨ss, hI, hc, ha, hl⟩ := words_open0 hf
    exact words_walk a0 n0 c0 ss _ _ W hI hc ha (by omega) (by omega) (by omega) (by omega) (by omega)
  refine walk.mono fun e W' ⟨he, bel⟩ => ?_
  subst he
  exact ⟨_, rfl, _, _, _, [], _, [], hW', trodAll_mk1 (shut_bool Try.underlying4 _), trodAll_mk3 (Below.trod laidOut (by kernel_rfl) (of_decide_eq_true (by kernel_rfl)) k0 bel lt0) (Below.trod laidOut (by kernel_rfl) (of_decide_eq_true (by kernel_rfl)) k1 bel lt1) (Below.trod laidOut (by kernel_rfl) (of_decide_eq_true (by kernel_rfl)) k2 bel lt2), rfl, bel.frame _, fun h => by cases h⟩
end Go.Proofs.Ytcgpjmpppajfdaa.Ws
namespace Go.Proofs.Ytcgpjmpppajfdaa
open Go.ChangeShapes Go.WideShapes Go.ChangeAt Go.RowKit

theorem words_said : Rows.PileWordsUptoSaid :=
  OpenClaim.holds_of_cond 5 Try.f5 rfl rfl rfl rfl rfl rfl rfl ⟨rfl, rfl, rfl, rfl, rfl⟩ rfl rfl rfl rfl rfl (by kernel_rfl) Try.func5 (by kernel_rfl)
    (of_decide_eq_true (by kernel_rfl)) (by unfold Func.isWrapper; first | (rw [if_pos (by decide +kernel)]; kernel_rfl) | (rw [if_neg (by decide +kernel)]; exact ⟨rfl, rfl⟩))
    (fun os started H enc _ F => Ws.words_lifted os started H enc F)
#print axioms words_said
end Go.Proofs.Ytcgpjmpppajfdaa
