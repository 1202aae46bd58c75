/- What Unquote answers, and the walk of the reference's Unquote. -/
import Derived.Test.YtdnbkgbgpfmipaaDoorMeaning
namespace Go.Proofs.YtdnbkgbgpfmipaaDoor
open Go.RowKit Go.Lib

theorem bt_ext (s : ByteArray) (a e i : Nat) (h : a + i < e) (he : e ≤ s.size) : bt (s.extract a e) i = bt s (a + i) := by
  unfold bt
  rw [get!_lt _ i (by simp; omega), get!_lt s (a + i) (by omega), ByteArray.getElem_extract]
theorem formL_bd (n : Int) : ∀ x ∈ formL n, 0 ≤ x ∧ x ≤ 255 := by
  unfold formL
  by_cases hr : isRune n = true
  · have hq := (isRune_iff n).1 hr
    rw [if_pos hr]
    intro x hx
    repeat' split at hx
    all_goals simp only [List.mem_cons, List.mem_nil_iff, or_false] at hx
    all_goals omega
  · rw [if_neg hr]; intro x hx; cases hx

/-- A literal that closes at its end has no dangling backslash between its quotes. -/
theorem lit_rd (s : ByteArray) (q : Int) (hq : q ≠ 92) : ∀ (f p : Nat), litF s q true f (1 + p) = some s.size → rd (s.extract 1 (s.size - 1)) p = true
  | 0, _, h => by cases h
  | f + 1, p, h => by
    have hz : (s.extract 1 (s.size - 1)).size = s.size - 2 := by simp; omega
    have hle := litF_le s q true (f + 1) (1 + p) s.size h
    unfold litF at h
    rw [if_pos hle.1] at h
    by_cases h1 : bt s (1 + p) = q
    · rw [if_pos h1] at h
      simp at h
      exact rdF_end _ _ p (by omega)
    · rw [if_neg h1] at h
      by_cases h2 : bt s (1 + p) = 10
      · rw [if_pos ⟨rfl, h2⟩] at h; cases h
      · rw [if_neg (fun x => h2 x.2)] at h
        by_cases h3 : bt s (1 + p) = 92
        · rw [if_pos ⟨rfl, h3⟩] at h
          split at h
          · cases h
          · have l2 := litF_le s q true f _ s.size h
            have ih := lit_rd s q hq f (p + 2) (by rw [show 1 + (p + 2) = 1 + p + 2 by omega]; exact h)
            exact (rd_bs _ p (by omega) (by rw [bt_ext s 1 (s.size - 1) p (by omega) (by omega)]; exact h3)).2 ⟨by omega, ih⟩
        · rw [if_neg (fun x => h3 x.2)] at h
          have l2 := litF_le s q true f _ s.size h
          have ih := lit_rd s q hq f (p + 1) (by rw [show 1 + (p + 1) = 1 + p + 1 by omega]; exact h)
          rw [rd_plain _ p (by omega) (by rw [bt_ext s 1 (s.size - 1) p (by omega) (by omega)]; exact h3)]
          exact ih

theorem strCells_nums (xs : List Int) (h : ∀ x ∈ xs, 0 ≤ x ∧ x ≤ 255) : strCells (strOfNums xs) = bc xs := by
  unfold strCells bc
  rw [strOfNums_data, List.map_map]
  apply List.map_congr_left
  intro x hx
  have := h x hx
  have e : ((UInt8.ofNat x.toNat).toNat : Int) = x := by simp; omega
  show Value.int .u8 ((UInt8.ofNat x.toNat).toNat : Int) = _
  rw [e]
theorem append_str (w : World) (S : Nat) (v : Value) (l xs : List Int) (hx : ∀ x ∈ xs, 0 ≤ x ∧ x ≤ 255) (hS : S ≤ w.heap.size) (hn : l.length + xs.length ≤ 140737488355328) (o : w.ownsRow S 5 1 v l.length (bc l)) :
    ∃ v' w', (Builtin.append_ #[67, 9] 67 #[v, .string (strOfNums xs)]).run Tryd.prog w = .ok v' w' ∧ w'.ownsRow S 5 1 v' (l ++ xs).length (bc (l ++ xs)) ∧ Below S w w' := by
  obtain ⟨i0, hi, hz0, hz1, hz2⟩ := info_parts info5
  have hsz : (strOfNums xs).size = xs.length := strOfNums_size xs
  obtain ⟨v', w', r, o', g, _⟩ := run_append_own_string (P := Tryd.prog) w S 67 9 67 5 i0 Tryd.underlying67 Tryd.underlying9 hi hz0 hz1 hz2 v l.length (bc l) o (strOfNums xs) (by unfold maxLen; omega) (by omega) hS
  refine ⟨v', w', r, ?_, ?_⟩
  · rw [List.length_append, bc_app, ← strCells_nums xs hx, ← hsz]; exact o'
  · exact (Below.refl S w).grown g hS (fun k hk => (o.lt k hk).1)
theorem escS_bd (e : ByteArray) (q : Int) (xs : List Int) (c : Nat) (h : escS e q = some (xs, c)) : ∀ x ∈ xs, 0 ≤ x ∧ x ≤ 255 := by
  have hB : ∀ (p k : Nat) (base : Int), (base = 8 ∨ base = 16) → k ≤ 8 → byteS e p k base = some (xs, c) → ∀ x ∈ xs, 0 ≤ x ∧ x ≤ 255 := by
    intro p k base hb hk h
    unfold byteS at h
    split at h
    · rename_i n hn
      have := num_bd _ k base hb hk n hn
      split at h
      · simp only [Option.some.injEq, Prod.mk.injEq] at h
        obtain ⟨rfl, rfl⟩ := h
        intro x hx
        simp at hx
        omega
      · cases h
    · cases h
  have hR : ∀ k : Nat, runeS e k = some (xs, c) → ∀ x ∈ xs, 0 ≤ x ∧ x ≤ 255 := by
    intro k h
    unfold runeS at h
    split at h
    · rename_i n hn
      split at h
      · simp only [Option.some.injEq, Prod.mk.injEq] at h
        obtain ⟨rfl, rfl⟩ := h
        exact formL_bd n
      · cases h
    · cases h
  have hbd := bt_bd e 0
  have hid := idx7_bd (bt e 0)
  unfold escS at h
  split at h
  · simp only [Option.some.injEq, Prod.mk.injEq] at h
    obtain ⟨rfl, rfl⟩ := h
    intro x hx
    simp at hx
    omega
  · split at h
    · simp only [Option.some.injEq, Prod.mk.injEq] at h
      obtain ⟨rfl, rfl⟩ := h
      intro x hx
      simp at hx
      omega
    · split at h
      · exact hB _ _ _ (Or.inr rfl) (by omega) h
      · split at h
        · exact hR _ h
        · split at h
          · exact hR _ h
          · exact hB _ _ _ (Or.inl rfl) (by omega) h

/-- What Unquote answers of what the escapes mean. -/
def unqV (o : Option (List Int)) : ByteArray × Int := match o with | some l => if vld (strOfNums l) (strOfNums l).size 0 = true then (strOfNums l, 0) else (⟨#[]⟩, 13) | none => (⟨#[]⟩, 11)
/-- What Unquote answers. -/
def unqR (s : ByteArray) : ByteArray × Int :=
  if vld s s.size 0 = true then (if litZ s 0 = ((s.size : Int), 0) then (if bt s 0 = 96 then (s.extract 1 (s.size - 1), 0) else unqV (mn (s.extract 1 (s.size - 1)) (bt s 0) 0)) else (⟨#[]⟩, 10)) else (⟨#[]⟩, 4)

theorem lit_parts (s : ByteArray) (h : litZ s 0 = ((s.size : Int), 0)) : 2 ≤ s.size ∧ (bt s 0 = 34 ∨ bt s 0 = 39 ∨ bt s 0 = 96) ∧ litF s (bt s 0) (decide (bt s 0 ≠ 96)) s.size 1 = some s.size := by
  unfold litZ litR at h
  rw [if_pos (by omega)] at h
  simp only [Int.toNat_zero, Nat.zero_add] at h
  split at h
  · rename_i hc
    cases hl : litF s (bt s 0) (decide (bt s 0 ≠ 96)) s.size 1 with
    | none => rw [hl] at h; simp [litO] at h
    | some j =>
      rw [hl] at h
      simp [litO] at h
      have hj : j = s.size := by omega
      have hle := litF_le _ _ _ _ _ _ hl
      exact ⟨by omega, hc.2, by rw [hj]⟩
  · simp at h
theorem lit_body (s : ByteArray) (h : litZ s 0 = ((s.size : Int), 0)) (h9 : bt s 0 ≠ 96) : rd (s.extract 1 (s.size - 1)) 0 = true := by
  obtain ⟨_, h2, h3⟩ := lit_parts s h
  rw [show decide (bt s 0 ≠ 96) = true by simpa using h9] at h3
  exact lit_rd s (bt s 0) (by omega) s.size 0 h3

end Go.Proofs.YtdnbkgbgpfmipaaDoor
