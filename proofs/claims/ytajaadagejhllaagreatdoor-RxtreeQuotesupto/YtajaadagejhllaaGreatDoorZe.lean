/- Quoted texts: their runes. -/
import Derived.Test.YtajaadagejhllaaGreatDoorBs33
import Derived.Test.YtajaadagejhllaaGreatDoorZc
namespace Go.Proofs.YtajaadagejhllaaGreatDoor
open Go.RowKit Go.Lib

/-- Does a rune mean something else than itself? -/
def spR (r : Int) : Bool := [92, 46, 43, 42, 63, 40, 41, 124, 91, 93, 123, 125, 94, 36].contains r
/-- How a rune is quoted. -/
def qr (r : Int) : List Int := if spR r = true then [92, r] else [r]
def psQ : List Int → Nat → Nat
  | [], _ => 0
  | _ :: _, 0 => 0
  | x :: xs, i + 1 => (qr x).length + psQ xs i
theorem psQ_zero (xs : List Int) : psQ xs 0 = 0 := by cases xs <;> rfl
theorem psQ_step : ∀ (xs : List Int) (i : Nat), i < xs.length → psQ xs (i + 1) = psQ xs i + (qr (xs.getD i 0)).length
  | [], i, h => by simp at h
  | x :: xs, 0, _ => by
    show (qr x).length + psQ xs 0 = 0 + (qr x).length
    rw [psQ_zero]
    omega
  | x :: xs, i + 1, h => by
    have := psQ_step xs i (by simpa using h)
    show (qr x).length + psQ xs (i + 1) = (qr x).length + psQ xs i + (qr (xs.getD i 0)).length
    omega
theorem psQ_end : ∀ (xs : List Int), psQ xs xs.length = (xs.flatMap qr).length
  | [] => rfl
  | x :: xs => by
    show (qr x).length + psQ xs xs.length = _
    rw [psQ_end xs, List.flatMap_cons, List.length_append]
theorem psQ_get : ∀ (xs : List Int) (i d : Nat), i < xs.length → d < (qr (xs.getD i 0)).length → (xs.flatMap qr)[psQ xs i + d]? = (qr (xs.getD i 0))[d]?
  | [], i, d, h, _ => by simp at h
  | x :: xs, 0, d, _, hd => by
    have hd' : d < (qr x).length := hd
    show (List.flatMap qr (x :: xs))[0 + d]? = (qr x)[d]?
    rw [Nat.zero_add, List.flatMap_cons, List.getElem?_append_left hd']
  | x :: xs, i + 1, d, h, hd => by
    have := psQ_get xs i d (by simpa using h) hd
    show (List.flatMap qr (x :: xs))[(qr x).length + psQ xs i + d]? = (qr (xs.getD i 0))[d]?
    rw [List.flatMap_cons, List.getElem?_append_right (by omega), ← this]
    congr 1
    omega
theorem ahR_q {xs : List Int} {i d : Nat} (h : i < xs.length) (hd : d < (qr (xs.getD i 0)).length) : ahR (xs.flatMap qr) (psQ xs i + d) = (qr (xs.getD i 0)).getD d (-1) := by
  unfold ahR
  rw [List.getD_eq_getElem?_getD, List.getD_eq_getElem?_getD, psQ_get xs i d h hd]
theorem ahR_e (xs : List Int) : ahR (xs.flatMap qr) (psQ xs xs.length) = -1 := by
  rw [psQ_end]
  exact ahR_out (by omega)
/-! ### The bytes -/
theorem sp_byte (b : UInt8) : (0 ≤ Lib.indexByte spQ.data.toList b) ↔ spR (b.toNat : Int) = true := by
  have h : (List.range 256).all (fun n => decide (0 ≤ Lib.indexByte spQ.data.toList (UInt8.ofNat n)) == spR (n : Int)) = true := by kernel_rfl
  have h2 := List.all_eq_true.1 h b.toNat (List.mem_range.2 b.toNat_lt)
  rw [beq_iff_eq] at h2
  rw [show UInt8.ofNat b.toNat = b by simp] at h2
  rw [← h2]
  simp
theorem sp_lt {r : Int} (h : spR r = true) : 33 ≤ r ∧ r ≤ 125 := by
  unfold spR at h
  simp at h
  omega
theorem qtB_sp (b : UInt8) (h : spR (b.toNat : Int) = true) : qtB b = ⟨#[92, b]⟩ := by
  unfold qtB
  rw [if_pos ((sp_byte b).2 h)]
theorem qtB_no (b : UInt8) (h : ¬ spR (b.toNat : Int) = true) : qtB b = ⟨#[b]⟩ := by
  unfold qtB
  rw [if_neg (fun x => h ((sp_byte b).1 x))]
theorem quB_pre (s : ByteArray) (k : Nat) : ∀ n, k ≤ n → ∃ T, quB s n = quB s k ++ T
  | 0, h => ⟨⟨#[]⟩, by obtain rfl : k = 0 := by omega
                       rfl⟩
  | n + 1, h => by
    by_cases e : k = n + 1
    · subst e
      exact ⟨⟨#[]⟩, by simp [ByteArray.ext_iff]⟩
    · obtain ⟨T, hT⟩ := quB_pre s k n (by omega)
      exact ⟨T ++ qtB (s.get! n), by rw [quB, hT, ByteArray.append_assoc]⟩
theorem quB_get (s : ByteArray) (k n d : Nat) (h : k < n) (hd : d < (qtB (s.get! k)).size) : (quB s n).get! ((quB s k).size + d) = (qtB (s.get! k)).get! d ∧ (quB s k).size + (qtB (s.get! k)).size ≤ (quB s n).size := by
  obtain ⟨T, hT⟩ := quB_pre s (k + 1) n h
  rw [hT, quB, ByteArray.append_assoc]
  refine ⟨?_, by first | (simp; done) | (simp; omega)⟩
  rw [get!_right, get!_left _ _ _ hd]
theorem quB_step (s : ByteArray) (k : Nat) : (quB s (k + 1)).size = (quB s k).size + (qtB (s.get! k)).size := by
  rw [quB, ByteArray.size_append]
/-! ### Forms -/
set_option maxHeartbeats 4000000 in
theorem decN_one (n b0 b1 b2 b3 : Nat) (hg : ¬ ((decodeN n b0 b1 b2 b3).1 = 65533 ∧ (decodeN n b0 b1 b2 b3).2 = 1)) (h1 : (decodeN n b0 b1 b2 b3).2 = 1) : b0 < 128 ∧ (decodeN n b0 b1 b2 b3).1 = b0 := by
  revert hg h1
  unfold decodeN
  repeat' split
  all_goals simp
  all_goals omega
set_option maxHeartbeats 4000000 in
theorem decN_more (n b0 b1 b2 b3 : Nat) (h1 : 1 < (decodeN n b0 b1 b2 b3).2) : 128 ≤ b0 ∧ 128 ≤ (decodeN n b0 b1 b2 b3).1 := by
  revert h1
  unfold decodeN
  repeat' split
  all_goals simp
  all_goals omega
theorem dec_one {s : ByteArray} {i : Nat} (hg : good s i) (h1 : (Utf8.decode s i).2 = 1) : (s.get! i).toNat < 128 ∧ (Utf8.decode s i).1 = (s.get! i).toNat := by
  unfold good at hg
  rw [decode_at] at hg h1 ⊢
  exact decN_one _ _ _ _ _ hg h1
theorem dec_more {s : ByteArray} {i : Nat} (hg : good s i) (h1 : 1 < (Utf8.decode s i).2) : 128 ≤ (Utf8.decode s i).1 ∧ ∀ d, d < (Utf8.decode s i).2 → 128 ≤ (s.get! (i + d)).toNat := by
  have hw := decode_width s i
  unfold good at hg
  rw [decode_at s i] at hg h1 hw ⊢
  obtain ⟨c1, c2, c3⟩ := decN_cont _ _ _ _ _ hg
  obtain ⟨m1, m2⟩ := decN_more _ _ _ _ _ h1
  refine ⟨m2, fun d hd => ?_⟩
  match d, hd with
  | 0, _ => exact m1
  | 1, hd => have := c1 hd; omega
  | 2, hd => have := c2 hd; omega
  | 3, hd => have := c3 hd; omega
  | d + 4, hd => omega
theorem no_sp {n : Nat} (h : 128 ≤ n) : ¬ spR (n : Int) = true := fun x => by have := sp_lt x; omega
/-- A form that is not quoted, behind what is quoted ahead of it. -/
theorem qt_form {s : ByteArray} {i n : Nat} (hi : i < s.size) (hn : n = s.size) (hg : good s i) (hns : ¬ ((Utf8.decode s i).2 = 1 ∧ spR ((s.get! i).toNat : Int) = true)) :
    (quB s (i + (Utf8.decode s i).2)).size = (quB s i).size + (Utf8.decode s i).2 ∧ Utf8.decode (quB s n) (quB s i).size = Utf8.decode s i ∧ ¬ spR ((Utf8.decode s i).1 : Int) = true ∧ (quB s i).size + (Utf8.decode s i).2 ≤ (quB s n).size := by
  subst hn
  have hw := decode_width s i
  have hz := dec_size s i hi
  have hb : ∀ d, d < (Utf8.decode s i).2 → ¬ spR ((s.get! (i + d)).toNat : Int) = true := fun d hd => by
    by_cases h1 : (Utf8.decode s i).2 = 1
    · obtain rfl : d = 0 := by omega
      exact fun x => hns ⟨h1, x⟩
    · exact no_sp ((dec_more hg (by omega)).2 d hd)
  have hs : ∀ d, d ≤ (Utf8.decode s i).2 → (quB s (i + d)).size = (quB s i).size + d := by
    intro d
    induction d with
    | zero => intro _; rfl
    | succ d ih =>
      intro hd
      rw [show i + (d + 1) = i + d + 1 by omega, quB_step, ih (by omega), qtB_no _ (hb d (by omega))]
      rfl
  have hle : (quB s i).size + (Utf8.decode s i).2 ≤ (quB s s.size).size := by
    obtain ⟨T, hT⟩ := quB_pre s (i + (Utf8.decode s i).2) s.size hz
    rw [hT, ByteArray.size_append, hs _ (Nat.le_refl _)]
    omega
  refine ⟨hs _ (Nat.le_refl _), decode_same s (quB s s.size) i (quB s i).size hg hle (fun d hd => ?_), ?_, hle⟩
  · have h2 := (quB_get s (i + d) s.size 0 (by omega) (by rw [qtB_no _ (hb d hd)]; exact Nat.one_pos)).1
    rw [hs d (by omega), qtB_no _ (hb d hd), Nat.add_zero] at h2
    exact h2
  · by_cases h1 : (Utf8.decode s i).2 = 1
    · rw [(dec_one hg h1).2]
      exact hb 0 (by omega)
    · exact no_sp (dec_more hg (by omega)).1
theorem dec_ascii (s : ByteArray) (i : Nat) (h : (s.get! i).toNat < 128) : Utf8.decode s i = ((s.get! i).toNat, 1) := by
  rw [decode_at]
  unfold decodeN
  rw [if_pos h]
/-- A sign that is quoted. -/
theorem qt_sign {s : ByteArray} {i n : Nat} (hi : i < s.size) (hn : n = s.size) (hsp : spR ((s.get! i).toNat : Int) = true) :
    (quB s (i + 1)).size = (quB s i).size + 2 ∧ Utf8.decode (quB s n) (quB s i).size = (92, 1) ∧ Utf8.decode (quB s n) ((quB s i).size + 1) = ((s.get! i).toNat, 1) ∧ (quB s i).size + 2 ≤ (quB s n).size := by
  subst hn
  have hq := qtB_sp _ hsp
  have h0 := quB_get s i s.size 0 hi (by rw [hq]; exact Nat.two_pos)
  have h1 := quB_get s i s.size 1 hi (by rw [hq]; exact Nat.lt_succ_self 1)
  rw [hq] at h0 h1
  have hb := sp_lt hsp
  rw [Nat.add_zero] at h0
  refine ⟨by rw [quB_step, hq]; rfl, ?_, ?_, h1.2⟩
  · rw [dec_ascii _ _ (by rw [h0.1]; show (92 : UInt8).toNat < 128; decide), h0.1]
    rfl
  · rw [dec_ascii _ _ (by rw [h1.1]; show (s.get! i).toNat < 128; omega), h1.1]
    rfl
theorem qt_all (s : ByteArray) : ∀ (f i : Nat), i ≤ s.size → s.size ≤ i + f → vld s f i = true → ∀ g, (quB s s.size).size ≤ (quB s i).size + g →
    vld (quB s s.size) g (quB s i).size = true ∧ rns (quB s s.size) g (quB s i).size = (rns s f i).flatMap qr := by
  intro f
  induction f with
  | zero =>
    intro i hi hf _ g _
    obtain rfl : i = s.size := by omega
    exact ⟨vld_end _ _ _ (Nat.lt_irrefl _), by rw [rns_end _ _ _ (Nat.lt_irrefl _)]; rfl⟩
  | succ f ih =>
    intro i hi hf hv g hg
    by_cases h : i < s.size
    · obtain ⟨hgd, hv'⟩ := (vld_step s f i h).1 hv
      have hw := decode_width s i
      have hz := dec_size s i h
      by_cases hns : (Utf8.decode s i).2 = 1 ∧ spR ((s.get! i).toNat : Int) = true
      · obtain ⟨hk, hsp⟩ := hns
        obtain ⟨e1, e2, e3, e4⟩ := qt_sign h rfl hsp
        rw [hk] at hv'
        obtain ⟨g', rfl⟩ : ∃ g', g = g' + 2 := ⟨g - 2, by omega⟩
        have := ih (i + 1) (by omega) (by omega) hv' g' (by omega)
        rw [e1] at this
        have hj : (quB s i).size < (quB s s.size).size := by omega
        have hj1 : (quB s i).size + 1 < (quB s s.size).size := by omega
        have g1 : good (quB s s.size) (quB s i).size := by unfold good; rw [e2]; decide
        have g2 : good (quB s s.size) ((quB s i).size + 1) := by unfold good; rw [e3]; have := sp_lt hsp; simp; omega
        refine ⟨(vld_step _ (g' + 1) _ hj).2 ⟨g1, ?_⟩, ?_⟩
        · rw [e2]
          refine (vld_step _ g' _ hj1).2 ⟨g2, ?_⟩
          rw [e3]
          exact this.1
        · have hr : ((Utf8.decode s i).1 : Int) = ((s.get! i).toNat : Int) := by rw [(dec_one hgd hk).2]
          rw [rns, if_pos hj, e2, rns, if_pos hj1, e3, rns, if_pos h, List.flatMap_cons, hk, ← this.2, hr]
          unfold qr
          rw [if_pos hsp]
          rfl
      · obtain ⟨e1, e2, e3, e4⟩ := qt_form h rfl hgd hns
        obtain ⟨g', rfl⟩ : ∃ g', g = g' + 1 := ⟨g - 1, by omega⟩
        have := ih (i + (Utf8.decode s i).2) (by omega) (by omega) hv' g' (by omega)
        rw [e1] at this
        have hj : (quB s i).size < (quB s s.size).size := by omega
        have g1 : good (quB s s.size) (quB s i).size := by unfold good at hgd ⊢; rw [e2]; exact hgd
        refine ⟨(vld_step _ g' _ hj).2 ⟨g1, by rw [e2]; exact this.1⟩, ?_⟩
        rw [rns, if_pos hj, e2, rns, if_pos h, List.flatMap_cons, ← this.2]
        unfold qr
        rw [if_neg e3]
        rfl
    · obtain rfl : i = s.size := by omega
      exact ⟨vld_end _ _ _ (Nat.lt_irrefl _), by rw [rns_end _ _ _ (Nat.lt_irrefl _), rns_end _ _ _ (Nat.lt_irrefl _)]; rfl⟩
/-- The runes of a quoted text. -/
theorem quoted {s : ByteArray} (hv : vld s s.size 0 = true) : vld (quB s s.size) (quB s s.size).size 0 = true ∧ rns (quB s s.size) (quB s s.size).size 0 = (rns s s.size 0).flatMap qr := by
  have := qt_all s s.size 0 (Nat.zero_le _) (by omega) hv (quB s s.size).size (by omega)
  exact this
end Go.Proofs.YtajaadagejhllaaGreatDoor
