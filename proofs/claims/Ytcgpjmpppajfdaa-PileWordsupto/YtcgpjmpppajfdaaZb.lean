
/- Words in order: those of one length, the first of them, two halves merged. -/
import Derived.Test.YtcgpjmpppajfdaaYq
namespace Go.Proofs.Ytcgpjmpppajfdaa.Ws
open Go.RowKit

/-- The key: a word's length. -/
abbrev KW (x : ByteArray) : Int := (x.size : Int)
abbrev AW : Wk → Wk → Bool := inO lsK
abbrev fW : Nat → Wk := fun _ => (⟨#[]⟩, 0)
/-- What Sorted answers. -/
def srt (xs : Nat → ByteArray) (n : Nat) : List ByteArray := outL AW n (inF AW fW xs n)
theorem srt_len (xs : Nat → ByteArray) (n : Nat) : (srt xs n).length = n := outL_len _ _ _
theorem srt_st (xs : Nat → ByteArray) (n : Nat) : ∃ R : List Wk, R.map (·.1) = srt xs n ∧ St KW (Rv.zs xs n) R := ⟨_, outR_map AW n _, sorted_st isK fW xs n⟩
theorem srt_le (xs : Nat → ByteArray) (n j : Nat) (h : j + 1 < n) : (lk (srt xs n) j).size ≤ (lk (srt xs n) (j + 1)).size := by
  obtain ⟨R, e, s⟩ := srt_st xs n
  have hl : R.length = n := by rw [← srt_len xs n, ← e]; simp
  have h1 := List.pairwise_iff_getElem.1 s.2 j (j + 1) (by omega) (by omega) (by omega)
  rw [lk_map e j (by omega), lk_map e (j + 1) (by omega)]
  unfold Lx KW at h1
  omega
/-- Those of one length, in the order in which they came. -/
theorem srt_of (xs : Nat → ByteArray) (n m : Nat) : (srt xs n).filter (fun x => x.size == m) = (il xs n).filter (fun x => x.size == m) := by
  obtain ⟨R, e, s⟩ := srt_st xs n
  have h1 : St KW ((Rv.zs xs n).filter (fun u => u.1.size == m)) (R.filter (fun u => u.1.size == m)) := ⟨s.1.filter _, s.2.filter _⟩
  have h2 : St KW ((Rv.zs xs n).filter (fun u => u.1.size == m)) ((Rv.zs xs n).filter (fun u => u.1.size == m)) := by
    refine ⟨List.Perm.refl _, ?_⟩
    have hu : Up ((Rv.zs xs n).filter (fun u => u.1.size == m)) := (Rv.zs_up xs n).filter _
    refine List.Pairwise.imp_of_mem (fun {a b} ha hb h => ?_) hu
    have ea := (List.mem_filter.1 ha).2
    have eb := (List.mem_filter.1 hb).2
    simp at ea eb
    unfold Lx KW
    have : a.2 < b.2 := h
    omega
  have h3 := h1.uniq h2 (Up.dst (List.Pairwise.filter _ (Rv.zs_up xs n)))
  rw [← e, ← Rv.zs_map, List.filter_map, List.filter_map]
  show (R.filter (fun u => u.1.size == m)).map _ = ((Rv.zs xs n).filter (fun u => u.1.size == m)).map _
  rw [h3]
/-- Two sorted lists merged. -/
theorem mr2 : ∀ (k : Nat) (R1 R2 : List Wk) (Q : Nat → List ByteArray), R1.length + R2.length = k → Srt KW R1 → Srt KW R2 → (∀ x ∈ R1, ∀ y ∈ R2, x.2 < y.2) → Q 0 = R1.map (·.1) → Q 1 = [] → Q 2 = R2.map (·.1) →
    ∃ M : List Wk, M.map (·.1) = Li.mrA false 3 Q ∧ M.Perm (R1 ++ R2) ∧ Srt KW M := by
  intro k
  induction k with
  | zero =>
    intro R1 R2 Q hk _ _ _ h0 h1 h2
    have e1 : R1 = [] := List.eq_nil_of_length_eq_zero (by omega)
    have e2 : R2 = [] := List.eq_nil_of_length_eq_zero (by omega)
    subst e1 e2
    have hb : Li.bst false Q 3 = none := by
      cases hb : Li.bst false Q 3 with
      | none => rfl
      | some b =>
        obtain ⟨hb1, hb2, _⟩ := Li.bst_some hb
        have : b = 0 ∨ b = 1 ∨ b = 2 := by omega
        rcases this with rfl | rfl | rfl
        · exact absurd h0 hb2
        · exact absurd h1 hb2
        · exact absurd h2 hb2
    exact ⟨[], (Li.mrA_none hb).symm, List.Perm.refl _, List.Pairwise.nil⟩
  | succ k ih =>
    intro R1 R2 Q hk s1 s2 hr h0 h1 h2
    cases hb : Li.bst false Q 3 with
    | none =>
      have z0 := Li.bst_none hb 0 (by omega)
      have z2 := Li.bst_none hb 2 (by omega)
      rw [h0] at z0
      rw [h2] at z2
      have e1 := List.map_eq_nil_iff.1 z0
      have e2 := List.map_eq_nil_iff.1 z2
      subst e1 e2
      simp at hk
    | some b =>
      obtain ⟨hb1, hb2, hb3⟩ := Li.bst_some hb
      have hm := (Li.mrA_some hb).1
      have hc : b = 0 ∨ b = 1 ∨ b = 2 := by omega
      rcases hc with rfl | rfl | rfl
      · cases R1 with
        | nil => exact absurd h0 hb2
        | cons x R1 =>
          have t1 := List.pairwise_cons.1 s1
          obtain ⟨M, em, pm, sm⟩ := ih R1 R2 (up Q 0 ((Q 0).drop 1)) (by simp at hk; omega) t1.2 s2 (fun a ha => hr a (List.mem_cons_of_mem _ ha)) (by rw [up_same, h0]; rfl) (by rw [up_other _ _ _ _ (by omega)]; exact h1) (by rw [up_other _ _ _ _ (by omega)]; exact h2)
          refine ⟨x :: M, ?_, List.Perm.cons x pm, List.pairwise_cons.2 ⟨fun y hy => ?_, sm⟩⟩
          · rw [hm, ← em, h0]; rfl
          · rcases List.mem_append.1 (pm.subset hy) with hy | hy
            · exact t1.1 y hy
            · have hne : Q 2 ≠ [] := fun e => by rw [h2] at e; rw [List.map_eq_nil_iff.1 e] at hy; cases hy
              have h5 := hb3 2 (by omega) hne
              cases R2 with
              | nil => cases hy
              | cons z R2 =>
                have t2 := List.pairwise_cons.1 s2
                have h6 : KW x.1 ≤ KW z.1 := by
                  have a1 : Li.KL false (Q 0) = KW x.1 := by rw [h0]; rfl
                  have a2 : Li.KL false (Q 2) = KW z.1 := by rw [h2]; rfl
                  rw [a1, a2] at h5
                  omega
                have h7 : KW z.1 ≤ KW y.1 := by
                  rcases List.mem_cons.1 hy with rfl | hy
                  · exact Int.le_refl _
                  · have := t2.1 y hy
                    unfold Lx at this
                    omega
                have h8 := hr x (List.mem_cons_self ..) y hy
                unfold Lx
                omega
      · exact absurd h1 hb2
      · cases R2 with
        | nil => exact absurd h2 hb2
        | cons z R2 =>
          have t2 := List.pairwise_cons.1 s2
          obtain ⟨M, em, pm, sm⟩ := ih R1 R2 (up Q 2 ((Q 2).drop 1)) (by simp at hk; omega) s1 t2.2 (fun a ha y hy => hr a ha y (List.mem_cons_of_mem _ hy)) (by rw [up_other _ _ _ _ (by omega)]; exact h0) (by rw [up_other _ _ _ _ (by omega)]; exact h1) (by rw [up_same, h2]; rfl)
          refine ⟨z :: M, ?_, (List.Perm.cons z pm).trans List.perm_middle.symm, List.pairwise_cons.2 ⟨fun y hy => ?_, sm⟩⟩
          · rw [hm, ← em, h2]; rfl
          · rcases List.mem_append.1 (pm.subset hy) with hy | hy
            · have hne : Q 0 ≠ [] := fun e => by rw [h0] at e; rw [List.map_eq_nil_iff.1 e] at hy; cases hy
              have h5 := hb3 0 (by omega) hne
              cases R1 with
              | nil => cases hy
              | cons x R1 =>
                have t1 := List.pairwise_cons.1 s1
                have h6 : KW z.1 < KW x.1 := by
                  have a1 : Li.KL false (Q 0) = KW x.1 := by rw [h0]; rfl
                  have a2 : Li.KL false (Q 2) = KW z.1 := by rw [h2]; rfl
                  rw [a1, a2] at h5
                  omega
                have h7 : KW x.1 ≤ KW y.1 := by
                  rcases List.mem_cons.1 hy with rfl | hy
                  · exact Int.le_refl _
                  · have := t1.1 y hy
                    unfold Lx at this
                    omega
                unfold Lx
                omega
            · exact t2.1 y hy
theorem zs_cut (xs : Nat → ByteArray) (m : Nat) : ∀ n, Rv.zs xs (m + n) = Rv.zs xs m ++ (Rv.zs (fun j => xs (m + j)) n).map (fun u => (u.1, u.2 + (m : Int)))
  | 0 => by simp [Rv.zs]
  | n + 1 => by
    rw [← Nat.add_assoc, Rv.zs_succ, zs_cut xs m n, Rv.zs_succ, List.map_append, ← List.append_assoc]
    congr 1
    simp
    omega
/-- Merging the sorted halves is sorting the whole. -/
theorem srt_cut (xs : Nat → ByteArray) (m n : Nat) (Q : Nat → List ByteArray) (h0 : Q 0 = srt xs m) (h1 : Q 1 = []) (h2 : Q 2 = srt (fun j => xs (m + j)) n) : Li.mrA false 3 Q = srt xs (m + n) := by
  obtain ⟨R1, e1, s1⟩ := srt_st xs m
  obtain ⟨R2, e2, s2⟩ := srt_st (fun j => xs (m + j)) n
  obtain ⟨R, e, s⟩ := srt_st xs (m + n)
  have hm2 : ∀ x ∈ R2, 0 ≤ x.2 := fun x hx => by
    obtain ⟨j, _, rfl⟩ := List.mem_map.1 (s2.1.subset hx)
    show (0 : Int) ≤ (j : Int)
    omega
  have hm1 : ∀ x ∈ R1, x.2 < (m : Int) := fun x hx => by
    obtain ⟨j, hj, rfl⟩ := List.mem_map.1 (s1.1.subset hx)
    have := List.mem_range.1 hj
    show (j : Int) < (m : Int)
    omega
  obtain ⟨M, em, pm, sm⟩ := mr2 _ R1 (R2.map (fun u => (u.1, u.2 + (m : Int)))) Q rfl s1.2 (by
    unfold Srt
    rw [List.pairwise_map]
    exact s2.2.imp (fun {a b} h => by unfold Lx at *; dsimp only; omega)) (fun x hx y hy => by
    obtain ⟨z, hz, rfl⟩ := List.mem_map.1 hy
    have a1 := hm1 x hx
    have a2 := hm2 z hz
    show x.2 < z.2 + (m : Int)
    omega) (h0.trans e1.symm) h1 (by rw [h2, ← e2, List.map_map]; rfl)
  have pz : M.Perm (Rv.zs xs (m + n)) := by
    rw [zs_cut]
    exact pm.trans (s1.1.append (s2.1.map _))
  have := St.uniq (K := KW) ⟨pz, sm⟩ s (Rv.zs_up xs (m + n)).dst
  rw [← em, this, e]
end Go.Proofs.Ytcgpjmpppajfdaa.Ws
/- sameWords, ofLength. -/
namespace Go.Proofs.Ytcgpjmpppajfdaa.Ws
open Go.RowKit

theorem bcellK {W W' : World} {p : Addr} {v : Value} (b : Below W.heap.size W W') (h : W.cell? p = some v) : W'.cell? p = some v := (Kp.of (M := fun _ => False) b).cell h id
theorem Iml.at {w : World} {a : Option Addr} {f : Nat → ByteArray} {n : Nat} (h : Iml w a f n) (j : Nat) (hj : j < n) : ∃ g o, a = some ⟨g, o, none⟩ ∧ w.cell? ⟨g, o + j, none⟩ = some (.string (f j)) := by
  rcases h with h | ⟨g, o, rfl, _, hat⟩
  · omega
  · exact ⟨g, o, rfl, hat j hj⟩
set_option maxHeartbeats 2000000 in
set_option maxRecDepth 100000 in
theorem same_true (a b : Option Addr) (c d n : Nat) (xs : Nat → ByteArray) (w : World) (ha : Iml w a xs n) (hb : Iml w b xs n) (hn : n ≤ 1152921504606846976) :
    Calls Try.prog 23 #[.slice a n c, .slice b n d] w fun r w' => r = .returned (.bool true) ∧ Below w.heap.size w w' := by
  have HA : Hid (Iml w a xs n) := ha
  have HB : Hid (Iml w b xs n) := hb
  obtain ⟨G, hG⟩ : ∃ G, G = w.heap.size := ⟨_, rfl⟩
  have HG : Hid (G = w.heap.size) := hG
  rw [← hG]
  clear ha hb hG
  go_enter Try.func23, Try.ntmps23
  go_wp2
  go_loopw [13, 5] (fun ivv _ w' => ∃ i : Nat, ivv = .int .i64 (i : Int) ∧ i ≤ n ∧ Hid (Below G w w')) (fun ivv _ _ => n - (RowKit.intOf ivv).toNat)
  case atStart => exact ⟨0, rfl, by omega, Below.refl _ _⟩
  case round =>
    obtain ⟨i, rfl, hi, hb⟩ := hrel
    by_cases hlt : i < n
    · have hii : (i : Int) < n := by omega
      obtain ⟨g1, o1, rfl, x0⟩ := HA.out.at i hlt
      obtain ⟨g2, o2, rfl, y0⟩ := HB.out.at i hlt
      have hb' : Below w.heap.size w wr := HG.out ▸ hb.out
      have e0 := bcellK hb' x0
      have e2 := bcellK hb' y0
      obtain ⟨x, hx⟩ : ∃ x, xs i = x := ⟨_, rfl⟩
      rw [hx] at e0 e2
      have HB2 : Hid (∀ m, Below G w (wr.drewN m)) := fun m => below_drewN hb.out m
      clear hx x0 y0 hb hb'
      go_wp2_with fail
      go_big_quiet (fail)
      have HB3 : Hid _ := HB2.out nq
      generalize wr.drewN nq = W6 at *
      go_wp2
      exact ⟨⟨i + 1, by go_num, by omega, HB3⟩, by simp [RowKit.intOf]; omega⟩
    · have hii : ¬ (i : Int) < n := by omega
      go_wp2
      go_ret
      exact ⟨rfl, hb.out⟩
/-- The words of that many bytes so far. -/
def ofL (m : Nat) (xs : Nat → ByteArray) (i : Nat) : List ByteArray := (il xs i).filter (fun x => x.size == m)
theorem ofL_le (m : Nat) (xs : Nat → ByteArray) (i : Nat) : (ofL m xs i).length ≤ i := by
  have := List.length_filter_le (fun x : ByteArray => x.size == m) (il xs i)
  simpa [il, ofL] using this
theorem ofL_yes {m : Nat} {xs : Nat → ByteArray} {i : Nat} (h : (xs i).size = m) : ofL m xs (i + 1) = ofL m xs i ++ [xs i] := by
  unfold ofL
  rw [il_succ, List.filter_append, List.filter_cons_of_pos (by simp [h])]
  rfl
theorem ofL_no {m : Nat} {xs : Nat → ByteArray} {i : Nat} (h : ¬ (xs i).size = m) : ofL m xs (i + 1) = ofL m xs i := by
  unfold ofL
  rw [il_succ, List.filter_append, List.filter_cons_of_neg (by simp [h])]
  simp
set_option maxHeartbeats 2000000 in
set_option maxRecDepth 100000 in
theorem ofLength_any (a : Option Addr) (c n m : Nat) (xs : Nat → ByteArray) (w : World) (hf : Iml w a xs n) (hl : n * 16 ≤ 140737488355328) :
    Calls Try.prog 24 #[.slice a n c, .int .i64 (m : Int)] w fun r w' => ∃ v, r = .returned v ∧ Ir w' w.heap.size v (ofL m xs n).length (lk (ofL m xs n)) ∧ Below w.heap.size w w' := by
  have HF : Hid (Iml w a xs n) := hf
  have HL : Hid (n * 16 ≤ 140737488355328) := hl
  have hnb : n ≤ 1152921504606846976 := by omega
  obtain ⟨G, hG⟩ : ∃ G, G = w.heap.size := ⟨_, rfl⟩
  have HG : Hid (G = w.heap.size) := hG
  rw [← hG]
  clear hf hG hl
  go_enter Try.func24, Try.ntmps24
  go_wp2
  go_loopw [5, 10] (fun u ivv w' => ∃ (i : Nat) (ua : Option Addr) (ul uc : Nat), ivv = .int .i64 (i : Int) ∧ i ≤ n ∧ u = .slice ua ul uc ∧ Hid (Ir w' G (.slice ua ul uc) (ofL m xs i).length (lk (ofL m xs i))) ∧ Hid (Below G w w')) (fun _ ivv _ => n - (RowKit.intOf ivv).toNat)
  case atStart => exact ⟨0, none, 0, 0, rfl, by omega, rfl, World.ownsRow_nil _ _ _ _, Below.refl _ _⟩
  case round =>
    obtain ⟨i, ua, ul, uc, rfl, hi, rfl, hr, hb⟩ := hrel
    by_cases hlt : i < n
    · have hii : (i : Int) < n := by omega
      have HI : Hid (i + 1 ≤ n) := hlt
      obtain ⟨g1, o1, rfl, x0⟩ := HF.out.at i hlt
      have hb' : Below w.heap.size w wr := HG.out ▸ hb.out
      have e0 := bcellK hb' x0
      have hGw : G ≤ wr.heap.size := by rw [HG.out]; exact hb'.size
      by_cases hm : (xs i).size = m
      · have HS : Hid (ofL m xs (i + 1) = ofL m xs i ++ [xs i]) := ofL_yes hm
        have hle := ofL_le m xs i
        obtain ⟨g3, c3, w3, r3, o3, k3, h3⟩ := append_i wr G _ _ (lk (ofL m xs i)) (xs i) hGw (by have := HL.out; omega) hr.out
        have HO : Hid (Ir w3 G (.slice (some ⟨g3, 0, none⟩) ((ofL m xs i).length + 1) c3) (ofL m xs (i + 1)).length (lk (ofL m xs (i + 1)))) := by
          show Ir _ _ _ _ _
          rw [HS.out, show (ofL m xs i ++ [xs i]).length = (ofL m xs i).length + 1 by simp]
          exact o3.congr (lk_push _ _)
        have HB3 : Hid (Below G w w3) := hb.out.trans (k3.below hGw (fun j hj e => by have := (World.ownsRow.lt hr.out j e).1; omega))
        obtain ⟨x, hx⟩ : ∃ x, xs i = x := ⟨_, rfl⟩
        rw [hx] at e0 hm r3
        have hmi : (x.size : Int) = (m : Int) := by omega
        clear hx x0 hb hb' hr o3 k3 h3 HS
        generalize (ofL m xs i).length = L at *
        go_wp2_with (first | (at_builtin; refine wpList_append_run rfl (.tmp 18) (.tmp 20) 41 41 rfl _ _ rfl rfl r3 ?_))
        exact ⟨⟨i + 1, _, _, _, by go_num, HI.out, rfl, HO, HB3⟩, by simp [RowKit.intOf]; omega⟩
      · have HO : Hid (Ir wr G (.slice ua ul uc) (ofL m xs (i + 1)).length (lk (ofL m xs (i + 1)))) := by rw [ofL_no hm]; exact hr
        obtain ⟨x, hx⟩ : ∃ x, xs i = x := ⟨_, rfl⟩
        rw [hx] at e0 hm
        have hmi : ¬ (x.size : Int) = (m : Int) := by omega
        clear hx x0 hb' hr
        go_wp2
        exact ⟨⟨i + 1, _, _, _, by go_num, HI.out, rfl, HO, hb⟩, by simp [RowKit.intOf]; omega⟩
    · have hii : ¬ (i : Int) < n := by omega
      have hin : i = n := by omega
      subst hin
      have HO : Hid _ := hr
      go_wp2
      go_ret
      exact ⟨_, rfl, hr.out, hb.out⟩
end Go.Proofs.Ytcgpjmpppajfdaa.Ws
namespace Go.Proofs.Ytcgpjmpppajfdaa.Ws
open Go.RowKit

/-- place -/
def plc (i : Int) (n : Nat) : Nat := ((if i < 0 then -(i + 1) else i).tmod n).toNat
theorem plc_lt (i : Int) (n : Nat) (h : 0 < n) : plc i n < n := by
  unfold plc
  have : 0 ≤ (if i < 0 then -(i + 1) else i) := by split <;> omega
  generalize (if i < 0 then -(i + 1) else i) = z at *
  rw [Int.tmod_eq_emod_of_nonneg this]
  have h1 := Int.emod_lt_of_pos z (show (0 : Int) < n by omega)
  have h2 := Int.emod_nonneg z (show (n : Int) ≠ 0 by omega)
  omega
theorem place_any (i : Int) (n : Nat) (w : World) (h1 : -9223372036854775808 ≤ i) (h2 : i ≤ 9223372036854775807) (hn : 0 < n) (hn2 : n ≤ 1048576) :
    Calls Try.prog 26 #[.int .i64 i, .int .i64 (n : Int)] w fun r w' => r = .returned (.int .i64 (plc i n : Nat)) ∧ w' = w := by
  have hz : ((plc i n : Nat) : Int) = (if i < 0 then -(i + 1) else i).tmod n := by
    unfold plc
    have : 0 ≤ (if i < 0 then -(i + 1) else i) := by split <;> omega
    generalize (if i < 0 then -(i + 1) else i) = z at *
    rw [Int.tmod_eq_emod_of_nonneg this]
    have h2 := Int.emod_nonneg z (show (n : Int) ≠ 0 by omega)
    omega
  rw [hz]
  have hni : (0 : Int) < n := by omega
  by_cases hlt : i < 0
  · rw [if_pos hlt]
    clear hz
    go_enter Try.func26, Try.ntmps26
    go_wp2
    go_ret
    exact ⟨by rw [Int.neg_tmod]; rfl, rfl⟩
  · rw [if_neg hlt]
    clear hz
    go_enter Try.func26, Try.ntmps26
    go_wp2
    go_ret
    exact ⟨by rw [Int.tmod_eq_emod_of_nonneg (by omega)]; rfl, rfl⟩
end Go.Proofs.Ytcgpjmpppajfdaa.Ws
