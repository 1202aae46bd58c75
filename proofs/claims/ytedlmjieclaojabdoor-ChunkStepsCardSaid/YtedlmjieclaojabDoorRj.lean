/- The reference: Pack. -/
import Derived.Test.YtedlmjieclaojabDoorRi
import Derived.Test.YtedlmjieclaojabDoorFc
namespace Go.Proofs.YtedlmjieclaojabDoor
open Go.RowKit

theorem gr_nil (Q : Nat) : gr (fb []) 8 Q = List.replicate Q 0 := by
  unfold gr
  rw [List.eq_replicate_iff]
  refine ⟨by simp, fun x hx => ?_⟩
  obtain ⟨i, _, rfl⟩ := List.mem_map.1 hx
  rw [bv_zero _ _ _ (fun j _ _ => fb_out [] j (Nat.zero_le _))]
  rfl
theorem make_z (w : World) (n : Nat) (hn : n ≤ 140737488355328) : ∃ w', (Instr.makeSlice 38 (.int .i64 (n : Nat)) (.int .i64 (n : Nat))).run Tryd.prog w = .ok (.slice (some ⟨w.heap.size, 0, none⟩) n n) w' ∧ w'.ownsRow w.heap.size 5 1 (.slice (some ⟨w.heap.size, 0, none⟩) n n) n (bc (gr (fb []) 8 n)) ∧ Below w.heap.size w w' := by
  obtain ⟨i0, hi, hz0, hz1, hz2⟩ := info_parts info5
  obtain ⟨w2, r2, o2, g2⟩ := run_make_full (P := Tryd.prog) w w.heap.size 38 5 i0 _ 1 Tryd.underlying38 hi hz0 hz1 .i64 .i64 n (by rw [hz2]; omega) (by unfold maxLen; omega) (Nat.le_refl _)
  refine ⟨w2, r2, ?_, (Below.refl _ _).grown g2 (Nat.le_refl _) (fun k hk => by cases hk)⟩
  have e : (madeCells (Value.int .u8 0).cells (n * 1)).toList = bc (gr (fb []) 8 n) := by
    rw [Nat.mul_one, gr_nil]
    show (madeCells #[Value.int .u8 0] n).toList = _
    rw [toList_madeCells_one]
    simp [bc]
  rw [e] at o2
  exact o2
/-- One bit more in the bytes. -/
theorem bit_put (L : List Int) (hL : Bin L) (i Q : Nat) (hi : i < L.length) :
    gr (fb (L.take (i + 1))) 8 Q = (gr (fb (L.take i)) 8 Q).set (i / 8) ((bv (fb (L.take i)) (8 * (i / 8)) 8 + fb L i * 2 ^ (7 - i % 8) : Nat) : Int) := by
  have hlen : (L.take i).length = i := by rw [List.length_take]; omega
  have hb := (hL i).1
  have hg := (hL i).2
  have e : L.take (i + 1) = L.take i ++ nb (fb L i) 1 := by
    rw [List.take_add_one, List.getElem?_eq_getElem hi]
    congr 1
    rw [List.getD, List.getElem?_eq_getElem hi] at hg
    have h2 : L[i] = (fb L i : Int) := by simpa using hg
    show [L[i]] = _
    rw [h2]
    simp [nb]
    omega
  have hm := Nat.mod_lt i (show 0 < 8 by decide)
  rw [e, put_byte (L.take i) (fb L i) 1 Q (by rw [hlen]; omega), hlen, show 8 - i % 8 - 1 = 7 - i % 8 by omega, Nat.pow_one, Nat.mod_eq_of_lt hb]
theorem bit_or (L : List Int) (hL : Bin L) (i : Nat) (hi : i < L.length) :
    bits BinOp.or IntKind.u8 ((bv (fb (L.take i)) (8 * (i / 8)) 8 : Nat) : Int) ((fb L i * 2 ^ (7 - i % 8) : Nat) : Int) = ((bv (fb (L.take i)) (8 * (i / 8)) 8 + fb L i * 2 ^ (7 - i % 8) : Nat) : Int) := by
  have hlen : (L.take i).length = i := by rw [List.length_take]; omega
  have hbt : Bin (L.take i) := fun j => by
    by_cases hj : j < i
    · have := hL j
      unfold fb at this ⊢
      rw [List.getD, List.getElem?_take_of_lt hj, ← List.getD]
      exact this
    · unfold fb
      rw [List.getD, List.getElem?_eq_none (by omega)]
      exact ⟨by decide, rfl⟩
  obtain ⟨h, e1, e2⟩ := byte_room (L.take i) hbt
  rw [hlen] at e1 e2
  have hm := Nat.mod_lt i (show 0 < 8 by decide)
  have hb := (hL i).1
  have hx : fb L i * 2 ^ (7 - i % 8) < 2 ^ (8 - i % 8) := by
    rw [show 8 - i % 8 = (7 - i % 8) + 1 by omega, Nat.pow_succ, Nat.mul_comm _ 2]
    exact Nat.mul_lt_mul_of_pos_right hb (Nat.pow_pos (by decide))
  rw [e1] at e2 ⊢
  exact byte_or h _ (8 - i % 8) (by omega) e2 hx
set_option maxHeartbeats 4000000 in
set_option maxRecDepth 100000 in
theorem rpack_any (a : Option Addr) (c : Nat) (l : List Smp) (w : World) (hm : Sm w a l) (hok : ∀ x ∈ l, Sok x) (hl : l.length ≤ 140737488355328) :
    Calls Tryd.prog 9 #[.slice a l.length c] w (PkR l w) := by
  have HM : Hid (Sm w a l) := hm
  have HOK : Hid (∀ x ∈ l, Sok x) := hok
  obtain ⟨n, hn⟩ : ∃ n, n = l.length := ⟨_, rfl⟩
  have HN : Hid (n = l.length) := hn
  have KR : Hid (n ≤ 100000 → ∀ W, Below w.heap.size w W → Calls Tryd.prog 25 #[.slice a n c] W fun e w' => ∃ v', e = .returned v' ∧ Rw W.heap.size w' v' (frm l) ∧ Below W.heap.size W w') := fun h W hW => by
    rw [hn]
    exact row_any a c l W (HM.out.below hW) HOK.out (by omega)
  rw [← hn] at hl ⊢
  have hni : (n : Int) ≤ 140737488355328 := by omega
  clear hm hok hn
  by_cases hbig : 100000 < n
  · have hb : (100000 : Int) < (n : Int) := by omega
    have he : pkE l = 1 := by unfold pkE; rw [if_pos (by have := HN.out; omega)]
    have HR : Hid (PkR l w (.returned (.tuple #[.slice none 0 0, .int .i64 1])) w) := by
      have := PkR.no (l := l) (Below.refl w.heap.size w) (by rw [he]; decide)
      rw [he] at this
      exact this
    clear he KR
    go_enter Tryd.func9, Tryd.ntmps9
    go_wp2
    go_ret2
    exact HR.out
  · have hb : ¬ (100000 : Int) < (n : Int) := by omega
    have HNO : Hid (∀ w', Below w.heap.size w w' → rsB l = false → PkR l w (.returned (.tuple #[.slice none 0 0, .int .i64 170])) w') := fun w' b h => by
      have he : pkE l = 170 := by unfold pkE; rw [if_neg (by have := HN.out; omega), if_neg (by rw [h]; decide)]
      have := PkR.no (l := l) b (by rw [he]; decide)
      rw [he] at this
      exact this
    have HYES : Hid (rsB l = true → ∀ (G c : Nat) (w' : World) (Q : Nat), Below w.heap.size w w' → Q = (pk (frm l)).length → w'.ownsRow w.heap.size 5 1 (.slice (some ⟨G, 0, none⟩) Q c) Q (bc (pk (frm l))) → PkR l w (.returned (.tuple #[.slice (some ⟨G, 0, none⟩) Q c, .int .i64 0])) w') := fun h G c w' Q b hQ o => by
      have he : pkE l = 0 := by unfold pkE; rw [if_neg (by have := HN.out; omega), if_pos h]
      have hB : pkB l = pk (frm l) := by unfold pkB; rw [if_pos he]
      refine ⟨_, by rw [he], ?_, b⟩
      rw [hB, ← hQ]; exact o
    have HLEN : Hid ((frm l).length ≤ 17000000 ∧ 17 ≤ (frm l).length ∧ Bin (frm l)) := by
      have := frm_len l HOK.out (by have := HN.out; omega) l.length l.length
      rw [List.take_of_length_le (Nat.le_refl _)] at this
      exact ⟨this, by unfold frm; rw [List.length_append, nb_len]; omega, bin_frm l⟩
    have KR2 : Hid (∀ W, Below w.heap.size w W → Calls Tryd.prog 25 #[.slice a n c] W fun e w' => ∃ v', e = .returned v' ∧ Rw W.heap.size w' v' (frm l) ∧ Below W.heap.size W w') := KR.out (by omega)
    clear KR
    go_enter Tryd.func9, Tryd.ntmps9
    go_wp2_with fail
    go_loopw [4] (fun iv w' => ∃ i : Nat, iv = .int .i64 (i : Nat) ∧ 1 ≤ i ∧ i ≤ n + 1 ∧ Hid (rsB (l.take i) = true) ∧ Hid (Below w.heap.size w w')) (fun iv _ => n + 1 - (RowKit.intOf iv).toNat)
    case atStart => exact ⟨1, rfl, Nat.le_refl _, by omega, rs_one l, Below.refl _ _⟩
    case round =>
      obtain ⟨i, rfl, hi1, hi2, hr, hbw⟩ := hrel
      by_cases hlt : i < n
      · have hii : (i : Int) < (n : Int) := by omega
        obtain ⟨j, hj⟩ : ∃ j, i = j + 1 := ⟨i - 1, by omega⟩
        obtain ⟨x, hx⟩ : ∃ x, l[j + 1]? = some x := ⟨l[j + 1]'(by have := HN.out; omega), List.getElem?_eq_getElem _⟩
        obtain ⟨y, hy⟩ : ∃ y, l[j]? = some y := ⟨l[j]'(by have := HN.out; omega), List.getElem?_eq_getElem _⟩
        obtain ⟨g, o, rfl, hg, hcs⟩ : ∃ g o, a = some ⟨g, o, none⟩ ∧ g < w.heap.size ∧ _ := by
          rcases HM.out with h | h
          · have := HN.out; rw [h] at this; simp at this; omega
          · exact h
        have x0 := (hbw.out.cell (p := ⟨g, o + (j + 1) * 3, none⟩) hg).trans (hcs _ x hx).1
        have y0 := (hbw.out.cell (p := ⟨g, o + j * 3, none⟩) hg).trans (hcs _ y hy).1
        have q1 : IntKind.i64.wrap ((i : Int) - 1) = (j : Nat) := by rw [IntKind.wrap_i64]; omega
        have q2 : (i : Int) - 1 = (j : Nat) := by omega
        have q3 : (j : Int) < (n : Int) := by omega
        have q4 : IntKind.i64.wrap (j : Int) = (j : Nat) := by rw [IntKind.wrap_i64]; omega
        rw [← hj] at x0
        by_cases hb : x.t ≤ y.t
        · have HF : Hid _ := HNO.out
          have HRB : Hid (rsB l = false) := rs_bad l j x y hy hx hb
          have hd : decide (x.t ≤ y.t) = true := decide_eq_true hb
          generalize x.t = tx at *
          generalize y.t = ty at *
          have HJ : Hid (i = j + 1) := hj
          clear hx hy hcs hj hr
          go_wp2_with fail
          go_big_quiet (fail)
          go_wp2
          go_ret2
          exact HNO.out _ (bdrew hbw.out _) HRB.out
        · have hr2 : Hid (rsB (l.take (i + 1)) = true) := by
            show _ = _
            rw [hj]
            exact rs_good l j x y hy hx (by omega) (by rw [← hj]; exact hr.out)
          have hd : decide (x.t ≤ y.t) = false := decide_eq_false hb
          generalize x.t = tx at *
          generalize y.t = ty at *
          have HJ : Hid (i = j + 1) := hj
          clear hx hy hcs hj hr
          go_wp2_with fail
          go_big_quiet (fail)
          have hbD : Hid (Below w.heap.size w (wr.drewN nq)) := bdrew hbw.out nq
          go_wp2
          exact ⟨⟨i + 1, by go_num, by omega, by omega, hr2, hbD⟩, by simp [RowKit.intOf]; omega⟩
      · have hii : ¬ (i : Int) < (n : Int) := by omega
        have htk : l.take i = l := List.take_of_length_le (by have := HN.out; omega)
        rw [htk] at hr
        have k5 := KR2.out wr hbw.out
        have HYS : Hid (∀ (G c : Nat) (w' : World) (Q : Nat), Below w.heap.size w w' → Q = (pk (frm l)).length → w'.ownsRow w.heap.size 5 1 (.slice (some ⟨G, 0, none⟩) Q c) Q (bc (pk (frm l))) → PkR l w (.returned (.tuple #[.slice (some ⟨G, 0, none⟩) Q c, .int .i64 0])) w') := HYES.out hr.out
        have HPKL : Hid (pk (frm l) = gr (fb (frm l)) 8 (((frm l).length + 7) / 8)) := rfl
        clear htk hr KR2 HYES HNO
        generalize frm l = L at *
        go_wp2_with fail
        go_fit k5
        rintro e w5 ⟨v5, rfl, r5, b5⟩
        obtain ⟨a5, c5, rfl⟩ := r5.form
        obtain ⟨hL1, hL2, hLb⟩ := HLEN.out
        obtain ⟨GB, rfl⟩ : ∃ GB, a5 = some ⟨GB, 0, none⟩ := by
          rcases r5.row.2 with ⟨_, e2⟩ | ⟨G, C, cur, e, _⟩
          · omega
          · cases e; exact ⟨G, rfl⟩
        obtain ⟨w6, r6, o6, b6⟩ := make_z w5 ((L.length + 7) / 8) (by omega)
        have HB5 : Hid (Below w.heap.size w w5) := hbw.out.trans (b5.mono hbw.out.size)
        have HB6 : Hid (Below w.heap.size w w6) := HB5.out.trans (b6.mono HB5.out.size)
        have HO6 : Hid (w6.ownsRow w5.heap.size 5 1 (.slice (some ⟨w5.heap.size, 0, none⟩) ((L.length + 7) / 8) ((L.length + 7) / 8)) ((L.length + 7) / 8) (bc (gr (fb (L.take 0)) 8 ((L.length + 7) / 8)))) := o6
        have HR6 : Hid (Rw wr.heap.size w6 (.slice (some ⟨GB, 0, none⟩) L.length c5) L) := r5.below b6
        have HGB : Hid (¬ GB = w5.heap.size) := by have := (r5.base GB rfl).2; show ¬ _; omega
        have HLB : Hid (Bin L) := hLb
        have HPK2 : Hid (pk L = gr (fb L) 8 ((L.length + 7) / 8) ∧ (pk L).length = (L.length + 7) / 8) := ⟨rfl, pk_len L⟩
        have HTK : Hid (L.take L.length = L) := List.take_of_length_le (Nat.le_refl _)
        obtain ⟨Q, hQ⟩ : ∃ Q, Q = (L.length + 7) / 8 := ⟨_, rfl⟩
        have HQ : Hid (Q = (L.length + 7) / 8) := hQ
        rw [← hQ] at r6 HO6 HPK2
        obtain ⟨B, hB⟩ : ∃ B, B = w5.heap.size := ⟨_, rfl⟩
        have HWB : Hid (w.heap.size ≤ B) := by rw [hB]; exact HB5.out.size
        have HBW : Hid (B = w5.heap.size) := hB
        rw [← hB] at r6 HO6 HGB
        have HO6' : Hid (w6.ownsRow w.heap.size 5 1 (.slice (some ⟨B, 0, none⟩) Q Q) Q (bc (gr (fb (L.take 0)) 8 Q))) := ⟨HO6.out.1, HO6.out.2.imp id (fun ⟨g', cap, cur, h1, h2, h3⟩ => ⟨g', cap, cur, h1, by have := HWB.out; omega, h3⟩)⟩
        obtain ⟨K, hK⟩ : ∃ K, K = L.length := ⟨_, rfl⟩
        have HK : Hid (K = L.length) := hK
        rw [← hK] at hL1 hL2 HR6 hQ ⊢
        have d1 : IntKind.i64.wrap ((K : Int) + 7) = (K : Int) + 7 := by rw [IntKind.wrap_i64]; omega
        have d2 : ((K : Int) + 7).tdiv 8 = (Q : Int) := by rw [Int.tdiv_eq_ediv_of_nonneg (by omega)]; omega
        have d3 : IntKind.i64.wrap (Q : Int) = (Q : Int) := by rw [IntKind.wrap_i64]; omega
        have d4 : ((K : Int) + 7) / 8 = (Q : Int) := by omega
        have hQ9 : (Q : Int) ≤ 17000000 := by omega
        have hK9 : (K : Int) ≤ 17000000 := by omega
        have hK9n : K ≤ 17000000 := hL1
        clear k5 r5 b5 o6 b6 hQ hB hK hLb HB5 HO6 hbw HLEN hL1 hL2
        go_wp2_with fail
        generalize wr.heap.size = S0 at HR6
        clear r6 d1 d2 d3 d4 HBW hii hlt hi1 hi2
        go_loopw [7] (fun iv w' => ∃ i : Nat, i ≤ K ∧ iv = .int .i64 (i : Nat) ∧ Hid (w'.ownsRow w.heap.size 5 1 (.slice (some ⟨B, 0, none⟩) Q Q) Q (bc (gr (fb (L.take i)) 8 Q))) ∧ Hid (Rw S0 w' (.slice (some ⟨GB, 0, none⟩) K c5) L) ∧ Hid (Below w.heap.size w w')) (fun iv _ => K - (RowKit.intOf iv).toNat)
        case atStart => exact ⟨0, Nat.zero_le _, rfl, HO6', HR6, HB6⟩
        case round =>
          obtain ⟨i, hi, rfl, ho, hr, hbw⟩ := hrel
          clear HO6' HR6 HB6
          by_cases hlt : i < K
          · have hii : (i : Int) < (K : Int) := by omega
            have hd : i / 8 < Q := by have := HQ.out; have := HK.out; omega
            have hm8 := Nat.mod_lt i (show 0 < 8 by decide)
            have y0 : wr.cell? ⟨B, i / 8, none⟩ = some (.int .u8 ((bv (fb (L.take i)) (8 * (i / 8)) 8 : Nat) : Int)) := by
              have := ho.out.cells (g := B) rfl (i / 8) (.int .u8 ((gr (fb (L.take i)) 8 Q).getD (i / 8) 0)) (by simp [bc, List.getD, gr_len, hd])
              rw [Go.WideShapes.add_plain, Nat.zero_add, gr_getD _ _ _ _ hd] at this
              exact this
            have y1 : wr.cell? ⟨GB, i, none⟩ = some (.int .u8 ((fb L i : Nat) : Int)) := by
              have := hr.out.row.cells (g := GB) rfl i (.int .u8 (L.getD i 0)) (by have := HK.out; simp [bc, List.getD, show i < L.length by omega])
              rw [Go.WideShapes.add_plain, Nat.zero_add, (HLB.out i).2] at this
              exact this
            have hb2 := (HLB.out i).1
            have hor := bit_or L HLB.out i (by have := HK.out; omega)
            have st := (World.ownsRow.stored ho.out (i / 8) (.int .u8 ((bv (fb (L.take i)) (8 * (i / 8)) 8 + fb L i * 2 ^ (7 - i % 8) : Nat) : Int))).1
            rw [← bc_set, ← bit_put L HLB.out i Q (by have := HK.out; omega)] at st
            have fz := World.ownsRow.frozenAt ho.out (i / 8)
            have kB : Kp (fun k => k = B) wr (wr.setCell ⟨B, i / 8, none⟩ (.int .u8 ((bv (fb (L.take i)) (8 * (i / 8)) 8 + fb L i * 2 ^ (7 - i % 8) : Nat) : Int))) := (Kp.refl (fun k => k = B) wr).setCell (p := ⟨B, i / 8, none⟩) rfl _
            have rr := hr.out.kp kB (fun k e e2 => HGB.out ((Option.some.inj e).trans e2))
            have bb : Below w.heap.size w (wr.setCell ⟨B, i / 8, none⟩ (.int .u8 ((bv (fb (L.take i)) (8 * (i / 8)) 8 + fb L i * 2 ^ (7 - i % 8) : Nat) : Int))) := hbw.out.setCell (p := ⟨B, i / 8, none⟩) HWB.out _
            have hsh : ((fb L i : Nat) : Int) * 2 ^ (7 - i % 8) = ((fb L i * 2 ^ (7 - i % 8) : Nat) : Int) := by simp
            have hlt256 : fb L i * 2 ^ (7 - i % 8) < 256 := by
              have h1 : 2 ^ (7 - i % 8) ≤ 2 ^ 7 := Nat.pow_le_pow_right (by decide) (by omega)
              generalize 2 ^ (7 - i % 8) = pw at h1 ⊢
              have : fb L i = 0 ∨ fb L i = 1 := by omega
              rcases this with h | h <;> rw [h] <;> omega
            have d1 : (i : Int).tdiv 8 = ((i / 8 : Nat) : Int) := by rw [Int.tdiv_eq_ediv_of_nonneg (by omega)]; omega
            have d2 : (i : Int).tmod 8 = ((i % 8 : Nat) : Int) := by rw [Int.tmod_eq_emod_of_nonneg (by omega)]; omega
            have d3 : (i : Int) / 8 = ((i / 8 : Nat) : Int) := by omega
            have d4 : (i : Int) % 8 = ((i % 8 : Nat) : Int) := by omega
            have d5 : IntKind.i64.wrap ((i / 8 : Nat) : Int) = ((i / 8 : Nat) : Int) := by rw [IntKind.wrap_i64]; omega
            have d6 : IntKind.i64.wrap ((i % 8 : Nat) : Int) = ((i % 8 : Nat) : Int) := by rw [IntKind.wrap_i64]; omega
            have d7 : (7 : Int) - ((i % 8 : Nat) : Int) = ((7 - i % 8 : Nat) : Int) := by omega
            have d8 : IntKind.i64.wrap ((7 - i % 8 : Nat) : Int) = ((7 - i % 8 : Nat) : Int) := by rw [IntKind.wrap_i64]; omega
            have d9 : IntKind.i64.wrap ((7 : Int) - ((i % 8 : Nat) : Int)) = ((7 - i % 8 : Nat) : Int) := by rw [IntKind.wrap_i64]; omega
            have d10 : ((i / 8 : Nat) : Int) < (Q : Int) := by omega
            have d11 : ((7 - i % 8 : Nat) : Int) < 8 := by omega
            have HST : Hid (World.ownsRow (wr.setCell ⟨B, i / 8, none⟩ (.int .u8 ((bv (fb (L.take i)) (8 * (i / 8)) 8 + fb L i * 2 ^ (7 - i % 8) : Nat) : Int))).drew w.heap.size 5 1 (.slice (some ⟨B, 0, none⟩) Q Q) Q (bc (gr (fb (L.take (i + 1))) 8 Q))) := Kp.row (M := fun _ => False) (Kp.of (Below.refl _ _).drew) st (fun _ _ => id)
            have HRR : Hid (Rw S0 (wr.setCell ⟨B, i / 8, none⟩ (.int .u8 ((bv (fb (L.take i)) (8 * (i / 8)) 8 + fb L i * 2 ^ (7 - i % 8) : Nat) : Int))).drew (.slice (some ⟨GB, 0, none⟩) K c5) L) := rr.below (Below.refl _ _).drew
            have HBB : Hid (Below w.heap.size w (wr.setCell ⟨B, i / 8, none⟩ (.int .u8 ((bv (fb (L.take i)) (8 * (i / 8)) 8 + fb L i * 2 ^ (7 - i % 8) : Nat) : Int))).drew) := bb.drew
            clear ho hr hbw st rr bb kB hb2 hd hm8
            generalize i / 8 = d at *
            generalize i % 8 = m at *
            generalize 7 - m = p at *
            generalize hZ : fb L i * 2 ^ p = Z at *
            generalize bv (fb (L.take i)) (8 * d) 8 + Z = Y1 at *
            generalize bv (fb (L.take i)) (8 * d) 8 = Y0 at *
            generalize fb L i = b at *
            have e1 : IntKind.u8.wrap (Z : Int) = (Z : Int) := by rw [IntKind.wrap_u8]; omega
            have e2 : (Z : Int) % 256 = (Z : Int) := by omega
            have HZ : Hid (b * 2 ^ p = Z) := hZ
            clear hZ hlt256
            go_wp2_with fail
            go_region
            go_wp2
            exact ⟨⟨i + 1, by omega, by go_num, HST, HRR, HBB⟩, by simp [RowKit.intOf]; omega⟩
          · have hii : ¬ (i : Int) < (K : Int) := by omega
            have htk : L.take i = L := List.take_of_length_le (by have := HK.out; omega)
            rw [htk] at ho
            have HF : Hid (PkR l w (.returned (.tuple #[.slice (some ⟨B, 0, none⟩) Q Q, .int .i64 0])) wr) := HYS.out B Q wr Q hbw.out HPK2.out.2.symm (by rw [HPK2.out.1]; exact ho.out)
            clear ho hr hbw htk
            go_wp2
            go_ret2
            exact HF.out
end Go.Proofs.YtedlmjieclaojabDoor
