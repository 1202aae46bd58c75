/- A bundle of texts. -/
import Derived.Test.YtbciclnffokjjaaBm12
/- Code: places; lay. -/
namespace Go.Proofs.Ytbciclnffokjjaa
open Go.RowKit

theorem repC_pl {k : List Ia} (hk : ∀ x ∈ k, Pl k.length x) (mn mx : Int) (lz : Bool) (b : Int) (hb : 0 ≤ b) (hx : mx = -1 ∨ mn ≤ mx) : ∀ x ∈ repC k mn mx lz b, Pl (b + (repC k mn mx lz b).length) x := by
  intro x h
  unfold repC at h ⊢
  by_cases h0 : mx = 0
  · rw [if_pos h0] at h; cases h
  · rw [if_neg h0] at h ⊢
    by_cases h1 : mx = -1
    · rw [if_pos h1] at h ⊢
      simp only [List.length_append, List.length_cons, List.length_nil, mvs_len]
      rcases List.mem_append.1 h with h | h
      · exact (layF_pl hk b hb _ x h).mono (by omega)
      · rcases List.mem_cons.1 h with rfl | h
        · exact spl_pl (by omega) (by omega) (by omega) (by omega)
        · rcases List.mem_append.1 h with h | h
          · exact (Pl.mvs hk (by omega) x h).mono (by omega)
          · rcases List.mem_singleton.1 h with rfl
            exact ⟨by dsimp only; omega, by dsimp only; omega, by simp, by dsimp only; omega⟩
    · rw [if_neg h1] at h ⊢
      have hq : 0 ≤ mx - mn := by omega
      have e1 : (optF k lz (b + (layF k mn.toNat b).length + (mx - mn) * (1 + k.length)) (mx - mn).toNat (b + (layF k mn.toNat b).length)).length = (mx - mn).toNat * (1 + k.length) := optF_len _ _ _ _ _
      have e2 : (((mx - mn).toNat * (1 + k.length) : Nat) : Int) = (mx - mn) * (1 + k.length) := by push_cast; rw [Int.toNat_of_nonneg hq]
      have hp : 0 ≤ (mx - mn) * (1 + (k.length : Int)) := Int.mul_nonneg hq (by omega)
      have hL : (((layF k mn.toNat b) ++ optF k lz (b + (layF k mn.toNat b).length + (mx - mn) * (1 + k.length)) (mx - mn).toNat (b + (layF k mn.toNat b).length)).length : Int) = (layF k mn.toNat b).length + (mx - mn) * (1 + k.length) := by
        rw [List.length_append, e1, Int.natCast_add, e2]
      rw [hL]
      rcases List.mem_append.1 h with h | h
      · exact (layF_pl hk b hb _ x h).mono (by omega)
      · exact optF_pl hk lz _ _ _ (by omega) (by omega) (by omega) _ (by rw [e1, e2]; omega) x h
theorem cod_pl : ∀ (m : Nat) (t : Tr) (b : Int), WF m t → 0 ≤ b → ∀ x ∈ cod m t b, Pl (b + (cod m t b).length) x
  | 0, _, _, h, _, _, _ => by cases h
  | m + 1, t, b, hw, hb, x, hx => by
    obtain ⟨⟨hnd, _⟩, _, hk⟩ := hw
    unfold cod at hx ⊢
    by_cases k2 : (t []).kind = 2
    · rw [if_pos k2] at hx ⊢
      rcases List.mem_singleton.1 hx with rfl
      exact ⟨by dsimp only; omega, by simp, by simp, by dsimp only; simp; omega⟩
    rw [if_neg k2] at hx ⊢
    by_cases k3 : (t []).kind = 3
    · rw [if_pos k3] at hx ⊢
      rcases List.mem_singleton.1 hx with rfl
      unfold clsC
      split
      · exact ⟨by simp, by simp; omega, by simp, by simp; omega⟩
      · exact ⟨by dsimp only; omega, by simp, by simp, by simp; omega⟩
    rw [if_neg k3] at hx ⊢
    by_cases k4 : (t []).kind = 4
    · rw [if_pos k4] at hx ⊢
      exact catF_pl b hb _ (fun i hi b hb x hx => cod_pl m _ b (hk i hi) hb x hx) x hx
    rw [if_neg k4] at hx ⊢
    by_cases k5 : (t []).kind = 5
    · rw [if_pos k5] at hx ⊢
      have h2 := ndB_row hnd (.inr k5)
      unfold altC at hx ⊢
      have hl := altF_len (fun j b => cod m (kid t j) b) (b + (altF (fun j b => cod m (kid t j) b) 0 ((t []).kn - 1) b).length + ((fun j b => cod m (kid t j) b) ((t []).kn - 1) (b + (altF (fun j b => cod m (kid t j) b) 0 ((t []).kn - 1) b).length)).length) 0 b ((t []).kn - 1)
      rw [List.length_append, hl, Int.natCast_add]
      rcases List.mem_append.1 hx with hx | hx
      · exact altF_pl _ _ b hb (by omega) (by omega) _ (by rw [hl]; omega) (fun i hi b hb x hx => cod_pl m _ b (hk i (by omega)) hb x hx) x hx
      · exact (cod_pl m _ _ (hk _ (by omega)) (by omega) x hx).mono (by dsimp only; omega)
    rw [if_neg k5] at hx ⊢
    by_cases k6 : (t []).kind = 6
    · rw [if_pos k6] at hx ⊢
      have h6 := ndB_rep hnd k6
      refine repC_pl (fun y hy => ?_) _ _ _ b hb (by omega) x hx
      have := cod_pl m _ 0 (hk 0 (by omega)) (by omega) y hy
      rw [Int.zero_add] at this
      exact this
    rw [if_neg k6] at hx ⊢
    by_cases k7 : (t []).kind = 7
    · rw [if_pos k7] at hx ⊢
      have h7 := ndB_grp hnd k7
      simp only [List.length_append, List.length_cons, List.length_nil]
      rcases List.mem_cons.1 hx with rfl | hx
      · exact ⟨by dsimp only; omega, by dsimp only; omega, by simp, by dsimp only; omega⟩
      · rcases List.mem_append.1 hx with hx | hx
        · exact (cod_pl m _ _ (hk 0 (by omega)) (by omega) x hx).mono (by omega)
        · rcases List.mem_singleton.1 hx with rfl
          exact ⟨by dsimp only; omega, by dsimp only; omega, by simp, by dsimp only; omega⟩
    rw [if_neg k7] at hx ⊢
    by_cases k13 : (t []).kind = 13
    · rw [if_pos k13] at hx ⊢
      rcases List.mem_singleton.1 hx with rfl
      exact ⟨by dsimp only; omega, by simp, by simp, by dsimp only; simp; omega⟩
    rw [if_neg k13] at hx ⊢
    by_cases k8 : 8 ≤ (t []).kind
    · rw [if_pos k8] at hx ⊢
      rcases List.mem_singleton.1 hx with rfl
      exact ⟨by dsimp only; omega, by simp, by simp, by dsimp only; simp; omega⟩
    · rw [if_neg k8] at hx; cases hx

/-- A piece of code that a slice shows, in a block that M leaves alone. -/
def Pc (w : World) (M : Nat → Prop) (a : Option Addr) (k : List Ia) : Prop := k.length = 0 ∨ ∃ (g o : Nat) (f : Nat → In), a = some ⟨g, o, none⟩ ∧ g < w.heap.size ∧ ¬ M g ∧ ∀ j i, k[j]? = some i → (w.cell? ⟨g, o + j * 5, none⟩ = some (.int .i64 i.op) ∧ w.cell? ⟨g, o + j * 5 + 1, none⟩ = some (.int .i64 i.out) ∧ w.cell? ⟨g, o + j * 5 + 2, none⟩ = some (.int .i64 i.alt) ∧ w.cell? ⟨g, o + j * 5 + 3, none⟩ = some (.int .i64 i.arg) ∧ w.cell? ⟨g, o + j * 5 + 4, none⟩ = some (.slice (f j).ra (f j).rn (f j).rc)) ∧ Ro w M (f j).ra (f j).rn i.rs
theorem Pc.kp {w w' : World} {M N : Nat → Prop} {a : Option Addr} {k : List Ia} (h : Pc w M a k) (kp : Kp M w w') (hN : ∀ i, i < w.heap.size → N i → M i) : Pc w' N a k := by
  rcases h with h | ⟨g, o, f, e, hg, hm, hc⟩
  · exact .inl h
  · refine .inr ⟨g, o, f, e, Nat.lt_of_lt_of_le hg kp.size, fun x => hm (hN g hg x), fun j i hj => ?_⟩
    obtain ⟨⟨c0, c1, c2, c3, c4⟩, hr⟩ := hc j i hj
    exact ⟨⟨kp.cell c0 hm, kp.cell c1 hm, kp.cell c2 hm, kp.cell c3 hm, kp.cell c4 hm⟩, hr.kp kp hN⟩
/-- A coder's code is a piece that other coders leave alone. -/
theorem Cd.piece {Z : Nat → Prop} {S B2 : Nat} {w : World} {v2 : Value} {f : Nat → In} {k : List Ia} (h : Cd Z S w B2 v2 f k) (M : Nat → Prop) (hM : ∀ g, v2.ownBlock = some g → ¬ M g) (hR : ∀ j i, k[j]? = some i → Ro w M (f j).ra (f j).rn i.rs) : ∃ a cc, v2 = .slice a k.length cc ∧ Pc w M a k := by
  rcases h.row.2 with ⟨e, e2⟩ | ⟨g, cc, cur, e, _, hg, _⟩
  · exact ⟨none, 0, by rw [e, e2], .inl e2⟩
  · refine ⟨_, cc, e, .inr ⟨g, 0, f, rfl, (Array.getElem?_eq_some_iff.1 hg).1, hM g (by rw [e]; rfl), fun j i hj => ?_⟩⟩
    have hjl : j < k.length := (List.getElem?_eq_some_iff.1 hj).1
    have hrow := h.row
    rw [e] at hrow
    obtain ⟨i1, i2, i3, i4, _⟩ := h.rg j i hj
    have hc : ∀ q u, q < 5 → (i5 (f j))[q]? = some u → w.cell? ⟨g, 0 + j * 5 + q, none⟩ = some u := fun q u hq hu => by
      rw [Nat.zero_add, World.ownsRow.cellAt hrow (j * 5 + q) (by omega), n5_get f k.length j q hjl hq]
      exact hu
    exact ⟨⟨by rw [← i1]; exact hc 0 _ (by omega) rfl, by rw [← i2]; exact hc 1 _ (by omega) rfl, by rw [← i3]; exact hc 2 _ (by omega) rfl, by rw [← i4]; exact hc 3 _ (by omega) rfl, hc 4 _ (by omega) rfl⟩, hR j i hj⟩
end Go.Proofs.Ytbciclnffokjjaa
/- Code: lay. -/
namespace Go.Proofs.Ytbciclnffokjjaa
open Go.RowKit

theorem mvs_take (b : Int) (k : List Ia) (i : Nat) (x : Ia) (h : k[i]? = some x) : mvs b (k.take (i + 1)) = mvs b (k.take i) ++ [mv b x] := by
  unfold mvs
  rw [List.take_add_one, h, List.map_append]
  rfl
theorem Cp.next {Z : Nat → Prop} {S B : Nat} {v v1 : Value} {c l : List Ia} {w w1 : World} {e : Ending} {w' : World} (hs : Sub w v v1) (hk : Kp (Mv B v) w w1) (h : Cp Z S B v1 c l w1 e w') : e = .returned (.tuple #[]) ∧ (∃ v' f', Cd Z S w' B v' f' (c ++ l) ∧ Sub w v v') ∧ Kp (Mv B v) w w' := by
  obtain ⟨h1, ⟨v', f', h2, h3⟩, h4⟩ := h
  exact ⟨h1, ⟨v', f', h2, hs.trans h3 hk.size⟩, hk.next hs h4⟩
theorem MZ_sub {Z : Nat → Prop} {w : World} {B : Nat} {v v' : Value} (h : Sub w v v') : ∀ i, i < w.heap.size → MZ Z B v' i → MZ Z B v i := fun i hi e => e.imp (fun e => e.imp id (fun e => h i e hi)) id
theorem Mv_sub {w : World} {B : Nat} {v v' : Value} (h : Sub w v v') : ∀ i, i < w.heap.size → Mv B v' i → Mv B v i := fun i hi e => e.imp id (fun e => h i e hi)

set_option maxHeartbeats 4000000 in
set_option maxRecDepth 100000 in
theorem lay_any (Z : Nat → Prop) (S B : Nat) (v : Value) (f : Nat → In) (c k : List Ia) (a : Option Addr) (cc : Nat) (w : World) (hv : Cd Z S w B v f c) (hS : S ≤ w.heap.size) (hn : c.length + k.length ≤ 1000000) (hp : Pc w (MZ Z B v) a k) (hk : ∀ x ∈ k, Pl 1000000 x) :
    Calls Try.prog 89 #[.pointer (some ⟨B, 0, none⟩), .agg #[.slice a k.length cc]] w (Cp Z S B v c (mvs c.length k) w) := by
  have hb : Below w.heap.size w (w.alloc (.cells #[.slice a k.length cc] 85)) := (Below.refl _ w).alloc (Nat.le_refl _) _
  obtain ⟨W, hW⟩ : ∃ W, W = w.alloc (.cells #[.slice a k.length cc] 85) := ⟨_, rfl⟩
  have HW : Hid (W = w.alloc (.cells #[.slice a k.length cc] 85)) := hW
  have e0 : W.cell? ⟨w.heap.size, 0, none⟩ = some (.slice a k.length cc) := by
    rw [hW]
    unfold World.cell?
    rw [show (w.alloc (.cells #[.slice a k.length cc] 85)).heap[w.heap.size]? = _ from heap_alloc_new w _]
    rfl
  rw [← hW] at hb
  have hv1 := hv.below hb
  have HV1 : Hid (Cd Z S W B v f c) := hv1
  have HP1 : Hid (Pc W (MZ Z B v) a k) := hp.kp (Kp.of hb) (fun _ _ e => e)
  have HS1 : Hid (S ≤ W.heap.size) := Nat.le_trans hS hb.size
  have HB : Hid (Below w.heap.size w W) := hb
  have HK : Hid (∀ x ∈ k, Pl 1000000 x) := hk
  have HN : Hid (c.length + k.length ≤ 1000000) := hn
  obtain ⟨G, hG⟩ : ∃ G, G = w.heap.size := ⟨_, rfl⟩
  have HG : Hid (G = w.heap.size) := hG
  rw [← hG] at e0
  have kE := end_any Z S B v f c W hv1
  have hkl : ((k.length : Nat) : Int) ≤ 1000000 := by omega
  have hcl : ((c.length : Nat) : Int) ≤ 1000000 := by omega
  clear hv hS hn hp hk hb hv1 hW hG
  obtain ⟨N, hN⟩ : ∃ N, k.length = N := ⟨_, rfl⟩
  have HNN : Hid (k.length = N) := hN
  rw [hN] at e0 hkl HW
  rw [hN]
  clear hN
  go_enter Try.func89, Try.ntmps89
  go_upto_region 1 with fail
  rw [← HW.out, ← HG.out]
  go_wp2_with fail
  go_fit kE
  rintro e w1 ⟨rfl, rfl⟩
  clear kE
  go_wp2_with fail
  go_loopw [12] (fun ivv w' => ∃ i : Nat, ivv = .int .i64 (i : Int) ∧ i ≤ N ∧ Hid (∃ v' f', Cd Z S w' B v' f' (c ++ mvs c.length (k.take i)) ∧ Sub w1 v v' ∧ Kp (Mv B v) w1 w')) (fun ivv _ => N - (RowKit.intOf ivv).toNat)
  case atStart => exact ⟨0, rfl, by omega, v, f, by simpa [mvs] using HV1.out, Sub.refl _ _, Kp.refl _ _⟩
  case round =>
    obtain ⟨i, rfl, hi, hI⟩ := hrel
    by_cases hlt : i < N
    · have hii : (i : Int) < N := by omega
      obtain ⟨v', f', cd, sb, kp⟩ := hI.out
      have hil : i < k.length := by rw [HNN.out]; exact hlt
      obtain ⟨x, hget⟩ : ∃ x, k[i]? = some x := ⟨_, List.getElem?_eq_getElem hil⟩
      have hpl := HK.out x (List.mem_of_getElem? hget)
      have hpc := HP1.out.kp (kp.mono (fun _ _ e => .inl e)) (MZ_sub sb)
      have hSz : S ≤ wr.heap.size := Nat.le_trans HS1.out kp.size
      have hsnoc := mvs_take c.length k i x hget
      have hlen : (c ++ mvs c.length (k.take i)).length ≤ 1000000 := by have := HN.out; simp [mvs_len]; omega
      rcases hpc with h0 | ⟨g1, o1, fp, rfl, hg1, hm1, hc1⟩
      · omega
      obtain ⟨⟨p0, p1, p2, p3, p4⟩, hro⟩ := hc1 i _ hget
      have HA : Hid (∀ o, Below wr.heap.size wr (wr.alloc o)) := fun o => (Below.refl _ wr).alloc (Nat.le_refl _) o
      have kP := fun o op out alt arg => put_any Z S B v' f' (c ++ mvs c.length (k.take i)) op out alt arg (fp i).ra (fp i).rn (fp i).rc x.rs (wr.alloc o) (cd.below (HA.out o)) (Nat.le_trans hSz (HA.out o).size) (by omega) (hro.kp (Kp.of (HA.out o)) (fun _ _ e => e))
      have HC : Hid (∀ y o e w2, mv c.length x = y → Cp Z S B v' (c ++ mvs c.length (k.take i)) [y] (wr.alloc o) e w2 → e = .returned (.tuple #[]) ∧ (∃ v2 f2, Cd Z S w2 B v2 f2 (c ++ mvs c.length (k.take (i + 1))) ∧ Sub w1 v v2) ∧ Kp (Mv B v) w1 w2) := fun y o e w2 hy h => by
        subst hy
        have := Cp.next sb kp (Cp.from (HA.out o) h)
        rw [hsnoc, ← List.append_assoc]
        exact this
      obtain ⟨q1, q2, q3, q4⟩ := hpl
      clear cd sb kp hget hsnoc hlen hro hc1 hm1 hil
      obtain ⟨op, out, alt, arg, rs⟩ := x
      dsimp only at p0 p1 p2 p3 p4 kP q1 q2 q3 q4
      by_cases h11 : op = 11
      · have t11 : (op != 11) = false := by simpa using h11
        have t3 : (op == 3) = false := by simp; omega
        have HY : Hid (mv c.length ⟨op, out, alt, arg, rs⟩ = ⟨op, out, alt, arg, rs⟩) := by unfold Hid mv; dsimp only; rw [if_pos h11, if_neg (by omega)]
        clear h11
        go_wp2_with fail
        go_fit (kP _ _ _ _ _)
        rintro e w2 h2
        have H2 : Hid _ := HC.out _ _ _ _ HY.out h2
        have he := h2.1
        clear h2 kP HC
        subst he
        go_wp2
        obtain ⟨_, ⟨v2, f2, cd2, sb2⟩, kp2⟩ := H2.out
        exact ⟨⟨i + 1, by go_num, by omega, v2, f2, cd2, sb2, kp2⟩, by simp [RowKit.intOf]; omega⟩
      have t11 : (op != 11) = true := by simpa using h11
      by_cases h3 : op = 3
      · have t3 : (op == 3) = true := by simpa using h3
        have HY : Hid (mv c.length ⟨op, out, alt, arg, rs⟩ = ⟨op, out + c.length, alt + c.length, arg, rs⟩) := by unfold Hid mv; dsimp only; rw [if_neg h11, if_pos h3]
        clear h11 h3
        go_wp2_with fail
        go_fit (kP _ _ _ _ _)
        rintro e w2 h2
        have H2 : Hid _ := HC.out _ _ _ _ HY.out h2
        have he := h2.1
        clear h2 kP HC
        subst he
        go_wp2
        obtain ⟨_, ⟨v2, f2, cd2, sb2⟩, kp2⟩ := H2.out
        exact ⟨⟨i + 1, by go_num, by omega, v2, f2, cd2, sb2, kp2⟩, by simp [RowKit.intOf]; omega⟩
      · have t3 : (op == 3) = false := by simpa using h3
        have HY : Hid (mv c.length ⟨op, out, alt, arg, rs⟩ = ⟨op, out + c.length, alt, arg, rs⟩) := by unfold Hid mv; dsimp only; rw [if_neg h11, if_neg h3]
        clear h11 h3
        go_wp2_with fail
        go_fit (kP _ _ _ _ _)
        rintro e w2 h2
        have H2 : Hid _ := HC.out _ _ _ _ HY.out h2
        have he := h2.1
        clear h2 kP HC
        subst he
        go_wp2
        obtain ⟨_, ⟨v2, f2, cd2, sb2⟩, kp2⟩ := H2.out
        exact ⟨⟨i + 1, by go_num, by omega, v2, f2, cd2, sb2, kp2⟩, by simp [RowKit.intOf]; omega⟩
    · have hii : ¬ (i : Int) < N := by omega
      obtain rfl : i = N := by omega
      go_wp2
      go_end0
      obtain ⟨v', f', cd, sb, kp⟩ := hI.out
      rw [← HNN.out, List.take_length] at cd
      exact Cp.from HB.out ⟨rfl, ⟨v', f', cd, sb⟩, kp⟩
end Go.Proofs.Ytbciclnffokjjaa
