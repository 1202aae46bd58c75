/- A bundle of texts. -/
import Derived.Test.YtbciclnffokjjaaDoorBb17
/- The code of a tree, moved. -/
namespace Go.Proofs.YtbciclnffokjjaaDoor
open Go.RowKit

theorem Ia.ext' {i j : Ia} (h1 : i.op = j.op) (h2 : i.out = j.out) (h3 : i.alt = j.alt) (h4 : i.arg = j.arg) (h5 : i.rs = j.rs) : i = j := by
  cases i; cases j
  cases h1; cases h2; cases h3; cases h4; cases h5
  rfl
theorem mv_mv (a b : Int) (i : Ia) : mv a (mv b i) = mv (a + b) i := by
  refine Ia.ext' rfl ?_ ?_ rfl rfl
  · show (if i.op = 11 then _ else _) = (if i.op = 11 then _ else _)
    unfold mv
    dsimp only
    split <;> omega
  · show (if i.op = 3 then _ else _) = (if i.op = 3 then _ else _)
    unfold mv
    dsimp only
    split <;> omega
theorem mvs_mvs (a b : Int) (k : List Ia) : mvs a (mvs b k) = mvs (a + b) k := by
  unfold mvs
  rw [List.map_map]
  exact List.map_congr_left (fun i _ => mv_mv a b i)
theorem mvs_app (a : Int) (k l : List Ia) : mvs a (k ++ l) = mvs a k ++ mvs a l := by simp [mvs]
theorem mvs_cons (a : Int) (i : Ia) (l : List Ia) : mvs a (i :: l) = mv a i :: mvs a l := rfl
theorem mvs_nil (a : Int) : mvs a [] = [] := rfl
theorem mv_spl (a k l : Int) (lz : Bool) : mv a (spl k l lz) = spl (a + k) (a + l) lz := by
  cases lz <;> refine Ia.ext' rfl ?_ ?_ rfl rfl <;> simp [mv, spl] <;> omega
theorem mv_one {op out alt arg : Int} {rs : List Rg} (a : Int) (h1 : op ≠ 11) (h3 : op ≠ 3) : mv a ⟨op, out, alt, arg, rs⟩ = ⟨op, a + out, alt, arg, rs⟩ := by
  refine Ia.ext' rfl ?_ ?_ rfl rfl <;> simp [mv, h1, h3]
  omega
theorem mv_two {out alt arg : Int} {rs : List Rg} (a : Int) : mv a ⟨3, out, alt, arg, rs⟩ = ⟨3, a + out, a + alt, arg, rs⟩ := by
  refine Ia.ext' rfl ?_ ?_ rfl rfl <;> simp [mv] <;> omega
theorem catF_mv {F : Nat → Int → List Ia} (a b : Int) : ∀ j, (∀ i, i < j → ∀ b, mvs a (F i b) = F i (a + b)) → mvs a (catF F j b) = catF F j (a + b)
  | 0, _ => rfl
  | j + 1, h => by
    have ih := catF_mv a b j (fun i hi => h i (by omega))
    unfold catF
    rw [mvs_app, ih, h j (by omega), ← ih, mvs_len, Int.add_assoc]
theorem altF_mv {F : Nat → Int → List Ia} (a e b : Int) : ∀ j, (∀ i, i < j → ∀ b, mvs a (F i b) = F i (a + b)) → mvs a (altF F e j b) = altF F (a + e) j (a + b)
  | 0, _ => rfl
  | j + 1, h => by
    have ih := altF_mv a e b j (fun i hi => h i (by omega))
    unfold altF
    rw [mvs_app, ih, mvs_cons, mvs_app, h j (by omega), ← ih, mvs_len, mv_two, mvs_cons, mvs_nil, mv_one a (by decide) (by decide)]
    have hl : (F j (a + (b + ((altF F e j b).length : Int) + 1))).length = (F j (b + ((altF F e j b).length : Int) + 1)).length := by rw [← h j (by omega), mvs_len]
    have e1 : a + (b + ((altF F e j b).length : Int) + 1) = a + b + ((altF F e j b).length : Int) + 1 := by omega
    rw [e1] at hl ⊢
    rw [← hl]
    have e2 : a + (b + ((altF F e j b).length : Int) + 1 + ((F j (a + b + ((altF F e j b).length : Int) + 1)).length : Int) + 1) = a + b + ((altF F e j b).length : Int) + 1 + ((F j (a + b + ((altF F e j b).length : Int) + 1)).length : Int) + 1 := by omega
    rw [e2]
theorem altC_mv {F : Nat → Int → List Ia} (a b : Int) (n : Nat) (h : ∀ i, i ≤ n → ∀ b, mvs a (F i b) = F i (a + b)) : mvs a (altC F n b) = altC F n (a + b) := by
  have h0 : ∀ e, mvs a (altF F e n b) = altF F (a + e) n (a + b) := fun e => altF_mv a e b n (fun i hi => h i (by omega))
  have hl : (altF F 0 n (a + b)).length = (altF F 0 n b).length := by
    rw [← mvs_len a (altF F 0 n b), h0 0]
    exact altF_len F 0 _ _ n
  unfold altC
  rw [mvs_app, h0, h n (Nat.le_refl _), hl]
  have hl2 : (F n (a + (b + ((altF F 0 n b).length : Int)))).length = (F n (b + ((altF F 0 n b).length : Int))).length := by rw [← h n (Nat.le_refl _), mvs_len]
  have e1 : a + (b + ((altF F 0 n b).length : Int)) = a + b + ((altF F 0 n b).length : Int) := by omega
  rw [e1] at hl2 ⊢
  rw [← hl2]
  have e2 : a + (b + ((altF F 0 n b).length : Int) + ((F n (a + b + ((altF F 0 n b).length : Int))).length : Int)) = a + b + ((altF F 0 n b).length : Int) + ((F n (a + b + ((altF F 0 n b).length : Int))).length : Int) := by omega
  rw [e2]
theorem layF_mv (k : List Ia) (a b : Int) : ∀ j, mvs a (layF k j b) = layF k j (a + b)
  | 0 => rfl
  | j + 1 => by
    have ih := layF_mv k a b j
    unfold layF
    rw [mvs_app, ih, mvs_mvs, ← ih, mvs_len, Int.add_assoc]
theorem optF_mv (k : List Ia) (lz : Bool) (a e b : Int) : ∀ j, mvs a (optF k lz e j b) = optF k lz (a + e) j (a + b)
  | 0 => rfl
  | j + 1 => by
    have ih := optF_mv k lz a e b j
    unfold optF
    rw [mvs_app, ih, mvs_cons, mv_spl, mvs_mvs, ← ih, mvs_len]
    have e1 : a + (b + ((optF k lz e j b).length : Int)) = a + b + ((optF k lz e j b).length : Int) := by omega
    have e2 : a + (b + ((optF k lz e j b).length : Int) + 1) = a + b + ((optF k lz e j b).length : Int) + 1 := by omega
    rw [e1, e2]
theorem repC_mv (k : List Ia) (mn mx : Int) (lz : Bool) (a b : Int) : mvs a (repC k mn mx lz b) = repC k mn mx lz (a + b) := by
  unfold repC
  split
  · rfl
  · split
    · rw [mvs_app, layF_mv, mvs_cons, mvs_app, mv_spl, mvs_mvs, mvs_cons, mvs_nil, mv_one a (by decide) (by decide), layF_len, layF_len]
      have e1 : a + (b + ((mn.toNat * k.length : Nat) : Int)) = a + b + ((mn.toNat * k.length : Nat) : Int) := by omega
      have e2 : a + (b + ((mn.toNat * k.length : Nat) : Int) + 1) = a + b + ((mn.toNat * k.length : Nat) : Int) + 1 := by omega
      have e3 : a + (b + ((mn.toNat * k.length : Nat) : Int) + 1 + (k.length : Int) + 1) = a + b + ((mn.toNat * k.length : Nat) : Int) + 1 + (k.length : Int) + 1 := by omega
      rw [e1, e2, e3]
    · rw [mvs_app, layF_mv, optF_mv, layF_len, layF_len]
      generalize (mx - mn) * (1 + (k.length : Int)) = z
      have e1 : a + (b + ((mn.toNat * k.length : Nat) : Int)) = a + b + ((mn.toNat * k.length : Nat) : Int) := by omega
      have e2 : a + (b + ((mn.toNat * k.length : Nat) : Int) + z) = a + b + ((mn.toNat * k.length : Nat) : Int) + z := by omega
      rw [e1, e2]
theorem cod_mv (a : Int) : ∀ (m : Nat) (t : Tr) (b : Int), WF m t → mvs a (cod m t b) = cod m t (a + b)
  | 0, _, _, h => by cases h
  | m + 1, t, b, hw => by
    obtain ⟨⟨hnd, _⟩, _, hk⟩ := hw
    have hkd := ndB_kind hnd
    unfold cod
    by_cases k2 : (t []).kind = 2
    · rw [if_pos k2, if_pos k2, mvs_cons, mvs_nil, mv_one a (by decide) (by decide), Int.add_assoc]
    rw [if_neg k2, if_neg k2]
    by_cases k3 : (t []).kind = 3
    · rw [if_pos k3, if_pos k3, mvs_cons, mvs_nil]
      unfold clsC
      split
      · rfl
      · rw [mv_one a (by decide) (by decide), Int.add_assoc]
    rw [if_neg k3, if_neg k3]
    by_cases k4 : (t []).kind = 4
    · rw [if_pos k4, if_pos k4]
      exact catF_mv a b _ (fun i hi b => cod_mv a m _ b (hk i hi))
    rw [if_neg k4, if_neg k4]
    by_cases k5 : (t []).kind = 5
    · rw [if_pos k5, if_pos k5]
      have h2 := ndB_row hnd (.inr k5)
      exact altC_mv a b _ (fun i hi b => cod_mv a m _ b (hk i (by omega)))
    rw [if_neg k5, if_neg k5]
    by_cases k6 : (t []).kind = 6
    · rw [if_pos k6, if_pos k6]
      exact repC_mv _ _ _ _ a b
    rw [if_neg k6, if_neg k6]
    by_cases k7 : (t []).kind = 7
    · rw [if_pos k7, if_pos k7]
      have h7 := ndB_grp hnd k7
      have ih := cod_mv a m (kid t 0) (b + 1) (hk 0 (by omega))
      rw [mvs_cons, mvs_app, ih, mvs_cons, mvs_nil, mv_one a (by decide) (by decide), mv_one a (by decide) (by decide)]
      have hl : (cod m (kid t 0) (a + (b + 1))).length = (cod m (kid t 0) (b + 1)).length := by rw [← ih, mvs_len]
      have e1 : a + (b + 1) = a + b + 1 := by omega
      rw [e1] at hl ⊢
      rw [← hl]
      have e2 : a + (b + 1 + ((cod m (kid t 0) (a + b + 1)).length : Int) + 1) = a + b + 1 + ((cod m (kid t 0) (a + b + 1)).length : Int) + 1 := by omega
      rw [e2]
    rw [if_neg k7, if_neg k7]
    by_cases k13 : (t []).kind = 13
    · rw [if_pos k13, if_pos k13, mvs_cons, mvs_nil, mv_one a (by decide) (by decide), Int.add_assoc]
    rw [if_neg k13, if_neg k13]
    by_cases k8 : 8 ≤ (t []).kind
    · rw [if_pos k8, if_pos k8, mvs_cons, mvs_nil, mv_one a (by omega) (by omega), Int.add_assoc]
    · rw [if_neg k8, if_neg k8]
      rfl
/-- No instruction of a tree's code is the end. -/
theorem catF_op {F : Nat → Int → List Ia} (b : Int) : ∀ j, (∀ i, i < j → ∀ b, ∀ x ∈ F i b, x.op ≠ 1) → ∀ x ∈ catF F j b, x.op ≠ 1
  | 0, _, x, hx => by cases hx
  | j + 1, h, x, hx => by
    unfold catF at hx
    rcases List.mem_append.1 hx with hx | hx
    · exact catF_op b j (fun i hi => h i (by omega)) x hx
    · exact h j (by omega) _ x hx
theorem altF_op {F : Nat → Int → List Ia} (e b : Int) : ∀ j, (∀ i, i < j → ∀ b, ∀ x ∈ F i b, x.op ≠ 1) → ∀ x ∈ altF F e j b, x.op ≠ 1
  | 0, _, x, hx => by cases hx
  | j + 1, h, x, hx => by
    unfold altF at hx
    rcases List.mem_append.1 hx with hx | hx
    · exact altF_op e b j (fun i hi => h i (by omega)) x hx
    · rcases List.mem_cons.1 hx with rfl | hx
      · exact fun h => absurd h (by decide : ¬ (3 : Int) = 1)
      · rcases List.mem_append.1 hx with hx | hx
        · exact h j (by omega) _ x hx
        · rcases List.mem_singleton.1 hx with rfl
          exact fun h => absurd h (by decide : ¬ (10 : Int) = 1)
theorem mvs_op {k : List Ia} (b : Int) (h : ∀ x ∈ k, x.op ≠ 1) : ∀ x ∈ mvs b k, x.op ≠ 1 := by
  intro x hx
  obtain ⟨j, hj, rfl⟩ := List.mem_map.1 hx
  exact h j hj
theorem layF_op {k : List Ia} (h : ∀ x ∈ k, x.op ≠ 1) (b : Int) : ∀ j, ∀ x ∈ layF k j b, x.op ≠ 1
  | 0, x, hx => by cases hx
  | j + 1, x, hx => by
    unfold layF at hx
    rcases List.mem_append.1 hx with hx | hx
    · exact layF_op h b j x hx
    · exact mvs_op _ h x hx
theorem optF_op {k : List Ia} (h : ∀ x ∈ k, x.op ≠ 1) (lz : Bool) (e b : Int) : ∀ j, ∀ x ∈ optF k lz e j b, x.op ≠ 1
  | 0, x, hx => by cases hx
  | j + 1, x, hx => by
    unfold optF at hx
    rcases List.mem_append.1 hx with hx | hx
    · exact optF_op h lz e b j x hx
    · rcases List.mem_cons.1 hx with rfl | hx
      · exact fun h => absurd h (by decide : ¬ (3 : Int) = 1)
      · exact mvs_op _ h x hx
theorem cod_op : ∀ (m : Nat) (t : Tr) (b : Int), ∀ x ∈ cod m t b, x.op ≠ 1
  | 0, _, _, x, hx => by cases hx
  | m + 1, t, b, x, hx => by
    unfold cod at hx
    split at hx
    · rcases List.mem_singleton.1 hx with rfl; exact fun h => absurd h (by decide : ¬ (2 : Int) = 1)
    split at hx
    · rcases List.mem_singleton.1 hx with rfl
      unfold clsC
      split
      · exact fun h => absurd h (by decide : ¬ (11 : Int) = 1)
      · exact fun h => absurd h (by decide : ¬ (2 : Int) = 1)
    split at hx
    · exact catF_op b _ (fun i _ b => cod_op m _ b) x hx
    split at hx
    · unfold altC at hx
      rcases List.mem_append.1 hx with hx | hx
      · exact altF_op _ b _ (fun i _ b => cod_op m _ b) x hx
      · exact cod_op m _ _ x hx
    split at hx
    · have h0 := cod_op m (kid t 0) 0
      unfold repC at hx
      split at hx
      · cases hx
      split at hx
      · rcases List.mem_append.1 hx with hx | hx
        · exact layF_op h0 _ _ x hx
        · rcases List.mem_cons.1 hx with rfl | hx
          · exact fun h => absurd h (by decide : ¬ (3 : Int) = 1)
          · rcases List.mem_append.1 hx with hx | hx
            · exact mvs_op _ h0 x hx
            · rcases List.mem_singleton.1 hx with rfl; exact fun h => absurd h (by decide : ¬ (10 : Int) = 1)
      · rcases List.mem_append.1 hx with hx | hx
        · exact layF_op h0 _ _ x hx
        · exact optF_op h0 _ _ _ _ x hx
    split at hx
    · rcases List.mem_cons.1 hx with rfl | hx
      · exact fun h => absurd h (by decide : ¬ (4 : Int) = 1)
      · rcases List.mem_append.1 hx with hx | hx
        · exact cod_op m _ _ x hx
        · rcases List.mem_singleton.1 hx with rfl; exact fun h => absurd h (by decide : ¬ (4 : Int) = 1)
    split at hx
    · rcases List.mem_singleton.1 hx with rfl; exact fun h => absurd h (by decide : ¬ (9 : Int) = 1)
    split at hx
    · rename_i h8
      rcases List.mem_singleton.1 hx with rfl
      exact fun h => (by dsimp only at h; omega)
    · cases hx
end Go.Proofs.YtbciclnffokjjaaDoor
/- Ways through a program; pieces of code and what they mean. -/
namespace Go.Proofs.YtbciclnffokjjaaDoor
open Go.RowKit

/-- The rune at i is taken out of the ranges. -/
def TkR (s : ByteArray) (rs : List Rg) (i j : Nat) : Prop := i < s.size ∧ rnBad s i = false ∧ inR (rnR s i) rs ∧ j = i + (Utf8.encode (rnR s i)).size
/-- What an instruction does. -/
def StI (s : ByteArray) (ins : Ia) (i y j : Nat) : Prop :=
  (goB ins.op ins.arg s i = true ∧ j = i ∧ (y = ins.out.toNat ∨ (ins.op = 3 ∧ y = ins.alt.toNat))) ∨ (ins.op = 2 ∧ TkR s ins.rs i j ∧ y = ins.out.toNat)
def Stp (c : List Ia) (s : ByteArray) (x i y j : Nat) : Prop := ∃ ins, c[x]? = some ins ∧ StI s ins i y j
/-- A way of n steps. -/
def Pth (c : List Ia) (s : ByteArray) : Nat → Nat → Nat → Nat → Nat → Prop
  | 0, x, i, y, j => x = y ∧ i = j
  | n + 1, x, i, y, j => ∃ x' i', Stp c s x i x' i' ∧ Pth c s n x' i' y j
theorem Pth.trans {c : List Ia} {s : ByteArray} : ∀ {n m x i y j z k : Nat}, Pth c s n x i y j → Pth c s m y j z k → Pth c s (n + m) x i z k
  | 0, m, x, i, y, j, z, k, h, h' => by
    obtain ⟨rfl, rfl⟩ := h
    rw [Nat.zero_add]
    exact h'
  | n + 1, m, x, i, y, j, z, k, ⟨x', i', h0, h1⟩, h' => by
    rw [Nat.add_right_comm]
    exact ⟨x', i', h0, h1.trans h'⟩
theorem Pth.one {c : List Ia} {s : ByteArray} {x i y j : Nat} (h : Stp c s x i y j) : Pth c s 1 x i y j := ⟨y, j, h, rfl, rfl⟩
/-- The code from b on, L instructions, takes what M says, and goes on behind. -/
structure Wrk (c : List Ia) (s : ByteArray) (b L : Nat) (M : Nat → Nat → Prop) : Prop where
  snd : ∀ n i y j, Pth c s n b i y j → ¬ (b ≤ y ∧ y < b + L) → ∃ n' k, n' ≤ n ∧ M i k ∧ Pth c s n' (b + L) k y j
  cmp : ∀ i k, M i k → ∃ n, Pth c s n b i (b + L) k
theorem Wrk.imp {c : List Ia} {s : ByteArray} {b L : Nat} {M M' : Nat → Nat → Prop} (h : Wrk c s b L M) (e : ∀ i k, M i k ↔ M' i k) : Wrk c s b L M' :=
  ⟨fun n i y j hp hy => by obtain ⟨n', k, h1, h2, h3⟩ := h.snd n i y j hp hy; exact ⟨n', k, h1, (e i k).1 h2, h3⟩, fun i k hm => h.cmp i k ((e i k).2 hm)⟩
theorem Wrk.nil (c : List Ia) (s : ByteArray) (b : Nat) : Wrk c s b 0 (fun i j => i = j) :=
  ⟨fun n i _ _ hp _ => ⟨n, i, Nat.le_refl _, rfl, hp⟩, fun _ _ e => ⟨0, rfl, e⟩⟩
theorem Wrk.one {c : List Ia} {s : ByteArray} {b : Nat} {ins : Ia} {M : Nat → Nat → Prop} (hi : c[b]? = some ins) (h : ∀ i y j, StI s ins i y j ↔ (y = b + 1 ∧ M i j)) : Wrk c s b 1 M := by
  refine ⟨fun n i y j hp hy => ?_, fun i k hm => ⟨1, Pth.one ⟨ins, hi, (h i _ k).2 ⟨rfl, hm⟩⟩⟩⟩
  cases n with
  | zero => exact absurd hp.1 (by omega)
  | succ n =>
    obtain ⟨x', i', ⟨ins', hi', hs⟩, hp'⟩ := hp
    rw [hi] at hi'
    cases hi'
    obtain ⟨rfl, hm⟩ := (h i x' i').1 hs
    exact ⟨n, i', by omega, hm, hp'⟩
theorem Wrk.seq {c : List Ia} {s : ByteArray} {b L1 L2 : Nat} {M1 M2 : Nat → Nat → Prop} (h1 : Wrk c s b L1 M1) (h2 : Wrk c s (b + L1) L2 M2) : Wrk c s b (L1 + L2) (fun i j => ∃ k, M1 i k ∧ M2 k j) := by
  refine ⟨fun n i y j hp hy => ?_, fun i k ⟨q, hm1, hm2⟩ => ?_⟩
  · obtain ⟨n1, k1, l1, m1, p1⟩ := h1.snd n i y j hp (by omega)
    obtain ⟨n2, k2, l2, m2, p2⟩ := h2.snd n1 k1 y j p1 (by omega)
    exact ⟨n2, k2, by omega, ⟨k1, m1, m2⟩, by rw [← Nat.add_assoc]; exact p2⟩
  · obtain ⟨n1, p1⟩ := h1.cmp _ _ hm1
    obtain ⟨n2, p2⟩ := h2.cmp _ _ hm2
    exact ⟨n1 + n2, by rw [← Nat.add_assoc]; exact p1.trans p2⟩
/-- What a choice does. -/
theorem spl_sti {s : ByteArray} {k l : Int} {lz : Bool} {i y j : Nat} : StI s (spl k l lz) i y j ↔ (j = i ∧ (y = (k + 1).toNat ∨ y = l.toNat)) := by
  unfold StI spl
  have hg : ∀ a, goB 3 a s i = true := fun a => by unfold goB; simp
  cases lz <;> simp [hg]
  · exact fun _ => Or.comm
/-- Piece 1 behind a choice, with a jump to the end; piece 2 else. -/
theorem Wrk.alt {c : List Ia} {s : ByteArray} {b L1 L2 : Nat} {M1 M2 : Nat → Nat → Prop} {i1 i2 : Ia} (e1 : c[b]? = some i1) (e2 : c[b + 1 + L1]? = some i2)
    (s1 : ∀ i y j, StI s i1 i y j ↔ (j = i ∧ (y = b + 1 ∨ y = b + 1 + L1 + 1))) (s2 : ∀ i y j, StI s i2 i y j ↔ (j = i ∧ y = b + 1 + L1 + 1 + L2))
    (h1 : Wrk c s (b + 1) L1 M1) (h2 : Wrk c s (b + 1 + L1 + 1) L2 M2) : Wrk c s b (1 + L1 + 1 + L2) (fun i j => M1 i j ∨ M2 i j) := by
  have e : b + (1 + L1 + 1 + L2) = b + 1 + L1 + 1 + L2 := by omega
  refine ⟨fun n i y j hp hy => ?_, fun i k hm => ?_⟩
  · cases n with
    | zero => exact absurd hp.1 (by omega)
    | succ n =>
      obtain ⟨x', i', ⟨ins', hi', hs⟩, hp'⟩ := hp
      rw [e1] at hi'
      cases hi'
      obtain ⟨rfl, rfl | rfl⟩ := (s1 _ _ _).1 hs
      · obtain ⟨n1, k1, l1, m1, p1⟩ := h1.snd n _ y j hp' (by omega)
        cases n1 with
        | zero => exact absurd p1.1 (by omega)
        | succ n1 =>
          obtain ⟨x2, j2, ⟨ins2, hi2, hs2⟩, hp2⟩ := p1
          rw [e2] at hi2
          cases hi2
          obtain ⟨rfl, rfl⟩ := (s2 _ _ _).1 hs2
          exact ⟨n1, _, by omega, .inl m1, by rw [e]; exact hp2⟩
      · obtain ⟨n1, k1, l1, m1, p1⟩ := h2.snd n _ y j hp' (by omega)
        exact ⟨n1, k1, by omega, .inr m1, by rw [e]; exact p1⟩
  · rw [e]
    rcases hm with hm | hm
    · obtain ⟨n1, p1⟩ := h1.cmp _ _ hm
      exact ⟨1 + (n1 + 1), (Pth.one ⟨i1, e1, (s1 _ _ _).2 ⟨rfl, .inl rfl⟩⟩).trans (p1.trans (Pth.one ⟨i2, e2, (s2 _ _ _).2 ⟨rfl, rfl⟩⟩))⟩
    · obtain ⟨n1, p1⟩ := h2.cmp _ _ hm
      exact ⟨1 + n1, (Pth.one ⟨i1, e1, (s1 _ _ _).2 ⟨rfl, .inr rfl⟩⟩).trans p1⟩
/-- n times. -/
def itM (K : Nat → Nat → Prop) : Nat → Nat → Nat → Prop
  | 0, i, j => i = j
  | n + 1, i, j => ∃ k, K i k ∧ itM K n k j
theorem itM_snoc {K : Nat → Nat → Prop} : ∀ {n i j : Nat}, itM K (n + 1) i j ↔ ∃ k, itM K n i k ∧ K k j
  | 0, i, j => ⟨fun ⟨k, h, e⟩ => ⟨i, rfl, by have e' : k = j := e; rwa [← e']⟩, fun ⟨k, e, h⟩ => ⟨j, by have e' : i = k := e; rwa [e'], rfl⟩⟩
  | n + 1, i, j => by
    constructor
    · rintro ⟨k, h, hn⟩
      obtain ⟨q, h1, h2⟩ := itM_snoc.1 hn
      exact ⟨q, ⟨k, h, h1⟩, h2⟩
    · rintro ⟨q, ⟨k, h, h1⟩, h2⟩
      exact ⟨k, h, itM_snoc.2 ⟨q, h1, h2⟩⟩
theorem itM_add {K : Nat → Nat → Prop} : ∀ {n m i j : Nat}, itM K (n + m) i j ↔ ∃ k, itM K n i k ∧ itM K m k j
  | 0, m, i, j => ⟨fun h => ⟨i, rfl, by rwa [Nat.zero_add] at h⟩, fun ⟨k, e, h⟩ => by have e' : i = k := e; rw [Nat.zero_add, e']; exact h⟩
  | n + 1, m, i, j => by
    rw [Nat.add_right_comm]
    constructor
    · rintro ⟨k, h, hn⟩
      obtain ⟨q, h1, h2⟩ := itM_add.1 hn
      exact ⟨q, ⟨k, h, h1⟩, h2⟩
    · rintro ⟨q, ⟨k, h, h1⟩, h2⟩
      exact ⟨k, h, itM_add.2 ⟨q, h1, h2⟩⟩
/-- A piece that may be gone through any number of times. -/
theorem Wrk.star {c : List Ia} {s : ByteArray} {b L : Nat} {K : Nat → Nat → Prop} {i1 i2 : Ia} (e1 : c[b]? = some i1) (e2 : c[b + 1 + L]? = some i2)
    (s1 : ∀ i y j, StI s i1 i y j ↔ (j = i ∧ (y = b + 1 ∨ y = b + 1 + L + 1))) (s2 : ∀ i y j, StI s i2 i y j ↔ (j = i ∧ y = b))
    (h : Wrk c s (b + 1) L K) : Wrk c s b (1 + L + 1) (fun i j => ∃ n, itM K n i j) := by
  have e : b + (1 + L + 1) = b + 1 + L + 1 := by omega
  refine ⟨?_, ?_⟩
  · intro n
    induction n using Nat.strongRecOn with
    | ind n ih =>
      intro i y j hp hy
      cases n with
      | zero => exact absurd hp.1 (by omega)
      | succ n =>
        obtain ⟨x', i', ⟨ins', hi', hs⟩, hp'⟩ := hp
        rw [e1] at hi'
        cases hi'
        obtain ⟨rfl, rfl | rfl⟩ := (s1 _ _ _).1 hs
        · obtain ⟨n1, k1, l1, m1, p1⟩ := h.snd n _ y j hp' (by omega)
          cases n1 with
          | zero => exact absurd p1.1 (by omega)
          | succ n1 =>
            obtain ⟨x2, j2, ⟨ins2, hi2, hs2⟩, hp2⟩ := p1
            rw [e2] at hi2
            cases hi2
            obtain ⟨rfl, rfl⟩ := (s2 _ _ _).1 hs2
            obtain ⟨n3, k3, l3, ⟨q, m3⟩, p3⟩ := ih n1 (by omega) _ y j hp2 hy
            exact ⟨n3, k3, by omega, ⟨q + 1, _, m1, m3⟩, p3⟩
        · exact ⟨n, _, by omega, ⟨0, rfl⟩, by rw [e]; exact hp'⟩
  · rintro i k ⟨n, hm⟩
    rw [e]
    induction n generalizing i with
    | zero =>
      have e' : i = k := hm
      exact ⟨1, Pth.one ⟨i1, e1, (s1 _ _ _).2 ⟨e'.symm, .inr rfl⟩⟩⟩
    | succ n ih =>
      obtain ⟨q, h1, h2⟩ := hm
      obtain ⟨n1, p1⟩ := h.cmp _ _ h1
      obtain ⟨n2, p2⟩ := ih q h2
      exact ⟨1 + (n1 + (1 + n2)), (Pth.one ⟨i1, e1, (s1 _ _ _).2 ⟨rfl, .inl rfl⟩⟩).trans (p1.trans ((Pth.one ⟨i2, e2, (s2 _ _ _).2 ⟨rfl, rfl⟩⟩).trans p2))⟩
/-- A piece that may be left out, with all that follows up to the place e = b + 1 + L + R. -/
theorem Wrk.opt {c : List Ia} {s : ByteArray} {b L R : Nat} {K N : Nat → Nat → Prop} {i1 : Ia} (e1 : c[b]? = some i1)
    (s1 : ∀ i y j, StI s i1 i y j ↔ (j = i ∧ (y = b + 1 ∨ y = b + 1 + L + R)))
    (h : Wrk c s (b + 1) L K) (hr : Wrk c s (b + 1 + L) R N) : Wrk c s b (1 + L + R) (fun i j => i = j ∨ ∃ k, K i k ∧ N k j) := by
  have e : b + (1 + L + R) = b + 1 + L + R := by omega
  have hs := h.seq hr
  have e' : b + 1 + (L + R) = b + 1 + L + R := by omega
  refine ⟨fun n i y j hp hy => ?_, fun i k hm => ?_⟩
  · cases n with
    | zero => exact absurd hp.1 (by omega)
    | succ n =>
      obtain ⟨x', i', ⟨ins', hi', hst⟩, hp'⟩ := hp
      rw [e1] at hi'
      cases hi'
      obtain ⟨rfl, rfl | rfl⟩ := (s1 _ _ _).1 hst
      · obtain ⟨n1, k1, l1, m1, p1⟩ := hs.snd n _ y j hp' (by omega)
        exact ⟨n1, k1, by omega, .inr m1, by rw [e, ← e']; exact p1⟩
      · exact ⟨n, _, by omega, .inl rfl, by rw [e]; exact hp'⟩
  · rw [e]
    rcases hm with rfl | hm
    · exact ⟨1, Pth.one ⟨i1, e1, (s1 _ _ _).2 ⟨rfl, .inr rfl⟩⟩⟩
    · obtain ⟨n1, p1⟩ := hs.cmp _ _ hm
      rw [e'] at p1
      exact ⟨1 + n1, (Pth.one ⟨i1, e1, (s1 _ _ _).2 ⟨rfl, .inl rfl⟩⟩).trans p1⟩
end Go.Proofs.YtbciclnffokjjaaDoor
/- What a tree means, and that its code says so. -/
namespace Go.Proofs.YtbciclnffokjjaaDoor
open Go.RowKit

/-- The code p lies from b on. -/
def At (c : List Ia) (b : Nat) (p : List Ia) : Prop := ∀ k ins, p[k]? = some ins → c[b + k]? = some ins
theorem At.left {c p q : List Ia} {b : Nat} (h : At c b (p ++ q)) : At c b p := fun k ins hk => h k ins (by rw [List.getElem?_append_left (List.getElem?_eq_some_iff.1 hk).1]; exact hk)
theorem At.right {c p q : List Ia} {b : Nat} (h : At c b (p ++ q)) : At c (b + p.length) q := fun k ins hk => by
  rw [Nat.add_assoc]
  exact h _ ins (by rw [List.getElem?_append_right (by omega), Nat.add_sub_cancel_left]; exact hk)
theorem At.head {c q : List Ia} {i : Ia} {b : Nat} (h : At c b (i :: q)) : c[b]? = some i := h 0 i rfl
theorem At.tail {c q : List Ia} {i : Ia} {b : Nat} (h : At c b (i :: q)) : At c (b + 1) q := fun k ins hk => by
  rw [Nat.add_assoc, Nat.add_comm 1]
  exact h (k + 1) ins (by simpa using hk)
theorem bcast (b L : Nat) : (b : Int) + (L : Int) = ((b + L : Nat) : Int) := by omega
theorem bcast1 (b : Nat) : (b : Int) + 1 = ((b + 1 : Nat) : Int) := by omega

def catM (M : Nat → Nat → Nat → Prop) : Nat → Nat → Nat → Prop
  | 0, i, j => i = j
  | n + 1, i, j => ∃ k, catM M n i k ∧ M n k j
theorem cat_wrk {c : List Ia} {s : ByteArray} {F : Nat → Int → List Ia} {M : Nat → Nat → Nat → Prop} (b : Nat) : ∀ j, (∀ i, i < j → ∀ b : Nat, At c b (F i b) → Wrk c s b (F i b).length (M i)) → At c b (catF F j b) → Wrk c s b (catF F j b).length (catM M j)
  | 0, _, _ => Wrk.nil c s b
  | j + 1, h, ha => by
    unfold catF at ha ⊢
    have w1 := cat_wrk b j (fun i hi => h i (by omega)) ha.left
    have a2 := ha.right
    rw [bcast] at a2 ⊢
    rw [List.length_append]
    exact w1.seq (h j (by omega) _ a2)
theorem alt_pre {c : List Ia} {F : Nat → Int → List Ia} {e : Int} {b : Nat} {n : Nat} : ∀ d q, q + d = n → At c b (altF F e n b) → At c b (altF F e q b)
  | 0, q, h, ha => by have : q = n := by omega
                      subst this; exact ha
  | d + 1, q, h, ha => by
    have := alt_pre d (q + 1) (by omega) ha
    unfold altF at this
    exact this.left
theorem jmp_sti {s : ByteArray} {e : Int} {i y j : Nat} : StI s ⟨10, e, 0, 0, []⟩ i y j ↔ (j = i ∧ y = e.toNat) := by
  unfold StI
  have hg : goB 10 0 s i = true := by unfold goB; simp
  simp [hg]
theorem two_sti {s : ByteArray} {a b : Int} {i y j : Nat} : StI s ⟨3, a, b, 0, []⟩ i y j ↔ (j = i ∧ (y = a.toNat ∨ y = b.toNat)) := by
  unfold StI
  have hg : goB 3 0 s i = true := by unfold goB; simp
  simp [hg]
theorem cap_sti {s : ByteArray} {a g : Int} {i y j : Nat} : StI s ⟨4, a, 0, g, []⟩ i y j ↔ (j = i ∧ y = a.toNat) := by
  unfold StI
  have hg : goB 4 g s i = true := by unfold goB; simp
  simp [hg]
theorem alt_wrk {c : List Ia} {s : ByteArray} {F : Nat → Int → List Ia} {M : Nat → Nat → Nat → Prop} (b n E : Nat) (h : ∀ i, i ≤ n → ∀ b : Nat, At c b (F i b) → Wrk c s b (F i b).length (M i)) (ha : At c b (altF F E n b)) (hl : At c (b + (altF F E n b).length) (F n ((b + (altF F E n b).length : Nat) : Int)))
    (hE : E = b + (altF F E n b).length + (F n ((b + (altF F E n b).length : Nat) : Int)).length) : ∀ d q, q + d = n → ∃ L, b + (altF F E q b).length + L = E ∧ Wrk c s (b + (altF F E q b).length) L (fun i j => ∃ r, q ≤ r ∧ r ≤ n ∧ M r i j)
  | 0, q, hq => by
    have : q = n := by omega
    subst this
    refine ⟨_, hE.symm, (h q (Nat.le_refl _) _ hl).imp (fun i k => ⟨fun hm => ⟨q, Nat.le_refl _, Nat.le_refl _, hm⟩, fun ⟨r, h1, h2, hm⟩ => ?_⟩)⟩
    have : r = q := by omega
    subst this
    exact hm
  | d + 1, q, hq => by
    obtain ⟨L2, hL2, w2⟩ := alt_wrk b n E h ha hl hE d (q + 1) (by omega)
    have a1 := alt_pre d (q + 1) (by omega) ha
    have hlen : (altF F E (q + 1) b).length = (altF F E q b).length + 1 + (F q (b + (altF F E q b).length + 1)).length + 1 := by
      conv => lhs; unfold altF
      simp
      omega
    unfold altF at a1
    generalize hB : (altF F E q b).length = B at *
    have a2 := a1.right
    rw [hB] at a2
    rw [bcast, bcast1] at a2 hlen
    have t1 := a2.head
    have a3 := a2.tail
    have w1 := h q (by omega) _ a3.left
    have t2 := a3.right.head
    generalize (F q ((b + B + 1 : Nat) : Int)).length = L1 at *
    rw [show b + (altF F E (q + 1) b).length = b + B + 1 + L1 + 1 by omega] at w2 hL2
    refine ⟨1 + L1 + 1 + L2, by omega, (Wrk.alt t1 t2 (fun i y j => ?_) (fun i y j => ?_) w1 w2).imp (fun i k => ⟨fun hm => ?_, fun ⟨r, h1, h2, hm⟩ => ?_⟩)⟩
    · rw [two_sti]
      have z1 : ((b + B + 1 : Nat) : Int).toNat = b + B + 1 := by omega
      have z2 : (((b + B + 1 : Nat) : Int) + (L1 : Int) + 1).toNat = b + B + 1 + L1 + 1 := by omega
      rw [z1, z2]
    · rw [jmp_sti]
      have z1 : (E : Int).toNat = b + B + 1 + L1 + 1 + L2 := by omega
      rw [z1]
    · rcases hm with hm | ⟨r, h1, h2, hm⟩
      · exact ⟨q, Nat.le_refl _, by omega, hm⟩
      · exact ⟨r, by omega, h2, hm⟩
    · by_cases e : r = q
      · subst e; exact .inl hm
      · exact .inr ⟨r, by omega, h2, hm⟩
theorem lay_wrk {c k : List Ia} {s : ByteArray} {K : Nat → Nat → Prop} (hK : ∀ b : Nat, At c b (mvs b k) → Wrk c s b k.length K) (b : Nat) : ∀ j, At c b (layF k j b) → Wrk c s b (j * k.length) (itM K j)
  | 0, _ => by
    rw [Nat.zero_mul]
    exact Wrk.nil c s b
  | j + 1, ha => by
    unfold layF at ha
    have w1 := lay_wrk hK b j ha.left
    have a2 := ha.right
    rw [layF_len, bcast] at a2
    rw [Nat.add_mul, Nat.one_mul]
    exact (w1.seq (hK _ a2)).imp (fun i k => itM_snoc.symm)
theorem opt_pre {c k : List Ia} {lz : Bool} {e : Int} {b : Nat} {n : Nat} : ∀ d q, q + d = n → At c b (optF k lz e n b) → At c b (optF k lz e q b)
  | 0, q, h, ha => by have : q = n := by omega
                      subst this; exact ha
  | d + 1, q, h, ha => by
    have := opt_pre d (q + 1) (by omega) ha
    unfold optF at this
    exact this.left
theorem opt_wrk {c k : List Ia} {s : ByteArray} {K : Nat → Nat → Prop} {lz : Bool} (hK : ∀ b : Nat, At c b (mvs b k) → Wrk c s b k.length K) (b n E : Nat) (hE : E = b + n * (1 + k.length)) (ha : At c b (optF k lz E n b)) : ∀ d q, q + d = n → Wrk c s (b + q * (1 + k.length)) (d * (1 + k.length)) (fun i j => ∃ r, r ≤ d ∧ itM K r i j)
  | 0, q, hq => by
    rw [Nat.zero_mul]
    refine (Wrk.nil c s _).imp (fun i k => ⟨fun e => ⟨0, Nat.le_refl _, e⟩, fun ⟨r, hr, h⟩ => ?_⟩)
    have : r = 0 := by omega
    subst this
    exact h
  | d + 1, q, hq => by
    have w2 := opt_wrk hK b n E hE ha d (q + 1) (by omega)
    have a1 := opt_pre d (q + 1) (by omega) ha
    unfold optF at a1
    have a2 := a1.right
    rw [optF_len, bcast, bcast1] at a2
    have t1 := a2.head
    have w1 := hK _ a2.tail
    have eE : E = b + q * (1 + k.length) + 1 + k.length + d * (1 + k.length) := by
      rw [hE, ← hq, Nat.add_mul q, Nat.add_mul d, Nat.one_mul]
      omega
    rw [show b + (q + 1) * (1 + k.length) = b + q * (1 + k.length) + 1 + k.length by rw [Nat.add_mul, Nat.one_mul]; omega] at w2
    rw [show (d + 1) * (1 + k.length) = 1 + k.length + d * (1 + k.length) by rw [Nat.add_mul, Nat.one_mul]; omega]
    generalize b + q * (1 + k.length) = B at *
    generalize d * (1 + k.length) = R at *
    refine (Wrk.opt t1 (fun i y j => ?_) w1 w2).imp (fun i k => ⟨fun hm => ?_, fun ⟨r, hr, h⟩ => ?_⟩)
    · rw [spl_sti]
      have z1 : ((B : Int) + 1).toNat = B + 1 := by omega
      have z2 : (E : Int).toNat = B + 1 + k.length + R := by omega
      rw [z1, z2]
    · rcases hm with e | ⟨q, h1, r, hr, h2⟩
      · exact ⟨0, by omega, e⟩
      · exact ⟨r + 1, by omega, q, h1, h2⟩
    · cases r with
      | zero => exact .inl h
      | succ r =>
        obtain ⟨q, h1, h2⟩ := h
        exact .inr ⟨q, h1, r, by omega, h2⟩
end Go.Proofs.YtbciclnffokjjaaDoor
