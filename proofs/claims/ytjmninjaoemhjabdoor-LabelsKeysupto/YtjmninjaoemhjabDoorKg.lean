/- Key. -/
import Derived.Test.YtjmninjaoemhjabDoorKf
namespace Go.Proofs.YtjmninjaoemhjabDoor
open Go.RowKit Go.Lib Go.Shelf Go.Sort

attribute [local go_sem] Oper.semAt_some

/-- keeper's answer, as it lies below m. -/
def Kpr (m : Nat) (W : World) (Bs Bw : Nat) (xs : List ByteArray) (wo : Bool) : Prop :=
  Bs < m ∧ Bw < m ∧ ∃ v n0, W.cell? ⟨Bs, 0, none⟩ = some v ∧ W.cell? ⟨Bw, 0, none⟩ = some (.bool wo) ∧ W.ownsRow n0 9 1 v xs.length ((srt xs).map encStr) ∧ ∀ k, v.ownBlock = some k → k < m
theorem row_below {m n0 N : Nat} {e : TypeId} {W W' : World} {v : Value} {ys : List Value} (h : W.ownsRow n0 e 1 v N ys) (hv : ∀ k, v.ownBlock = some k → k < m) (hb : Below m W W') : W'.ownsRow n0 e 1 v N ys := by
  refine ⟨h.1, ?_⟩
  rcases h.2 with h0 | ⟨g, cap, cur, rfl, h1, h2, h3⟩
  · exact .inl h0
  · exact .inr ⟨g, cap, cur, rfl, h1, (hb.block g (hv g rfl)).trans h2, h3⟩
theorem Kpr.below {m : Nat} {W W' : World} {Bs Bw : Nat} {xs : List ByteArray} {wo : Bool} (h : Kpr m W Bs Bw xs wo) (hb : Below m W W') : Kpr m W' Bs Bw xs wo := by
  obtain ⟨h1, h2, v, n0, h3, h4, h5, h6⟩ := h
  exact ⟨h1, h2, v, n0, (hb.cell (p := ⟨Bs, 0, none⟩) h1).trans h3, (hb.cell (p := ⟨Bw, 0, none⟩) h2).trans h4, row_below h5 h6 hb, h6⟩
theorem Kpr.stays {m : Nat} {W : World} {Bs Bw : Nat} {xs : List ByteArray} {wo : Bool} (h : Kpr m W Bs Bw xs wo) (hN : xs.length ≤ 8796093022208) (x : ByteArray) :
    Calls Tryd.prog 14 #[.string x, .pointer (some ⟨Bs, 0, none⟩), .pointer (some ⟨Bw, 0, none⟩)] W fun e W' => e = .returned (.bool (stay xs wo x)) ∧ ∃ q, W' = W.drewN q := by
  obtain ⟨-, -, v, n0, h3, h4, h5, -⟩ := h
  exact stays_any n0 Bs Bw v xs wo x W hN h3 h4 h5
theorem keeper_k (a : Option Addr) (f : Nat → ByteArray) (N c : Nat) (wo : Bool) (w : World) (hN : N ≤ 8796093022208) (hR : Smb w.heap.size w a f N) :
    Calls Tryd.prog 9 #[.slice a N c, .bool wo] w fun e W' => ∃ Bs Bw, e = .returned (.func (.func 14) #[] #[.pointer (some ⟨Bs, 0, none⟩), .pointer (some ⟨Bw, 0, none⟩)]) ∧ Kpr W'.heap.size W' Bs Bw (lf f N) wo ∧ Below w.heap.size w W' := by
  refine (keeper_any a f N c wo w hN hR).mono ?_
  rintro e W' ⟨Bs, Bw, v, rfl, -, -, h3, h4, h5, h6⟩
  exact ⟨Bs, Bw, rfl, ⟨World.block_lt_of_cell? _ _ h3, World.block_lt_of_cell? _ _ h4, v, _, h3, h4, by rw [lf_len]; exact h5, fun k hk => (h5.lt k hk).2⟩, h6⟩
/-- One label in a key. -/
def km (l : Lb) : List UInt8 := ms l.1 ++ ms l.2
/-- The key of the first labels. -/
def keyF (f : Nat → Lb) (xs : List ByteArray) (wo : Bool) : Nat → List UInt8
  | 0 => []
  | i + 1 => keyF f xs wo i ++ if stay xs wo (f i).1 then km (f i) else []
def szF (f : Nat → Lb) : Nat → Nat
  | 0 => 0
  | i + 1 => szF f i + ((f i).1.size + (f i).2.size + 44)
theorem szF_mono (f : Nat → Lb) {i n : Nat} (h : i ≤ n) : szF f i ≤ szF f n := by
  induction n with
  | zero => rw [show i = 0 by omega]; exact Nat.le_refl _
  | succ n ih =>
    by_cases e : i = n + 1
    · subst e; exact Nat.le_refl _
    · have := ih (by omega)
      show _ ≤ szF f n + _
      omega
theorem keyF_len (f : Nat → Lb) (xs : List ByteArray) (wo : Bool) : ∀ i, szF f i ≤ 140737488355328 → (keyF f xs wo i).length ≤ szF f i
  | 0, _ => Nat.le_refl _
  | i + 1, h => by
    have hs : szF f (i + 1) = szF f i + ((f i).1.size + (f i).2.size + 44) := rfl
    have ih := keyF_len f xs wo i (by omega)
    have h1 := ms_len (f i).1 (by omega)
    have h2 := ms_len (f i).2 (by omega)
    unfold keyF
    rw [List.length_append]
    split
    · unfold km
      rw [List.length_append]
      omega
    · simp only [List.length_nil]
      omega
abbrev lX (x1 x2 : ByteArray) : Obj := .cells #[.string x1, .string x2] 24
set_option maxRecDepth 100000 in
set_option maxHeartbeats 4000000 in
theorem key_any (a na : Option Addr) (f : Nat → Lb) (nf : Nat → ByteArray) (n c N nc : Nat) (wo : Bool) (w : World) (hn : n ≤ 8796093022208) (hN : N ≤ 8796093022208) (hs : szF f n ≤ 140737488355328) (hw : 0 < w.heap.size) (hL : Lm w a f n) (hR : Smb w.heap.size w na nf N) (ht : TbI w) :
    Calls Tryd.prog 4 #[.slice a n c, .slice na N nc, .bool wo] w fun e w' => e = .returned (.string ⟨(keyF f (lf nf N) wo n).toArray⟩) ∧ Below w.heap.size w w' := by
  have k0 := keeper_k na nf N nc wo w hN hR
  have hxl : (lf nf N).length ≤ 8796093022208 := by rw [lf_len]; exact hN
  generalize lf nf N = xs at k0 hxl ⊢
  have HL : Hid (Lm w a f n) := hL
  have HT : Hid (TbI w) := ht
  have HS : Hid (szF f n ≤ 140737488355328) := hs
  have hnI : (n : Int) ≤ 8796093022208 := by omega
  clear hL ht hR hs
  go_enter Tryd.func4, Tryd.ntmps4
  go_wp2_with fail
  go_fit k0
  rintro e w1 ⟨Bs, Bw, rfl, hk1, hb1⟩
  obtain ⟨W, hW⟩ : ∃ W, W = w1.alloc (.cells #[.pointer none, .slice none 0 0] 41) := ⟨_, rfl⟩
  have HW : Hid (W = w1.alloc (.cells #[.pointer none, .slice none 0 0] 41)) := hW
  have hbW : Below w1.heap.size w1 W := by rw [hW]; exact (Below.refl _ w1).alloc (Nat.le_refl _) _
  have hWz : W.heap.size = w1.heap.size + 1 := by rw [hW]; simp
  have hbu : Lib.IsBuilderF 41 5 w1.heap.size w1.heap.size (Lib.byteCells []) W := by
    have := Lib.fresh_isBuilder 41 5 w1
    rw [← hW] at this
    exact Lib.IsBuilderF.of this
  obtain ⟨m, hm⟩ : ∃ m, m = w1.heap.size := ⟨_, rfl⟩
  have HB1 : Hid (Below w.heap.size w w1) := hb1
  have HK1 : Hid (Kpr m w1 Bs Bw xs wo) := by rw [hm]; exact hk1
  have HBW : Hid (Below m w1 W) := by rw [hm]; exact hbW
  have HBU : Hid (Lib.IsBuilderF 41 5 m m (Lib.byteCells []) W) := by rw [hm]; exact hbu
  have hmw : w.heap.size ≤ m := by rw [hm]; exact hb1.size
  have HWZ : Hid (W.heap.size = m + 1) := by rw [hm]; exact hWz
  clear hk1 hb1 hbW hbu hW hWz k0
  go_upto_region 3 with fail
  rw [← HW.out]
  clear HW
  subst hm
  go_wp2_with fail
  go_loopw [16] (fun ivv w' => ∃ i : Nat, ivv = .int .i64 (i : Int) ∧ i ≤ n ∧ Hid (Lib.IsBuilderF 41 5 w1.heap.size w1.heap.size (Lib.byteCells (keyF f xs wo i)) w') ∧ Hid (Below w1.heap.size w1 w') ∧ Hid (w1.heap.size + 1 ≤ w'.heap.size)) (fun ivv _ => n - (RowKit.intOf ivv).toNat)
  case atStart => exact ⟨0, rfl, by omega, HBU.out, HBW.out, by have := HWZ.out; unfold Hid; omega⟩
  case round =>
    obtain ⟨i, rfl, hi, hbu, hbw, hzz⟩ := hrel
    by_cases hlt : i < n
    · have hii : (i : Int) < n := by omega
      obtain ⟨g, o, rfl, hg, c0, c1⟩ := ((HL.out.below HB1.out).below hbw.out).at i hlt
      have hz := hzz.out
      have hK := HK1.out.below hbw.out
      obtain ⟨⟨x1, x2⟩, hx⟩ : ∃ x, f i = x := ⟨_, rfl⟩
      have HKS : Hid (keyF f xs wo (i + 1) = keyF f xs wo i ++ if stay xs wo x1 then km (x1, x2) else []) := by
        unfold Hid
        conv => lhs; unfold keyF
        rw [hx]
      have HSZ : Hid ((keyF f xs wo i).length + (x1.size + x2.size + 44) ≤ 140737488355328) := by
        have h1 := szF_mono f (show i + 1 ≤ n from hlt)
        have h2 : szF f (i + 1) = szF f i + ((f i).1.size + (f i).2.size + 44) := rfl
        have h4 := HS.out
        have h3 := keyF_len f xs wo i (by omega)
        rw [hx] at h2
        dsimp only at h2
        unfold Hid
        omega
      rw [hx] at c0 c1
      dsimp only at c0 c1
      have hal : Below wr.heap.size wr (wr.alloc (lX x1 x2)) := (Below.refl _ wr).alloc (Nat.le_refl _) _
      have kC := (hK.below (hal.mono (by omega))).stays hxl x1
      have HBA : Hid (Lib.IsBuilderF 41 5 w1.heap.size w1.heap.size (Lib.byteCells (keyF f xs wo i)) (wr.alloc (lX x1 x2))) := builder_below hbu.out hal
      have HBB : Hid (Below w1.heap.size w1 (wr.alloc (lX x1 x2))) := hbw.out.trans (hal.mono (by omega))
      have HBX : Hid ((wr.alloc (lX x1 x2)).heap[wr.heap.size]? = some (lX x1 x2)) := World.alloc_heap_new wr _
      have HBZ : Hid (w1.heap.size + 1 ≤ (wr.alloc (lX x1 x2)).heap.size ∧ w1.heap.size + 1 ≤ wr.heap.size) := ⟨by simp; omega, hz⟩
      have HTW : Hid (∀ w9, Below w1.heap.size w1 w9 → TbI w9) := fun w9 h9 => HT.out.low hw (HB1.out.trans (h9.mono HB1.out.size))
      clear hK hbu hbw hal hx hzz hz HK1 HBW HBU
      generalize keyF f xs wo i = kk at HKS HSZ HBA
      cases hst : stay xs wo x1
      · rw [hst] at kC HKS
        go_wp2_with fail
        go_fit kC
        rintro e w3 ⟨rfl, q, rfl⟩
        go_wp2
        refine ⟨⟨i + 1, by go_num, by omega, ?_, below_drewN HBB.out q, HBZ.out.1⟩, by simp [RowKit.intOf]; omega⟩
        unfold Hid
        rw [HKS.out, if_neg (by simp), List.append_nil]
        exact builder_below HBA.out (below_drewN (Below.refl _ _) q)
      · rw [hst] at kC HKS
        go_wp2_with fail
        go_fit kC
        rintro e w3 ⟨rfl, q, rfl⟩
        have hbA := builder_below HBA.out (below_drewN (Below.refl _ _) q)
        have hbB := below_drewN HBB.out q
        have hbX : ((wr.alloc (lX x1 x2)).drewN q).heap[wr.heap.size]? = some (lX x1 x2) := HBX.out
        have hbZ : w1.heap.size + 1 ≤ ((wr.alloc (lX x1 x2)).drewN q).heap.size := HBZ.out.1
        generalize (wr.alloc (lX x1 x2)).drewN q = w3 at hbA hbB hbX hbZ ⊢
        have d0 : w3.cell? ⟨wr.heap.size, 0, none⟩ = some (.string x1) := by unfold World.cell?; rw [hbX]; rfl
        have k1 := measured_any w1.heap.size w1.heap.size kk x1 w3 hbA (by have := HSZ.out; omega) (by omega) (HTW.out w3 hbB)
        have H4 : Hid (∀ w4, Lib.IsBuilderF 41 5 w1.heap.size w1.heap.size (Lib.byteCells (kk ++ ms x1)) w4 → Below w1.heap.size w3 w4 → Lib.OthersKept 5 (some w1.heap.size) w3 w4 → Below w1.heap.size w1 w4 ∧ w1.heap.size + 1 ≤ w4.heap.size ∧ w4.cell? ⟨wr.heap.size, 1, none⟩ = some (.string x2)) := fun w4 _ h4 h5 => by
          refine ⟨hbB.trans h4, Nat.le_trans hbZ h4.size, ?_⟩
          have h6 := h5 wr.heap.size (lX x1 x2) hbX (by have := HBZ.out.2; simp; omega) (fun c fz e => by cases e)
          unfold World.cell?
          rw [h6]
          rfl
        clear hbA hbB hbX hbZ kC
        go_wp2_with fail
        go_fit k1
        rintro e w4 ⟨rfl, hb4, hbl4, ho4⟩
        obtain ⟨hbl, hz4, d1⟩ := H4.out w4 hb4 hbl4 ho4
        have k2 := measured_any w1.heap.size w1.heap.size (kk ++ ms x1) x2 w4 hb4 (by have := HSZ.out; have := ms_len x1 (by omega); rw [List.length_append]; omega) (by omega) (HTW.out w4 hbl)
        have H5 : Hid (Below w1.heap.size w1 w4 ∧ w1.heap.size + 1 ≤ w4.heap.size) := ⟨hbl, hz4⟩
        clear hb4 hbl4 ho4 H4 k1 d0 hbl hz4
        go_wp2_with fail
        go_fit k2
        rintro e w5 ⟨rfl, hb5, hbl5, -⟩
        have H6 : Hid (Lib.IsBuilderF 41 5 w1.heap.size w1.heap.size (Lib.byteCells (kk ++ ms x1 ++ ms x2)) w5) := hb5
        have H7 : Hid (Below w1.heap.size w1 w5 ∧ w1.heap.size + 1 ≤ w5.heap.size) := ⟨H5.out.1.trans hbl5, Nat.le_trans H5.out.2 hbl5.size⟩
        clear hb5 hbl5 k2 H5
        go_wp2
        refine ⟨⟨i + 1, by go_num, by omega, ?_, H7.out.1, H7.out.2⟩, by simp [RowKit.intOf]; omega⟩
        unfold Hid
        rw [HKS.out, if_pos (by simp)]
        have e : kk ++ ms x1 ++ ms x2 = kk ++ km (x1, x2) := by unfold km; simp
        rw [← e]
        exact H6.out
    · obtain rfl : i = n := by omega
      have hii : ¬ (i : Int) < i := by omega
      have kS := Tryd.Builder_String_any_k w1.heap.size w1.heap.size (keyF f xs wo i) wr hbu.out (by have := hzz.out; omega)
      have HB9 : Hid (∀ w8, Below w1.heap.size wr w8 → Below w.heap.size w w8) := fun w8 h8 => HB1.out.trans ((hbw.out.trans h8).mono hmw)
      clear hbu hbw
      obtain ⟨kk, hkk⟩ : ∃ kk, keyF f xs wo i = kk := ⟨_, rfl⟩
      have HKK : Hid (keyF f xs wo i = kk) := hkk
      rw [hkk] at kS
      clear hkk
      go_wp2_with fail
      go_fit kS
      rintro e w8 ⟨rfl, -, hb8, -⟩
      have hbf := HB9.out w8 hb8
      go_wp2
      go_ret
      exact ⟨by rw [HKK.out]; rfl, hbf⟩
end Go.Proofs.YtjmninjaoemhjabDoor
