/- A packer: Add. -/
import Derived.Test.YtedlmjieclaojaaDoorCi
namespace Go.Proofs.YtedlmjieclaojaaDoor
open Go.RowKit

theorem bdrew {B : Nat} {w w' : World} (h : Below B w w') : ∀ n, Below B w (w'.drewN n)
  | 0 => h
  | n + 1 => (bdrew h n).drew
/-- A packer that holds these samples. -/
structure Hd (S : Nat) (w : World) (B : Nat) (v : Value) (l : List Smp) : Prop where
  pk : Pkr S w B v (nb 0 17 ++ bod t0 l) (fin t0 l)
  ok : ∀ x ∈ l, Sok x
  le : l.length ≤ 100000
namespace Hd
variable {S : Nat} {w w' : World} {B : Nat} {v : Value} {l : List Smp}
theorem below (h : Hd S w B v l) (b : Below w.heap.size w w') : Hd S w' B v l := ⟨h.pk.below b, h.ok, h.le⟩
theorem kp {M : Nat → Prop} (h : Hd S w B v l) (k : Kp M w w') (hB : ¬ M B) (hg : ∀ g, v.ownBlock = some g → ¬ M g) : Hd S w' B v l := ⟨h.pk.kp k hB hg, h.ok, h.le⟩
theorem gt (h : Hd S w B v l) : Gt (fin t0 l) := gt0.fin h.ok
theorem len (h : Hd S w B v l) : (nb 0 17 ++ bod t0 l).length ≤ 16000100 := by
  have := bod_len l t0 gt0 h.ok
  have := h.le
  rw [List.length_append, nb_len]
  omega
end Hd
theorem fin_len (l : List Smp) : (fin t0 l).n = l.length := by rw [fin_n]; exact Nat.zero_add _
abbrev smV (x : Smp) : Value := .agg #[.int .i64 x.t, .float .f64 x.v, .bool x.s]
abbrev smX (x : Smp) : Obj := .cells #[.int .i64 x.t, .float .f64 x.v, .bool x.s] 38

set_option maxHeartbeats 1000000 in
set_option maxRecDepth 100000 in
theorem add_nil (x : Smp) (w : World) : Calls Tryd.prog 17 #[.pointer none, smV x] w fun e w' => e = .returned (.int .i64 2) ∧ Below w.heap.size w w' := by
  obtain ⟨t, v, s⟩ := x
  have HB : Hid (Below w.heap.size w (w.alloc (smX ⟨t, v, s⟩))) := (Below.refl _ _).alloc (Nat.le_refl _) _
  go_enter Tryd.func17, Tryd.ntmps17
  go_wp2
  go_ret
  exact ⟨rfl, HB.out⟩
set_option maxHeartbeats 1000000 in
set_option maxRecDepth 100000 in
theorem add_long (S B : Nat) (v : Value) (l : List Smp) (x : Smp) (w : World) (h : Hd S w B v l) (hl : l.length = 100000) :
    Calls Tryd.prog 17 #[.pointer (some ⟨B, 0, none⟩), smV x] w fun e w' => e = .returned (.int .i64 1) ∧ Below w.heap.size w w' := by
  have hb : Below w.heap.size w (w.alloc (smX x)) := (Below.refl _ _).alloc (Nat.le_refl _) _
  have HB : Hid (Below w.heap.size w (w.alloc (smX x))) := hb
  have c0 := (h.below hb).pk.tc.c0
  rw [fin_len, hl] at c0
  have c0 : (w.alloc (smX x)).cell? ⟨B, 2, none⟩ = some (.int .i64 100000) := c0
  have hlt := h.pk.stm.lt
  obtain ⟨t, v, s⟩ := x
  clear h hl hb
  go_enter Tryd.func17, Tryd.ntmps17
  go_wp2
  go_ret
  exact ⟨rfl, HB.out⟩
set_option maxHeartbeats 1000000 in
set_option maxRecDepth 100000 in
theorem add_order (S B : Nat) (v : Value) (l : List Smp) (x : Smp) (w : World) (h : Hd S w B v l) (hl : l.length < 100000) (h0 : 0 < l.length) (ht : x.t ≤ (fin t0 l).tm) :
    Calls Tryd.prog 17 #[.pointer (some ⟨B, 0, none⟩), smV x] w fun e w' => e = .returned (.int .i64 170) ∧ Below w.heap.size w w' := by
  have hb : Below w.heap.size w (w.alloc (smX x)) := (Below.refl _ _).alloc (Nat.le_refl _) _
  have HB : Hid (Below w.heap.size w (w.alloc (smX x))) := hb
  have c0 := (h.below hb).pk.tc.c0
  have c1 := (h.below hb).pk.tc.c1
  rw [fin_len] at c0
  have hlt := h.pk.stm.lt
  obtain ⟨t, v, s⟩ := x
  generalize (fin t0 l).tm = T at *
  dsimp only at ht
  obtain ⟨N, hN⟩ : ∃ N : Int, N = (l.length : Nat) := ⟨_, rfl⟩
  rw [← hN] at c0
  have hn1 : ¬ N = 100000 := by omega
  have hn2 : 0 < N := by omega
  have hn3 : decide (0 < N) = true := by simp; omega
  clear hN
  clear h hl hb h0
  go_enter Tryd.func17, Tryd.ntmps17
  go_wp2_with fail
  go_big_quiet (fail)
  go_wp2
  go_ret
  exact ⟨rfl, bdrew HB.out _⟩
theorem putValue_any (S B : Nat) (v : Value) (L : List Int) (r : Trl) (a : Nat) (w : World) (h : Pkr S w B v L r) (hT : Tab w) (ha : a < 18446744073709551616) (hr : Gt r) (hL : L.length + 200 ≤ 1000000000) :
    Calls Tryd.prog 34 #[.pointer (some ⟨B, 0, none⟩), .int .u64 (a : Nat)] w (Pq S B v L (vlu (a ^^^ r.vl) r.fr r.to) { r with vl := a, fr := vfr (a ^^^ r.vl) r.fr r.to, to := vto (a ^^^ r.vl) r.fr r.to } w) := by
  by_cases h0 : a ^^^ r.vl = 0
  · exact putValue_same S B v L r a w h ha hr hL h0
  · exact putValue_diff S B v L r a w h hT ha hr hL h0
theorem store_n (S B : Nat) (v v1 : Value) (w w1 : World) (L : List Int) (r : Trl) (h : Pkr S w1 B v1 L r) (hs : Sub w v v1) (hk : Kp (Mv B v) w w1) (n : Nat) :
    Pkr S (w1.setCell ⟨B, 2, none⟩ (.int .i64 (n : Nat))) B v1 L { r with n := n } ∧ Kp (Mv B v) w (w1.setCell ⟨B, 2, none⟩ (.int .i64 (n : Nat))) :=
  ⟨⟨h.stm.set 2 (by decide) _, h.tc.setN n, h.S3, h.SB⟩, hk.next hs (kp_set w1 B 2 v1 _)⟩
theorem Pq.tabs {S B : Nat} {v : Value} {L X : List Int} {r r' : Trl} {w w' : World} {e : Ending} (h : Pkr S w B v L r) (hp : Pq S B v L X r' w e w') (hs : Scl w) (ht : Tab w) : Scl w' ∧ Tab w' := by
  obtain ⟨_, _, _, _, k⟩ := hp
  exact ⟨hs.kp k (h.not_low 1 (by decide)), ht.kp k (h.not_low 2 (by decide))⟩
set_option maxHeartbeats 2000000 in
set_option maxRecDepth 100000 in
theorem add_ok (S B : Nat) (v : Value) (l : List Smp) (x : Smp) (w : World) (h : Hd S w B v l) (hs : Scl w) (hT : Tab w) (hx : Sok x) (hl : l.length < 100000) (ht : 0 < l.length → (fin t0 l).tm < x.t) :
    Calls Tryd.prog 17 #[.pointer (some ⟨B, 0, none⟩), smV x] w fun e w' => e = .returned (.int .i64 0) ∧ ∃ v', Hd S w' B v' (l ++ [x]) ∧ Sub w v v' ∧ Kp (Mv B v) w w' := by
  have hb : Below w.heap.size w (w.alloc (smX x)) := (Below.refl _ _).alloc (Nat.le_refl _) _
  have hH := h.below hb
  have hlen := h.len
  have hgt := h.gt
  have HF : Hid (∀ v' w', Pkr S w' B v' (nb 0 17 ++ bod t0 (l ++ [x])) (fin t0 (l ++ [x])) → Hd S w' B v' (l ++ [x])) := fun v' w' hp => ⟨hp, fun y hy => by
    rcases List.mem_append.1 hy with hy | hy
    · exact h.ok y hy
    · rw [List.mem_singleton.1 hy]; exact hx, by rw [List.length_append]; simp; omega⟩
  have HA : Hid (∀ (w' : World) (v' : Value), Pkr S w' B v' (nb 0 17 ++ bod t0 l ++ tmb (fin t0 l) x.t ++ vlb (fin t0 l) x) (nxt (fin t0 l) x) → Hd S w' B v' (l ++ [x])) := fun w' v' hp => HF.out v' w' (by
    rw [bod_snoc, fin_snoc, ← List.append_assoc]
    unfold smb
    rw [← List.append_assoc]
    exact hp)
  have hn := fin_len l
  have HP : Hid (Pkr S (w.alloc (smX x)) B v (nb 0 17 ++ bod t0 l) (fin t0 l)) := hH.pk
  have hlt := h.pk.stm.lt
  have HNB : Hid (¬ Mv B v w.heap.size) := by
    rintro (e | e)
    · omega
    · have := (h.pk.stm.base _ e).2
      omega
  have HSb : Hid (∀ v', Sub (w.alloc (smX x)) v v' → Sub w v v') := fun v' hs i e hi => hs i e (Nat.lt_of_lt_of_le hi hb.size)
  clear HF h hH
  generalize nb 0 17 ++ bod t0 l = L at *
  generalize fin t0 l = r at *
  have c0 := HP.out.tc.c0
  have c1 := HP.out.tc.c1
  have hs1 : Hid (Scl (w.alloc (smX x))) := hs.below hb
  have ht1 : Hid (Tab (w.alloc (smX x))) := hT.below hb
  have HB : Hid (Below w.heap.size w (w.alloc (smX x))) := hb
  obtain ⟨N, hN⟩ : ∃ N : Int, N = (r.n : Nat) := ⟨_, rfl⟩
  have HN : Hid (N = (r.n : Nat)) := hN
  rw [← hN] at c0
  have hn1 : ¬ N = 100000 := by omega
  have hn4 : N < 100000 := by omega
  have hn5 : 0 ≤ N := by omega
  obtain ⟨t, vv, st⟩ := x
  dsimp only at ht hx HA ⊢
  have x0 : (w.alloc (smX ⟨t, vv, st⟩)).cell? ⟨w.heap.size, 0, none⟩ = some (.int .i64 t) := by simp
  have x1 : (w.alloc (smX ⟨t, vv, st⟩)).cell? ⟨w.heap.size, 1, none⟩ = some (.float .f64 vv) := by simp
  have x2 : (w.alloc (smX ⟨t, vv, st⟩)).cell? ⟨w.heap.size, 2, none⟩ = some (.bool st) := by simp
  have hLL : L.length + 400 ≤ 1000000000 := by omega
  have htm : (tmb r t).length ≤ 100 := by
    have := smb_len r ⟨t, vv, st⟩ hgt hx
    unfold smb at this
    rw [List.length_append] at this
    unfold tmb
    split
    · rw [nb_len]; decide
    · unfold chg
      have h1 := way_le (s64 (s64 (t - r.tm) - r.st))
      have h2 := scW_le (wayOf (s64 (s64 (t - r.tm) - r.st)))
      rw [List.length_append, nb_len, wy_len]
      split <;> omega
  have K32 : Hid (∀ q, Calls Tryd.prog 32 #[.pointer (some ⟨B, 0, none⟩), .int .i64 t] ((w.alloc (smX ⟨t, vv, st⟩)).drewN q) (Pq S B v L (tmb r t) { r with tm := t, st := if r.n = 0 then r.st else s64 (t - r.tm) } ((w.alloc (smX ⟨t, vv, st⟩)).drewN q))) := fun q =>
    putTime_any S B v L r t _ (HP.out.below (bdrew (Below.refl _ _) q)) (hs1.out.below (bdrew (Below.refl _ _) q)) (by omega)
  have hgt2 : Hid (Gt { r with tm := t, st := if r.n = 0 then r.st else s64 (t - r.tm) }) := by
    refine ⟨⟨hx.1, hx.2.1⟩, ?_, hgt.vl, hgt.fr⟩
    show _ ≤ (if r.n = 0 then r.st else s64 (t - r.tm)) ∧ (if r.n = 0 then r.st else s64 (t - r.tm)) ≤ _
    split
    · exact hgt.st
    · exact s64_bd _
  have hvv : Hid (vv < 18446744073709551616) := hx.2.2
  have HT : Hid (0 < N → r.tm < t) := fun hN => ht (by have := HN.out; omega)
  clear hn hl ht hx hs hT hb hN
  generalize hW : w.alloc (smX ⟨t, vv, st⟩) = W at *
  have hW' : w.alloc (.cells #[.int .i64 t, .float .f64 vv, .bool st] 38) = W := hW
  clear hW
  obtain ⟨SB, hSB⟩ : ∃ SB, SB = w.heap.size := ⟨_, rfl⟩
  rw [← hSB] at x0 x1 x2 HNB
  have HSB : Hid (w.heap.size = SB) := hSB.symm
  by_cases hN0 : N = 0
  case' pos =>
    subst hN0
    clear hn1 hn4 hn5 hSB
    go_enter Tryd.func17, Tryd.ntmps17
    go_upto_region 1 with fail
    rw [HSB.out]
    clear hW'
    go_wp2_with fail
    go_big_quiet (fail)
    obtain ⟨M, hM⟩ : ∃ M : Int, M = 0 := ⟨_, rfl⟩
    have HN' : Hid (M = (r.n : Nat)) := by rw [hM]; exact HN.out
  case' neg =>
    have hn2 : 0 < N := by omega
    have hn3 : decide (0 < N) = true := by simp; omega
    have hn6 := HT.out hn2
    have hn7 : decide (t ≤ r.tm) = false := by simp; omega
    have hn8 : ¬ t ≤ r.tm := by omega
    clear hSB
    go_enter Tryd.func17, Tryd.ntmps17
    go_upto_region 1 with fail
    rw [HSB.out]
    clear hW'
    go_wp2_with fail
    go_big_quiet (fail)
    obtain ⟨M, hM⟩ : ∃ M : Int, M = N := ⟨_, rfl⟩
    have HN' : Hid (M = (r.n : Nat)) := by rw [hM]; exact HN.out
  all_goals
    go_wp2_with fail
    go_fit (K32.out _)
    rintro e w2 hq
    have hp0 := HP.out.below (bdrew (Below.refl W.heap.size W) nq)
    obtain ⟨hs2, ht2⟩ := hq.tabs hp0 (hs1.out.below (bdrew (Below.refl _ _) nq)) (ht1.out.below (bdrew (Below.refl _ _) nq))
    obtain ⟨rfl, v2, hp2, sub2, kp2⟩ := hq
    have y1 : w2.cell? ⟨SB, 1, none⟩ = some (.float .f64 vv) := kp2.cell (bcell2 (bdrew (Below.refl W.heap.size W) nq) x1) HNB.out
    have y2 : w2.cell? ⟨SB, 2, none⟩ = some (.bool st) := kp2.cell (bcell2 (bdrew (Below.refl W.heap.size W) nq) x2) HNB.out
    have kW : Kp (Mv B v) w w2 := ((Kp.of HB.out).trans (Kp.of (bdrew (Below.refl W.heap.size W) nq))).trans kp2
    have sW : Sub w v v2 := HSb.out v2 sub2
    have HK2 : Hid (Kp (Mv B v) w w2) := kW
    have HS2 : Hid (Sub w v v2) := sW
    have HP2 : Hid _ := hp2
    have hLe : (L ++ tmb r t).length + 200 ≤ 1000000000 := by rw [List.length_append]; omega
    clear kW sW sub2 kp2 K32 hp0
    have hM0 : 0 ≤ M := by omega
    have hM1 : M < 100000 := by omega
    clear hM x0 x1 x2 c0 c1 HP hs1 ht1 HB HT HN HSb
    have HFin : Hid (∀ (w3 : World) (v3 : Value) (vl fr to : Nat), Pkr S w3 B v3 (L ++ tmb r t ++ vlb r ⟨t, vv, st⟩) ⟨r.n, t, if r.n = 0 then r.st else s64 (t - r.tm), vl, fr, to⟩ → (⟨r.n + 1, t, if r.n = 0 then r.st else s64 (t - r.tm), vl, fr, to⟩ : Trl) = nxt r ⟨t, vv, st⟩ → Sub w v v3 → Kp (Mv B v) w w3 →
        w3.cell? ⟨B, 2, none⟩ = some (.int .i64 M) ∧ w3.frozen? ⟨B, 2, none⟩ = false ∧ Hid (∃ v', Hd S (w3.setCell ⟨B, 2, none⟩ (.int .i64 (M + 1))) B v' (l ++ [⟨t, vv, st⟩]) ∧ Sub w v v' ∧ Kp (Mv B v) w (w3.setCell ⟨B, 2, none⟩ (.int .i64 (M + 1))))) := fun w3 v3 vl fr to hp e hs hk => by
      have h1 := store_n S B v v3 w w3 _ _ hp hs hk (r.n + 1)
      have e1 : ((r.n + 1 : Nat) : Int) = M + 1 := by have := HN'.out; omega
      rw [e1] at h1
      dsimp only at h1
      refine ⟨?_, hp.stm.fz 2, v3, HA.out _ _ (by rw [← e]; exact h1.1), hs, h1.2⟩
      rw [HN'.out]
      exact hp.tc.c0
    cases st with
    | true =>
      have k := putWay_any S B v2 (L ++ tmb r t) 3 3 w2 HP2.out.stm (by decide) (by decide) (by omega)
      clear hp2
      go_wp2_with fail
      go_fit k
      rintro e w3 ⟨rfl, v3, hS3, hsub3, hkp3, hrs3⟩
      obtain ⟨z0, z1, z2⟩ := HFin.out w3 v3 r.vl r.fr r.to ⟨by unfold vlb; rw [if_pos rfl]; exact hS3, HP2.out.tc.rst hrs3, HP2.out.S3, HP2.out.SB⟩ rfl (HS2.out.trans hsub3 HK2.out.size) (HK2.out.next HS2.out hkp3)
      clear HFin hS3 hsub3 hkp3 hrs3 k HA hs2 ht2 y1 y2
      go_wp2
      go_ret
      exact ⟨rfl, z2.out⟩
    | false =>
      have k1 := bits_any vv w2
      have k2 := putValue_any S B v2 (L ++ tmb r t) _ (cb vv) w2 HP2.out ht2 (cb_lt _ hvv.out) hgt2.out hLe
      clear hp2
      go_wp2_with fail
      go_fit k1
      rintro e w3 ⟨rfl, rfl⟩
      go_wp2_with fail
      go_fit k2
      rintro e w3 ⟨rfl, v3, hp3, hsub3, hkp3⟩
      obtain ⟨z0, z1, z2⟩ := HFin.out w3 v3 _ _ _ (by unfold vlb; rw [if_neg Bool.false_ne_true]; exact hp3) rfl (HS2.out.trans hsub3 HK2.out.size) (HK2.out.next HS2.out hkp3)
      clear HFin hsub3 hkp3 k1 k2 HA hs2 ht2 y1 y2 hp3
      go_wp2
      go_ret
      exact ⟨rfl, z2.out⟩
end Go.Proofs.YtedlmjieclaojaaDoor
