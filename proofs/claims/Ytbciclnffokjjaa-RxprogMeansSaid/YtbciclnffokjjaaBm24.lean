/- A bundle of texts. -/
import Derived.Test.YtbciclnffokjjaaBm23
/- Programs run: taken. -/
namespace Go.Proofs.Ytbciclnffokjjaa
open Go.RowKit

theorem RcP_ls {c : List Ia} {s : ByteArray} {i : Int} {ls o : List Nat} (h : SprOk c s i ls o) : RcP c s i (fun y => y ∈ ls) = fun x => x ∈ o := by
  funext x
  exact propext (h.iff x).symm
/-- A width is at least one and does not pass the end. -/
def WdOk (s : ByteArray) : Prop := ∀ i : Nat, i < s.size → rnBad s i = false → 0 < (Utf8.encode (rnR s i)).size ∧ i + (Utf8.encode (rnR s i)).size ≤ s.size

/-- What was answered and the next list, side by side. -/
structure Tw (D : Nat) (w : World) (ov : Value) (o : List Nat) (lv : Value) (ls : List Nat) : Prop where
  ro : w.ownsRow D 3 1 ov o.length (jc o)
  rl : w.ownsRow D 3 1 lv ls.length (jc ls)
  d : ∀ g, lv.ownBlock = some g → ov.ownBlock ≠ some g
theorem Tw.below {D : Nat} {w w' : World} {ov lv : Value} {o ls : List Nat} (h : Tw D w ov o lv ls) (hb : Below w.heap.size w w') : Tw D w' ov o lv ls :=
  ⟨(Kp.of (M := fun _ => False) hb).row h.ro (fun _ _ => id), (Kp.of (M := fun _ => False) hb).row h.rl (fun _ _ => id), h.d⟩
theorem Tw.push {D g c x : Nat} {w w' : World} {ov lv : Value} {o ls : List Nat} (h : Tw D w ov o lv ls) (r : w'.ownsRow D 3 1 (.slice (some ⟨g, 0, none⟩) (ls.length + 1) c) (ls.length + 1) (jc (ls ++ [x]))) (k : Kp (fun k => lv.ownBlock = some k) w w') (hg : lv.ownBlock = some g ∨ w.heap.size ≤ g) : Tw D w' ov o (.slice (some ⟨g, 0, none⟩) (ls.length + 1) c) (ls ++ [x]) := by
  refine ⟨k.row h.ro (fun q e e' => h.d q e' e), by rw [List.length_append]; exact r, fun q e e' => ?_⟩
  have e2 : g = q := Option.some.inj e
  rcases hg with hg | hg
  · exact h.d q (by rw [hg, e2]) e'
  · have := (Sp.rlt h.ro q e').2; omega
/-- The next list under way. -/
structure Nx (c : List Ia) (r : Int) (o : List Nat) (k : Nat) (ls : List Nat) : Prop where
  iff : ∀ y, y ∈ ls ↔ ∃ j x ins, j < k ∧ o[j]? = some x ∧ c[x]? = some ins ∧ ins.op = 2 ∧ inR r ins.rs ∧ y = ins.out.toNat
  len : ls.length ≤ k
theorem Nx.zero (c : List Ia) (r : Int) (o : List Nat) : Nx c r o 0 [] := ⟨fun y => ⟨fun h => (by cases h), fun ⟨j, _, _, h, _⟩ => (by omega)⟩, by simp⟩
theorem Nx.skip {c : List Ia} {r : Int} {o : List Nat} {k : Nat} {ls : List Nat} {x : Nat} {ins : Ia} (h : Nx c r o k ls) (hx : o[k]? = some x) (hi : c[x]? = some ins) (hno : ¬ (ins.op = 2 ∧ inR r ins.rs)) : Nx c r o (k + 1) ls := by
  refine ⟨fun y => ⟨fun hy => ?_, fun ⟨j, x', i', hj, hx', hi', h2, hr, e⟩ => ?_⟩, Nat.le_succ_of_le h.len⟩
  · obtain ⟨j, x', i', hj, q⟩ := (h.iff y).1 hy
    exact ⟨j, x', i', by omega, q⟩
  · by_cases e' : j = k
    · subst e'
      rw [hx] at hx'; cases hx'; rw [hi] at hi'; cases hi'
      exact absurd ⟨h2, hr⟩ hno
    · exact (h.iff y).2 ⟨j, x', i', by omega, hx', hi', h2, hr, e⟩
theorem Nx.take {c : List Ia} {r : Int} {o : List Nat} {k : Nat} {ls : List Nat} {x : Nat} {ins : Ia} (h : Nx c r o k ls) (hx : o[k]? = some x) (hi : c[x]? = some ins) (h2 : ins.op = 2) (hr : inR r ins.rs) : Nx c r o (k + 1) (ls ++ [ins.out.toNat]) := by
  refine ⟨fun y => ⟨fun hy => ?_, fun ⟨j, x', i', hj, hx', hi', h2', hr', e⟩ => ?_⟩, by have := h.len; simp; omega⟩
  · rcases List.mem_append.1 hy with hy | hy
    · obtain ⟨j, x', i', hj, q⟩ := (h.iff y).1 hy
      exact ⟨j, x', i', by omega, q⟩
    · rcases List.mem_singleton.1 hy with rfl
      exact ⟨k, x, ins, by omega, hx, hi, h2, hr, rfl⟩
  · by_cases e' : j = k
    · subst e'
      rw [hx] at hx'; cases hx'; rw [hi] at hi'; cases hi'
      simp [e]
    · exact List.mem_append.2 (.inl ((h.iff y).2 ⟨j, x', i', by omega, hx', hi', h2', hr', e⟩))
theorem Nx.fin {c : List Ia} {r : Int} {o : List Nat} {ls : List Nat} (h : Nx c r o o.length ls) (y : Nat) : y ∈ ls ↔ ∃ x ins, x ∈ o ∧ c[x]? = some ins ∧ ins.op = 2 ∧ inR r ins.rs ∧ y = ins.out.toNat := by
  rw [h.iff y]
  constructor
  · rintro ⟨j, x, ins, hj, hx, q⟩
    exact ⟨x, ins, List.mem_of_getElem? hx, q⟩
  · rintro ⟨x, ins, hx, q⟩
    obtain ⟨j, hj, e⟩ := List.getElem_of_mem hx
    exact ⟨j, x, ins, hj, by rw [List.getElem?_eq_getElem hj, e], q⟩
theorem rnR_nn (s : ByteArray) (i : Nat) : 0 ≤ rnR s i := by unfold rnR; exact Int.natCast_nonneg _

set_option maxHeartbeats 4000000 in
set_option maxRecDepth 100000 in
theorem taken_any (a : Option Addr) (cc : Nat) (st : Nat) (gr : Int) (na : Option Addr) (nn nc : Nat) (c : List Ia) (s : ByteArray) (w : World) (hP : Pg w.heap.size w a c) (hin : InC c) (hst : st < c.length) (hn : c.length ≤ 10000) (hrs : ∀ i ∈ c, i.rs.length ≤ 1152921504606846976) (hwd : WdOk s) (hs : (s.size : Int) ≤ 4611686018427387904) :
    Calls Try.prog 12 #[prV a c.length cc (st : Int) gr na nn nc, .string s] w fun e w' => (∃ t, e = .returned (.int .i64 t) ∧ TkF c s (s.size + 1) 0 (fun y => y = st) t) ∧ Below w.heap.size w w' := by
  have hb : Below w.heap.size w (w.alloc (prX a c.length cc (st : Int) gr na nn nc)) := (Below.refl _ w).alloc (Nat.le_refl _) _
  obtain ⟨c0, c1, c2, c3⟩ := prX_cells a c.length cc (st : Int) gr na nn nc (Below.refl _ (w.alloc (prX a c.length cc (st : Int) gr na nn nc)))
  obtain ⟨W1, hW1⟩ : ∃ W1, W1 = w.alloc (prX a c.length cc (st : Int) gr na nn nc) := ⟨_, rfl⟩
  have HW1 : Hid (W1 = w.alloc (prX a c.length cc (st : Int) gr na nn nc)) := hW1
  rw [← hW1] at hb c0 c1 c2 c3
  -- all that is read lies below D
  obtain ⟨D, hD⟩ : ∃ D, D = W1.heap.size := ⟨_, rfl⟩
  have hP1 : Pg D W1 a c := by
    rcases hP.below hb with h | ⟨g, o, f, e, hg, hc⟩
    · exact .inl h
    · exact .inr ⟨g, o, f, e, by rw [hD]; exact Nat.lt_of_lt_of_le hg hb.size, fun j i hj => ⟨(hc j i hj).1, (hc j i hj).2.1, ((hc j i hj).2.2).mono (by rw [hD]; exact hb.size)⟩⟩
  have HPG : Hid (∀ w', Below D W1 w' → Pg D w' a c) := fun w' b => hP1.below b
  obtain ⟨G, hG⟩ : ∃ G, G = w.heap.size := ⟨_, rfl⟩
  have HG : Hid (G = w.heap.size) := hG
  have hGD : G < D := by rw [hD, hG]; exact World.block_lt_of_cell? W1 _ c0
  rw [← hG] at c0 c1 c2 c3
  have HBX : Hid (∀ w', Below D W1 w' → w'.cell? ⟨G, 0, none⟩ = some (.slice a c.length cc) ∧ w'.cell? ⟨G, 1, none⟩ = some (.int .i64 (st : Int)) ∧ w'.cell? ⟨G, 2, none⟩ = some (.int .i64 gr) ∧ w'.cell? ⟨G, 3, none⟩ = some (.slice na nn nc)) := fun w' b => ⟨(b.cell (p := ⟨G, 0, none⟩) hGD).trans c0, (b.cell (p := ⟨G, 1, none⟩) hGD).trans c1, (b.cell (p := ⟨G, 2, none⟩) hGD).trans c2, (b.cell (p := ⟨G, 3, none⟩) hGD).trans c3⟩
  have HFR : Hid (∀ w', Below D W1 w' → Below w.heap.size w w') := fun w' b => hb.trans (b.mono (by rw [hD]; exact hb.size))
  have HL0 : Hid ((W1.alloc (.cells #[.int .i64 (st : Int)] 3)).ownsRow D 3 1 (.slice (some ⟨D, 0, none⟩) 1 1) [st].length (jc [st]) ∧ Below D W1 (W1.alloc (.cells #[.int .i64 (st : Int)] 3))) := by
    refine ⟨?_, (Below.refl _ _).alloc (by rw [hD]; exact Nat.le_refl _) _⟩
    have := World.ownsRow_lit (base := D) (e := 3) (size := 1) W1 #[.int .i64 (st : Int)] 1 (by rw [hD]; exact Nat.le_refl _) (by decide) (by simp)
    rw [← hD] at this
    exact this
  have HIN : Hid (InC c) := hin
  have HST : Hid (st < c.length) := hst
  have HN : Hid (c.length ≤ 10000) := hn
  have HRS : Hid (∀ i ∈ c, i.rs.length ≤ 1152921504606846976) := hrs
  have HWD : Hid (WdOk s) := hwd
  have HDW : Hid (D = W1.heap.size) := hD
  clear hP hin hst hn hrs hwd hb hW1 hP1 hG hGD hD c2 c3
  go_enter Try.func12, Try.ntmps12
  go_upto_region 1 with fail
  rw [← HW1.out, ← HG.out]
  go_wp2_with fail
  rw [← HDW.out]
  go_loopg [5, 6] (s.size + 1) (fun gh lw iv w' => ∃ (i : Nat) (ls : List Nat), iv = .int .i64 (i : Int) ∧ i ≤ s.size ∧ Hid ((∃ g lc, lw = .slice (some ⟨g, 0, none⟩) ls.length lc) ∧ w'.ownsRow D 3 1 lw ls.length (jc ls) ∧ (∀ x ∈ ls, x < c.length) ∧ ls.length ≤ 100000 ∧ Below D W1 w' ∧ (∀ t, TkF c s gh i (fun y => y ∈ ls) t → TkF c s (s.size + 1) 0 (fun y => y = st) t)) ∧ s.size - i < gh)
  case atStart =>
    refine ⟨0, [st], rfl, by omega, ⟨⟨_, _, rfl⟩, HL0.out.1, fun x hx => ?_, by simp, HL0.out.2, fun t h => ?_⟩, by omega⟩
    · rcases List.mem_singleton.1 hx with rfl
      exact HST.out
    · have e : (fun y => y ∈ [st]) = fun y => y = st := by funext y; simp
      rw [e] at h
      exact h
  case round =>
    obtain ⟨i, ls, rfl, hi, hI, hgh⟩ := hrel
    obtain ⟨⟨gl, lc, hlw⟩, hrow, hls, hl1, bw, htk⟩ := hI.out
    obtain ⟨f, rfl⟩ : ∃ f, gk = f + 1 := ⟨gk - 1, by omega⟩
    subst hlw
    have hDw : D ≤ wr.heap.size := by rw [HDW.out]; exact bw.size
    have kSp := spread_any D a cc (st : Int) gr na nn nc c s (i : Int) _ ls wr (HPG.out wr bw) HIN.out hrow hls hDw HN.out hl1 (by omega) (by omega) hs
    obtain ⟨x0, x1, x2, x3⟩ := HBX.out wr bw
    have BW : Hid (Below D W1 wr) := bw
    have HTK : Hid (∀ t, TkF c s (f + 1) i (fun y => y ∈ ls) t → TkF c s (s.size + 1) 0 (fun y => y = st) t) := htk
    have HDWR : Hid (D ≤ wr.heap.size) := hDw
    have hiI : (i : Int) ≤ 4611686018427387904 := by omega
    clear hrow hls hl1 bw htk hI hDw
    go_wp2_with fail
    go_fit kSp
    rintro e w2 ⟨⟨g, oc, o, rfl, ro, ok⟩, b2⟩
    have B2 : Hid (Below D W1 w2) := BW.out.trans b2
    have RO : Hid (w2.ownsRow D 3 1 (.slice (some ⟨g, 0, none⟩) o.length oc) o.length (jc o)) := ro
    have OK : Hid (SprOk c s (i : Int) ls o) := ok
    have HD2 : Hid (D ≤ w2.heap.size) := Nat.le_trans HDWR.out b2.size
    have hoI : (o.length : Int) ≤ 10000 := by have := ok.small; have := HN.out; omega
    have hnil : ∀ W : World, (binOp BinOp.eql 57 (.slice (some ⟨g, 0, none⟩) o.length oc) (.slice none 0 0)).run Try.prog W = .ok (.bool false) W := fun _ => by kernel_rfl
    clear kSp x0 x1 x2 x3 b2 ro ok
    by_cases hsz : i < s.size
    · have kR := runeAt_in s i w2 hsz hs
      cases hbad : rnBad s i
      · have eV : rnV s i = .tuple #[.int .i32 (rnR s i), .int .i64 ((Utf8.encode (rnR s i)).size : Int)] := by unfold rnV; rw [if_neg (by rw [hbad]; simp)]
        rw [eV] at kR
        obtain ⟨hw0, hw1⟩ := HWD.out i hsz hbad
        have HF : Hid (∀ (ls2 : List Nat), (∀ y, y ∈ ls2 ↔ ∃ x ins, x ∈ o ∧ c[x]? = some ins ∧ ins.op = 2 ∧ inR (rnR s i) ins.rs ∧ y = ins.out.toNat) → ∀ t, TkF c s f (i + (Utf8.encode (rnR s i)).size) (fun y => y ∈ ls2) t → TkF c s (s.size + 1) 0 (fun y => y = st) t) := fun ls2 h2 t h => HTK.out t (by
          show (if _ then _ else _ : Prop)
          rw [if_neg (by omega), if_neg (by rw [hbad]; simp), RcP_ls OK.out]
          have e : (fun y => ∃ x ins, x ∈ o ∧ c[x]? = some ins ∧ ins.op = 2 ∧ inR (rnR s i) ins.rs ∧ y = ins.out.toNat) = fun y => y ∈ ls2 := by
            funext y
            exact propext (h2 y).symm
          rw [← e] at h
          exact h)
        have hR0 := rnR_nn s i
        clear eV hbad
        generalize (Utf8.encode (rnR s i)).size = N at *
        generalize rnR s i = R at *
        have tR : (R == -2) = false := by simp; omega
        have tN : ((N : Int) == 0) = false := by simp; omega
        go_wp2_with fail
        go_fit kR
        rintro e w3 ⟨rfl, b3⟩
        have B3 : Hid (Below D W1 w3) := B2.out.trans (b3.mono HD2.out)
        have R3 : Hid (w3.ownsRow D 3 1 (.slice (some ⟨g, 0, none⟩) o.length oc) o.length (jc o)) := (Kp.of (M := fun _ => False) b3).row RO.out (fun _ _ => id)
        have HD3 : Hid (D ≤ w3.heap.size) := Nat.le_trans HD2.out b3.size
        have b4 : Below w3.heap.size w3 (w3.alloc (.cells #[] 3)) := (Below.refl _ w3).alloc (Nat.le_refl _) _
        have T4 : Hid (Tw D (w3.alloc (.cells #[] 3)) (.slice (some ⟨g, 0, none⟩) o.length oc) o (.slice (some ⟨w3.heap.size, 0, none⟩) 0 0) []) := by
          refine ⟨(Kp.of (M := fun _ => False) b4).row R3.out (fun _ _ => id), World.ownsRow_lit w3 #[] 0 HD3.out (Nat.zero_le _) (by simp), fun q e e' => ?_⟩
          have := (Sp.rlt R3.out q e').2
          have : w3.heap.size = q := Option.some.inj e
          omega
        have B4 : Hid (Below D W1 (w3.alloc (.cells #[] 3))) := B3.out.alloc HD3.out _
        clear b3 kR b4
        go_wp2_with fail
        go_loopw [5, 11] (fun lw kv w' => ∃ (k : Nat) (ls2 : List Nat), kv = .int .i64 (k : Int) ∧ k ≤ o.length ∧ (∃ gl lc, lw = .slice (some ⟨gl, 0, none⟩) ls2.length lc) ∧ Hid (Tw D w' (.slice (some ⟨g, 0, none⟩) o.length oc) o lw ls2 ∧ Nx c R o k ls2 ∧ Below D W1 w')) (fun _ kv _ => o.length - (RowKit.intOf kv).toNat)
        case atStart => exact ⟨0, [], rfl, by omega, ⟨_, _, rfl⟩, T4.out, Nx.zero c R o, B4.out⟩
        case round =>
          obtain ⟨k, ls2, rfl, hk, ⟨gl2, lc2, rfl⟩, hJ⟩ := hrel
          obtain ⟨tw, nx, bk⟩ := hJ.out
          by_cases hko : k < o.length
          · have hkk : (k : Int) < o.length := by omega
            obtain ⟨x, hx⟩ : ∃ x, o[k]? = some x := ⟨_, List.getElem?_eq_getElem hko⟩
            have hxo := List.mem_of_getElem? hx
            obtain ⟨hxc, _⟩ := OK.out.sound x hxo
            obtain ⟨ins, hins⟩ : ∃ ins, c[x]? = some ins := ⟨_, List.getElem?_eq_getElem hxc⟩
            obtain ⟨pg, po, ra, rn, rc, hpa, hpg, p0, p1, p2, p3, p4, hrn, hrm⟩ := (HPG.out wr bk).at hins
            obtain ⟨x0, x1, x2, x3⟩ := HBX.out wr bk
            have j0 := World.ownsRow.cellAt tw.ro k (by omega)
            rw [jc_get o k x hx] at j0
            have hxI : (x : Int) < c.length := by omega
            have HKO : Hid (k < o.length) := hko
            subst hpa
            have hDr : D ≤ wr.heap.size := by rw [HDW.out]; exact bk.size
            subst hrn
            obtain ⟨op, out, alt, arg, rs⟩ := ins
            dsimp only at p0 p1 p2 p3 p4 hrm
            obtain ⟨q1, q2, _, _⟩ := HIN.out x _ hins
            dsimp only at q1 q2
            obtain ⟨P, rfl⟩ : ∃ P : Nat, out = (P : Int) := ⟨out.toNat, by omega⟩
            have hrs : (rs.length : Int) ≤ 1152921504606846976 := by have := HRS.out _ (List.mem_of_getElem? hins); dsimp only at this; omega
            have hal : Below wr.heap.size wr (wr.alloc (iX op (P : Int) alt arg ra rs.length rc)) := (Below.refl _ wr).alloc (Nat.le_refl _) _
            have hdr : Below (wr.alloc (iX op (P : Int) alt arg ra rs.length rc)).heap.size (wr.alloc (iX op (P : Int) alt arg ra rs.length rc)) (wr.alloc (iX op (P : Int) alt arg ra rs.length rc)).drew := Below.drewN (Below.refl _ _) 1
            obtain ⟨y0, y1, _, _, y4⟩ := inX_cells op (P : Int) alt arg ra rs.length rc hdr
            have hb7 := hal.trans (hdr.mono hal.size)
            obtain ⟨W7, hW7⟩ : ∃ W7, W7 = (wr.alloc (iX op (P : Int) alt arg ra rs.length rc)).drew := ⟨_, rfl⟩
            rw [← hW7] at y0 y1 y4 hb7
            obtain ⟨bx, hbx⟩ : ∃ bx, bx = wr.heap.size := ⟨_, rfl⟩
            rw [← hbx] at y0 y1 y4
            have HW7 : Hid (W7 = (wr.alloc (iX op (P : Int) alt arg ra rs.length rc)).drew) := hW7
            have HBX7 : Hid (bx = wr.heap.size) := hbx
            have T7 : Hid (Tw D W7 (.slice (some ⟨g, 0, none⟩) o.length oc) o (.slice (some ⟨gl2, 0, none⟩) ls2.length lc2) ls2) := tw.below hb7
            have B7 : Hid (Below D W1 W7) := bk.trans (hb7.mono hDr)
            have HD7 : Hid (D ≤ W7.heap.size) := Nat.le_trans hDr hb7.size
            have HRM : Hid (Rmb D W7 ra (fun q => rs.getD q (0, 0)) rs.length) := hrm.below (hb7.mono hDr)
            have HSK : Hid (¬ (op = 2 ∧ inR R rs) → Nx c R o (k + 1) ls2) := fun h => nx.skip hx hins h
            have HTA : Hid (op = 2 → inR R rs → Nx c R o (k + 1) (ls2 ++ [P])) := fun h2 hr => by
              have := nx.take hx hins h2 hr
              dsimp only at this
              rwa [Int.toNat_natCast] at this
            have hl2 : ls2.length ≤ 10000 := by have := nx.len; omega
            have hpw : pg < wr.heap.size := World.block_lt_of_cell? wr _ p0
            clear tw nx hJ hx hxo hins hW7 hbx hb7 hal hdr hrm hDr bk
            go_wp2_with fail
            go_region_held3 (fun w' => w'.cell? ⟨G, 0, none⟩ = some (.slice (some ⟨pg, po, none⟩) c.length cc) ∧ w'.cell? ⟨g, k, none⟩ = some (.int .i64 (x : Int)) ∧ w'.cell? ⟨pg, po + x * 5, none⟩ = some (.int .i64 op) ∧ w'.cell? ⟨pg, po + x * 5 + 1, none⟩ = some (.int .i64 (P : Int)) ∧ w'.cell? ⟨pg, po + x * 5 + 2, none⟩ = some (.int .i64 alt) ∧ w'.cell? ⟨pg, po + x * 5 + 3, none⟩ = some (.int .i64 arg) ∧ w'.cell? ⟨pg, po + x * 5 + 4, none⟩ = some (.slice ra rs.length rc)) (first | exact ⟨x0, j0, p0, p1, p2, p3, p4⟩ | go_keep) (fail)
            rw [show (wr.alloc (Obj.cells #[Value.int .i64 op, .int .i64 (P : Int), .int .i64 alt, .int .i64 arg, .slice ra rs.length rc] 29)).drew = W7 from HW7.out.symm, ← HBX7.out]
            clear x0 x1 x2 x3 j0 p0 p1 p2 p3 p4
            by_cases h2 : op = 2
            · subst h2
              go_wp2_with fail
              go_loopw [5, 13] (fun lw qv w' => ∃ q : Nat, qv = .int .i64 (q : Int) ∧ q ≤ rs.length ∧ lw = .slice (some ⟨gl2, 0, none⟩) ls2.length lc2 ∧ w' = W7 ∧ Hid (∀ j y, j < q → rs[j]? = some y → ¬ (y.1 ≤ R ∧ R ≤ y.2))) (fun _ qv _ => rs.length - (RowKit.intOf qv).toNat)
              case atStart => exact ⟨0, rfl, by omega, rfl, rfl, fun j y hj => by omega⟩
              case round =>
                obtain ⟨q, rfl, hq, rfl, rfl, hno⟩ := hrel
                by_cases hqr : q < rs.length
                · have hqq : (q : Int) < rs.length := by omega
                  obtain ⟨y, hy⟩ : ∃ y, rs[q]? = some y := ⟨_, List.getElem?_eq_getElem hqr⟩
                  obtain ⟨rg, ro, hra, hrc⟩ : ∃ rg ro, ra = some ⟨rg, ro, none⟩ ∧ ∀ j, j < rs.length → wr.cell? ⟨rg, ro + j * 2, none⟩ = some (.int .i32 (rs.getD j (0, 0)).1) ∧ wr.cell? ⟨rg, ro + j * 2 + 1, none⟩ = some (.int .i32 (rs.getD j (0, 0)).2) := by
                    rcases HRM.out with h | ⟨rg, ro, e, _, h⟩
                    · omega
                    · exact ⟨rg, ro, e, h⟩
                  obtain ⟨z0, z1⟩ := hrc q hqr
                  have ey : rs.getD q (0, 0) = y := by rw [List.getD_eq_getElem?_getD, hy]; rfl
                  rw [ey] at z0 z1
                  obtain ⟨lo, hi'⟩ := y
                  dsimp only at z0 z1
                  subst hra
                  have HNO : Hid (¬ (lo ≤ R ∧ R ≤ hi') → ∀ j y, j < q + 1 → rs[j]? = some y → ¬ (y.1 ≤ R ∧ R ≤ y.2)) := fun h j y hj hy' => by
                    by_cases e : j = q
                    · subst e; rw [hy] at hy'; cases hy'; exact h
                    · exact hno.out j y (by omega) hy'
                  have HIR : Hid (lo ≤ R ∧ R ≤ hi' → inR R rs) := fun h => ⟨_, List.mem_of_getElem? hy, h⟩
                  have HQR : Hid (q < rs.length) := hqr
                  clear hno hy ey hrc HRM
                  by_cases h1 : lo ≤ R
                  · by_cases h3 : R ≤ hi'
                    · obtain ⟨g9, c9, w9, r9, o9, k9, hg9⟩ := append_p wr D (.slice (some ⟨gl2, 0, none⟩) ls2.length lc2) ls2 P HD7.out (by omega) T7.out.rl
                      have HF9 : Hid (Tw D w9 (.slice (some ⟨g, 0, none⟩) o.length oc) o (.slice (some ⟨g9, 0, none⟩) (ls2.length + 1) c9) (ls2 ++ [P]) ∧ Nx c R o (k + 1) (ls2 ++ [P]) ∧ Below D W1 w9) := ⟨T7.out.push o9 k9 hg9, HTA.out (by trivial) (HIR.out ⟨h1, h3⟩), B7.out.trans (Sp.low T7.out.rl HD7.out k9)⟩
                      clear o9 k9 hg9
                      go_wp2_with (at_builtin; refine wpList_append_run rfl (.tmp 93) (.tmp 96) 57 57 rfl _ _ rfl rfl r9 ?_)
                      exact ⟨⟨k + 1, ls2 ++ [P], by go_num, HKO.out, ⟨_, _, by rw [List.length_append]; rfl⟩, HF9⟩, by simp [RowKit.intOf]; omega⟩
                    · go_wp2
                      exact ⟨⟨q + 1, by go_num, HQR.out, by trivial, by trivial, HNO.out (fun h => h3 h.2)⟩, by simp [RowKit.intOf]; omega⟩
                  · go_wp2
                    exact ⟨⟨q + 1, by go_num, HQR.out, by trivial, by trivial, HNO.out (fun h => h1 h.1)⟩, by simp [RowKit.intOf]; omega⟩
                · have hqq : ¬ (q : Int) < rs.length := by omega
                  have HF9 : Hid (Tw D wr (.slice (some ⟨g, 0, none⟩) o.length oc) o (.slice (some ⟨gl2, 0, none⟩) ls2.length lc2) ls2 ∧ Nx c R o (k + 1) ls2 ∧ Below D W1 wr) := ⟨T7.out, HSK.out (fun ⟨_, y, hy, h⟩ => by
                    obtain ⟨j, hj, e⟩ := List.getElem_of_mem hy
                    exact hno.out j y (by omega) (by rw [List.getElem?_eq_getElem hj, e]) h), B7.out⟩
                  go_wp2
                  exact ⟨⟨k + 1, ls2, by go_num, HKO.out, ⟨_, _, rfl⟩, HF9⟩, by simp [RowKit.intOf]; omega⟩
            · have t2 : (op == 2) = false := by simpa using h2
              have HF9 : Hid (Tw D W7 (.slice (some ⟨g, 0, none⟩) o.length oc) o (.slice (some ⟨gl2, 0, none⟩) ls2.length lc2) ls2 ∧ Nx c R o (k + 1) ls2 ∧ Below D W1 W7) := ⟨T7.out, HSK.out (fun h => h2 h.1), B7.out⟩
              go_wp2
              exact ⟨⟨k + 1, ls2, by go_num, HKO.out, ⟨_, _, rfl⟩, HF9⟩, by simp [RowKit.intOf]; omega⟩
          · have hkk : ¬ (k : Int) < o.length := by omega
            obtain rfl : k = o.length := by omega
            have HGO : Hid (Tw D wr (.slice (some ⟨g, 0, none⟩) o.length oc) o (.slice (some ⟨gl2, 0, none⟩) ls2.length lc2) ls2 ∧ Nx c R o o.length ls2 ∧ Below D W1 wr) := ⟨tw, nx, bk⟩
            clear tw nx bk hJ
            go_wp2
            go_roundg f
            case measure => omega
            case rel =>
              obtain ⟨tw, nx, bk⟩ := HGO.out
              refine ⟨i + N, ls2, by go_num, hw1, ⟨⟨_, _, rfl⟩, tw.rl, fun y hy => ?_, ?_, bk, HF.out ls2 nx.fin⟩, by omega⟩
              · obtain ⟨x, ins, _, hi, _, _, e⟩ := (nx.fin y).1 hy
                obtain ⟨q1, q2, _, _⟩ := HIN.out x ins hi
                omega
              · have := nx.len; omega
      · have eV : rnV s i = .tuple #[.int .i32 (-2), .int .i64 0] := by unfold rnV; rw [if_pos hbad]
        rw [eV] at kR
        have HF : Hid (TkF c s (s.size + 1) 0 (fun y => y = st) 2) := HTK.out 2 (by show (if _ then _ else _ : Prop); rw [if_neg (by omega), if_pos hbad])
        clear eV hbad
        go_wp2_with fail
        go_fit kR
        rintro e w3 ⟨rfl, b3⟩
        have HB3 : Hid (Below w.heap.size w w3) := HFR.out _ (B2.out.trans (b3.mono HD2.out))
        clear b3 kR
        go_wp2
        go_ret
        exact ⟨⟨2, rfl, HF.out⟩, HB3.out⟩
    · have kR := runeAt_end s (i : Int) w2 (by omega)
      obtain rfl : i = s.size := by omega
      have HF : Hid (∀ t, ((t = 1 ∧ ∃ x ins, x ∈ o ∧ c[x]? = some ins ∧ ins.op = 1) ∨ (t = 0 ∧ ¬ ∃ x ins, x ∈ o ∧ c[x]? = some ins ∧ ins.op = 1)) → TkF c s (s.size + 1) 0 (fun y => y = st) t) := fun t h => HTK.out t (by
        show (if _ then _ else _ : Prop)
        rw [if_pos (Nat.le_refl _), RcP_ls OK.out]
        exact h)
      clear hsz
      go_wp2_with fail
      go_fit kR
      rintro e w3 ⟨rfl, b3⟩
      have B3 : Hid (Below D W1 w3) := B2.out.trans (b3.mono HD2.out)
      have R3 : Hid (w3.ownsRow D 3 1 (.slice (some ⟨g, 0, none⟩) o.length oc) o.length (jc o)) := (Kp.of (M := fun _ => False) b3).row RO.out (fun _ _ => id)
      have HD3 : Hid (D ≤ w3.heap.size) := Nat.le_trans HD2.out b3.size
      clear b3 kR
      go_wp2_with fail
      go_loopw [10] (fun kv w' => ∃ k : Nat, kv = .int .i64 (k : Int) ∧ k ≤ o.length ∧ Hid ((∀ j x ins, j < k → o[j]? = some x → c[x]? = some ins → ¬ ins.op = 1) ∧ Below w3.heap.size w3 w')) (fun kv _ => o.length - (RowKit.intOf kv).toNat)
      case atStart => exact ⟨0, rfl, by omega, fun j x ins hj => by omega, Below.refl _ _⟩
      case round =>
        obtain ⟨k, rfl, hk, hJ⟩ := hrel
        obtain ⟨hno, bk⟩ := hJ.out
        by_cases hko : k < o.length
        · have hkk : (k : Int) < o.length := by omega
          obtain ⟨x, hx⟩ : ∃ x, o[k]? = some x := ⟨_, List.getElem?_eq_getElem hko⟩
          have hxo := List.mem_of_getElem? hx
          obtain ⟨hxc, _⟩ := OK.out.sound x hxo
          obtain ⟨ins, hins⟩ : ∃ ins, c[x]? = some ins := ⟨_, List.getElem?_eq_getElem hxc⟩
          have b4 : Below D W1 wr := B3.out.trans (bk.mono HD3.out)
          obtain ⟨pg, po, ra, rn, rc, hpa, hpg, p0, _⟩ := (HPG.out wr b4).at hins
          obtain ⟨x0, x1, x2, x3⟩ := HBX.out wr b4
          have r4 := (Kp.of (M := fun _ => False) bk).row R3.out (fun _ _ => id)
          have j0 := World.ownsRow.cellAt r4 k (by omega)
          rw [jc_get o k x hx] at j0
          have hxI : (x : Int) < c.length := by omega
          have BK : Hid (∀ q, Below w3.heap.size w3 (wr.drewN q)) := fun q => Below.drewN bk q
          have HFB : Hid (∀ q, Below w.heap.size w (wr.drewN q)) := fun q => HFR.out _ (Below.drewN b4 q)
          have HKO : Hid (k < o.length) := hko
          by_cases h1 : ins.op = 1
          · have t1 : (ins.op == 1) = true := by simpa using h1
            have HF1 : Hid (TkF c s (s.size + 1) 0 (fun y => y = st) 1) := HF.out 1 (.inl ⟨rfl, x, ins, hxo, hins, h1⟩)
            generalize ins.op = op at *
            subst hpa
            clear hno bk hJ hx hxo hins b4 r4 h1 x1 x2 x3
            go_wp2_with fail
            go_quiet (fail)
            go_wp2
            go_ret
            exact ⟨⟨1, rfl, HF1.out⟩, HFB.out _⟩
          · have t1 : (ins.op == 1) = false := by simpa using h1
            have HNO : Hid (∀ j x ins, j < k + 1 → o[j]? = some x → c[x]? = some ins → ¬ ins.op = 1) := fun j y jns hj hy hi => by
              by_cases e : j = k
              · subst e; rw [hx] at hy; cases hy; rw [hins] at hi; cases hi; exact h1
              · exact hno j y jns (by omega) hy hi
            generalize ins.op = op at *
            subst hpa
            clear hno bk hJ hx hxo hins b4 r4 h1 x1 x2 x3
            go_wp2_with fail
            go_quiet (fail)
            go_wp2
            exact ⟨⟨k + 1, by go_num, HKO.out, HNO.out, BK.out _⟩, by simp [RowKit.intOf]; omega⟩
        · have hkk : ¬ (k : Int) < o.length := by omega
          have HF0 : Hid (TkF c s (s.size + 1) 0 (fun y => y = st) 0) := HF.out 0 (.inr ⟨rfl, fun ⟨x, ins, hx, hi, h1⟩ => by
            obtain ⟨j, hj, e⟩ := List.getElem_of_mem hx
            exact hno j x ins (by omega) (by rw [List.getElem?_eq_getElem hj, e]) hi h1⟩)
          have HFB : Hid (Below w.heap.size w wr) := HFR.out _ (B3.out.trans (bk.mono HD3.out))
          clear hno bk hJ
          go_wp2
          go_ret
          exact ⟨⟨0, rfl, HF0.out⟩, HFB.out⟩
end Go.Proofs.Ytbciclnffokjjaa
