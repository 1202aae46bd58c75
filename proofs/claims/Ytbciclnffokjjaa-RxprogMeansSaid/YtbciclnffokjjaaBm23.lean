/- A bundle of texts. -/
import Derived.Test.YtbciclnffokjjaaBm22
/- Programs run: spread. -/
namespace Go.Proofs.Ytbciclnffokjjaa
open Go.RowKit

theorem inX_cells {w W : World} (op out alt arg : Int) (a : Option Addr) (n c : Nat) (h : Below (w.alloc (inX op out alt arg a n c)).heap.size (w.alloc (inX op out alt arg a n c)) W) :
    W.cell? ⟨w.heap.size, 0, none⟩ = some (.int .i64 op) ∧ W.cell? ⟨w.heap.size, 1, none⟩ = some (.int .i64 out) ∧ W.cell? ⟨w.heap.size, 2, none⟩ = some (.int .i64 alt) ∧ W.cell? ⟨w.heap.size, 3, none⟩ = some (.int .i64 arg) ∧ W.cell? ⟨w.heap.size, 4, none⟩ = some (.slice a n c) := by
  have e : (w.alloc (inX op out alt arg a n c)).heap[w.heap.size]? = some (inX op out alt arg a n c) := heap_alloc_new w _
  refine ⟨bcell2 h ?_, bcell2 h ?_, bcell2 h ?_, bcell2 h ?_, bcell2 h ?_⟩
  all_goals
    unfold World.cell?
    rw [e]
    rfl

/-- Every place of the program is within. -/
def InC (c : List Ia) : Prop := ∀ (j : Nat) (i : Ia), c[j]? = some i → 0 ≤ i.out ∧ i.out < c.length ∧ 0 ≤ i.alt ∧ i.alt < c.length
theorem Pg.at {D : Nat} {w : World} {a : Option Addr} {c : List Ia} (h : Pg D w a c) {j : Nat} {i : Ia} (hj : c[j]? = some i) : ∃ g o ra rn rc, a = some ⟨g, o, none⟩ ∧ g < D ∧ w.cell? ⟨g, o + j * 5, none⟩ = some (.int .i64 i.op) ∧ w.cell? ⟨g, o + j * 5 + 1, none⟩ = some (.int .i64 i.out) ∧ w.cell? ⟨g, o + j * 5 + 2, none⟩ = some (.int .i64 i.alt) ∧ w.cell? ⟨g, o + j * 5 + 3, none⟩ = some (.int .i64 i.arg) ∧ w.cell? ⟨g, o + j * 5 + 4, none⟩ = some (.slice ra rn rc) ∧ rn = i.rs.length ∧ Rmb D w ra (fun q => i.rs.getD q (0, 0)) rn := by
  rcases h with h | ⟨g, o, f, e, hg, hc⟩
  · have := (List.getElem?_eq_some_iff.1 hj).1; omega
  · obtain ⟨⟨c0, c1, c2, c3, c4⟩, hn, hr⟩ := hc j i hj
    exact ⟨g, o, _, _, _, e, hg, c0, c1, c2, c3, c4, hn, hr⟩

set_option maxHeartbeats 4000000 in
set_option maxRecDepth 100000 in
theorem spread_any (D : Nat) (a : Option Addr) (cc : Nat) (st gr : Int) (na : Option Addr) (nn nc : Nat) (c : List Ia) (s : ByteArray) (i : Int) (lv : Value) (l0 : List Nat) (w : World) (hP : Pg D w a c) (hin : InC c) (hl : w.ownsRow D 3 1 lv l0.length (jc l0)) (hl0 : ∀ x ∈ l0, x < c.length) (hD : D ≤ w.heap.size) (hn : c.length ≤ 10000) (hl1 : l0.length ≤ 100000) (hi0 : 0 ≤ i) (hi1 : i ≤ s.size) (hs : (s.size : Int) ≤ 4611686018427387904) :
    Calls Try.prog 28 #[prV a c.length cc st gr na nn nc, .string s, .int .i64 i, lv] w fun e w' => (∃ g oc o, e = .returned (.slice (some ⟨g, 0, none⟩) (List.length o) oc) ∧ w'.ownsRow D 3 1 (.slice (some ⟨g, 0, none⟩) o.length oc) o.length (jc o) ∧ SprOk c s i l0 o) ∧ Below D w w' := by
  have hb : Below w.heap.size w (w.alloc (prX a c.length cc st gr na nn nc)) := (Below.refl _ w).alloc (Nat.le_refl _) _
  obtain ⟨c0, _, _, _⟩ := prX_cells a c.length cc st gr na nn nc (Below.refl _ (w.alloc (prX a c.length cc st gr na nn nc)))
  obtain ⟨W1, hW1⟩ : ∃ W1, W1 = w.alloc (prX a c.length cc st gr na nn nc) := ⟨_, rfl⟩
  rw [← hW1] at hb c0
  have hz1 : W1.heap.size = w.heap.size + 1 := by rw [hW1]; simp
  have hD1 : D ≤ W1.heap.size := Nat.le_trans hD hb.size
  obtain ⟨w2, r2, o2, b2⟩ := make_b W1 D c.length hD1 (by omega)
  have hl2 := (Kp.of (M := fun _ => False) (hb.trans (b2.mono hb.size))).row hl (fun _ _ => id)
  have S3 : Sp D (w2.alloc (.cells #[] 3)) w.heap.size W1.heap.size c.length lv l0 (.slice (some ⟨w2.heap.size, 0, none⟩) 0 0) [] (fun _ => false) := by
    have b3 : Below w2.heap.size w2 (w2.alloc (.cells #[] 3)) := (Below.refl _ w2).alloc (Nat.le_refl _) _
    have hsz : W1.heap.size < w2.heap.size := (Sp.rlt o2 W1.heap.size rfl).2
    refine ⟨(Kp.of (M := fun _ => False) b3).row hl2 (fun _ _ => id), World.ownsRow_lit w2 #[] 0 (Nat.le_trans hD1 b2.size) (Nat.zero_le _) (by simp), (Kp.of (M := fun _ => False) b3).row o2 (fun _ _ => id), ⟨fun e => ?_, fun e => ?_⟩, ⟨fun e => ?_, fun e => ?_⟩, fun g e e' => ?_, by omega, ?_⟩
    · have := (Sp.rlt hl _ e).2; omega
    · have := (Sp.rlt hl _ e).2; omega
    · have : w2.heap.size = W1.heap.size := Option.some.inj e; omega
    · have : w2.heap.size = w.heap.size := Option.some.inj e; omega
    · have h1 := (Sp.rlt hl _ e).2
      have : w2.heap.size = g := Option.some.inj e'
      omega
    · have := b3.size; have := b2.size; omega
  have B3 : Hid (Below D w (w2.alloc (.cells #[] 3))) := ((hb.trans (b2.mono hb.size)).mono hD).alloc (Nat.le_trans hD1 b2.size) _
  have HC0 : Hid (∀ w', Below D w w' → Pg D w' a c) := fun w' b => hP.below b
  have HI0 : Hid (SprI c s i l0 l0 [] (fun _ => false) 0) := by
    refine ⟨fun x hx => ⟨hl0 x hx, Rch.of hx⟩, fun x => (by simp), fun x hx => (by cases hx), fun x hx => (by cases hx), fun j x hj => (by omega), fun x hx => hx, Nat.zero_le _, ?_, by simp⟩
    have : ∀ n, unS (fun _ => false) n = n := by
      intro n
      induction n with
      | zero => rfl
      | succ n ih => unfold unS; rw [ih]; simp
    rw [this]
    simp
  have cb : w2.cell? ⟨w.heap.size, 0, none⟩ = some (.slice a c.length cc) := bcell2 b2 c0
  have cb3 : (w2.alloc (.cells #[] 3)).cell? ⟨w.heap.size, 0, none⟩ = some (.slice a c.length cc) := bcell2 ((Below.refl _ w2).alloc (Nat.le_refl _) _) cb
  have HS3 : Hid _ := S3
  have HIN : Hid (InC c) := hin
  have HD : Hid (D ≤ w.heap.size) := hD
  have HN : Hid (c.length ≤ 10000) := hn
  have HL1 : Hid (l0.length ≤ 100000) := hl1
  have hnI : (c.length : Int) ≤ 10000 := by omega
  obtain ⟨la, lc, rfl⟩ := Sp.form hl
  obtain ⟨G, hG⟩ : ∃ G, G = w.heap.size := ⟨_, rfl⟩
  obtain ⟨gs, hgs⟩ : ∃ gs, gs = W1.heap.size := ⟨_, rfl⟩
  rw [← hG] at cb cb3 c0 HS3
  rw [← hgs] at r2 HS3
  have HW1 : Hid (W1 = w.alloc (prX a c.length cc st gr na nn nc)) := hW1
  have HG : Hid (G = w.heap.size) := hG
  have HDG : Hid (D ≤ G) := by rw [hG]; exact hD
  clear hP hin hl hl0 hD hn hl1 hb hW1 hz1 hD1 o2 b2 hl2 S3 hG hgs
  go_enter Try.func28, Try.ntmps28
  go_upto_region 1 with fail
  rw [← HW1.out, ← HG.out]
  go_wp2_with fail
  go_loopg [3, 10, 11] (3 * c.length + l0.length) (fun gh lw ow kv w' => ∃ (k : Nat) (ls o : List Nat) (sn : Nat → Bool), kv = .int .i64 (k : Int) ∧ (∃ go oc, ow = .slice (some ⟨go, 0, none⟩) o.length oc) ∧ Hid (Sp D w' G gs c.length lw ls ow o sn ∧ SprI c s i l0 ls o sn k ∧ Below D w w' ∧ w'.cell? ⟨G, 0, none⟩ = some (.slice a c.length cc)) ∧ 3 * unS sn c.length + (ls.length - k) ≤ gh)
  case atStart => exact ⟨0, l0, [], fun _ => false, rfl, ⟨_, _, rfl⟩, ⟨HS3.out, HI0.out, B3.out, cb3⟩, by have := HI0.out.cnt; simp at this; omega⟩
  case round =>
    obtain ⟨k, ls, o, sn, rfl, ⟨go, oc, rfl⟩, hI, hgh⟩ := hrel
    obtain ⟨sp, si, bw, cG⟩ := hI.out
    obtain ⟨la', lc', hlv⟩ := Sp.form sp.rl
    have hcnt := si.cnt
    have hlen := si.len
    have hlsI : (ls.length : Int) ≤ 200000 := by have := HN.out; have := HL1.out; omega
    have hkI : (k : Int) ≤ 200000 := by have := si.le; omega
    by_cases hk : k < ls.length
    · have hkk : (k : Int) < ls.length := by omega
      obtain ⟨x, hx⟩ : ∃ x, ls[k]? = some x := ⟨_, List.getElem?_eq_getElem hk⟩
      obtain ⟨hxc, _⟩ := si.ok x (List.mem_of_getElem? hx)
      obtain ⟨ins, hins⟩ : ∃ ins, c[x]? = some ins := ⟨_, List.getElem?_eq_getElem hxc⟩
      obtain ⟨gl, glc, hla⟩ : ∃ gl glc, u3 = .slice (some ⟨gl, 0, none⟩) ls.length glc := by
        rcases sp.rl.2 with ⟨_, e2⟩ | ⟨g, c', cur, e, _⟩
        · omega
        · exact ⟨g, c', e⟩
      subst hla
      have l1 := World.ownsRow.cellAt sp.rl k (by omega)
      rw [jc_get ls k x hx] at l1
      have s1 := World.ownsRow.cellAt sp.rs x (by omega)
      rw [bcS_get _ _ _ hxc] at s1
      have s2 := World.ownsRow.frozenAt sp.rs x
      have hxI : (x : Int) < c.length := by omega
      have hx0 : ¬ (x : Int) < 0 := by omega
      have hxI' : ¬ (c.length : Int) ≤ x := by omega
      cases hsn : sn x
      · rw [hsn] at s1
        have hgsD := Sp.rlt sp.rs gs rfl
        have hglD := Sp.rlt sp.rl gl rfl
        have hDr : D ≤ wr.heap.size := by omega
        obtain ⟨sp5, k5⟩ := sp.mark x
        obtain ⟨W5, hW5⟩ : ∃ W5, W5 = wr.setCell ⟨gs, x, none⟩ (.bool true) := ⟨_, rfl⟩
        have HW5 : Hid (W5 = wr.setCell ⟨gs, x, none⟩ (.bool true)) := hW5
        rw [← hW5] at sp5 k5
        have hD5 : D ≤ W5.heap.size := Nat.le_trans hDr k5.size
        have b5 : Below D w W5 := bw.trans (k5.below hDr (fun j hj e => by have e' : j = gs := e; omega))
        have cG5 : W5.cell? ⟨G, 0, none⟩ = some (.slice a c.length cc) := k5.cell cG (fun e => sp.d4 e.symm)
        obtain ⟨g6, c6, w6, r6, o6, k6, hg6⟩ := append_p W5 D (.slice (some ⟨go, 0, none⟩) o.length oc) o x hD5 (by have := HN.out; omega) sp5.ro
        have sp6 := sp5.pushO o6 k6 hg6
        have b6 : Below D w w6 := b5.trans (Sp.low sp5.ro hD5 k6)
        have cG6 : w6.cell? ⟨G, 0, none⟩ = some (.slice a c.length cc) := k6.cell cG5 (fun e => sp5.d2.2 e)
        obtain ⟨pg, po, ra, rn, rc, hpa, hpg, p0, p1, p2, p3, p4, hrn, _⟩ := (HC0.out w6 b6).at hins
        obtain ⟨q1, q2, q3, q4⟩ := HIN.out x ins hins
        have hgl6 : gl < w6.heap.size := by have := k5.size; have := k6.size; omega
        have kg := goes_any ins.op ins.out ins.alt ins.arg ra rn rc s i (w6.alloc (iX ins.op ins.out ins.alt ins.arg ra rn rc)) hi0 hi1 hs
        have hal : Below w6.heap.size w6 (w6.alloc (iX ins.op ins.out ins.alt ins.arg ra rn rc)) := (Below.refl _ w6).alloc (Nat.le_refl _) _
        have HTK := fun ls' => si.take (ls' := ls') hx hsn hins
        have hp12 : ins.out.toNat < c.length ∧ ins.alt.toNat < c.length := by omega
        have SI : Hid (∀ ls', ((goB ins.op ins.arg s i = false ∧ ls' = ls) ∨ (goB ins.op ins.arg s i = true ∧ ¬ ins.op = 3 ∧ ls' = ls ++ [ins.out.toNat]) ∨ (goB ins.op ins.arg s i = true ∧ ins.op = 3 ∧ ls' = ls ++ [ins.out.toNat] ++ [ins.alt.toNat])) → SprI c s i l0 ls' (o ++ [x]) (up sn x true) (k + 1)) := fun ls' h => HTK ls' h hp12
        have hun := unS_up hsn hxc
        have H8 : Hid (∀ w8, Below (w6.alloc (iX ins.op ins.out ins.alt ins.arg ra rn rc)).heap.size (w6.alloc (iX ins.op ins.out ins.alt ins.arg ra rn rc)) w8 → Sp D w8 G gs c.length (.slice (some ⟨gl, 0, none⟩) ls.length glc) ls (.slice (some ⟨g6, 0, none⟩) (o.length + 1) c6) (o ++ [x]) (up sn x true) ∧ Below D w w8 ∧ w8.cell? ⟨G, 0, none⟩ = some (.slice a c.length cc) ∧ D ≤ w8.heap.size ∧ w8.cell? ⟨w6.heap.size, 0, none⟩ = some (.int .i64 ins.op) ∧ w8.cell? ⟨w6.heap.size, 1, none⟩ = some (.int .i64 ins.out) ∧ w8.cell? ⟨w6.heap.size, 2, none⟩ = some (.int .i64 ins.alt)) := fun w8 b8 => by
          have hD6 : D ≤ w6.heap.size := Nat.le_trans hD5 k6.size
          obtain ⟨y0, y1, y2, _, _⟩ := inX_cells ins.op ins.out ins.alt ins.arg ra rn rc b8
          exact ⟨(sp6.below hal).below b8, (b6.trans (hal.mono hD6)).trans (b8.mono (Nat.le_trans hD6 hal.size)), bcell2 b8 (bcell2 hal cG6), Nat.le_trans (Nat.le_trans hD6 hal.size) b8.size, y0, y1, y2⟩
        have hls1 : ls.length ≤ 200000 := by omega
        have hle := si.le
        have HLEN : Hid (∀ m, m ≤ ls.length + 2 → 3 * unS (up sn x true) c.length + (m - (k + 1)) < gk) := fun m hm => by omega
        have HGL6 : Hid (gl < w6.heap.size) := hgl6
        subst hpa
        clear sp si bw hI hsn hx hins hlv sp5 k5 hW5 b5 cG5 o6 k6 hg6 sp6 b6 HTK hp12 hun hal hgsD hglD hDr hD5 hcnt hlen hpg hrn hgl6 hle hgh
        obtain ⟨op, out, alt, arg, rs⟩ := ins
        dsimp only at p0 p1 p2 p3 p4 q1 q2 q3 q4 kg SI H8
        obtain ⟨P1, rfl⟩ : ∃ P1 : Nat, out = (P1 : Int) := ⟨out.toNat, by omega⟩
        obtain ⟨P2, rfl⟩ : ∃ P2 : Nat, alt = (P2 : Int) := ⟨alt.toNat, by omega⟩
        rw [Int.toNat_natCast, Int.toNat_natCast] at SI
        go_upto_region 11 with fail
        rw [← HW5.out]
        cases hgo : goB op arg s i
        · rw [hgo] at kg
          have SI0 : Hid (SprI c s i l0 ls (o ++ [x]) (up sn x true) (k + 1)) := SI.out ls (.inl ⟨hgo, rfl⟩)
          clear hgo SI
          go_wp2_with (at_builtin; refine wpList_append_run rfl (.tmp 45) (.tmp 47) 57 57 rfl _ _ rfl rfl r6 ?_)
          go_fit kg
          rintro e w8 ⟨rfl, b8⟩
          obtain ⟨sp8, b8', cG8, _⟩ := H8.out w8 b8
          have HF : Hid (Sp D w8 G gs c.length (.slice (some ⟨gl, 0, none⟩) ls.length glc) ls (.slice (some ⟨g6, 0, none⟩) (o.length + 1) c6) (o ++ [x]) (up sn x true) ∧ SprI c s i l0 ls (o ++ [x]) (up sn x true) (k + 1) ∧ Below D w w8 ∧ w8.cell? ⟨G, 0, none⟩ = some (.slice (some ⟨pg, po, none⟩) c.length cc)) := ⟨sp8, SI0.out, b8', cG8⟩
          clear sp8 b8' cG8 b8 H8 SI0 kg
          go_wp2
          go_roundg (3 * unS (up sn x true) c.length + (ls.length - (k + 1)))
          case measure => exact HLEN.out _ (by omega)
          case rel => exact ⟨k + 1, ls, o ++ [x], up sn x true, by go_num, ⟨_, _, by rw [List.length_append]; rfl⟩, HF, Nat.le_refl _⟩
        · rw [hgo] at kg
          have SI1 : Hid (¬ op = 3 → SprI c s i l0 (ls ++ [P1]) (o ++ [x]) (up sn x true) (k + 1)) := fun h => SI.out _ (.inr (.inl ⟨hgo, h, rfl⟩))
          have SI2 : Hid (op = 3 → SprI c s i l0 (ls ++ [P1] ++ [P2]) (o ++ [x]) (up sn x true) (k + 1)) := fun h => SI.out _ (.inr (.inr ⟨hgo, h, rfl⟩))
          clear hgo SI
          go_wp2_with (at_builtin; refine wpList_append_run rfl (.tmp 45) (.tmp 47) 57 57 rfl _ _ rfl rfl r6 ?_)
          go_fit kg
          rintro e w8 ⟨rfl, b8⟩
          obtain ⟨sp8, b8', cG8, hD8, y0, y1, y2⟩ := H8.out w8 b8
          have hz8 : w6.heap.size < w8.heap.size := World.block_lt_of_cell? w8 _ y0
          obtain ⟨g9, c9, w9, r9, o9, k9, hg9⟩ := append_p w8 D (.slice (some ⟨gl, 0, none⟩) ls.length glc) ls P1 hD8 (by omega) sp8.rl
          have sp9 := sp8.pushL o9 k9 hg9
          have b9 : Below D w w9 := b8'.trans (Sp.low sp8.rl hD8 k9)
          have cG9 : w9.cell? ⟨G, 0, none⟩ = some (.slice (some ⟨pg, po, none⟩) c.length cc) := k9.cell cG8 (fun e => sp8.d1.2 e)
          have hbx : ¬ (Value.slice (some ⟨gl, 0, none⟩) ls.length glc).ownBlock = some w6.heap.size := fun e => by
            have e' : gl = w6.heap.size := Option.some.inj e
            have := HGL6.out
            omega
          have y0' := k9.cell y0 hbx
          have y2' := k9.cell y2 hbx
          have hD9 : D ≤ w9.heap.size := Nat.le_trans hD8 k9.size
          by_cases h3 : op = 3
          · have t3 : (op == 3) = true := by simpa using h3
            have SI2' : Hid _ := SI2.out h3
            obtain ⟨g10, c10, w10, r10, o10, k10, hg10⟩ := append_p w9 D (.slice (some ⟨g9, 0, none⟩) (ls.length + 1) c9) (ls ++ [P1]) P2 hD9 (by rw [List.length_append]; simp; omega) sp9.rl
            have sp10 := sp9.pushL o10 k10 hg10
            have HF : Hid (Sp D w10 G gs c.length (.slice (some ⟨g10, 0, none⟩) ((ls ++ [P1]).length + 1) c10) (ls ++ [P1] ++ [P2]) (.slice (some ⟨g6, 0, none⟩) (o.length + 1) c6) (o ++ [x]) (up sn x true) ∧ SprI c s i l0 (ls ++ [P1] ++ [P2]) (o ++ [x]) (up sn x true) (k + 1) ∧ Below D w w10 ∧ w10.cell? ⟨G, 0, none⟩ = some (.slice (some ⟨pg, po, none⟩) c.length cc)) := ⟨sp10, SI2'.out, b9.trans (Sp.low sp9.rl hD9 k10), k10.cell cG9 (fun e => sp9.d1.2 e)⟩
            rw [show (ls ++ [P1]).length + 1 = ls.length + 1 + 1 by simp] at HF
            clear sp8 b8' cG8 b8 H8 SI1 SI2 SI2' kg o9 k9 hg9 sp9 b9 cG9 o10 k10 hg10 sp10 h3 hbx hz8 hD8 hD9
            go_wp2_with (first | (at_builtin; refine wpList_append_run rfl (.tmp 58) (.tmp 61) 57 57 rfl _ _ rfl rfl r9 ?_) | (at_builtin; refine wpList_append_run rfl (.tmp 66) (.tmp 69) 57 57 rfl _ _ rfl rfl r10 ?_))
            go_roundg (3 * unS (up sn x true) c.length + ((ls ++ [P1] ++ [P2]).length - (k + 1)))
            case measure => exact HLEN.out _ (by simp)
            case rel => exact ⟨k + 1, ls ++ [P1] ++ [P2], o ++ [x], up sn x true, by go_num, ⟨_, _, by rw [List.length_append]; rfl⟩, HF, Nat.le_refl _⟩
          · have t3 : (op == 3) = false := by simpa using h3
            have SI1' : Hid _ := SI1.out h3
            have HF : Hid (Sp D w9 G gs c.length (.slice (some ⟨g9, 0, none⟩) (ls.length + 1) c9) (ls ++ [P1]) (.slice (some ⟨g6, 0, none⟩) (o.length + 1) c6) (o ++ [x]) (up sn x true) ∧ SprI c s i l0 (ls ++ [P1]) (o ++ [x]) (up sn x true) (k + 1) ∧ Below D w w9 ∧ w9.cell? ⟨G, 0, none⟩ = some (.slice (some ⟨pg, po, none⟩) c.length cc)) := ⟨sp9, SI1'.out, b9, cG9⟩
            clear sp8 b8' cG8 b8 H8 SI1 SI2 SI1' kg o9 k9 hg9 sp9 b9 cG9 h3 hbx hz8 hD8 hD9
            go_wp2_with (at_builtin; refine wpList_append_run rfl (.tmp 58) (.tmp 61) 57 57 rfl _ _ rfl rfl r9 ?_)
            go_roundg (3 * unS (up sn x true) c.length + ((ls ++ [P1]).length - (k + 1)))
            case measure => exact HLEN.out _ (by simp)
            case rel => exact ⟨k + 1, ls ++ [P1], o ++ [x], up sn x true, by go_num, ⟨_, _, by rw [List.length_append]; rfl⟩, HF, Nat.le_refl _⟩
      · rw [hsn] at s1
        have HF : Hid (Sp D wr G gs c.length (.slice (some ⟨gl, 0, none⟩) ls.length glc) ls (.slice (some ⟨go, 0, none⟩) o.length oc) o sn ∧ SprI c s i l0 ls o sn (k + 1) ∧ Below D w wr ∧ wr.cell? ⟨G, 0, none⟩ = some (.slice a c.length cc)) := ⟨sp, si.skip hx hsn, bw, cG⟩
        clear sp si bw hI hsn hx hins hlv
        go_wp2
        go_roundg (3 * unS sn c.length + (ls.length - (k + 1)))
        case measure => omega
        case rel => exact ⟨k + 1, ls, o, sn, by go_num, ⟨_, _, rfl⟩, HF, Nat.le_refl _⟩
    · have hkk : ¬ (k : Int) < ls.length := by omega
      have HF : Hid ((∃ g oc' o', Ending.returned (.slice (some ⟨go, 0, none⟩) o.length oc) = .returned (.slice (some ⟨g, 0, none⟩) (List.length o') oc') ∧ wr.ownsRow D 3 1 (.slice (some ⟨g, 0, none⟩) o'.length oc') o'.length (jc o') ∧ SprOk c s i l0 o') ∧ Below D w wr) := ⟨⟨go, oc, o, rfl, sp.ro, si.fin (by have := si.le; omega)⟩, bw⟩
      subst hlv
      clear sp si bw hI
      go_wp2
      go_ret
      exact HF.out
end Go.Proofs.Ytbciclnffokjjaa
