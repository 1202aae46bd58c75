/- A bundle of texts. -/
import Derived.Test.YtbciclnffokjjaaDoorBb32
import Derived.Test.YtbciclnffokjjaaDoorBb37
import Derived.Test.YtbciclnffokjjaaDoorBb31
import Derived.Test.YtbciclnffokjjaaDoorBb24
/- A tree that came in. -/
namespace Go.Proofs.YtbciclnffokjjaaDoor
open Go.ChangeShapes Go.WideShapes Go.ChangeAt Go.RowKit

abbrev ndC (d : Nd) : List Value := [.int .i64 d.kind, .int .i32 d.r, .slice d.ra d.rn d.rc, .int .i64 d.mn, .int .i64 d.mx, .bool d.lz, .int .i64 d.cp, .string d.nm, .slice d.ka d.kn d.kc]
def nd0 : Nd := ⟨0, 0, none, 0, 0, fun _ => (0, 0), 0, 0, false, 0, ByteArray.empty, none, 0, 0⟩
/-- A node on top of trees. -/
def topT (d : Nd) (T : Nat → Tr) : Tr
  | [] => d
  | j :: p => T j p
theorem Rml.b {W : World} {a : Option Addr} {f : Nat → Rg} {n : Nat} (h : Rml W a f n) : Rmb W.heap.size W a f n := by
  rcases h with h | ⟨g, o, e, hg, hc⟩
  · exact .inl h
  · exact .inr ⟨g, o, e, hg, hc⟩
theorem topT_at {W : World} {B : Nat} {d : Nd} {T : Nat → Tr} (h : d.rn * 8 ≤ 140737488351232 ∧ d.kn * 8 ≤ 140737488351232 ∧ d.nm.size ≤ 140737488351232 ∧ d.kn ≤ d.kc) (hr : Rmb B W d.ra d.rf d.rn) (hk : Kmb B W d.ka (fun j => T j []) d.kn) (hT : ∀ j, j < d.kn → Tat B W (T j)) : Tat B W (topT d T) := by
  intro n
  cases n with
  | zero => exact trivial
  | succ n => exact ⟨h, hr, hk, fun j hj => hT j hj n⟩

set_option maxRecDepth 100000 in
set_option maxHeartbeats 2000000 in
theorem tree_open {H : Type} {enc : TypeId × Value → H} {W : World} : ∀ (fuel : Nat) (cs : List Value) (d : DataW H) (p : List MemPlace), DataW.trod enc Tryd.prog W 0 (fun _ => true) true fuel 25 cs = some (d, p) → (∀ n ∈ d.weights Tryd.prog 25, n ≤ reachBytes) → ∃ t : Tr, cs = ndC (t []) ∧ Tat W.heap.size W t := by
  intro fuel
  induction fuel using Nat.strongRecOn with
  | ind fuel ih =>
    intro cs d p hf hz
    have hlen := (DataW.trod_struct Tryd.underlying25 hf)
    obtain ⟨xs, k, hk, hxy, hcl, hxl, hff⟩ := hlen
    have hC : Tryd.prog.cellsOf 25 = 9 := by kernel_rfl
    rw [hC] at hcl
    match xs, hxl, cs, hcl with
    | [y0, y1, y2, y3, y4, y5, y6, y7, y8], _, [v0, v1, v2, v3, v4, v5, v6, v7, v8], _ =>
      have g0 := hff 0 _ rfl
      have g1 := hff 1 _ rfl
      have g2 := hff 2 _ rfl
      have g3 := hff 3 _ rfl
      have g4 := hff 4 _ rfl
      have g5 := hff 5 _ rfl
      have g6 := hff 6 _ rfl
      have g7 := hff 7 _ rfl
      have g8 := hff 8 _ rfl
      have c3 : Tryd.prog.cellsOf 3 = 1 := by kernel_rfl
      have c21 : Tryd.prog.cellsOf 21 = 1 := by kernel_rfl
      have c27 : Tryd.prog.cellsOf 22 = 1 := by kernel_rfl
      have c4 : Tryd.prog.cellsOf 4 = 1 := by kernel_rfl
      have c9 : Tryd.prog.cellsOf 9 = 1 := by kernel_rfl
      have c31 : Tryd.prog.cellsOf 23 = 1 := by kernel_rfl
      simp [c3] at g0 g3 g4 g6
      simp [c21] at g1
      simp [c27] at g2
      simp [c4] at g5
      simp [c9] at g7
      simp [c31] at g8
      obtain ⟨t0, e0, _, _⟩ := DataW.trod_int Tryd.underlying3 g0
      obtain ⟨t1, e1, _, _⟩ := DataW.trod_int Tryd.underlying21 g1
      obtain ⟨t3, e3, _, _⟩ := DataW.trod_int Tryd.underlying3 g3
      obtain ⟨t4, e4, _, _⟩ := DataW.trod_int Tryd.underlying3 g4
      obtain ⟨t5, e5, _⟩ := DataW.trod_bool Tryd.underlying4 g5
      obtain ⟨t6, e6, _, _⟩ := DataW.trod_int Tryd.underlying3 g6
      obtain ⟨t7, e7, x7, _⟩ := DataW.trod_string Tryd.underlying9 g7
      obtain ⟨d2, p2⟩ := y2
      obtain ⟨d7, p7⟩ := y7
      obtain ⟨d8, p8⟩ := y8
      have hD : d = .agg ([y0, y1, (d2, p2), y3, y4, y5, y6, (d7, p7), (d8, p8)].map (·.1)) := (Prod.mk.inj hxy).1
      have hr : reachBytes = 140737488351232 := by decide
      have hw : ∀ (j : Nat) (ty : TypeId) (dd : DataW H), [3, 21, 22, 3, 3, 4, 3, 9, 23][j]? = some ty → ([y0, y1, (d2, p2), y3, y4, y5, y6, (d7, p7), (d8, p8)].map (·.1))[j]? = some dd → ∀ n ∈ dd.weights Tryd.prog ty, n ≤ reachBytes := fun j ty dd h1 h2 n hn => by
        refine hz n ?_
        rw [hD]
        simp only [DataW.weights, Tryd.underlying25]
        exact DataW.weights_mem_each (j := j) (t := ty) (d := dd) h1 h2 n hn
      obtain ⟨ra, rn, rc, rf, ev, hR, hRb, _⟩ := ranges_open g2 (hw 2 22 d2 rfl rfl)
      have h7 : t7.size ≤ 140737488351232 := by
        have := hw 7 9 d7 rfl rfl t7.data.toList.length (by
          rw [(Prod.mk.inj x7).1]
          simp [DataW.weights])
        rw [size_len, hr] at this
        exact this
      have w0 : v0 = .int .i64 t0 := by simpa using e0
      have w1 : v1 = .int .i32 t1 := by simpa using e1
      have w3 : v3 = .int .i64 t3 := by simpa using e3
      have w4 : v4 = .int .i64 t4 := by simpa using e4
      have w5 : v5 = .bool t5 := by simpa using e5
      have w6 : v6 = .int .i64 t6 := by simpa using e6
      have w7 : v7 = .string t7 := by simpa using e7
      rcases DataW.trod_slice Tryd.underlying23 g8 with ⟨hcs, _⟩ | ⟨x, l, c, elems, rest, n, hn, hcs, hx8, _, hl, _, hel, hal, _⟩
      · have w8 : v8 = .slice none 0 0 := by simpa using hcs
        refine ⟨topT ⟨t0, t1, ra, rn, rc, rf, t3, t4, t5, t6, t7, none, 0, 0⟩ (fun _ _ => nd0), ?_, topT_at ⟨hRb, by dsimp only; omega, h7, Nat.le_refl _⟩ hR.b (.inl rfl) (fun j hj => absurd hj (Nat.not_lt_zero _))⟩
        rw [w0, w1, w3, w4, w5, w6, w7, w8, ev]
        rfl
      · have w8 : v8 = .slice (some x) l c := by simpa using hcs
        have hkn : l * 8 ≤ 140737488351232 := by
          have hb : Tryd.prog.bytesOf 25 = 112 := by kernel_rfl
          have := hw 8 23 d8 rfl rfl ((elems.length + rest.length) * 112) (by
            rw [(Prod.mk.inj hx8).1]
            simp only [DataW.weights, Tryd.underlying23, hb, List.length_map]
            exact List.mem_cons.2 (.inl rfl))
          rw [hr] at this
          omega
        have each : ∀ i, i < l → ∃ u : Tr, (∃ cs', W.cells? 0 (x.add (i * 9)) 9 = some cs' ∧ cs' = ndC (u [])) ∧ Tat W.heap.size W u := by
          intro i hi
          have h1 := hal i hi
          rw [hC, List.getElem?_eq_getElem (by omega : i < elems.length)] at h1
          obtain ⟨cs', h2, h3⟩ := Option.bind_eq_some_iff.1 h1
          obtain ⟨u, hu, hT⟩ := ih n (by omega) cs' elems[i].1 elems[i].2 h3 (fun q hq => by
            refine hw 8 23 d8 rfl rfl q ?_
            rw [(Prod.mk.inj hx8).1]
            exact weights_elem Tryd.underlying23 (List.mem_map.2 ⟨elems[i], List.getElem_mem _, rfl⟩) q hq)
          exact ⟨u, ⟨cs', h2, hu⟩, hT⟩
        have hI : Inhabited Tr := ⟨fun _ => nd0⟩
        obtain ⟨T, hT⟩ := Go.Deep.choose_lt each
        have hcell : ∀ j, j < l → ∀ q v, q < 9 → (ndC (T j []))[q]? = some v → W.cell? (x.add (j * 9 + q)) = some v := fun j hj q v hq hv => by
          obtain ⟨⟨cs', h1, h2⟩, _⟩ := hT j hj
          obtain ⟨_, hln, hce⟩ := World.cells?_some h1
          have := hce q (by omega)
          rw [Go.Deep.add_add] at this
          rw [this]
          subst h2
          simpa using hv
        refine ⟨topT ⟨t0, t1, ra, rn, rc, rf, t3, t4, t5, t6, t7, some x, l, c⟩ T, ?_, topT_at ⟨hRb, hkn, h7, hl⟩ hR.b ?_ (fun j hj => (hT j hj).2)⟩
        · rw [w0, w1, w3, w4, w5, w6, w7, w8, ev]
          rfl
        · by_cases h0 : l = 0
          · exact .inl h0
          · right
            obtain ⟨g, o, sp⟩ := x
            have hc0 := hcell 0 (by omega) 0 _ (by omega) rfl
            have hsp : sp = none := by simpa [Addr.add] using World.cell?_spot hc0
            subst hsp
            rw [Go.WideShapes.add_plain] at hc0
            refine ⟨g, o, rfl, block_lt_of_cell hc0, fun j hj => ?_⟩
            have hc : ∀ q v, q < 9 → (ndC (T j []))[q]? = some v → W.cell? ⟨g, o + j * 9 + q, none⟩ = some v := fun q v hq hv => by
              have := hcell j hj q v hq hv
              rw [Go.WideShapes.add_plain] at this
              rw [Nat.add_assoc]
              exact this
            exact ⟨hc 0 _ (by omega) rfl, hc 1 _ (by omega) rfl, hc 2 _ (by omega) rfl, hc 3 _ (by omega) rfl, hc 4 _ (by omega) rfl, hc 5 _ (by omega) rfl, hc 6 _ (by omega) rfl, hc 7 _ (by omega) rfl, hc 8 _ (by omega) rfl⟩
end Go.Proofs.YtbciclnffokjjaaDoor
/- The tree a{3,}. -/
namespace Go.Proofs.YtbciclnffokjjaaDoor
open Go.RowKit Go.Lib

def ltN : Nd := ⟨2, 97, none, 0, 0, fun _ => (0, 0), 0, 0, false, 0, ⟨#[]⟩, none, 0, 0⟩
def rpN (g : Nat) : Nd := ⟨6, 0, none, 0, 0, fun _ => (0, 0), 3, -1, false, 0, ⟨#[]⟩, some ⟨g, 0, none⟩, 1, 1⟩
def ltT : Tr := topT ltN (fun _ _ => nd0)
def rpT (g : Nat) : Tr := topT (rpN g) (fun _ => ltT)
theorem ltT_root : ltT [] = ltN := rfl
theorem rpT_root (g : Nat) : rpT g [] = rpN g := rfl
theorem rpT_kid (g : Nat) : kid (rpT g) 0 = ltT := rfl
theorem ltN_ok : ndB ltN = true := by kernel_rfl
theorem vd_lt (m : Nat) (op : Int) (s : St) (h : s.k + 1 ≤ 8194) (ho : op ≤ 250) : vd (m + 1) ltT op s = some { s with k := s.k + 1 } := by
  unfold vd
  rw [ltT_root, if_neg (by
    rintro (h1 | h1 | h1)
    · omega
    · omega
    · rw [ltN_ok] at h1; cases h1)]
  rfl
theorem rpN_ok (g : Nat) : ndB (rpN g) = true := by
  have e : ndB (rpN 0) = true := by kernel_rfl
  exact e
theorem vd_rp (g : Nat) : vd 8195 (rpT g) 0 s0 = some { s0 with k := 2 } := by
  show vd (8194 + 1) (rpT g) 0 s0 = _
  unfold vd
  rw [rpT_root, if_neg (by
    rintro (h1 | h1 | h1)
    · exact absurd h1 (by decide)
    · exact absurd h1 (by decide)
    · rw [rpN_ok] at h1; cases h1)]
  have e1 : mid (rpN g) { s0 with k := s0.k + 1 } = some { s0 with k := 1 } := rfl
  rw [e1]
  show vds (vd 8194) (rpT g) (if (rpN g).kind = 7 then 0 + 1 else 0) 1 { s0 with k := 1 } = _
  rw [if_neg (by show ¬ (6 : Int) = 7; decide)]
  have e2 : vds (vd 8194) (rpT g) 0 1 { s0 with k := 1 } = vd 8194 ltT (if brB (rpT g []).kind (rpT g [0]).kind = true then 0 + 1 else 0) { s0 with k := 1 } := rfl
  rw [e2]
  have e3 : brB (rpT g []).kind (rpT g [0]).kind = false := by
    show brB 6 2 = false
    decide
  rw [e3]
  exact vd_lt 8193 0 _ (by decide) (by decide)
theorem ok_rp (g : Nat) : okT (rpT g) = true := by
  unfold okT svd
  rw [vd_rp]
  rfl
theorem len_lt (m : Nat) : lenF (m + 1) ltT = 1 := by
  unfold lenF
  rw [ltT_root]
  have : lenK ltN (sumN (fun j => lenF m (kid ltT j)) ltN.kn) = 1 := by
    unfold lenK
    rw [if_neg (by decide), if_neg (by decide), if_neg (by decide), if_neg (by decide)]
  rw [this]
  decide
theorem len_rp (g : Nat) : lenF 8195 (rpT g) = 6 := by
  show lenF (8194 + 1) (rpT g) = 6
  unfold lenF
  rw [rpT_root]
  have e : sumN (fun j => lenF 8194 (kid (rpT g) j)) (rpN g).kn = 1 := by
    show sumN (fun j => lenF 8194 (kid (rpT g) j)) 1 = 1
    rw [sumN_one, rpT_kid]
    exact len_lt 8193
  rw [e]
  have e2 : lenK (rpN g) 1 = 6 := by
    unfold lenK
    rw [if_neg (by show ¬ ((6 : Int) = 1 ∨ (6 : Int) = 4); decide), if_neg (by show ¬ (6 : Int) = 5; decide), if_neg (by show ¬ (6 : Int) = 7; decide), if_pos (by rfl), if_pos (by rfl)]
    rfl
  rw [e2]
  decide
theorem siz_rp (g : Nat) : sizF (rpT g) = 7 := by
  unfold sizF
  rw [if_pos (ok_rp g), len_rp]
  decide
theorem fr_lt (m : Nat) : frF cmC (m + 1) ltT = ([97], true) := by
  unfold frF
  rw [ltT_root, if_pos (by rfl), if_pos (by decide)]
  have : (Utf8.encode ltN.r).data.toList = [97] := by decide
  rw [this]
theorem fr_rp (g : Nat) : (frF cmC 8195 (rpT g)).1 = [97, 97, 97] := by
  show (frF cmC (8194 + 1) (rpT g)).1 = _
  unfold frF
  rw [rpT_root, if_neg (by show ¬ (6 : Int) = 2; decide), if_neg (by show ¬ (6 : Int) = 3; decide), if_neg (by show ¬ (6 : Int) = 4; decide), if_neg (by show ¬ (6 : Int) = 5; decide), if_pos (by rfl), rpT_kid, fr_lt 8193]
  show (repF ([97], true) 3 (-1)).1 = _
  unfold repF
  rw [if_neg (by decide), if_neg (by decide), if_neg (by decide)]
  rfl
theorem pre_rp (g : Nat) : preF (rpT g) = [97, 97, 97] := by
  unfold preF
  rw [siz_rp, if_pos (by decide), fr_rp]
theorem lt_at (B : Nat) (W : World) : Tat B W ltT :=
  topT_at (by decide) (.inl rfl) (.inl rfl) (fun j hj => absurd hj (Nat.not_lt_zero _))
theorem rp_at {B g : Nat} {W : World} (hg : g < B) (h : Cs W g 0 ltN) : Tat B W (rpT g) :=
  topT_at ⟨by show 0 * 8 ≤ 140737488351232; decide, by show 1 * 8 ≤ 140737488351232; decide, by show (0 : Nat) ≤ 140737488351232; decide, by show 1 ≤ 1; decide⟩ (.inl rfl) (.inr ⟨g, 0, rfl, hg, fun j hj => by
    have : j = 0 := by have : j < 1 := hj; omega
    subst this
    exact h⟩) (fun j hj => lt_at B W)
end Go.Proofs.YtbciclnffokjjaaDoor
/- taken over the program of a tree. -/
namespace Go.Proofs.YtbciclnffokjjaaDoor
open Go.RowKit

/-- What taken says of a tree and a text. -/
def TkM (t : Tr) (s : ByteArray) (v : Int) : Prop := (v = 2 ∧ ¬ gdF s (s.size + 1) 0) ∨ (gdF s (s.size + 1) 0 ∧ ((v = 1 ∧ Mn s 8195 t 0 s.size) ∨ (v = 0 ∧ ¬ Mn s 8195 t 0 s.size)))
/-- A program of a tree, as Compile answers it. -/
theorem taken_tree {t : Tr} {B S : Nat} {W w : World} {iv nv : Value} {gr : Int} {m : Nat} {xs : List Value} (s : ByteArray) (ht : Tat B W t) (h0 : ¬ sizF t = 0) (h1 : sizF t ≤ 10000) (hi : Ow S w iv (prgC t)) (hn : w.ownsRow S 9 1 nv m xs) (hs : (s.size : Int) ≤ 4611686018427387904) :
    Calls Tryd.prog 7 #[.agg #[iv, .int .i64 0, .int .i64 gr, nv], .string s] w fun e w' => (∃ v, e = .returned (.int .i64 v) ∧ TkM t s v) ∧ Below w.heap.size w w' := by
  obtain ⟨hok, hlen, _⟩ := sizF_ok h0 h1
  have hwf := WF_ok hok
  obtain ⟨a, cc, rfl, hP⟩ := hi.pg
  obtain ⟨na, nc, rfl⟩ := Sp.form hn
  have hl := cod_len 8195 t 0 hwf (by omega)
  have hpl : (prgC t).length = (cod 8195 t 0).length + 1 := by unfold prgC; simp
  have hrs : ∀ i ∈ prgC t, i.rs.length ≤ 1152921504606846976 := fun i h => by
    unfold prgC at h
    rcases List.mem_append.1 h with h | h
    · have : i.rs.length * 8 ≤ 140737488351232 := cod_rs 8195 t 0 ht hwf i h
      omega
    · rcases List.mem_singleton.1 h with rfl
      exact Nat.zero_le _
  refine (taken_any a cc 0 gr na m nc (prgC t) s w hP (prgC_in hwf) (by omega) (by omega) hrs (wd_ok s) hs).mono ?_
  rintro e w' ⟨⟨v, rfl, h⟩, b⟩
  exact ⟨⟨v, rfl, taken_mn hwf h⟩, b⟩
end Go.Proofs.YtbciclnffokjjaaDoor
