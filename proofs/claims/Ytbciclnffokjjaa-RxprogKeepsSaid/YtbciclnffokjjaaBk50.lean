/- A bundle of texts. -/
import Derived.Test.YtbciclnffokjjaaBk49
import Derived.Test.YtbciclnffokjjaaBk16
/- RxprogKeeps: trees in blocks of a set; a tree cut off at 9000 nodes; rows of nodes. -/
namespace Go.Proofs.Ytbciclnffokjjaa
open Go.RowKit Go.Lib

theorem SameD.refl (a : Nd) : SameD a a := ⟨rfl, rfl, rfl, fun _ _ => rfl, rfl, rfl, rfl, rfl, rfl, rfl⟩
theorem SameD.symm {a b : Nd} (h : SameD a b) : SameD b a := ⟨h.kind.symm, h.r.symm, h.rn.symm, fun j hj => (h.rf j (by rw [h.rn]; exact hj)).symm, h.mn.symm, h.mx.symm, h.lz.symm, h.cp.symm, h.nm.symm, h.kn.symm⟩
theorem SameD.trans {a b c : Nd} (h : SameD a b) (k : SameD b c) : SameD a c := ⟨h.kind.trans k.kind, h.r.trans k.r, h.rn.trans k.rn, fun j hj => (h.rf j hj).trans (k.rf j (by rw [← h.rn]; exact hj)), h.mn.trans k.mn, h.mx.trans k.mx, h.lz.trans k.lz, h.cp.trans k.cp, h.nm.trans k.nm, h.kn.trans k.kn⟩
theorem SameN.symm : ∀ {m : Nat} {t u : Tr}, SameN m t u → SameN m u t
  | 0, _, _, h => h.elim
  | _ + 1, _, _, ⟨h1, h2⟩ => ⟨h1.symm, fun j hj => (h2 j (by rw [h1.kn]; exact hj)).symm⟩
theorem SameN.trans : ∀ {m : Nat} {t u v : Tr}, SameN m t u → SameN m u v → SameN m t v
  | 0, _, _, _, h, _ => h.elim
  | _ + 1, _, _, _, ⟨h1, h2⟩, ⟨k1, k2⟩ => ⟨h1.trans k1, fun j hj => (h2 j hj).trans (k2 j (by rw [← h1.kn]; exact hj))⟩
/-- Ranges, nodes, trees that lie in blocks of Z. -/
def Rz (Z : Nat → Prop) (w : World) (a : Option Addr) (f : Nat → Rg) (n : Nat) : Prop := n = 0 ∨ ∃ g o, a = some ⟨g, o, none⟩ ∧ Z g ∧ ∀ j, j < n → w.cell? ⟨g, o + j * 2, none⟩ = some (.int .i32 (f j).1) ∧ w.cell? ⟨g, o + j * 2 + 1, none⟩ = some (.int .i32 (f j).2)
def Kz (Z : Nat → Prop) (w : World) (a : Option Addr) (x : Nat → Nd) (n : Nat) : Prop := n = 0 ∨ ∃ g o, a = some ⟨g, o, none⟩ ∧ Z g ∧ ∀ j, j < n → Cs w g (o + j * 9) (x j)
def TzN (Z : Nat → Prop) (w : World) : Nat → Tr → Prop
  | 0, _ => True
  | n + 1, t => ((t []).rn * 8 ≤ 140737488351232 ∧ (t []).kn * 8 ≤ 140737488351232 ∧ (t []).nm.size ≤ 140737488351232 ∧ (t []).kn ≤ (t []).kc) ∧ Rz Z w (t []).ra (t []).rf (t []).rn ∧ Kz Z w (t []).ka (fun j => t [j]) (t []).kn ∧ ∀ j, j < (t []).kn → TzN Z w n (kid t j)
def Tz (Z : Nat → Prop) (w : World) (t : Tr) : Prop := ∀ n, TzN Z w n t
theorem Rz.kp {Z M : Nat → Prop} {w w' : World} {a : Option Addr} {f : Nat → Rg} {n : Nat} (h : Rz Z w a f n) (k : Kp M w w') (hZ : ∀ g, Z g → ¬ M g) : Rz Z w' a f n := by
  rcases h with h | ⟨g, o, e, hg, hc⟩
  · exact .inl h
  · exact .inr ⟨g, o, e, hg, fun j hj => ⟨k.cell (hc j hj).1 (hZ g hg), k.cell (hc j hj).2 (hZ g hg)⟩⟩
theorem Kz.kp {Z M : Nat → Prop} {w w' : World} {a : Option Addr} {x : Nat → Nd} {n : Nat} (h : Kz Z w a x n) (k : Kp M w w') (hZ : ∀ g, Z g → ¬ M g) : Kz Z w' a x n := by
  rcases h with h | ⟨g, o, e, hg, hc⟩
  · exact .inl h
  · exact .inr ⟨g, o, e, hg, fun j hj => (hc j hj).kp k (hZ g hg)⟩
theorem TzN.kp {Z M : Nat → Prop} {w w' : World} (k : Kp M w w') (hZ : ∀ g, Z g → ¬ M g) : ∀ {n : Nat} {t : Tr}, TzN Z w n t → TzN Z w' n t
  | 0, _, _ => trivial
  | _ + 1, _, h => ⟨h.1, h.2.1.kp k hZ, h.2.2.1.kp k hZ, fun j hj => (h.2.2.2 j hj).kp k hZ⟩
theorem Tz.kp {Z M : Nat → Prop} {w w' : World} {t : Tr} (h : Tz Z w t) (k : Kp M w w') (hZ : ∀ g, Z g → ¬ M g) : Tz Z w' t := fun n => (h n).kp k hZ
theorem TzN.mono {Z Y : Nat → Prop} {w : World} (hZ : ∀ g, Z g → Y g) : ∀ {n : Nat} {t : Tr}, TzN Z w n t → TzN Y w n t
  | 0, _, _ => trivial
  | _ + 1, _, h => ⟨h.1, h.2.1.imp id (fun ⟨g, o, e, hg, hc⟩ => ⟨g, o, e, hZ g hg, hc⟩), h.2.2.1.imp id (fun ⟨g, o, e, hg, hc⟩ => ⟨g, o, e, hZ g hg, hc⟩), fun j hj => (h.2.2.2 j hj).mono hZ⟩
theorem Tz.mono {Z Y : Nat → Prop} {w : World} {t : Tr} (h : Tz Z w t) (hZ : ∀ g, Z g → Y g) : Tz Y w t := fun n => (h n).mono hZ
theorem Tz.tat {Z : Nat → Prop} {B : Nat} {w : World} {t : Tr} (h : Tz Z w t) (hZ : ∀ g, Z g → g < B) : Tat B w t := by
  intro n
  have h' : TzN (fun g => g < B) w n t := (h n).mono hZ
  clear h
  induction n generalizing t with
  | zero => exact trivial
  | succ n ih => exact ⟨h'.1, h'.2.1, h'.2.2.1, fun j hj => ih (h'.2.2.2 j hj)⟩
theorem topT_z {Z : Nat → Prop} {W : World} {d : Nd} {T : Nat → Tr} (h : d.rn * 8 ≤ 140737488351232 ∧ d.kn * 8 ≤ 140737488351232 ∧ d.nm.size ≤ 140737488351232 ∧ d.kn ≤ d.kc) (hr : Rz Z W d.ra d.rf d.rn) (hk : Kz Z W d.ka (fun j => T j []) d.kn) (hT : ∀ j, j < d.kn → Tz Z W (T j)) : Tz Z W (topT d T) := by
  intro n
  cases n with
  | zero => exact trivial
  | succ n => exact ⟨h, hr, hk, fun j hj => hT j hj n⟩
/-- A tree as copied lays it: at most 9000 nodes behind those that were counted before. -/
def cutKs (F : Tr → Nat → Tr × Nat) (t : Tr) (n : Nat) : Nat → List Tr × Nat
  | 0 => ([], n)
  | j + 1 => if (cutKs F t n j).2 < 9000 then ((cutKs F t n j).1 ++ [(F (kid t j) ((cutKs F t n j).2 + 1)).1], (F (kid t j) ((cutKs F t n j).2 + 1)).2) else cutKs F t n j
def cutT : Nat → Tr → Nat → Tr × Nat
  | 0, t, n => (topT { t [] with kn := 0 } (fun _ _ => nd0), n)
  | m + 1, t, n => (topT { t [] with kn := (cutKs (cutT m) t n (t []).kn).1.length } (fun j => (cutKs (cutT m) t n (t []).kn).1.getD j (fun _ => nd0)), (cutKs (cutT m) t n (t []).kn).2)
theorem cutKs_stop {F : Tr → Nat → Tr × Nat} {t : Tr} {n i : Nat} (h : ¬ (cutKs F t n i).2 < 9000) : ∀ d, cutKs F t n (i + d) = cutKs F t n i
  | 0 => rfl
  | d + 1 => by
    have ih := cutKs_stop h d
    have e : cutKs F t n (i + d + 1) = if (cutKs F t n (i + d)).2 < 9000 then ((cutKs F t n (i + d)).1 ++ [(F (kid t (i + d)) ((cutKs F t n (i + d)).2 + 1)).1], (F (kid t (i + d)) ((cutKs F t n (i + d)).2 + 1)).2) else cutKs F t n (i + d) := rfl
    show cutKs F t n (i + d + 1) = _
    rw [e, ih, if_neg h]
theorem cutKs_bd {F : Tr → Nat → Tr × Nat} {t : Tr} {n : Nat} (hn : n ≤ 9000) (hF : ∀ t k, k ≤ 9000 → k ≤ (F t k).2 ∧ (F t k).2 ≤ 9000) : ∀ i, n ≤ (cutKs F t n i).2 ∧ (cutKs F t n i).2 ≤ 9000 ∧ (cutKs F t n i).1.length ≤ i
  | 0 => ⟨Nat.le_refl _, hn, Nat.le_refl _⟩
  | i + 1 => by
    obtain ⟨h1, h2, h3⟩ := cutKs_bd (t := t) hn hF i
    unfold cutKs
    split
    · have := hF (kid t i) ((cutKs F t n i).2 + 1) (by omega)
      exact ⟨by dsimp only; omega, this.2, by dsimp only; rw [List.length_append]; simp; omega⟩
    · exact ⟨h1, h2, by omega⟩
theorem cutT_bd : ∀ (m : Nat) (t : Tr) (n : Nat), n ≤ 9000 → n ≤ (cutT m t n).2 ∧ (cutT m t n).2 ≤ 9000
  | 0, _, _, h => ⟨Nat.le_refl _, h⟩
  | m + 1, _, _, h => ⟨(cutKs_bd h (cutT_bd m) _).1, (cutKs_bd h (cutT_bd m) _).2.1⟩
/-- Rows of nodes. -/
def n9 (f : Nat → Nd) (n : Nat) : List Value := (List.range n).flatMap fun j => ndC (f j)
theorem n9_succ (f : Nat → Nd) (n : Nat) : n9 f (n + 1) = n9 f n ++ ndC (f n) := by
  unfold n9
  rw [List.range_succ, List.flatMap_append]
  simp
theorem n9_len (f : Nat → Nd) (n : Nat) : (n9 f n).length = n * 9 := by
  induction n with
  | zero => rfl
  | succ n ih => rw [n9_succ, List.length_append, ih]; simp; omega
theorem n9_congr (f g : Nat → Nd) (n : Nat) (h : ∀ j, j < n → f j = g j) : n9 f n = n9 g n := by
  induction n with
  | zero => rfl
  | succ n ih => rw [n9_succ, n9_succ, ih (fun j hj => h j (by omega)), h n (by omega)]
theorem n9_push (f : Nat → Nd) (n : Nat) (x : Nd) : n9 (up f n x) (n + 1) = n9 f n ++ ndC x := by
  rw [n9_succ, up_same]
  congr 1
  exact n9_congr _ _ n (fun j hj => up_other _ _ _ _ (by omega))
theorem n9_get (f : Nat → Nd) : ∀ (n j k : Nat), j < n → k < 9 → (n9 f n)[j * 9 + k]? = (ndC (f j))[k]?
  | 0, j, k, h, _ => by omega
  | n + 1, j, k, h, hk => by
    rw [n9_succ]
    by_cases e : j = n
    · subst e
      rw [List.getElem?_append_right (by rw [n9_len]; omega), n9_len]
      congr 1
      omega
    · rw [List.getElem?_append_left (by rw [n9_len]; omega)]
      exact n9_get f n j k (by omega) hk
theorem row_kz {S : Nat} {w : World} {v : Value} {f : Nat → Nd} {n : Nat} (h : w.ownsRow S 33 9 v n (n9 f n)) : ∃ a c, v = .slice a n c ∧ n ≤ c ∧ Kz (fun g => v.ownBlock = some g) w a f n := by
  rcases h.2 with ⟨rfl, rfl⟩ | ⟨g, cap, cur, rfl, _, hg, hc, _, _, hct⟩
  · exact ⟨none, 0, rfl, Nat.le_refl _, .inl rfl⟩
  · refine ⟨_, cap, rfl, hc, .inr ⟨g, 0, rfl, rfl, fun j hj => ?_⟩⟩
    have hcell : ∀ k u, k < 9 → (ndC (f j))[k]? = some u → w.cell? ⟨g, 0 + j * 9 + k, none⟩ = some u := fun k u hk hu => by
      have e1 : w.cell? ⟨g, 0 + j * 9 + k, none⟩ = cur[0 + j * 9 + k]? := by
        unfold World.cell?
        dsimp only
        rw [hg]
        rfl
      have e2 : cur[0 + j * 9 + k]? = (n9 f n)[j * 9 + k]? := by
        rw [← hct, List.getElem?_take, if_pos (by omega), Nat.zero_add]
        simp
      rw [e1, e2, n9_get f n j k hj hk, hu]
    exact ⟨hcell 0 _ (by omega) rfl, hcell 1 _ (by omega) rfl, hcell 2 _ (by omega) rfl, hcell 3 _ (by omega) rfl, hcell 4 _ (by omega) rfl, hcell 5 _ (by omega) rfl, hcell 6 _ (by omega) rfl, hcell 7 _ (by omega) rfl, hcell 8 _ (by omega) rfl⟩
theorem infX : (Try.prog.info? 33).map (fun i => (i.zero, i.size, i.bytes)) = some (some (.agg #[.int .i64 0, .int .i32 0, .slice none 0 0, .int .i64 0, .int .i64 0, .bool false, .int .i64 0, .string ⟨#[]⟩, .slice none 0 0]), 9, 112) := by kernel_rfl
/-- One node more. -/
theorem append_9 (w : World) (S : Nat) (v : Value) (n : Nat) (f : Nat → Nd) (x : Nd) (hS : S ≤ w.heap.size) (hn : (n + 1) * 112 ≤ 140737488355328) (o : w.ownsRow S 33 9 v n (n9 f n)) :
    ∃ g c w', (Builtin.append_ #[31, 31] 31 #[v, .slice (some ⟨w.heap.size, 0, none⟩) 1 1]).run Try.prog (w.alloc (ndX x)) = .ok (.slice (some ⟨g, 0, none⟩) (n + 1) c) w' ∧ w'.ownsRow S 33 9 (.slice (some ⟨g, 0, none⟩) (n + 1) c) (n + 1) (n9 (up f n x) (n + 1)) ∧ Kp (fun k => v.ownBlock = some k) w w' ∧ (v.ownBlock = some g ∨ w.heap.size ≤ g) := by
  obtain ⟨i0, hi, hz0, hz1, hz2⟩ := info_parts infX
  have o0 := World.ownsRow.alloc o (ndX x)
  have e : (w.alloc (ndX x)).heap[w.heap.size]? = some (ndX x) := heap_alloc_new w _
  obtain ⟨v', w', r, o', g, _, h5⟩ := run_append_own_at (P := Try.prog) (w.alloc (ndX x)) S 31 31 33 i0 _ 9 112 Try.underlying31 hi hz0 hz1 hz2 rfl (by decide) _ n (n9 f n) o0 ⟨w.heap.size, 0, none⟩ 1 1 (ndC x) (by rfl)
    (fun j u hj => by
      rw [Go.WideShapes.add_plain, Nat.zero_add]
      unfold World.cell?
      rw [e]
      simpa using hj) (by intro u hu; simp at hu; rcases hu with rfl | rfl | rfl | rfl | rfl | rfl | rfl | rfl | rfl <;> rfl) (by unfold maxLen; omega) hn (by simp; omega)
  rw [← n9_push] at o'
  rcases o'.2 with ⟨_, h0⟩ | ⟨G, C, cur, rfl, _⟩
  · omega
  · refine ⟨G, C, w', r, o', ((Kp.refl _ w).alloc _).grown g (fun k hk _ => hk), ?_⟩
    rcases h5 with h5 | h5
    · exact .inl (h5.symm.trans rfl)
    · have h6 : G = (w.alloc (ndX x)).heap.size := Option.some.inj h5
      rw [World.size_alloc] at h6
      exact .inr (by omega)
end Go.Proofs.Ytbciclnffokjjaa
/- RxprogKeeps: copied, what stays while it goes on. -/
namespace Go.Proofs.Ytbciclnffokjjaa
open Go.RowKit Go.Lib

/-- Where a node shows no ranges, it has none. -/
def TnlN : Nat → Tr → Prop
  | 0, _ => True
  | n + 1, t => ((t []).ra = none → (t []).rn = 0 ∧ (t []).rc = 0) ∧ ∀ j, j < (t []).kn → TnlN n (kid t j)
def Tnl (t : Tr) : Prop := ∀ n, TnlN n t
theorem Tnl.kid {t : Tr} (h : Tnl t) (j : Nat) (hj : j < (t []).kn) : Tnl (kid t j) := fun n => (h (n + 1)).2 j hj
abbrev ctX (n : Nat) : Obj := .cells #[.int .i64 (n : Int)] 3
def z0N : Nd := ⟨0, 0, none, 0, 0, fun _ => (0, 0), 0, 0, false, 0, ⟨#[]⟩, none, 0, 0⟩
/-- How a call of copied ends. -/
def CpP (m : Nat) (t : Tr) (n NB : Nat) (w : World) (e : Ending) (w' : World) : Prop :=
  ∃ u, e = .returned (ndV (u [])) ∧ Tz (fun g => w.heap.size ≤ g ∧ g < w'.heap.size) w' u ∧ SameN (m + 1) u (cutT m t n).1 ∧ w'.heap[NB]? = some (ctX (cutT m t n).2) ∧ Kp (fun k => k = NB) w w'
def CpC (m : Nat) : Prop := ∀ (t : Tr) (n NB : Nat) (w : World), 9000 ≤ n + m → n ≤ 9000 → Tnl t → Tat NB w t → w.heap[NB]? = some (ctX n) → Calls Try.prog 18 #[ndV (t []), .pointer (some ⟨NB, 0, none⟩)] w (CpP m t n NB w)
/-- The kids that were copied. -/
def cks (m : Nat) (t : Tr) (n i : Nat) : List Tr × Nat := cutKs (cutT (m - 1)) t n i
theorem cutT_eq (m : Nat) (t : Tr) (n : Nat) (h : 9000 ≤ n + m) : (cutT m t n).1 = topT { t [] with kn := (cks m t n (t []).kn).1.length } (fun j => (cks m t n (t []).kn).1.getD j (fun _ => nd0)) ∧ (cutT m t n).2 = (cks m t n (t []).kn).2 := by
  cases m with
  | zero =>
    have e : cks 0 t n (t []).kn = ([], n) := by
      unfold cks
      have := cutKs_stop (F := cutT (0 - 1)) (t := t) (n := n) (i := 0) (by show ¬ n < 9000; omega) (t []).kn
      rw [Nat.zero_add] at this
      rw [this]
      rfl
    rw [e]
    constructor
    · show topT _ _ = topT _ _
      congr 1
    · rfl
  | succ m => exact ⟨rfl, rfl⟩
theorem cks_bd (m : Nat) (t : Tr) (n i : Nat) (h : n ≤ 9000) : n ≤ (cks m t n i).2 ∧ (cks m t n i).2 ≤ 9000 ∧ (cks m t n i).1.length ≤ i := cutKs_bd h (cutT_bd (m - 1)) i
theorem cks_next {m : Nat} {t : Tr} {n i : Nat} (h : (cks m t n i).2 < 9000) : cks m t n (i + 1) = ((cks m t n i).1 ++ [(cutT (m - 1) (kid t i) ((cks m t n i).2 + 1)).1], (cutT (m - 1) (kid t i) ((cks m t n i).2 + 1)).2) := by
  have e : cks m t n (i + 1) = if (cks m t n i).2 < 9000 then ((cks m t n i).1 ++ [(cutT (m - 1) (kid t i) ((cks m t n i).2 + 1)).1], (cutT (m - 1) (kid t i) ((cks m t n i).2 + 1)).2) else cks m t n i := rfl
  rw [e, if_pos h]
theorem cks_stop {m : Nat} {t : Tr} {n i : Nat} (h : ¬ (cks m t n i).2 < 9000) (k : Nat) (hk : i ≤ k) : cks m t n k = cks m t n i := by
  obtain ⟨d, rfl⟩ : ∃ d, k = i + d := ⟨k - i, by omega⟩
  exact cutKs_stop h d
/-- Blocks that kids and ranges lie in. -/
def ZI (w w' : World) (kv : Value) (g : Nat) : Prop := w.heap.size + 2 ≤ g ∧ g < w'.heap.size ∧ kv.ownBlock ≠ some g
/-- A copy under way: i kids are laid. -/
structure CpI (w : World) (NB : Nat) (d : Nd) (m : Nat) (t : Tr) (n i : Nat) (kv : Value) (w' : World) : Prop where
  cnt : w'.heap[NB]? = some (ctX (cks m t n i).2)
  len : (cks m t n i).1.length = i
  box : w'.heap[w.heap.size]? = some (ndX d)
  res : w'.heap[w.heap.size + 1]? = some (ndX z0N)
  rgs : Rz (ZI w w' kv) w' d.ra d.rf d.rn
  row : ∃ us : Nat → Tr, w'.ownsRow (w.heap.size + 2) 33 9 kv i (n9 (fun j => us j []) i) ∧ ∀ j, j < i → Tz (ZI w w' kv) w' (us j) ∧ SameN m (us j) ((cks m t n i).1.getD j (fun _ => nd0))
  kp : Kp (fun k => k = NB) w w'
theorem heap_set {w : World} {g : Nat} {v u : Value} {e : TypeId} (h : w.heap[g]? = some (.cells #[u] e)) : (w.setCell ⟨g, 0, none⟩ v).heap[g]? = some (.cells #[v] e) := by simp [World.setCell, Array.getElem?_modify, h]
/-- One kid more. -/
theorem CpI.next {w : World} {NB : Nat} {d : Nd} {m : Nat} {t : Tr} {n i : Nat} {kv : Value} {w' : World} (h : CpI w NB d (m + 1) t n i kv w') (hNB : NB < w.heap.size) (hlt : (cks (m + 1) t n i).2 < 9000)
    {w2 w5 w7 : World} {u : Tr} {g c : Nat} (k2 : Kp (fun k => k = NB) w' w2) (hz : w2.heap.size = w'.heap.size)
    (hu : Tz (fun g => w2.heap.size ≤ g ∧ g < w5.heap.size) w5 u) (hs : SameN (m + 1) u (cutT m (kid t i) ((cks (m + 1) t n i).2 + 1)).1) (hc : w5.heap[NB]? = some (ctX (cutT m (kid t i) ((cks (m + 1) t n i).2 + 1)).2)) (k5 : Kp (fun k => k = NB) w2 w5)
    {us : Nat → Tr} (hrow : w'.ownsRow (w.heap.size + 2) 33 9 kv i (n9 (fun j => us j []) i)) (hkids : ∀ j, j < i → Tz (ZI w w' kv) w' (us j) ∧ SameN (m + 1) (us j) ((cks (m + 1) t n i).1.getD j (fun _ => nd0)))
    (ho : w7.ownsRow (w.heap.size + 2) 33 9 (.slice (some ⟨g, 0, none⟩) (i + 1) c) (i + 1) (n9 (up (fun j => us j []) i (u [])) (i + 1))) (k7 : Kp (fun k => kv.ownBlock = some k) w5 w7) (hg : kv.ownBlock = some g ∨ w5.heap.size ≤ g) :
    CpI w NB d (m + 1) t n (i + 1) (.slice (some ⟨g, 0, none⟩) (i + 1) c) w7 := by
  have hw2 : w.heap.size + 2 ≤ w'.heap.size := by
    have := (Array.getElem?_eq_some_iff.1 h.res).1
    omega
  have hown : ∀ b, kv.ownBlock = some b → w.heap.size + 2 ≤ b ∧ b < w'.heap.size := fun b e => hrow.lt b e
  have k25 : Kp (fun k => k = NB) w' w5 := k2.trans k5
  have hs5 : w'.heap.size ≤ w5.heap.size := k25.size
  have hs7 : w5.heap.size ≤ w7.heap.size := k7.size
  have kall : Kp (fun k => k = NB ∨ kv.ownBlock = some k) w' w7 := (k25.mono (fun _ _ e => .inl e)).trans (k7.mono (fun _ _ e => .inr e))
  have hZ : ∀ b, ZI w w' kv b → ¬ (b = NB ∨ kv.ownBlock = some b) := fun b hb e => by
    rcases e with e | e
    · have := hb.1; omega
    · exact hb.2.2 e
  have hZm : ∀ b, ZI w w' kv b → ZI w w7 (.slice (some ⟨g, 0, none⟩) (i + 1) c) b := fun b hb => ⟨hb.1, by have := hb.2.1; omega, fun e => by
    have e' : g = b := Option.some.inj e
    rcases hg with hg | hg
    · exact hb.2.2 (by rw [← e']; exact hg)
    · have := hb.2.1; omega⟩
  have hnk : cks (m + 1) t n (i + 1) = _ := cks_next hlt
  have keep : ∀ b, b < w'.heap.size → b ≠ NB → kv.ownBlock ≠ some b → w7.heap[b]? = w'.heap[b]? := fun b hb h1 h2 => kall.block b hb (fun e => e.elim h1 h2)
  refine ⟨?_, ?_, ?_, ?_, ?_, ⟨fun j => if j = i then u else us j, ?_, fun j hj => ?_⟩, ?_⟩
  · rw [hnk]
    exact (k7.block NB (by omega) (fun e => by have := hown NB e; omega)).trans hc
  · rw [hnk]
    simp [h.len]
  · exact (keep _ (by omega) (by omega) (fun e => by have := hown _ e; omega)).trans h.box
  · exact (keep _ (by omega) (by omega) (fun e => by have := hown _ e; omega)).trans h.res
  · have := h.rgs.kp kall hZ
    exact this.imp id (fun ⟨g', o', e, hg', hc'⟩ => ⟨g', o', e, hZm g' hg', hc'⟩)
  · have e : n9 (up (fun j => us j []) i (u [])) (i + 1) = n9 (fun j => (if j = i then u else us j) []) (i + 1) := n9_congr _ _ _ (fun j _ => by
      unfold up
      split <;> rfl)
    rw [← e]
    exact ho
  · by_cases hj' : j = i
    · subst hj'
      dsimp only
      rw [if_pos rfl]
      refine ⟨?_, ?_⟩
      · refine (hu.kp k7 (fun b hb e => by have := hown b e; omega)).mono (fun b hb => ⟨by omega, by omega, fun e => ?_⟩)
        have e' : g = b := Option.some.inj e
        rcases hg with hg | hg
        · have := hown g hg; omega
        · omega
      · rw [hnk]
        have : (((cks (m + 1) t n j).1 ++ [(cutT (m + 1 - 1) (kid t j) ((cks (m + 1) t n j).2 + 1)).1]).getD j (fun _ => nd0)) = (cutT m (kid t j) ((cks (m + 1) t n j).2 + 1)).1 := by
          rw [List.getD_eq_getElem?_getD, List.getElem?_append_right (by rw [h.len]; exact Nat.le_refl _), h.len]
          simp
        dsimp only
        rw [this]
        exact hs
    · dsimp only
      rw [if_neg hj']
      have hji : j < i := by omega
      obtain ⟨q1, q2⟩ := hkids j hji
      refine ⟨(q1.kp kall hZ).mono hZm, ?_⟩
      rw [hnk]
      dsimp only
      rw [List.getD_eq_getElem?_getD, List.getElem?_append_left (by rw [h.len]; exact hji), ← List.getD_eq_getElem?_getD]
      exact q2
  · exact h.kp.trans' kall (fun b hb e => by
      rcases e with e | e
      · exact e
      · have := hown b e; omega)
end Go.Proofs.Ytbciclnffokjjaa
