/- A bundle of texts. -/
import Derived.Test.YtajaadagejhllaaGreatDoorBs10
import Derived.Lib.ItoaNum
import Derived.Lib.AppendStr
/- Show: the text of a tree as mathematics. -/
namespace Go.Proofs.YtajaadagejhllaaGreatDoor
open Go.RowKit

/-- Is a rune one of the fourteen that mean something else than themselves? -/
def spcB (r : Int) : Bool := r == 92 || r == 46 || r == 43 || r == 42 || r == 63 || r == 40 || r == 41 || r == 124 || r == 91 || r == 93 || r == 123 || r == 125 || r == 94 || r == 36
def spA : ByteArray := ⟨#[92, 46, 43, 42, 63, 40, 41, 124, 91, 93, 123, 125, 94, 36]⟩

/-- The hexadecimal digits of a number. -/
def hxD (n : Nat) : UInt8 := UInt8.ofNat (if n < 10 then 48 + n else 87 + n)
def hxA : Nat → Nat → List UInt8 → List UInt8
  | 0, _, l => l
  | f + 1, n, l => if n < 16 then hxD n :: l else hxA f (n / 16) (hxD (n % 16) :: l)
theorem hxA_len : ∀ (f n : Nat) (l : List UInt8), (hxA f n l).length ≤ f + l.length
  | 0, _, l => by simp [hxA]
  | f + 1, n, l => by
    unfold hxA
    split
    · simp only [List.length_cons]; omega
    · have := hxA_len f (n / 16) (hxD (n % 16) :: l)
      simp only [List.length_cons] at this
      omega
def hxB (r : Int) : ByteArray := ⟨(hxA 16 r.toNat []).toArray⟩
theorem hxB_size (r : Int) : (hxB r).size ≤ 16 := by
  have := hxA_len 16 r.toNat []
  show (hxA 16 r.toNat []).toArray.size ≤ 16
  simpa using this
/-- A rune told by its number. -/
def heB (r : Int) : ByteArray := ((⟨#[92, 120, 123]⟩ : ByteArray) ++ hxB r) ++ ⟨#[125]⟩
/-- A rune's own bytes. -/
def enB (r : Int) : ByteArray := Utf8.encode r
def liB (r : Int) : ByteArray := if spcB r = true then (⟨#[92]⟩ : ByteArray) ++ enB r else if r < 32 ∨ r = 127 ∨ (55296 ≤ r ∧ r ≤ 57343) then heB r else enB r
def meB (r : Int) : ByteArray := if (ltB r || dgB r) = true then enB r else heB r
def raB (g : Rg) : ByteArray := if g.1 = g.2 then meB g.1 else (meB g.1 ++ ⟨#[45]⟩) ++ meB g.2
def clK (f : Nat → Rg) : Nat → ByteArray
  | 0 => ⟨#[91]⟩
  | j + 1 => clK f j ++ raB (f j)
def clB (f : Nat → Rg) (n : Nat) : ByteArray := if n = 0 then ⟨#[91, 94, 92, 120, 123, 48, 125, 45, 92, 120, 123, 49, 48, 102, 102, 102, 102, 125, 93]⟩ else clK f n ++ ⟨#[93]⟩
/-- A number's decimal digits. -/
def itB (n : Int) : ByteArray := ⟨(Lib.itoa n).toArray⟩
def tmB (a b : Int) : ByteArray :=
  if a = 0 ∧ b = -1 then ⟨#[42]⟩ else if a = 1 ∧ b = -1 then ⟨#[43]⟩ else if a = 0 ∧ b = 1 then ⟨#[63]⟩
  else if b = a then ((⟨#[123]⟩ : ByteArray) ++ itB a) ++ ⟨#[125]⟩ else if b = -1 then ((⟨#[123]⟩ : ByteArray) ++ itB a) ++ ⟨#[44, 125]⟩ else ((((⟨#[123]⟩ : ByteArray) ++ itB a) ++ ⟨#[44]⟩) ++ itB b) ++ ⟨#[125]⟩
def mkB (k : Int) : ByteArray := if k = 8 then ⟨#[92, 65]⟩ else if k = 9 then ⟨#[92, 122]⟩ else if k = 10 then ⟨#[94]⟩ else if k = 11 then ⟨#[36]⟩ else if k = 12 then ⟨#[92, 98]⟩ else if k = 13 then ⟨#[92, 66]⟩ else ⟨#[]⟩

def txK (F : Tr → ByteArray) (t : Tr) (sep : ByteArray) : Nat → ByteArray
  | 0 => ⟨#[]⟩
  | j + 1 => (txK F t sep j ++ if j = 0 then ⟨#[]⟩ else sep) ++ if brB (t []).kind (t [j]).kind = true then ((⟨#[40, 63, 58]⟩ : ByteArray) ++ F (kid t j)) ++ ⟨#[41]⟩ else F (kid t j)
def naB (n : ByteArray) : ByteArray := if n.toList.isEmpty = true then ⟨#[]⟩ else ((⟨#[63, 80, 60]⟩ : ByteArray) ++ n) ++ ⟨#[62]⟩
/-- The text of a tree. -/
def tx : Nat → Tr → ByteArray
  | 0, _ => ⟨#[]⟩
  | m + 1, t =>
    if (t []).kind = 2 then liB (t []).r
    else if (t []).kind = 3 then clB (t []).rf (t []).rn
    else if (t []).kind = 5 then txK (tx m) t ⟨#[124]⟩ (t []).kn
    else if (t []).kind = 4 then txK (tx m) t ⟨#[]⟩ (t []).kn
    else if (t []).kind = 6 then (txK (tx m) t ⟨#[]⟩ (t []).kn ++ tmB (t []).mn (t []).mx) ++ (if (t []).lz = true then ⟨#[63]⟩ else ⟨#[]⟩)
    else if (t []).kind = 7 then (((⟨#[40]⟩ : ByteArray) ++ naB (t []).nm) ++ txK (tx m) t ⟨#[]⟩ (t []).kn) ++ ⟨#[41]⟩
    else mkB (t []).kind
end Go.Proofs.YtajaadagejhllaaGreatDoor
/- Show: the writer in memory; put. -/
namespace Go.Proofs.YtajaadagejhllaaGreatDoor
open Go.RowKit Go.Lib

theorem strCells_app (a b : ByteArray) : strCells (a ++ b) = strCells a ++ strCells b := by
  unfold strCells
  rw [ByteArray.data_append, Array.toList_append, List.map_append]
/-- The writer in the block B, its text in a row of its own. -/
structure Wt (S : Nat) (w : World) (B : Nat) (v : Value) (T : ByteArray) : Prop where
  c0 : w.cell? ⟨B, 0, none⟩ = some v
  fz : ∀ o, w.frozen? ⟨B, o, none⟩ = false
  row : w.ownsRow S 5 1 v T.size (strCells T)
  gb : v.ownBlock ≠ some B
  SB : S ≤ B
namespace Wt
variable {S : Nat} {w w' : World} {B : Nat} {v : Value} {T : ByteArray}
theorem lt (h : Wt S w B v T) : B < w.heap.size := World.block_lt_of_cell? w _ h.c0
theorem kp {M : Nat → Prop} (h : Wt S w B v T) (k : Kp M w w') (hB : ¬ M B) (hg : ∀ g, v.ownBlock = some g → ¬ M g) : Wt S w' B v T :=
  ⟨k.cell h.c0 hB, fun o => by rw [World.frozen?_of_block (w := w) (k.block B h.lt hB)]; exact h.fz o, k.row h.row hg, h.gb, h.SB⟩
theorem below (h : Wt S w B v T) (k : Below w.heap.size w w') : Wt S w' B v T := h.kp (M := fun _ => False) (Kp.of k) id (fun _ _ => id)
theorem form (h : Wt S w B v T) : ∃ a c, v = .slice a T.size c := by
  rcases h.row.2 with ⟨e, e2⟩ | ⟨g, c, cur, e, _, hg, _⟩
  · exact ⟨none, 0, by rw [e, e2]⟩
  · exact ⟨_, c, e⟩
theorem base (h : Wt S w B v T) : ∀ k, Mv B v k → S ≤ k ∧ k < w.heap.size := by
  intro k hk
  rcases hk with rfl | hk
  · exact ⟨h.SB, h.lt⟩
  · rcases h.row.2 with ⟨e', _⟩ | ⟨G, _, _, e', hG, hh, _⟩
    · rw [e'] at hk; cases hk
    · rw [e'] at hk
      have : G = k := Option.some.inj hk
      subst this
      exact ⟨hG, (Array.getElem?_eq_some_iff.1 hh).1⟩
theorem low (h : Wt S w B v T) (hS : S ≤ w.heap.size) (k : Kp (Mv B v) w w') : Below S w w' := k.below hS (fun i hi e => by have := (h.base i e).1; omega)
end Wt

theorem row_form {w : World} {S e s n : Nat} {v : Value} {xs : List Value} (o : w.ownsRow S e s v n xs) : ∃ a c, v = .slice a n c := by
  rcases o.2 with ⟨e, e2⟩ | ⟨g, c, cur, e, _, hg, _⟩
  · exact ⟨none, 0, by rw [e, e2]⟩
  · exact ⟨_, c, e⟩
set_option maxRecDepth 100000 in
theorem inf5 : ∃ i : TypeInfo, Tryz.prog.info? 5 = some i ∧ i.zero = some (.int .u8 0) ∧ i.size = 1 ∧ i.bytes = 1 := ⟨_, rfl, rfl, rfl, rfl⟩
set_option maxRecDepth 100000 in
/-- A text behind a row of bytes. -/
theorem append_w (w : World) (S : Nat) (v : Value) (T X : ByteArray) (hS : S ≤ w.heap.size) (hn : T.size + X.size ≤ 140737488355328) (o : w.ownsRow S 5 1 v T.size (strCells T)) :
    ∃ v' w', (Builtin.append_ #[53, 9] 53 #[v, .string X]).run Tryz.prog w = .ok v' w' ∧ w'.ownsRow S 5 1 v' (T ++ X).size (strCells (T ++ X)) ∧ Kp (fun k => v.ownBlock = some k) w w' ∧ Sub w v v' := by
  obtain ⟨i0, hi, hz0, hz1, hz2⟩ := inf5
  have hs : (T ++ X).size = T.size + X.size := ByteArray.size_append
  obtain ⟨v', w', r, o', g, hnil⟩ := run_append_own_string (P := Tryz.prog) w S 53 9 53 5 i0 Tryz.underlying53 Tryz.underlying9 hi hz0 hz1 hz2 v T.size (strCells T) o X (by unfold maxLen; omega) hn hS
  refine ⟨v', w', r, by rw [hs, strCells_app]; exact o', (Kp.refl _ w).grown g (fun k hk _ => hk), ?_⟩
  intro k hk hl
  rcases o.2 with ⟨e, e2⟩ | ⟨G, cap, cur, e, hbg, hg, hnc, hcm, hcs, htake⟩
  · have o2 : w.ownsRow w.heap.size 5 1 v T.size (strCells T) := by
      refine ⟨o.1, .inl ⟨e, e2⟩⟩
    obtain ⟨v2, w2, r2, o3, _, _⟩ := run_append_own_string (P := Tryz.prog) w w.heap.size 53 9 53 5 i0 Tryz.underlying53 Tryz.underlying9 hi hz0 hz1 hz2 v T.size (strCells T) o2 X (by unfold maxLen; omega) hn (Nat.le_refl _)
    rw [r] at r2
    injection r2 with e3 e4
    subst e3
    have := (o3.lt k hk).1
    have h9 := o3.2
    rcases h9 with ⟨e5, _⟩ | ⟨G2, _, _, e5, hG2, _⟩
    · rw [e5] at hk; cases hk
    · rw [e5] at hk
      have : G2 = k := Option.some.inj hk
      omega
  · subst e
    by_cases hroom : T.size + X.size ≤ cap
    · have hcz : cur.size = cap := by simpa using hcs
      have r2 := run_append_room_string (P := Tryz.prog) w 53 9 53 5 i0 Tryz.underlying53 Tryz.underlying9 hi hz1 G T.size cap cur hg X hroom (by omega)
      rw [r] at r2
      injection r2 with e3 e4
      subst e3
      exact hk
    · have holds : ∀ j u, (strCells T)[j]? = some u → w.cell? ((⟨G, 0, none⟩ : Addr).add j) = some u := o.cells (g := G) rfl
      have r2 := run_append_grow_string (P := Tryz.prog) w 53 9 53 5 i0 (.int .u8 0) Tryz.underlying53 Tryz.underlying9 hi hz0 ⟨G, 0, none⟩ T.size cap (strCells T) (by rw [hz1, strCells_length]; omega) holds X (by omega) (by omega) (by rw [hz2]; exact growslice_fits (by omega) (by omega))
      rw [r] at r2
      injection r2 with e3 e4
      subst e3
      have : w.heap.size = k := Option.some.inj hk
      omega

abbrev pan1 (e : Ending) : Prop := e = .panicked [{ v := .iface 26 (.int .i64 1), recovered := false }]
/-- What a piece of writing does: the text behind what was there, or given up where it is too long. -/
def Wp (S B : Nat) (v : Value) (T X : ByteArray) (w : World) (e : Ending) (w' : World) : Prop :=
  ((T.size + X.size ≤ 4096 → e = .returned (.tuple #[]) ∧ ∃ v', Wt S w' B v' (T ++ X) ∧ Sub w v v') ∧ (¬ T.size + X.size ≤ 4096 → pan1 e)) ∧ Kp (Mv B v) w w'
theorem Wt.push {S : Nat} {w w2 : World} {B : Nat} {v v' : Value} {T T' : ByteArray} (h : Wt S w B v T) (o : w2.ownsRow S 5 1 v' T'.size (strCells T')) (k : Kp (fun i => v.ownBlock = some i) w w2) (hs : Sub w v v') :
    Wt S (w2.setCell ⟨B, 0, none⟩ v') B v' T' ∧ Sub w v v' ∧ Kp (Mv B v) w (w2.setCell ⟨B, 0, none⟩ v') := by
  have hB2 : w2.heap[B]? = w.heap[B]? := k.block B h.lt (fun e => h.gb e)
  have c0 : w2.cell? ⟨B, 0, none⟩ = some v := by rw [World.cell?_of_block (w := w) hB2]; exact h.c0
  have gb : v'.ownBlock ≠ some B := fun e => by have := hs B e h.lt; exact h.gb this
  have kk : Kp (fun i => i = B) w2 (w2.setCell ⟨B, 0, none⟩ v') := (Kp.refl (fun i => i = B) w2).setCell (p := ⟨B, 0, none⟩) rfl _
  refine ⟨⟨?_, ?_, ?_, gb, h.SB⟩, hs, ?_⟩
  · exact World.cell?_setCell_same' _ _ _ (by rw [c0]; rfl)
  · intro o
    rw [World.frozen?_setCell]
    rw [World.frozen?_of_block (w := w) hB2]
    exact h.fz o
  · exact kk.row o (fun i e e2 => gb (e2 ▸ e))
  · exact (k.mono (fun i _ e => .inr e)).trans (kk.mono (fun i _ e => .inl e))

set_option maxHeartbeats 2000000 in
set_option maxRecDepth 100000 in
theorem put_any (S B : Nat) (v : Value) (T X : ByteArray) (w : World) (hv : Wt S w B v T) (hS : S ≤ w.heap.size) (hT : T.size ≤ 4096) :
    Calls Tryz.prog 52 #[.pointer (some ⟨B, 0, none⟩), .string X] w fun e w' => Wp S B v T X w e w' := by
  obtain ⟨a, c, rfl⟩ := hv.form
  have c0 := hv.c0
  have hw : IntKind.i64.wrap (4096 - (T.size : Int)) = 4096 - (T.size : Int) := by rw [IntKind.wrap_i64]; omega
  have HV : Hid (Wt S w B (.slice a T.size c) T) := hv
  by_cases h : T.size + X.size ≤ 4096
  · have t1 : decide ((X.size : Int) > 4096 - (T.size : Int)) = false := by simp; omega
    obtain ⟨v', w', r, o, k, hs⟩ := append_w w S _ T X hS (by omega) hv.row
    obtain ⟨a2, c2, rfl⟩ := row_form o
    have hp := hv.push o k hs
    rw [ByteArray.size_append] at hp r
    have HP : Hid _ := hp
    have H : Hid (T.size + X.size ≤ 4096) := h
    have q0 := k.cell (p := ⟨B, 0, none⟩) hv.c0 (fun e => hv.gb e)
    have f0 := k.frozen (p := ⟨B, 0, none⟩) hv.c0 (hv.fz 0) (fun e => hv.gb e)
    clear h o k hs hv HV hp
    go_enter Tryz.func52, Tryz.ntmps52
    go_wp2_with (at_builtin; refine wpList_append_run rfl (.tmp 18) (.tmp 19) 53 9 rfl _ _ rfl rfl r ?_)
    go_end0
    exact ⟨⟨fun _ => ⟨rfl, _, HP.out.1, HP.out.2.1⟩, fun h => absurd H.out h⟩, HP.out.2.2⟩
  · have t1 : decide ((X.size : Int) > 4096 - (T.size : Int)) = true := by simp; omega
    have H : Hid (¬ T.size + X.size ≤ 4096) := h
    go_enter Tryz.func52, Tryz.ntmps52
    go_wp2_with fail
    exact ⟨rfl, ⟨⟨fun h => absurd h H.out, fun _ => rfl⟩, Kp.refl _ _⟩⟩
end Go.Proofs.YtajaadagejhllaaGreatDoor
