/- A bundle of texts. -/
import Derived.Test.YtajaadagejhllaaGreatDoorBs25
import Derived.Test.YtajaadagejhllaaGreatDoorBs32
import Derived.Test.YtajaadagejhllaaGreatDoorBs23
import Derived.OwnWalk
/- Parse at the text a|[c-e]+? -/
namespace Go.Proofs.YtajaadagejhllaaGreatDoor
open Go.RowKit Go.Lib

set_option maxRecDepth 100000 in
theorem parse_idle (B : Nat) (w : World) (x : Value) (hc : w.cell? ⟨B, 0, none⟩ = some x) (hf : w.frozen? ⟨B, 0, none⟩ = false) : CallsD Tryz.prog 29 #[.pointer (some ⟨B, 0, none⟩)] .returning w fun e u' w' => e = .returned (.tuple #[]) ∧ u' = .returning ∧ w' = w.setCell ⟨B, 0, none⟩ (.int .i64 0) := by
  have hst := store_one w B 0 x hc hf
  refine callsD_of_wpS Tryz.func29 rfl fun c₀ cs hu => ?_
  apply wpS_region
  simp [wpOpsS, go_sem, recoverD, hu, Tryz.ntmps29]
  refine (reason_nil w).mono ?_
  rintro e w' ⟨rfl, rfl⟩
  cases c₀
  simp_all [bodyPostS, results, Tryz.results29, Oper.upon]
  rfl
set_option maxRecDepth 100000 in
theorem parse_panicking (B : Nat) (w : World) (x : Value) (y : Int) (hr : Calls Tryz.prog 30 #[.iface 26 (.int .i64 y)] w fun e w' => e = .returned (.int .i64 y) ∧ w' = w) (hc : w.cell? ⟨B, 0, none⟩ = some x) (hf : w.frozen? ⟨B, 0, none⟩ = false) (older : List PanicEntry) : CallsD Tryz.prog 29 #[.pointer (some ⟨B, 0, none⟩)] (.panicking ({ v := .iface 26 (.int .i64 y), recovered := false } :: older)) w fun e u' w' => e = .returned (.tuple #[]) ∧ u' = .panicking ({ v := .iface 26 (.int .i64 y), recovered := true } :: older) ∧ w' = w.setCell ⟨B, 0, none⟩ (.int .i64 y) := by
  have hst := store_one w B y x hc hf
  refine callsD_of_wpS Tryz.func29 rfl fun c₀ cs hu => ?_
  apply wpS_region
  simp [wpOpsS, go_sem, recoverD, hu, Tryz.ntmps29]
  refine hr.mono ?_
  rintro e w' ⟨rfl, rfl⟩
  cases c₀
  simp_all [bodyPostS, results, Tryz.results29, Oper.upon]
  rfl
theorem st9_er {w : World} {G H : Nat} {d : Nd} {x : Value} (h : w.cell? ⟨H, 0, none⟩ = some x) (hf : w.frozen? ⟨H, 0, none⟩ = false) (hne : ¬ H = G) : (st9 w G d).cell? ⟨H, 0, none⟩ = some x ∧ (st9 w G d).frozen? ⟨H, 0, none⟩ = false :=
  ⟨(st9_kp w G d).cell h hne, (st9_kp w G d).frozen h hf hne⟩
set_option maxRecDepth 100000 in
set_option maxHeartbeats 1000000 in
theorem parse_x (w : World) : Calls Tryz.prog 9 #[.string x1] w fun e w' => ∃ t, isX t ∧ e = .returned (.tuple #[ndV (t []), .int .i64 0]) ∧ Nw w.heap.size w' t ∧ Below w.heap.size w w' := by
  have k1 := parsed_x ((w.alloc (ndX zN)).alloc (erX 0))
  go_enter_defers Tryz.func9, Tryz.ntmps9
  go_wp2_with fail
  go_fit k1
  rintro e w3 ⟨t, ht, rfl, hn, hb⟩
  have hz : ((w.alloc (ndX zN)).alloc (erX 0)).heap.size = w.heap.size + 2 := by simp
  have bV : Below w.heap.size w ((w.alloc (ndX zN)).alloc (erX 0)) := two_below _ _
  have b0 : Below (w.alloc (ndX zN)).heap.size (w.alloc (ndX zN)) ((w.alloc (ndX zN)).alloc (erX 0)) := (Below.refl _ _).alloc (Nat.le_refl _) _
  have cz : Cs w3 w.heap.size 0 zN := ((cells_ndX (w := w) zN).below b0 (by simp)).below hb (by omega)
  have fz : ∀ i, w3.frozen? ⟨w.heap.size, i, none⟩ = false := fun i => (hb.frozen (p := ⟨w.heap.size, i, none⟩) (by rw [hz]; show w.heap.size < _; omega)).trans ((b0.frozen (p := ⟨w.heap.size, i, none⟩) (by simp)).trans (box_ff w zN i))
  have hX2 : ((w.alloc (ndX zN)).alloc (erX 0)).heap[w.heap.size + 1]? = some (erX 0) := by have := heap_alloc_new (w.alloc (ndX zN)) (erX 0); simpa using this
  have y2 := (hb.block (w.heap.size + 1) (by omega)).trans hX2
  have ce : w3.cell? ⟨w.heap.size + 1, 0, none⟩ = some (.int .i64 0) := by unfold World.cell?; rw [y2]; rfl
  have fe : w3.frozen? ⟨w.heap.size + 1, 0, none⟩ = false := by unfold World.frozen?; rw [y2]; simp
  have HB : Hid (Below w.heap.size w w3) := bV.trans (hb.mono (by omega))
  have HN : Hid (Nw (w.heap.size + 2) w3 t) := by rw [← hz]; exact hn
  have HC : Hid (Cs w3 w.heap.size 0 zN) := cz
  obtain ⟨q0, q1, q2, q3, q4, q5, q6, q7, q8⟩ := cz
  simp only [Nat.zero_add] at q0 q1 q2 q3 q4 q5 q6 q7 q8
  clear k1 hb hn bV b0 hz hX2 y2
  go_wp2_with fail
  clear q0 q1 q2 q3 q4 q5 q6 q7 q8 fz
  obtain ⟨ce9, fe9⟩ := st9_er (G := w.heap.size) (d := t []) ce fe (by omega)
  have HE : Hid (Cs (st9 w3 w.heap.size (t [])) w.heap.size 0 (t [])) := st9_cs _ HC.out
  have HH : Hid (Nw (w.heap.size + 2) (st9 w3 w.heap.size (t [])) t ∧ Below w.heap.size w (st9 w3 w.heap.size (t []))) := ⟨HN.out.kp (st9_kp _ _ _) (fun k hk _ e => by omega), st9_below HB.out (Nat.le_refl _) _⟩
  clear ce fe HN HB HC
  change bodyPostD _ _ _ _ _ ((st9 w3 w.heap.size (t [])).setCell ⟨w.heap.size + 1, 0, none⟩ (.int .i64 0))
  generalize st9 w3 w.heap.size (t []) = W9 at *
  have hm4 : (W9.setCell ⟨w.heap.size + 1, 0, none⟩ (.int .i64 0)).cell? ⟨w.heap.size + 1, 0, none⟩ = some (.int .i64 0) := World.cell?_setCell_same' _ _ _ (by rw [ce9]; rfl)
  have hf4 : (W9.setCell ⟨w.heap.size + 1, 0, none⟩ (.int .i64 0)).frozen? ⟨w.heap.size + 1, 0, none⟩ = false := by rw [World.frozen?_setCell]; exact fe9
  have kk : Kp (· = w.heap.size + 1) W9 ((W9.setCell ⟨w.heap.size + 1, 0, none⟩ (.int .i64 0)).setCell ⟨w.heap.size + 1, 0, none⟩ (.int .i64 0)) := ((Kp.refl (· = w.heap.size + 1) W9).setCell (p := ⟨w.heap.size + 1, 0, none⟩) rfl _).setCell (p := ⟨w.heap.size + 1, 0, none⟩) rfl _
  refine leaves_cons (f := 29) (args := #[.pointer (some ⟨w.heap.size + 1, 0, none⟩)]) (by simp) (by simp [go_sem]) ?_
  refine (parse_idle (w.heap.size + 1) _ _ hm4 hf4).mono ?_
  rintro e u' w5 ⟨rfl, rfl, rfl⟩
  have hc5 : ((W9.setCell ⟨w.heap.size + 1, 0, none⟩ (.int .i64 0)).setCell ⟨w.heap.size + 1, 0, none⟩ (.int .i64 0)).cell? ⟨w.heap.size + 1, 0, none⟩ = some (.int .i64 0) := World.cell?_setCell_same' _ _ _ (by rw [hm4]; rfl)
  have HF : Hid (Nw w.heap.size ((W9.setCell ⟨w.heap.size + 1, 0, none⟩ (.int .i64 0)).setCell ⟨w.heap.size + 1, 0, none⟩ (.int .i64 0)) t ∧ Below w.heap.size w ((W9.setCell ⟨w.heap.size + 1, 0, none⟩ (.int .i64 0)).setCell ⟨w.heap.size + 1, 0, none⟩ (.int .i64 0))) :=
    ⟨(HH.out.1.kp kk (fun k hk _ e => by omega)).mono (by omega), HH.out.2.trans (kk.below HH.out.2.size (fun k hk e => by omega))⟩
  obtain ⟨q0, q1, q2, q3, q4, q5, q6, q7, q8⟩ := HE.out.kp kk (by omega)
  simp only [Nat.zero_add] at q0 q1 q2 q3 q4 q5 q6 q7 q8
  clear kk hm4 hf4 ce9 fe9 HE HH
  generalize (W9.setCell ⟨w.heap.size + 1, 0, none⟩ (.int .i64 0)).setCell ⟨w.heap.size + 1, 0, none⟩ (.int .i64 0) = W11 at *
  simp [Leaves, settle, results, Tryz.results9, go_sem, hc5, q0, q1, q2, q3, q4, q5, q6, q7, q8]
  exact ⟨t, ht, ⟨rfl, rfl, ⟨rfl, rfl, rfl⟩, rfl, rfl, rfl, rfl, rfl, rfl, rfl, rfl⟩, HF.out⟩
end Go.Proofs.YtajaadagejhllaaGreatDoor
/- The parser at a bracket that nothing closes. -/
namespace Go.Proofs.YtajaadagejhllaaGreatDoor
open Go.RowKit Go.Lib

abbrev p80 (e : Ending) : Prop := e = .panicked [{ v := .iface 26 (.int .i64 80), recovered := false }]
def R2 : List Int := [40]
set_option maxRecDepth 100000 in
set_option maxHeartbeats 1000000 in
theorem bracket_pn {S B : Nat} {a : Option Addr} {c : Nat} {w : World} (h : Rd S w B (.slice none 0 0) a c R2 (sP 0)) (hS : S ≤ w.heap.size) :
    Calls Tryz.prog 97 #[.pointer (some ⟨B, 0, none⟩)] w fun e w' => p80 e ∧ Below S w w' := by
  obtain ⟨h1, hS2, hG, hlt⟩ := h.box hS (ndX zN)
  have c3 : (w.alloc (ndX zN)).cell? ⟨B, 3, none⟩ = some (.int .i64 0) := h1.c3
  have c2 : (w.alloc (ndX zN)).cell? ⟨B, 2, none⟩ = some (.int .u8 0) := h1.c2
  have f3 := h1.fz 3
  have h2 := h1.set3 1
  have hSB := h.SB
  have b1 : Below S w ((w.alloc (ndX zN)).setCell ⟨B, 3, none⟩ (.int .i64 1)) := (box_b.mono hS).setCell (p := ⟨B, 3, none⟩) hSB _
  have hS3 : S ≤ ((w.alloc (ndX zN)).setCell ⟨B, 3, none⟩ (.int .i64 1)).heap.size := Nat.le_trans hS b1.size
  have k1 := opening0 h2 hS3 (by show 0 ≤ 4000; decide) rfl rfl (by decide) (by decide) (by decide) (by decide) (by decide)
  have HB1 : Hid (Below S w ((w.alloc (ndX zN)).setCell ⟨B, 3, none⟩ (.int .i64 1))) := b1
  simp only [ndX, rxX, zN] at c3 c2 f3
  clear h h1 h2 b1
  go_enter Tryz.func97, Tryz.ntmps97
  go_wp2_with fail
  go_fit k1
  rintro e w3 ⟨rfl, v', s', h3, hp, hf, hv, k3⟩
  have hp1 : s'.p = 1 := hp
  have b3 : Below S ((w.alloc (ndX zN)).setCell ⟨B, 3, none⟩ (.int .i64 1)) w3 := k3.below hS3 (fun k hk e => by omega)
  have hS3' : S ≤ w3.heap.size := Nat.le_trans hS3 b3.size
  have h4 : Rd S (w3.alloc (ndX grN)) B v' a c R2 s' := (h3.box hS3' (ndX grN)).1
  have hS4 : S ≤ (w3.alloc (ndX grN)).heap.size := (h3.box hS3' (ndX grN)).2.1
  have k4 := expression_one (R := R2) (by rw [hp1]; decide) (alternative_none (S := S) (B := B) (v := v') (a := a) (c := c) (R := R2) (s := s') (by rw [hp1]; decide) (by rw [hp1]; decide)) (by rw [hp1]; decide) _ _ hS4 (Tk.refl h4)
  have HB4 : Hid (Below S w (w3.alloc (ndX grN))) := (HB1.out.trans b3).alloc (Nat.le_trans hS (HB1.out.trans b3).size) _
  clear k1 h3 k3 b3 HB1
  go_wp2_with fail
  go_fit k4
  rintro e w5 ⟨t, rfl, rfl, hn, h5⟩
  have h6 := h5.below hS4 ((Below.refl _ w5).alloc (Nat.le_refl _) (ndX emN))
  have k6 := takes_no (x := ⟨#[41]⟩) h6 hS4 (by decide) (by rw [hp1]; decide) (by rw [hp1]; decide)
  have HL : Hid (∀ w7, Kp (Mv B v') (w3.alloc (ndX grN)) w7 → Below S (w3.alloc (ndX grN)) w7) := fun w7 k => h4.low hS4 k
  clear k4 hn h5 h6 h4
  go_wp2_with fail
  go_fit k6
  rintro e w7 ⟨rfl, h7⟩
  have HF : Hid (Below S w w7) := HB4.out.trans (HL.out w7 h7.2)
  clear k6 h7 HL HB4
  go_wp2
  exact ⟨rfl, rfl, HF.out⟩
set_option maxRecDepth 100000 in
set_option maxHeartbeats 1000000 in
theorem pieces_pn {S B : Nat} {a : Option Addr} {c : Nat} {w : World} (h : Rd S w B (.slice none 0 0) a c R2 (sP 0)) (hS : S ≤ w.heap.size) :
    Calls Tryz.prog 81 #[.pointer (some ⟨B, 0, none⟩)] w fun e w' => p80 e ∧ Below S w w' := by
  have k1 := repeat_no (Tk.refl h) hS (by show 0 ≤ 5000; decide) (by decide) (by decide) (by decide) (by decide)
  have HL : Hid (∀ w7, Kp (Mv B (.slice none 0 0)) w w7 → Below S w w7) := fun w7 k => h.low hS k
  clear h
  go_enter Tryz.func81, Tryz.ntmps81
  go_wp2_with fail
  go_fit k1
  rintro e w2 ⟨rfl, h2⟩
  have h3 : Tk S B (.slice none 0 0) a c R2 (sP 0) w (w2.alloc (ndX zN)) := h2.below hS box_b
  have k3 := turns_no h3 hS (by show 0 ≤ 5000; decide) ⟨#[41]⟩ (by decide)
  clear k1 h2 h3
  go_wp2_with fail
  go_fit k3
  rintro e w4 ⟨rfl, h4⟩
  have k4 := sees_tk (x := ⟨#[40]⟩) h4 hS (by decide) (by show 0 ≤ 5000; decide)
  rw [show seB R2 (sP 0).p (ByteArray.mk #[40]).data.toList = true by decide] at k4
  clear k3 h4
  go_wp2_with fail
  go_fit k4
  rintro e w5 ⟨rfl, h5⟩
  have k5 := bracket_pn h5.1 (Nat.le_trans hS h5.2.size)
  have HB : Hid (Below S w w5) := HL.out w5 h5.2
  clear k4 h5 HL
  go_wp2_with fail
  go_fit k5
  rintro e w6 ⟨hp, b6⟩
  have hp' : e = _ := hp
  subst hp'
  go_wp2
  exact ⟨rfl, rfl, HB.out.trans b6⟩
set_option maxRecDepth 100000 in
set_option maxHeartbeats 1000000 in
theorem alternative_pn {S B : Nat} {a : Option Addr} {c : Nat} {w : World} (h : Rd S w B (.slice none 0 0) a c R2 (sP 0)) (hS : S ≤ w.heap.size) :
    Calls Tryz.prog 63 #[.pointer (some ⟨B, 0, none⟩)] w fun e w' => p80 e ∧ Below S w w' := by
  obtain ⟨h1, hS2, hG, hlt⟩ := h.box hS (ndX zN)
  have HR1 : Hid (Rd S (w.alloc (ndX zN)) B (.slice none 0 0) a c R2 (sP 0)) := h1
  have HB1 : Hid (Below S w (w.alloc (ndX zN))) := box_b.mono hS
  clear h h1
  go_enter Tryz.func63, Tryz.ntmps63
  go_wp2_with fail
  generalize hW : w.alloc (ndX zN) = W1 at *
  go_loopw [3] (fun row w' => row = .slice none 0 0 ∧ w' = W1) (fun _ _ => 0)
  case atStart => exact ⟨rfl, hW⟩
  case round =>
    obtain ⟨rfl, rfl⟩ := hrel
    have k1 := ahead_tk (Tk.refl HR1.out) hS2 0 (by omega) (by show 0 ≤ 5000; decide)
    rw [show ahR R2 ((sP 0).p + 0) = 40 from rfl] at k1
    go_wp2_with fail
    go_fit k1
    rintro e w2 ⟨rfl, h2⟩
    have k2 := sees_tk (x := ⟨#[124]⟩) h2 hS2 (by decide) (by show 0 ≤ 5000; decide)
    rw [show seB R2 (sP 0).p (ByteArray.mk #[124]).data.toList = false by decide] at k2
    clear k1 h2
    go_wp2_with fail
    go_fit k2
    rintro e w3 ⟨rfl, h3⟩
    have k3 := sees_tk (x := ⟨#[41]⟩) h3 hS2 (by decide) (by show 0 ≤ 5000; decide)
    rw [show seB R2 (sP 0).p (ByteArray.mk #[41]).data.toList = false by decide] at k3
    clear k2 h3
    go_wp2_with fail
    go_fit k3
    rintro e w4 ⟨rfl, h4⟩
    have k4 := pieces_pn h4.1 (Nat.le_trans hS2 h4.2.size)
    have HB4 : Hid (Below S w w4) := HB1.out.trans (HR1.out.low hS2 h4.2)
    clear k3 h4
    go_wp2_with fail
    go_fit k4
    rintro e w6 ⟨hp, b6⟩
    have hp' : e = _ := hp
    subst hp'
    go_wp2
    exact ⟨rfl, rfl, HB4.out.trans b6⟩
set_option maxRecDepth 100000 in
theorem expression_pn {S B : Nat} {a : Option Addr} {c : Nat} {w : World} (h : Rd S w B (.slice none 0 0) a c R2 (sP 0)) (hS : S ≤ w.heap.size) :
    Calls Tryz.prog 46 #[.pointer (some ⟨B, 0, none⟩)] w fun e w' => p80 e ∧ Below S w w' := by
  obtain ⟨h1, hS2, hG, hlt⟩ := h.box hS (ndX zN)
  have k1 := alternative_pn h1 hS2
  have HB1 : Hid (Below S w (w.alloc (ndX zN))) := box_b.mono hS
  clear h h1
  go_enter Tryz.func46, Tryz.ntmps46
  go_wp2_with fail
  go_fit k1
  rintro e w6 ⟨hp, b6⟩
  have hp' : e = _ := hp
  subst hp'
  go_wp2
  exact ⟨rfl, rfl, HB1.out.trans b6⟩
def x2 : ByteArray := ⟨#[40]⟩
theorem x2_runes : Conv.runesFrom x2 x2.size 0 #[] = (rcells R2).toArray := by kernel_rfl
theorem x2_dec : ∀ pos, pos < x2.size → ¬ ((Utf8.decode x2 pos).1 : Int) = 65533 := by
  intro pos h
  have h1 : pos < 1 := h
  obtain rfl : pos = 0 := by omega
  have : (Utf8.decode x2 0).1 = 40 := by kernel_rfl
  rw [this]
  decide
set_option maxRecDepth 100000 in
set_option maxHeartbeats 1000000 in
theorem parsed_pn (w : World) : Calls Tryz.prog 31 #[.string x2] w fun e w' => p80 e ∧ Below w.heap.size w w' := by
  have k1 := runes_ok x2 R2 (w.alloc (ndX zN)) x2_dec x2_runes (by decide)
  have hx : ¬ (4096 : Int) < (x2.size : Int) := by decide
  go_enter Tryz.func31, Tryz.ntmps31
  go_wp2_with fail
  go_fit k1
  rintro e w2 ⟨g, cc, rfl, hc, hg, hb⟩
  have hb2 : Below w.heap.size w w2 := box_b.trans (hb.mono (by simp))
  have hrd := rd_new w2 g cc R2 hc hg
  have k2 := expression_pn hrd (by simp)
  have HB : Hid (∀ w6, Below w2.heap.size (w2.alloc (rdX (some ⟨g, 0, none⟩) R2.length cc)) w6 → Below w.heap.size w w6) := fun w6 b => hb2.trans ((((Below.refl _ w2).alloc (Nat.le_refl _) _).trans b).mono hb2.size)
  clear k1 hc hrd hb hb2
  go_wp2_with fail
  go_fit k2
  rintro e w6 ⟨hp, b6⟩
  have hp' : e = _ := hp
  subst hp'
  go_wp2
  exact ⟨rfl, rfl, HB.out w6 b6⟩
end Go.Proofs.YtajaadagejhllaaGreatDoor
/- Parse at a bracket that nothing closes. -/
namespace Go.Proofs.YtajaadagejhllaaGreatDoor
open Go.RowKit Go.Lib

set_option maxRecDepth 100000 in
theorem reason_80 (w : World) : Calls Tryz.prog 30 #[.iface 26 (.int .i64 80)] w fun e w' => e = .returned (.int .i64 80) ∧ w' = w := by
  have hta : ∀ w : World, Sem.run Tryz.prog (Instr.typeAssert (Value.iface 26 (Value.int IntKind.i64 80)) 20 26 true) w = .ok (.tuple #[.int .i64 80, .bool true]) w := fun _ => by kernel_rfl
  go_enter Tryz.func30, Tryz.ntmps30
  go_wp2
  go_ret
  exact ⟨rfl, rfl⟩
set_option maxRecDepth 100000 in
set_option maxHeartbeats 1000000 in
theorem parse_pn (w : World) : Calls Tryz.prog 9 #[.string x2] w fun e w' => e = .returned (.tuple #[ndV zN, .int .i64 80]) ∧ Below w.heap.size w w' := by
  have k1 := parsed_pn ((w.alloc (ndX zN)).alloc (erX 0))
  go_enter_defers Tryz.func9, Tryz.ntmps9
  go_wp2_with fail
  go_fit k1
  rintro e w3 ⟨hp, hb⟩
  have hp' : e = _ := hp
  subst hp'
  have hz : ((w.alloc (ndX zN)).alloc (erX 0)).heap.size = w.heap.size + 2 := by simp
  have bV : Below w.heap.size w ((w.alloc (ndX zN)).alloc (erX 0)) := two_below _ _
  have b0 : Below (w.alloc (ndX zN)).heap.size (w.alloc (ndX zN)) ((w.alloc (ndX zN)).alloc (erX 0)) := (Below.refl _ _).alloc (Nat.le_refl _) _
  have cz : Cs w3 w.heap.size 0 zN := ((cells_ndX (w := w) zN).below b0 (by simp)).below hb (by omega)
  have hX2 : ((w.alloc (ndX zN)).alloc (erX 0)).heap[w.heap.size + 1]? = some (erX 0) := by have := heap_alloc_new (w.alloc (ndX zN)) (erX 0); simpa using this
  have y2 := (hb.block (w.heap.size + 1) (by omega)).trans hX2
  have ce : w3.cell? ⟨w.heap.size + 1, 0, none⟩ = some (.int .i64 0) := by unfold World.cell?; rw [y2]; rfl
  have fe : w3.frozen? ⟨w.heap.size + 1, 0, none⟩ = false := by unfold World.frozen?; rw [y2]; simp
  have HB : Below w.heap.size w w3 := bV.trans (hb.mono (by omega))
  have kk : Kp (· = w.heap.size + 1) w3 (w3.setCell ⟨w.heap.size + 1, 0, none⟩ (.int .i64 80)) := (Kp.refl (· = w.heap.size + 1) w3).setCell (p := ⟨w.heap.size + 1, 0, none⟩) rfl _
  have HF : Hid (Below w.heap.size w (w3.setCell ⟨w.heap.size + 1, 0, none⟩ (.int .i64 80))) := HB.trans (kk.below HB.size (fun k hk e => by omega))
  have hc5 : (w3.setCell ⟨w.heap.size + 1, 0, none⟩ (.int .i64 80)).cell? ⟨w.heap.size + 1, 0, none⟩ = some (.int .i64 80) := World.cell?_setCell_same' _ _ _ (by rw [ce]; rfl)
  obtain ⟨q0, q1, q2, q3, q4, q5, q6, q7, q8⟩ := cz.kp kk (by omega)
  simp only [Nat.zero_add] at q0 q1 q2 q3 q4 q5 q6 q7 q8
  clear k1 hb bV b0 hz hX2 y2 HB kk cz
  go_simp
  refine leaves_cons (f := 29) (args := #[.pointer (some ⟨w.heap.size + 1, 0, none⟩)]) (by simp) (by simp [go_sem]) ?_
  refine (parse_panicking (w.heap.size + 1) w3 _ 80 (reason_80 w3) ce fe []).mono ?_
  rintro e u' w4 ⟨rfl, rfl, rfl⟩
  generalize w3.setCell ⟨w.heap.size + 1, 0, none⟩ (.int .i64 80) = W4 at *
  simp [Leaves, settle, results, Tryz.results9, go_sem, hc5, q0, q1, q2, q3, q4, q5, q6, q7, q8]
  exact HF.out
end Go.Proofs.YtajaadagejhllaaGreatDoor
/- Quote, over any text. -/
namespace Go.Proofs.YtajaadagejhllaaGreatDoor
open Go.RowKit Go.Lib

def spQ : ByteArray := ⟨#[92, 46, 43, 42, 63, 40, 41, 124, 91, 93, 123, 125, 94, 36]⟩
/-- How a byte is quoted. -/
def qtB (b : UInt8) : ByteArray := if 0 ≤ Lib.indexByte spQ.data.toList b then ⟨#[92, b]⟩ else ⟨#[b]⟩
/-- How the first bytes of a text are quoted. -/
def quB (s : ByteArray) : Nat → ByteArray
  | 0 => ⟨#[]⟩
  | i + 1 => quB s i ++ qtB (s.get! i)
theorem quB_size (s : ByteArray) : ∀ i, (quB s i).size ≤ 2 * i
  | 0 => Nat.le_refl _
  | i + 1 => by
    have := quB_size s i
    unfold quB
    rw [ByteArray.size_append]
    have h2 : (qtB (s.get! i)).size ≤ 2 := by
      unfold qtB
      split
      · exact Nat.le_refl 2
      · show 1 ≤ 2; omega
    omega
abbrev bX (b : UInt8) : Obj := .cells #[.int .u8 (b.toNat : Int)] 5
/-- A byte behind a row of bytes. -/
theorem append_b1 (w : World) (S : Nat) (v : Value) (T : ByteArray) (b : UInt8) (hS : S ≤ w.heap.size) (hn : T.size + 1 ≤ 140737488355328) (o : w.ownsRow S 5 1 v T.size (strCells T)) :
    ∃ a c w', (Builtin.append_ #[53, 53] 53 #[v, .slice (some ⟨w.heap.size, 0, none⟩) 1 1]).run Tryz.prog (w.alloc (bX b)) = .ok (.slice a (T.size + 1) c) w' ∧ w'.ownsRow S 5 1 (.slice a (T.size + 1) c) (T ++ ⟨#[b]⟩).size (strCells (T ++ ⟨#[b]⟩)) ∧ Below S w w' := by
  obtain ⟨i0, hi, hz0, hz1, hz2⟩ := inf5
  have hs : (T ++ (⟨#[b]⟩ : ByteArray)).size = T.size + 1 := ByteArray.size_append
  obtain ⟨v', w', r, o', g, _⟩ := run_append_own (P := Tryz.prog) (w.alloc (bX b)) S 53 53 5 i0 (.int .u8 0) 1 1 Tryz.underlying53 hi hz0 hz1 hz2 rfl (by decide) v T.size (strCells T) (World.ownsRow.alloc o _) ⟨w.heap.size, 0, none⟩ 1 1 [.int .u8 (b.toNat : Int)] rfl
    (cell_one_new w (.int .u8 (b.toNat : Int)) 5) (by intro u hu; simp at hu; subst hu; rfl) (by unfold maxLen; omega) (by omega) (by simp; omega)
  have o2 : w'.ownsRow S 5 1 v' (T ++ (⟨#[b]⟩ : ByteArray)).size (strCells (T ++ ⟨#[b]⟩)) := by rw [hs, strCells_app]; exact o'
  obtain ⟨a, c, hv⟩ := row_form o2
  rw [hs] at hv
  subst hv
  refine ⟨a, c, w', r, o2, ((Below.refl S w).alloc hS _).grown g (by simp; omega) (fun j e => ?_)⟩
  rcases o.2 with ⟨e1, _⟩ | ⟨G, _, _, e1, hG, _⟩
  · rw [e1] at e; cases e
  · rw [e1] at e
    have : G = j := Option.some.inj e
    omega
set_option maxRecDepth 100000 in
set_option maxHeartbeats 1000000 in
theorem quote_any (s : ByteArray) (w : World) (hs : s.size ≤ 35184372088832) :
    Calls Tryz.prog 20 #[.string s] w fun e w' => e = .returned (.string (quB s s.size)) ∧ Below w.heap.size w w' := by
  obtain ⟨i0, hi, hz0, hz1, hz2⟩ := inf5
  have hsI : (s.size : Int) ≤ 35184372088832 := by omega
  go_enter Tryz.func20, Tryz.ntmps20
  go_wp2_with (first | (refine wpList_make_own _ rfl _ _ 53 rfl w.heap.size 5 i0 (.int .u8 0) 1 Tryz.underlying53 hi hz0 hz1 .i64 .i64 (s.size : Int) s.size rfl rfl rfl (by rw [hz2]; omega) (by unfold maxLen; omega) (Nat.le_refl _) ?_; intro W0 hro hgr))
  have b0 : Below w.heap.size w W0 := (Below.refl _ w).grown hgr (Nat.le_refl _) (fun k e => by cases e)
  go_loopw [3, 10] (fun v i w' => ∃ j : Nat, i = .int .i64 (j : Int) ∧ j ≤ s.size ∧ ∃ a c, v = .slice a (quB s j).size c ∧ Hid (w'.ownsRow w.heap.size 5 1 v (quB s j).size (strCells (quB s j)) ∧ Below w.heap.size w w')) (fun _ i _ => s.size - (RowKit.intOf i).toNat)
  case atStart => exact ⟨0, rfl, Nat.zero_le _, _, _, rfl, hro, b0⟩
  case round =>
    obtain ⟨j, rfl, hj, a, c, rfl, HO⟩ := hrel
    by_cases hlt : j < s.size
    · have hii : (j : Int) < (s.size : Int) := by omega
      have hb : 0 ≤ (j : Int) ∧ (j : Int) < (s.size : Int) := by omega
      have k1 := Tryz.strings_IndexByte spQ ((s[j]'hlt).toNat : Int) wr
      have eb : (((s[j]'hlt).toNat : Int)).toNat.toUInt8 = s[j]'hlt := by simp
      rw [eb] at k1
      have hg : s.get! j = s[j]'hlt := by
        show s.data[j]! = _
        rw [getElem!_pos s.data j hlt]
        rfl
      have hq : quB s (j + 1) = quB s j ++ qtB (s[j]'hlt) := by rw [← hg]; rfl
      have hT := quB_size s j
      obtain ⟨b, hbb⟩ : ∃ b, b = s[j]'hlt := ⟨_, rfl⟩
      rw [← hbb] at k1 hq
      obtain ⟨n, hnn⟩ : ∃ n, n = Lib.indexByte spQ.data.toList b := ⟨_, rfl⟩
      rw [← hnn] at k1
      have hbs := HO.out.2.size
      by_cases hn : 0 ≤ n
      · have hqt : qtB b = (⟨#[92]⟩ : ByteArray) ++ ⟨#[b]⟩ := by unfold qtB; rw [← hnn, if_pos hn]; rfl
        obtain ⟨a1, c1, w2, r1, o1, b1⟩ := append_b1 wr w.heap.size _ (quB s j) 92 hbs (by omega) HO.out.1
        have hb2 := HO.out.2.trans b1
        have hs1 : ((quB s j) ++ (⟨#[92]⟩ : ByteArray)).size = (quB s j).size + 1 := ByteArray.size_append
        obtain ⟨a2, c2, w3, r2, o2, b2⟩ := append_b1 w2 w.heap.size _ ((quB s j) ++ ⟨#[92]⟩) b hb2.size (by omega) (by rw [hs1] at o1 ⊢; exact o1)
        have hs2 : (((quB s j) ++ (⟨#[92]⟩ : ByteArray)) ++ (⟨#[b]⟩ : ByteArray)).size = (quB s j).size + 1 + 1 := by rw [ByteArray.size_append, hs1]; rfl
        rw [hs1] at r2 o2
        have hqe : quB s (j + 1) = (quB s j) ++ (⟨#[92]⟩ : ByteArray) ++ (⟨#[b]⟩ : ByteArray) := by rw [hq, hqt, ByteArray.append_assoc]
        have HF : Hid (w3.ownsRow w.heap.size 5 1 (.slice a2 ((quB s j).size + 1 + 1) c2) (quB s (j + 1)).size (strCells (quB s (j + 1))) ∧ Below w.heap.size w w3) := by
          unfold Hid
          rw [hqe]
          exact ⟨o2, hb2.trans b2⟩
        have HSZ : Hid ((quB s (j + 1)).size = (quB s j).size + 1 + 1) := by unfold Hid; rw [hqe, hs2]
        clear o1 o2 b1 b2 hqe hqt hq hs1 hs2 hT hbs HO hb2 hnn hg
        subst hbb
        go_wp2_with (first | (go_at_call 36; go_fit k1; rintro e w' ⟨rfl, rfl⟩) | (at_builtin; refine wpList_append_run rfl (.tmp 18) (.tmp 19) 53 53 rfl _ _ rfl rfl r1 ?_) | (at_builtin; refine wpList_append_run rfl (.tmp 21) (.tmp 25) 53 53 rfl _ _ rfl rfl r2 ?_))
        exact ⟨⟨j + 1, by go_num, by omega, a2, c2, by rw [HSZ.out], HF⟩, by simp [RowKit.intOf]; omega⟩
      · have hqt : qtB b = (⟨#[b]⟩ : ByteArray) := by unfold qtB; rw [← hnn, if_neg hn]
        obtain ⟨a1, c1, w2, r1, o1, b1⟩ := append_b1 wr w.heap.size _ (quB s j) b hbs (by omega) HO.out.1
        have hb2 := HO.out.2.trans b1
        have hs1 : ((quB s j) ++ (⟨#[b]⟩ : ByteArray)).size = (quB s j).size + 1 := ByteArray.size_append
        have hqe : quB s (j + 1) = (quB s j) ++ (⟨#[b]⟩ : ByteArray) := by rw [hq, hqt]
        have HF : Hid (w2.ownsRow w.heap.size 5 1 (.slice a1 ((quB s j).size + 1) c1) (quB s (j + 1)).size (strCells (quB s (j + 1))) ∧ Below w.heap.size w w2) := by
          unfold Hid
          rw [hqe]
          exact ⟨o1, hb2⟩
        have HSZ : Hid ((quB s (j + 1)).size = (quB s j).size + 1) := by unfold Hid; rw [hqe, hs1]
        have hn' : ¬ 0 ≤ n := hn
        clear o1 b1 hqe hqt hq hs1 hT hbs HO hb2 hn hnn hg
        subst hbb
        go_wp2_with (first | (go_at_call 36; go_fit k1; rintro e w' ⟨rfl, rfl⟩) | (at_builtin; refine wpList_append_run rfl (.tmp 21) (.tmp 25) 53 53 rfl _ _ rfl rfl r1 ?_))
        exact ⟨⟨j + 1, by go_num, by omega, a1, c1, by rw [HSZ.out], HF⟩, by simp [RowKit.intOf]; omega⟩
    · have hii : ¬ (j : Int) < (s.size : Int) := by omega
      obtain rfl : j = s.size := by omega
      have cv := conv_row HO.out.1
      go_wp2
      go_ret
      exact ⟨rfl, HO.out.2⟩
end Go.Proofs.YtajaadagejhllaaGreatDoor
