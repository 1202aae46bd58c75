/- Unpack. -/
import Derived.Test.YtedlmjieclaojaaDoorDg
namespace Go.Proofs.YtedlmjieclaojaaDoor
open Go.RowKit

/-- What bytes are unpacked to. -/
def unp (xs : List Int) : Option (List Smp) := match rd xs with
  | none => none
  | some l => if pkE l = 0 ∧ pk (frm l) = xs then some l else none
def upE (xs : List Int) : Int := if (unp xs).isSome = true then 0 else 171
def upL (xs : List Int) : List Smp := (unp xs).getD []

theorem rdFr_tm (b : Nat → Nat) (N : Nat) (s : Rs) : (rdFr b N s).r.tm = s.r.tm := by
  unfold rdFr
  by_cases h : 64 < rdF1 b N s
  · rw [if_pos h]
  · rw [if_neg h]
theorem rdX_tm (b : Nat → Nat) (N : Nat) (s : Rs) : (rdX b N s).r.tm = s.r.tm := by unfold rdX; rfl
theorem rdV_tm (b : Nat → Nat) (N : Nat) (s : Rs) : (rdV b N s).r.tm = s.r.tm := by
  rcases rdV_cases b N s with h | h | h
  · rw [h, rdW_r]
  · rw [h, rdX_tm, rdFr_tm, rdW_r]
  · rw [h, rdX_tm, rdW_r]
theorem rdT_tm (b : Nat → Nat) (N : Nat) (s : Rs) : ∃ y, (rdT b N s).r.tm = s64 y := by
  unfold rdT
  by_cases h : s.r.n = 0
  · rw [if_pos h]; exact ⟨_, rfl⟩
  · rw [if_neg h]; exact ⟨_, rfl⟩
theorem rdO_sok (b : Nat → Nat) (N : Nat) (s : Rs) (h : Fok s.r) : Sok (rdO b N s) := by
  have h1 := rdV_fok b N _ (rdT_fok b N s h)
  have h2 := rdV_tm b N (rdT b N s)
  obtain ⟨y, h3⟩ := rdT_tm b N s
  rw [h3] at h2
  have h4 := s64_bd y
  unfold rdO rdY
  by_cases hs : rdS b N (rdT b N s) = true
  · rw [if_pos hs]
    unfold Sok
    rw [h2]
    exact ⟨h4.1, h4.2, by show (0 : Nat) < 18446744073709551616; decide⟩
  · rw [if_neg hs]
    unfold Sok
    rw [h2]
    exact ⟨h4.1, h4.2, h1.2⟩
theorem rdF_sok (b : Nat → Nat) (N : Nat) : ∀ k s l, Fok s.r → rdF b N k s = some l → ∀ x ∈ l, Sok x
  | 0, _, l, _, h => by cases h; intro x hx; cases hx
  | k + 1, s, l, hf, h => by
    unfold rdF at h
    split at h
    · cases h
    · rcases hx : rdF b N k (rdN b N s) with _ | l'
      · rw [hx] at h; cases h
      · rw [hx] at h
        cases h
        intro x hm
        rcases List.mem_cons.1 hm with rfl | hm
        · exact rdO_sok b N s hf
        · exact rdF_sok b N k _ l' (rdN_fok b N s hf) hx x hm
theorem fok0 : Fok t0 := ⟨.inl ⟨rfl, rfl⟩, by decide⟩
theorem rd_sok (xs : List Int) (l : List Smp) (h : rd xs = some l) : (∀ x ∈ l, Sok x) ∧ l.length < 131072 := by
  unfold rd at h
  split at h
  · cases h
  · refine ⟨rdF_sok _ _ _ _ l fok0 h, ?_⟩
    rw [rdF_len _ _ _ _ _ h]
    exact bv_lt (bt 8 xs) (bt_lt 8 xs) 0 17
/-- Bytes as a text. -/
theorem conv_im (w : World) (a : Option Addr) (c : Nat) (xs : List Int) (h : Im w a xs) : (convert 25 9 (.slice a xs.length c)).run Tryd.prog w = .ok (.string (strOfNums xs)) w := by
  rcases h with rfl | ⟨g, o, rfl, _, h⟩
  · cases a with
    | none =>
      rw [show ([] : List Int).length = 0 from rfl]
      have := run_convert_bytes_nil (P := Tryd.prog) w 25 5 Tryd.underlying25 Tryd.underlying5 0 c 9 Tryd.underlying9
      rw [this]
      rfl
    | some x =>
      rw [run_convert_bytes_string w 25 9 5 _ _ c Tryd.underlying25 Tryd.underlying5 Tryd.underlying9]
      simp [Conv.bytesToString, loadCells, strOfNums]
      rfl
  · exact run_convert_bytes_arg (P := Tryd.prog) w 25 5 Tryd.underlying25 Tryd.underlying5 g o xs.length c xs rfl h 9 Tryd.underlying9
theorem Im.of_row {w : World} {S : Nat} {a : Option Addr} {c : Nat} {xs : List Int} (o : w.ownsRow S 5 1 (.slice a xs.length c) xs.length (bc xs)) : Im w a xs := by
  rcases o.2 with ⟨_, h0⟩ | ⟨g, cap, cur, e, _, hg, _⟩
  · exact .inl (List.eq_nil_of_length_eq_zero h0)
  · cases e
    refine .inr ⟨g, 0, rfl, (Array.getElem?_eq_some_iff.1 hg).1, fun j hj => ?_⟩
    have := o.cells (g := g) rfl j (.int .u8 (xs.getD j 0)) (by simp [bc, List.getD, hj])
    rw [Go.WideShapes.add_plain] at this
    exact this
theorem row_cap {w : World} {S e s n c : Nat} {a : Option Addr} {xs : List Value} (o : w.ownsRow S e s (.slice a n c) n xs) : n ≤ c := by
  rcases o.2 with ⟨h, h0⟩ | ⟨g, cap, cur, e, _, hg, h, _⟩
  · omega
  · cases e; exact h
theorem gr_by (b : Nat → Nat) (hb : ∀ i, b i < 2) (q : Nat) : By (gr b 8 q) := fun j hj => by
  have := gr_small b hb 8 q j hj
  omega
theorem pk_by (L : List Int) (h : Bin L) : By (pk L) := gr_by _ h.lt _
theorem pkB_by (l : List Smp) : By (pkB l) := by
  unfold pkB
  split
  · exact pk_by _ (bin_frm l)
  · intro j hj; simp at hj
theorem nums_inj (xs ys : List Int) (hx : By xs) (hy : By ys) (h : (xs.map fun n => UInt8.ofNat n.toNat) = ys.map fun n => UInt8.ofNat n.toNat) : xs = ys := by
  have hl : xs.length = ys.length := by simpa using congrArg List.length h
  refine List.ext_getElem hl fun i h2 h3 => ?_
  have h4 := congrArg (fun l : List UInt8 => l[i]?) h
  simp only [List.getElem?_map, List.getElem?_eq_getElem h2, List.getElem?_eq_getElem h3, Option.map_some, Option.some.injEq] at h4
  have h5 := hx i h2
  have h6 := hy i h3
  simp only [List.getD, List.getElem?_eq_getElem h2, List.getElem?_eq_getElem h3, Option.getD_some] at h5 h6
  have h7 := congrArg UInt8.toNat h4
  simp only [UInt8.toNat_ofNat'] at h7
  omega
theorem bytes_eq (xs ys : List Int) (hx : By xs) (hy : By ys) : (Lib.bytesOf xs == Lib.bytesOf ys) = decide (xs = ys) := by
  rw [Bool.eq_iff_iff, beq_iff_eq, decide_eq_true_iff]
  exact ⟨fun h => nums_inj xs ys hx hy h, fun h => by rw [h]⟩
theorem equal_any (v1 v2 : Value) (xs ys : List Int) (hx : By xs) (hy : By ys) (w : World) (h1 : (convert 25 9 v1).run Tryd.prog w = .ok (.string (strOfNums xs)) w) (h2 : (convert 25 9 v2).run Tryd.prog w = .ok (.string (strOfNums ys)) w) :
    Calls Tryd.prog 28 #[v1, v2] w fun e w' => e = .returned (.bool (decide (xs = ys))) ∧ w' = w := by
  refine (Tryd.bytes_Equal v1 v2 xs ys w h1 h2).mono ?_
  rintro e w' ⟨rfl, rfl⟩
  exact ⟨by rw [bytes_eq xs ys hx hy], rfl⟩
/-- What Unpack answers. -/
def UpR (xs : List Int) (w : World) (e : Ending) (w' : World) : Prop := ∃ v, e = .returned (.tuple #[v, .int .i64 (upE xs)]) ∧ w'.ownsRow w.heap.size 38 3 v (upL xs).length (smc (upL xs)) ∧ Below w.heap.size w w'
theorem UpR.no {xs : List Int} {w w' : World} (b : Below w.heap.size w w') (h : unp xs = none) : UpR xs w (.returned (.tuple #[.slice none 0 0, .int .i64 171])) w' := by
  refine ⟨_, by unfold upE; rw [h]; rfl, ?_, b⟩
  unfold upL
  rw [h]
  exact World.ownsRow_nil _ _ _ _
theorem unp_no (xs : List Int) (l : List Smp) (h : rd xs = some l) (hn : ¬ (pkE l = 0 ∧ pk (frm l) = xs)) : unp xs = none := by unfold unp; rw [h]; exact if_neg hn
theorem unp_yes (xs : List Int) (l : List Smp) (h : rd xs = some l) (hn : pkE l = 0 ∧ pk (frm l) = xs) : unp xs = some l := by unfold unp; rw [h]; exact if_pos hn
set_option maxHeartbeats 2000000 in
set_option maxRecDepth 100000 in
theorem unpack_any (a : Option Addr) (c : Nat) (xs : List Int) (w : World) (hi : Im w a xs) (hx : By xs) (hs : Scl w) (ht : Tab w) (hcap : xs.length ≤ c) :
    Calls Tryd.prog 13 #[.slice a xs.length c] w (UpR xs w) := by
  have k := read_gen tvc a c xs w hi hx hs (by have := ht.1; omega) hcap
  have HI : Hid (Im w a xs) := hi
  have HX : Hid (By xs) := hx
  have HS : Hid (Scl w) := hs
  have HT : Hid (Tab w) := ht
  clear hi hx hs ht
  go_enter Tryd.func13, Tryd.ntmps13
  go_wp2_with fail
  go_fit k
  rintro e w1 ⟨b1, hno, hyes⟩
  clear k
  cases hr : rd xs with
  | none =>
    obtain ⟨v, rfl⟩ := hno hr
    have HR : Hid (UpR xs w (.returned (.tuple #[.slice none 0 0, .int .i64 171])) w1) := UpR.no b1 (by unfold unp; rw [hr])
    clear hno hyes hr b1
    go_wp2
    go_ret2
    exact HR.out
  | some l =>
    obtain ⟨v, rfl, o1⟩ := hyes l hr
    obtain ⟨av, cv, rfl⟩ := row_form o1
    obtain ⟨hok, hlen⟩ := rd_sok xs l hr
    have k2 := pack_any av cv l w1 (Sm.of_row o1) hok (HS.out.below b1) (HT.out.below b1) (by omega)
    have HO1 : Hid (w1.ownsRow w.heap.size 38 3 (.slice av l.length cv) l.length (smc l)) := o1
    have HB1 : Hid _ := b1
    have HRD : Hid (rd xs = some l) := hr
    clear hno hyes o1 b1 hok hr
    go_wp2_with fail
    go_fit k2
    rintro e w2 ⟨v2, rfl, o2, b2⟩
    have hb2 : Below w.heap.size w w2 := HB1.out.trans (b2.mono HB1.out.size)
    have HB2 : Hid _ := hb2
    by_cases he : pkE l = 0
    · obtain ⟨av2, cv2, rfl⟩ := row_form o2
      have hB : pkB l = pk (frm l) := by unfold pkB; rw [if_pos he]
      have k3 := equal_any (.slice av2 (pkB l).length cv2) (.slice a xs.length c) (pkB l) xs (pkB_by l) HX.out w2 (conv_im w2 av2 cv2 _ (Im.of_row o2)) (conv_im w2 a c xs (HI.out.below hb2))
      rw [he]
      have HO2 : Hid (w2.ownsRow w.heap.size 38 3 (.slice av l.length cv) l.length (smc l)) := Kp.row (M := fun _ => False) (Kp.of b2) HO1.out (fun _ _ => id)
      clear k2 o2 b2 hb2
      by_cases hq : pkB l = xs
      · have HR : Hid (UpR xs w (.returned (.tuple #[.slice av l.length cv, .int .i64 0])) w2) := by
          have hu := unp_yes xs l HRD.out ⟨he, hB ▸ hq⟩
          refine ⟨_, by unfold upE; rw [hu]; rfl, ?_, HB2.out⟩
          unfold upL
          rw [hu]
          exact HO2.out
        rw [decide_eq_true hq] at k3
        clear HO1 HO2 HRD hB hq he
        go_wp2_with fail
        go_fit k3
        rintro e w3 ⟨rfl, rfl⟩
        clear k3
        go_wp2
        go_ret2
        exact HR.out
      · have HR : Hid (UpR xs w (.returned (.tuple #[.slice none 0 0, .int .i64 171])) w2) := UpR.no HB2.out (unp_no xs l HRD.out (fun h => hq (hB.trans h.2)))
        rw [decide_eq_false hq] at k3
        clear HO1 HO2 HRD hB hq he
        go_wp2_with fail
        go_fit k3
        rintro e w3 ⟨rfl, rfl⟩
        clear k3
        go_wp2
        go_ret2
        exact HR.out
    · have HR : Hid (UpR xs w (.returned (.tuple #[.slice none 0 0, .int .i64 171])) w2) := UpR.no HB2.out (unp_no xs l HRD.out (fun h => he h.1))
      have hne : (pkE l != 0) = true := by simpa using he
      have hne2 : (pkE l == 0) = false := by simpa using he
      clear HO1 HRD o2 b2 hb2 k2
      generalize pkE l = E at *
      clear he
      go_wp2
      go_ret2
      exact HR.out
end Go.Proofs.YtedlmjieclaojaaDoor
