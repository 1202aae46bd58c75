/- The law SealPacks walked. -/
import Derived.Test.YtljnllenpdkccaaAl
namespace Go.Proofs.Ytljnllenpdkccaa
open Go.RowKit

theorem up_pk (x : Int) (p : ByteArray) (h0 : -9223372036854775808 ≤ x) (h1 : x ≤ 9223372036854775807) (hp : ¬ 1024 < p.size) :
    upE (pkL x p) = 0 ∧ upX (pkL x p) = x ∧ upS (pkL x p) = p := by
  have e : pkL x p = eb (un x) 8 ++ nm p := if_neg hp
  have hl : (pkL x p).length = 8 + p.size := by rw [e, List.length_append, eb_len, nm_len]
  obtain ⟨e1, e2, e3⟩ := up_ok (pkL x p) (by omega) (by omega)
  refine ⟨e1, ?_, ?_⟩
  · rw [e2, e, ev_eb _ (un_lt x), sg_un x h0 h1]
  · rw [e3, e, List.drop_append_of_le_length (by rw [eb_len]; omega), List.drop_of_length_le (by rw [eb_len]; omega), List.nil_append, son_nm]
theorem small_drop {xs : List Int} (h : Small 8 xs) (k : Nat) : Small 8 (xs.drop k) := fun j hj => by
  rw [List.length_drop] at hj
  have := h (k + j) (by omega)
  simpa [List.getD] using this
theorem pk_up (ys : List Int) (hs : Small 8 ys) (h : upE ys = 0) : pkE (upS ys) = 0 ∧ pkL (upX ys) (upS ys) = ys := by
  have h8 : ¬ ys.length < 8 := fun h8 => by rw [(up_short ys h8).1] at h; omega
  have hL : ¬ 1032 < ys.length := fun hL => by rw [(up_long ys hL).1] at h; omega
  obtain ⟨_, e2, e3⟩ := up_ok ys h8 hL
  have hz : ¬ 1024 < (upS ys).size := by rw [e3, son_size, List.length_drop]; omega
  refine ⟨if_neg hz, ?_⟩
  have : pkL (upX ys) (upS ys) = eb (un (upX ys)) 8 ++ nm (upS ys) := if_neg hz
  rw [this, e2, e3, un_sg _ (ev_lt ys), eb_ev ys hs (by omega), nm_son _ (small_drop hs 8), List.take_append_drop]
theorem upS_size (ys : List Int) : (upS ys).size ≤ 1024 := by
  by_cases h8 : ys.length < 8
  · rw [(up_short ys h8).2.2]; decide
  · by_cases hL : 1032 < ys.length
    · rw [(up_long ys hL).2.2]; decide
    · rw [(up_ok ys h8 hL).2.2, son_size, List.length_drop]; omega
theorem nm_sm (p : ByteArray) (x : Int) : Small 8 (pkL x p) := by
  unfold pkL
  split
  · exact fun j hj => absurd hj (by simp)
  · intro j hj
    rw [List.length_append, eb_len, nm_len] at hj
    by_cases h8 : j < 8
    · have := eb_small (un x) (un_lt x) j (by rw [eb_len]; exact h8)
      simp only [List.getD] at this ⊢
      rw [List.getElem?_append_left (by rw [eb_len]; exact h8)]
      exact this
    · have := nm_small p (j - 8) (by rw [nm_len]; omega)
      simp only [List.getD] at this ⊢
      rw [List.getElem?_append_right (by rw [eb_len]; omega), eb_len]
      exact this

/-- A claim in memory. -/
def Cl (w : World) (b : Nat) (X : Int) (S : ByteArray) : Prop := w.heap[b]? = some (.cells #[.int .i64 X, .string S] 23)
theorem Cl.new (w : World) (X : Int) (S : ByteArray) : Cl (w.alloc (.cells #[.int .i64 X, .string S] 23)) w.heap.size X S := heap_alloc_new w _
theorem Cl.lt {w : World} {b : Nat} {X : Int} {S : ByteArray} (h : Cl w b X S) : b < w.heap.size := (Array.getElem?_eq_some_iff.1 h).1
theorem Cl.below {w w' : World} {b : Nat} {X : Int} {S : ByteArray} (h : Cl w b X S) (hb : Below w.heap.size w w') : Cl w' b X S := (hb.block b h.lt).trans h
theorem Cl.alloc {w : World} {b : Nat} {X : Int} {S : ByteArray} (h : Cl w b X S) (o : Obj) : Cl (w.alloc o) b X S := h.below ((Below.refl _ _).alloc (Nat.le_refl _) _)
theorem Cl.c0 {w : World} {b : Nat} {X : Int} {S : ByteArray} (h : Cl w b X S) : w.cell? ⟨b, 0, none⟩ = some (.int .i64 X) := by
  rw [cell_of_row w _ 0 _ 23 (0, 0) h]; rfl
theorem Cl.c1 {w : World} {b : Nat} {X : Int} {S : ByteArray} (h : Cl w b X S) : w.cell? ⟨b, 1, none⟩ = some (.string S) := by
  rw [cell_of_row w _ 1 _ 23 (0, 0) h]; rfl
theorem bt2 {w a b : World} (h : Below w.heap.size w a) (h' : Below a.heap.size a b) : Below w.heap.size w b := h.trans (h'.mono h.size)
theorem bta {w a : World} (h : Below w.heap.size w a) (o : Obj) : Below w.heap.size w (a.alloc o) := h.alloc h.size o
abbrev clO (X : Int) (S : ByteArray) : Obj := .cells #[.int .i64 X, .string S] 23

set_option maxHeartbeats 4000000 in
set_option maxRecDepth 100000 in
theorem packs_walk (x : Int) (p : ByteArray) (a : Option Addr) (c : Nat) (ys : List Int) (w : World) (h0 : -9223372036854775808 ≤ x) (h1 : x ≤ 9223372036854775807) (hp : p.size ≤ 9223372036854775807)
    (hI : Im w a ys) (hs : Small 8 ys) (hc : ys.length ≤ c) (hcb : c ≤ 9223372036854775807) :
    Calls Try.prog 3 #[.agg #[.int .i64 x, .string p], .slice a ys.length c] w fun r w' => r = .returned (.bool true) ∧ Below w.heap.size w w' := by
  have hW : Below w.heap.size w (w.alloc (clO x p)) := (Below.refl _ _).alloc (Nat.le_refl _) _
  have ka := alive_any (w.alloc (clO x p))
  have kp := fun w' => pack_any x p w' hp
  have krp := fun w' => rpack_any x p w' hp
  have kp7 := fun w' => pack_any (upX ys) (upS ys) w' (by have := upS_size ys; omega)
  have kru : Hid (∀ w', Below w.heap.size w w' → Calls Try.prog 9 #[.slice a ys.length c] w' fun r w'' => r = .returned (.tuple #[.agg #[.int .i64 (upX ys), .string (upS ys)], .int .i64 (upE ys)]) ∧ Below w'.heap.size w' w'') :=
    fun w' hb => runpack_any a c ys w' (hI.below hb) hs hc hcb
  have ku : Hid (∀ w', Below w.heap.size w w' → Calls Try.prog 10 #[.slice a ys.length c] w' fun r w'' => r = .returned (.tuple #[.agg #[.int .i64 (upX ys), .string (upS ys)], .int .i64 (upE ys)]) ∧ Below w'.heap.size w' w'') :=
    fun w' hb => unpack_any a c ys w' (hI.below hb) hs hc hcb
  have kub : Hid (∀ w' a', Im w' a' (pkL x p) → Calls Try.prog 10 #[.slice a' (pkL x p).length (pkL x p).length] w' fun r w'' => r = .returned (.tuple #[.agg #[.int .i64 (upX (pkL x p)), .string (upS (pkL x p))], .int .i64 (upE (pkL x p))]) ∧ Below w'.heap.size w' w'') :=
    fun w' a' h => unpack_any a' (pkL x p).length (pkL x p) w' h (nm_sm p x) (Nat.le_refl _) (by
      have : (pkL x p).length ≤ 1032 := by
        unfold pkL
        split
        · simp
        · rw [List.length_append, eb_len, nm_len]; omega
      omega)
  have ks : Hid (∀ w' a1 a2 c1 c2, Im w' a1 (pkL x p) → Im w' a2 (pkL x p) → Calls Try.prog 8 #[.slice a1 (pkL x p).length c1, .slice a2 (pkL x p).length c2] w' fun r w'' => r = .returned (.bool true) ∧ w'' = w') := fun w' a1 a2 c1 c2 i1 i2 => by
    have := same_any a1 a2 c1 c2 (pkL x p) (pkL x p) w' i1 i2 (nm_sm p x) (nm_sm p x)
    rw [decide_eq_true rfl] at this
    exact this
  have ky : Hid (∀ w' a1 c1, Im w' a1 ys → Below w.heap.size w w' → Calls Try.prog 8 #[.slice a1 ys.length c1, .slice a ys.length c] w' fun r w'' => r = .returned (.bool true) ∧ w'' = w') := fun w' a1 c1 i1 hb => by
    have := same_any a1 a c1 c ys ys w' i1 (hI.below hb) hs hs
    rw [decide_eq_true rfl] at this
    exact this
  have hA : (pkE p = 0 ∧ upE (pkL x p) = 0 ∧ upX (pkL x p) = x ∧ upS (pkL x p) = p) ∨ pkE p = 1 := by
    by_cases hz : 1024 < p.size
    · exact .inr (if_pos hz)
    · exact .inl ⟨if_neg hz, up_pk x p h0 h1 hz⟩
  have hB : (upE ys = 0 ∧ pkE (upS ys) = 0 ∧ pkL (upX ys) (upS ys) = ys) ∨ (¬ upE ys = 0) := by
    by_cases hz : upE ys = 0
    · exact .inl ⟨hz, pk_up ys hs hz⟩
    · exact .inr hz
  generalize pkL (upX ys) (upS ys) = Q at *
  generalize pkE (upS ys) = J at *
  generalize upE (pkL x p) = I at *
  generalize upX (pkL x p) = X6 at *
  generalize upS (pkL x p) = S6 at *
  generalize pkE p = E at *
  generalize pkL x p = P at *
  generalize upE ys = H at *
  generalize upX ys = X5 at *
  generalize upS ys = S5 at *
  generalize P.length = PL at *
  clear hs hI
  rcases hA with ⟨rfl, rfl, rfl, rfl⟩ | rfl
  · rcases hB with ⟨rfl, rfl, rfl⟩ | hH
    · go_enter Try.func3, Try.ntmps3
      go_wp2_with (first
        | (go_at_call 5; go_fit ka; rintro z w1 ⟨rfl, b1⟩; have C1 := (Cl.new w _ _).below b1; have q10 := C1.c0; have q11 := C1.c1; have B1 := bt2 hW b1)
        | (go_at_call 6; go_fit (kp _); rintro z w2 ⟨a2, rfl, i2, b2⟩; have C2 := C1.below b2; have q20 := C2.c0; have q21 := C2.c1; have B2 := bt2 B1 b2)
        | (go_at_call 7; go_fit (krp _); rintro z w3 ⟨a3, c3, rfl, i3, b3⟩; have C3 := C2.below b3; have B3 := bt2 B2 b3; have ks3 := ks.out w3 a2 a3 PL c3 (i2.below b3) i3; have kru3 := kru.out w3 B3)
        | (go_at_call 8; go_fit ks3; rintro z w3' ⟨rfl, rfl⟩)
        | (go_at_call 8; go_fit ky7; rintro z w7' ⟨rfl, rfl⟩)
        | (go_at_call 9; go_fit kru3; rintro z w4 ⟨rfl, b4⟩; have B4 := bta (bt2 B3 b4) (clO X5 S5); have D4 := bta (bt2 b3 b4) (clO X5 S5); have C4 := (C3.below b4).alloc (clO X5 S5); have G4 := Cl.new w4 X5 S5; have ku4 := ku.out _ B4)
        | (go_at_call 10; go_fit ku4; rintro z w5 ⟨rfl, b5⟩; have B5 := bta (bt2 B4 b5) (clO X5 S5); have D5 := bta (bt2 D4 b5) (clO X5 S5); have C5 := (C4.below b5).alloc (clO X5 S5); have G5 := (G4.below b5).alloc (clO X5 S5); have E5 := Cl.new w5 X5 S5; have kub5 := kub.out _ a2 (i2.below D5))
        | (go_at_call 10; go_fit kub5; rintro z w6 ⟨rfl, b6⟩; have B6 := bta (bt2 B5 b6) (clO X6 S6); have C6 := (C5.below b6).alloc (clO X6 S6); have G6 := (G5.below b6).alloc (clO X6 S6); have E6 := (E5.below b6).alloc (clO X6 S6); have F6 := Cl.new w6 X6 S6; have q60 := E6.c0; have q61 := E6.c1)
        | (go_at_call 6; go_fit (kp7 _); rintro z w7 ⟨a7, rfl, i7, b7⟩; have B7 := bt2 B6 b7; have C7 := C6.below b7; have G7 := G6.below b7; have E7 := E6.below b7; have F7 := F6.below b7; have q70 := C7.c0; have q71 := C7.c1; have q72 := G7.c0; have q73 := G7.c1; have q74 := E7.c0; have q75 := E7.c1; have q76 := F7.c0; have q77 := F7.c1; have ky7 := ky.out w7 a7 Q.length i7 B7))
      go_ret
      exact ⟨rfl, B7⟩
    · go_enter Try.func3, Try.ntmps3
      go_wp2_with (first
        | (go_at_call 5; go_fit ka; rintro z w1 ⟨rfl, b1⟩; have C1 := (Cl.new w _ _).below b1; have q10 := C1.c0; have q11 := C1.c1; have B1 := bt2 hW b1)
        | (go_at_call 6; go_fit (kp _); rintro z w2 ⟨a2, rfl, i2, b2⟩; have C2 := C1.below b2; have q20 := C2.c0; have q21 := C2.c1; have B2 := bt2 B1 b2)
        | (go_at_call 7; go_fit (krp _); rintro z w3 ⟨a3, c3, rfl, i3, b3⟩; have C3 := C2.below b3; have B3 := bt2 B2 b3; have ks3 := ks.out w3 a2 a3 PL c3 (i2.below b3) i3; have kru3 := kru.out w3 B3)
        | (go_at_call 8; go_fit ks3; rintro z w3' ⟨rfl, rfl⟩)
        | (go_at_call 9; go_fit kru3; rintro z w4 ⟨rfl, b4⟩; have B4 := bta (bt2 B3 b4) (clO X5 S5); have D4 := bta (bt2 b3 b4) (clO X5 S5); have C4 := (C3.below b4).alloc (clO X5 S5); have G4 := Cl.new w4 X5 S5; have ku4 := ku.out _ B4)
        | (go_at_call 10; go_fit ku4; rintro z w5 ⟨rfl, b5⟩; have B5 := bta (bt2 B4 b5) (clO X5 S5); have D5 := bta (bt2 D4 b5) (clO X5 S5); have C5 := (C4.below b5).alloc (clO X5 S5); have G5 := (G4.below b5).alloc (clO X5 S5); have E5 := Cl.new w5 X5 S5; have kub5 := kub.out _ a2 (i2.below D5))
        | (go_at_call 10; go_fit kub5; rintro z w6 ⟨rfl, b6⟩; have B6 := bta (bt2 B5 b6) (clO X6 S6); have C6 := (C5.below b6).alloc (clO X6 S6); have G6 := (G5.below b6).alloc (clO X6 S6); have E6 := (E5.below b6).alloc (clO X6 S6); have F6 := Cl.new w6 X6 S6; have q60 := E6.c0; have q61 := E6.c1)
        | (go_at_call 6; go_fit (kp7 _); rintro z w7 ⟨a7, rfl, i7, b7⟩; have B7 := bt2 B6 b7; have C7 := C6.below b7; have G7 := G6.below b7; have E7 := E6.below b7; have F7 := F6.below b7; have q70 := C7.c0; have q71 := C7.c1; have q72 := G7.c0; have q73 := G7.c1; have q74 := E7.c0; have q75 := E7.c1; have q76 := F7.c0; have q77 := F7.c1))
      go_ret
      exact ⟨rfl, B7⟩
  · rcases hB with ⟨rfl, rfl, rfl⟩ | hH
    · go_enter Try.func3, Try.ntmps3
      go_wp2_with (first
        | (go_at_call 5; go_fit ka; rintro z w1 ⟨rfl, b1⟩; have C1 := (Cl.new w _ _).below b1; have q10 := C1.c0; have q11 := C1.c1; have B1 := bt2 hW b1)
        | (go_at_call 6; go_fit (kp _); rintro z w2 ⟨a2, rfl, i2, b2⟩; have C2 := C1.below b2; have q20 := C2.c0; have q21 := C2.c1; have B2 := bt2 B1 b2)
        | (go_at_call 7; go_fit (krp _); rintro z w3 ⟨a3, c3, rfl, i3, b3⟩; have C3 := C2.below b3; have B3 := bt2 B2 b3; have ks3 := ks.out w3 a2 a3 PL c3 (i2.below b3) i3; have kru3 := kru.out w3 B3)
        | (go_at_call 8; go_fit ks3; rintro z w3' ⟨rfl, rfl⟩)
        | (go_at_call 8; go_fit ky7; rintro z w7' ⟨rfl, rfl⟩)
        | (go_at_call 9; go_fit kru3; rintro z w4 ⟨rfl, b4⟩; have B4 := bta (bt2 B3 b4) (clO X5 S5); have D4 := bta (bt2 b3 b4) (clO X5 S5); have C4 := (C3.below b4).alloc (clO X5 S5); have G4 := Cl.new w4 X5 S5; have ku4 := ku.out _ B4)
        | (go_at_call 10; go_fit ku4; rintro z w5 ⟨rfl, b5⟩; have B5 := bta (bt2 B4 b5) (clO X5 S5); have D5 := bta (bt2 D4 b5) (clO X5 S5); have C5 := (C4.below b5).alloc (clO X5 S5); have G5 := (G4.below b5).alloc (clO X5 S5); have E5 := Cl.new w5 X5 S5; have kub5 := kub.out _ a2 (i2.below D5))
        | (go_at_call 10; go_fit kub5; rintro z w6 ⟨rfl, b6⟩; have B6 := bta (bt2 B5 b6) (clO X6 S6); have C6 := (C5.below b6).alloc (clO X6 S6); have G6 := (G5.below b6).alloc (clO X6 S6); have E6 := (E5.below b6).alloc (clO X6 S6); have F6 := Cl.new w6 X6 S6; have q60 := E6.c0; have q61 := E6.c1)
        | (go_at_call 6; go_fit (kp7 _); rintro z w7 ⟨a7, rfl, i7, b7⟩; have B7 := bt2 B6 b7; have C7 := C6.below b7; have G7 := G6.below b7; have E7 := E6.below b7; have F7 := F6.below b7; have q70 := C7.c0; have q71 := C7.c1; have q72 := G7.c0; have q73 := G7.c1; have q74 := E7.c0; have q75 := E7.c1; have q76 := F7.c0; have q77 := F7.c1; have ky7 := ky.out w7 a7 Q.length i7 B7))
      go_ret
      exact ⟨rfl, B7⟩
    · go_enter Try.func3, Try.ntmps3
      go_wp2_with (first
        | (go_at_call 5; go_fit ka; rintro z w1 ⟨rfl, b1⟩; have C1 := (Cl.new w _ _).below b1; have q10 := C1.c0; have q11 := C1.c1; have B1 := bt2 hW b1)
        | (go_at_call 6; go_fit (kp _); rintro z w2 ⟨a2, rfl, i2, b2⟩; have C2 := C1.below b2; have q20 := C2.c0; have q21 := C2.c1; have B2 := bt2 B1 b2)
        | (go_at_call 7; go_fit (krp _); rintro z w3 ⟨a3, c3, rfl, i3, b3⟩; have C3 := C2.below b3; have B3 := bt2 B2 b3; have ks3 := ks.out w3 a2 a3 PL c3 (i2.below b3) i3; have kru3 := kru.out w3 B3)
        | (go_at_call 8; go_fit ks3; rintro z w3' ⟨rfl, rfl⟩)
        | (go_at_call 9; go_fit kru3; rintro z w4 ⟨rfl, b4⟩; have B4 := bta (bt2 B3 b4) (clO X5 S5); have D4 := bta (bt2 b3 b4) (clO X5 S5); have C4 := (C3.below b4).alloc (clO X5 S5); have G4 := Cl.new w4 X5 S5; have ku4 := ku.out _ B4)
        | (go_at_call 10; go_fit ku4; rintro z w5 ⟨rfl, b5⟩; have B5 := bta (bt2 B4 b5) (clO X5 S5); have D5 := bta (bt2 D4 b5) (clO X5 S5); have C5 := (C4.below b5).alloc (clO X5 S5); have G5 := (G4.below b5).alloc (clO X5 S5); have E5 := Cl.new w5 X5 S5; have kub5 := kub.out _ a2 (i2.below D5))
        | (go_at_call 10; go_fit kub5; rintro z w6 ⟨rfl, b6⟩; have B6 := bta (bt2 B5 b6) (clO X6 S6); have C6 := (C5.below b6).alloc (clO X6 S6); have G6 := (G5.below b6).alloc (clO X6 S6); have E6 := (E5.below b6).alloc (clO X6 S6); have F6 := Cl.new w6 X6 S6; have q60 := E6.c0; have q61 := E6.c1)
        | (go_at_call 6; go_fit (kp7 _); rintro z w7 ⟨a7, rfl, i7, b7⟩; have B7 := bt2 B6 b7; have C7 := C6.below b7; have G7 := G6.below b7; have E7 := E6.below b7; have F7 := F6.below b7; have q70 := C7.c0; have q71 := C7.c1; have q72 := G7.c0; have q73 := G7.c1; have q74 := E7.c0; have q75 := E7.c1; have q76 := F7.c0; have q77 := F7.c1))
      go_ret
      exact ⟨rfl, B7⟩
end Go.Proofs.Ytljnllenpdkccaa
