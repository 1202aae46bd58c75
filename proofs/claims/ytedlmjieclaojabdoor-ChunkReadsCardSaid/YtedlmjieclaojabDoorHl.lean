/- The reference's Between. -/
import Derived.Test.YtedlmjieclaojabDoorHi
import Derived.Test.YtedlmjieclaojabDoorGb
import Derived.Test.YtedlmjieclaojabDoorEc
namespace Go.Proofs.YtedlmjieclaojabDoor
open Go.RowKit

set_option maxHeartbeats 4000000 in
set_option maxRecDepth 100000 in
theorem rbetween_any (a : Option Addr) (c : Nat) (xs : List Int) (after upto : Int) (w : World) (hi : Im w a xs) (hx : By xs) (hN : xs.length ≤ 140737488355328) :
    Calls Tryd.prog 14 #[.slice a xs.length c, .int .i64 after, .int .i64 upto] w (BwR xs after upto w) := by
  have k := runpack_any a c xs w hi hx hN
  have hup := up_small xs
  have HFIN : Hid (∀ v w', w'.ownsRow w.heap.size 31 3 v (btw after upto (upL xs)).length (smc (btw after upto (upL xs))) → Below w.heap.size w w' → BwR xs after upto w (.returned (.tuple #[v, .int .i64 (upE xs)])) w') := fun v w' h1 h2 => ⟨v, rfl, h1, h2⟩
  unfold UpR at k
  clear hi hx hN
  generalize upL xs = ul at *
  generalize upE xs = ue at *
  go_enter Tryd.func14, Tryd.ntmps14
  go_wp2_with fail
  go_fit k
  rintro e w1 ⟨v, rfl, o1, b1⟩
  obtain ⟨av, cv, rfl⟩ := row_form o1
  have HSM : Hid (Sm w1 av ul) := Sm.of_row o1
  have HB1 : Hid (Below w.heap.size w w1) := b1
  obtain ⟨n, hn⟩ : ∃ n, n = ul.length := ⟨_, rfl⟩
  have HN : Hid (n = ul.length) := hn
  rw [← hn] at hup ⊢
  clear k o1 b1 hn
  go_wp2_with fail
  go_loopw [10, 11] (fun fv iv w' => ∃ i : Nat, iv = .int .i64 (i : Nat) ∧ i ≤ n ∧ Hid (w'.ownsRow w1.heap.size 31 3 fv (btw after upto (ul.take i)).length (smc (btw after upto (ul.take i)))) ∧ Hid (Below w1.heap.size w1 w')) (fun _ iv _ => n - (RowKit.intOf iv).toNat)
  case atStart => exact ⟨0, rfl, Nat.zero_le _, World.ownsRow_nil _ _ _ _, Below.refl _ _⟩
  case round =>
    obtain ⟨i, rfl, hi, ho, hbw⟩ := hrel
    by_cases hlt : i < n
    · have hii : (i : Int) < (n : Int) := by omega
      obtain ⟨x, hx⟩ : ∃ x, ul[i]? = some x := ⟨ul[i]'(by have := HN.out; omega), List.getElem?_eq_getElem _⟩
      obtain ⟨g, o, rfl, hg, hcs⟩ : ∃ g o, av = some ⟨g, o, none⟩ ∧ g < w1.heap.size ∧ _ := by
        rcases HSM.out with h | h
        · have := HN.out; rw [h] at this; simp at this; omega
        · exact h
      obtain ⟨x0, x1, x2⟩ := hcs i x hx
      have y0 := (hbw.out.cell (p := ⟨g, o + i * 3, none⟩) hg).trans x0
      have y1 := (hbw.out.cell (p := ⟨g, o + i * 3 + 1, none⟩) hg).trans x1
      have y2 := (hbw.out.cell (p := ⟨g, o + i * 3 + 2, none⟩) hg).trans x2
      have htk : ul.take (i + 1) = ul.take i ++ [x] := by rw [List.take_add_one, hx]; rfl
      have hsn : btw after upto (ul.take (i + 1)) = btw after upto (ul.take i) ++ if (decide (after < x.t) && decide (x.t ≤ upto)) = true then [x] else [] := by rw [htk, btw_snoc]
      have hbl : (btw after upto (ul.take i)).length ≤ 100000 := by have := btw_len after upto (ul.take i); rw [List.length_take] at this; omega
      have HSN : Hid (_ = _) := hsn
      have HBL : Hid ((btw after upto (ul.take i)).length ≤ 100000) := hbl
      obtain ⟨t, vv, s⟩ := x
      dsimp only at y0 y1 y2 HSN
      clear hcs hx x0 x1 x2 htk hsn hbl
      generalize btw after upto (ul.take i) = bl at *
      obtain ⟨bl2, hbl2⟩ : ∃ b, b = btw after upto (ul.take (i + 1)) := ⟨_, rfl⟩
      have HB2 : Hid (bl2 = btw after upto (ul.take (i + 1))) := hbl2
      rw [← hbl2] at HSN
      clear hbl2
      by_cases h1 : after < t
      · by_cases h2 : t ≤ upto
        · rw [decide_eq_true h1, decide_eq_true h2] at HSN
          have e2 : bl2 = bl ++ [⟨t, vv, s⟩] := by have := HSN.out; simpa using this
          obtain ⟨v4, w4, r4, o4, k4, hv4⟩ := append_s wr w1.heap.size u10 bl ⟨t, vv, s⟩ hbw.out.size (by have := HBL.out; omega) ho.out
          have HO4 : Hid (w4.ownsRow w1.heap.size 31 3 v4 bl2.length (smc bl2)) := by
            rw [e2, List.length_append]; exact o4
          have HB4 : Hid (Below w1.heap.size w1 w4) := hbw.out.trans (k4.below hbw.out.size (own_low ho.out))
          obtain ⟨a10, c10, rfl⟩ := row_form ho.out
          clear HSN e2 o4 k4 hv4 ho hbw
          go_wp2_with (at_builtin; refine wpList_append_run rfl (.tmp 39) (.tmp 44) 35 35 rfl _ _ rfl rfl r4 ?_)
          exact ⟨⟨i + 1, by go_num, by omega, by rw [← HB2.out]; exact HO4, HB4⟩, by simp [RowKit.intOf]; omega⟩
        · rw [decide_eq_false h2, Bool.and_false] at HSN
          have e2 : bl2 = bl := by have := HSN.out; simpa using this
          rw [← e2] at ho
          clear HSN e2
          go_wp2
          exact ⟨⟨i + 1, by go_num, by omega, by rw [← HB2.out]; exact ho, hbw⟩, by simp [RowKit.intOf]; omega⟩
      · rw [decide_eq_false h1, Bool.false_and] at HSN
        have e2 : bl2 = bl := by have := HSN.out; simpa using this
        rw [← e2] at ho
        clear HSN e2
        go_wp2
        exact ⟨⟨i + 1, by go_num, by omega, by rw [← HB2.out]; exact ho, hbw⟩, by simp [RowKit.intOf]; omega⟩
    · have hii : ¬ (i : Int) < (n : Int) := by omega
      have htk : ul.take i = ul := List.take_of_length_le (by have := HN.out; omega)
      rw [htk] at ho
      have HF : Hid (BwR xs after upto w (.returned (.tuple #[u10, .int .i64 ue])) wr) := HFIN.out _ _ (row_lower ho.out HB1.out.size) (HB1.out.trans (hbw.out.mono HB1.out.size))
      clear ho hbw htk
      go_wp2
      go_ret2
      exact HF.out
end Go.Proofs.YtedlmjieclaojabDoor
/- ChunkReads: the law's walk. -/
namespace Go.Proofs.YtedlmjieclaojabDoor
open Go.RowKit

set_option maxHeartbeats 4000000 in
set_option maxRecDepth 100000 in
theorem reads_walk (a : Option Addr) (c : Nat) (xs : List Int) (after upto : Int) (w : World) (hi : Im w a xs) (hx : By xs) (hs : Scl w) (ht : Tab w) (hcap : xs.length ≤ c) (hN : xs.length ≤ 140737488355328) :
    Calls Tryd.prog 4 #[.slice a xs.length c, .int .i64 after, .int .i64 upto] w fun e w' => e = .returned (.bool true) ∧ Below w.heap.size w w' := by
  have k1 := alive_any w hs ht
  have K2 : Hid (∀ W, Below w.heap.size w W → Calls Tryd.prog 13 #[.slice a xs.length c] W (UpR xs W)) := fun W h => runpack_any a c xs W (hi.below h) hx hN
  have K3 : Hid (∀ W, Below w.heap.size w W → Calls Tryd.prog 14 #[.slice a xs.length c, .int .i64 after, .int .i64 upto] W (BwR xs after upto W)) := fun W h => rbetween_any a c xs after upto W (hi.below h) hx hN
  have K4 : Hid (∀ W, Below w.heap.size w W → Calls Tryd.prog 15 #[.slice a xs.length c] W (UpR xs W)) := fun W h => unpack_any a c xs W (hi.below h) hx (hs.below h) (ht.below h) hcap
  have K5 : Hid (∀ W, Below w.heap.size w W → Calls Tryd.prog 16 #[.slice a xs.length c] W fun e w' => e = .returned (.tuple #[.int .i64 ((upL xs).length : Nat), .int .i64 (upE xs)]) ∧ Below W.heap.size W w') := fun W h => count_any a c xs W (hi.below h) hx (hs.below h) (ht.below h) hcap
  have K6 : Hid (∀ W, Below w.heap.size w W → Calls Tryd.prog 17 #[.slice a xs.length c, .int .i64 after, .int .i64 upto] W (BwR xs after upto W)) := fun W h => between_any a c xs after upto W (hi.below h) hx (hs.below h) (ht.below h) hcap
  have hul := up_small xs
  have hbl : (btw after upto (upL xs)).length ≤ 100000 := Nat.le_trans (btw_len _ _ _) hul
  unfold UpR at K2 K4
  unfold BwR at K3 K6
  clear hi hx hs ht hcap hN
  generalize btw after upto (upL xs) = bl at *
  generalize upL xs = ul at *
  generalize upE xs = ue at *
  generalize xs.length = n at *
  have HUL : Hid (ul.length ≤ 140737488355328) := by show _ ≤ _; omega
  have HBL : Hid (bl.length ≤ 140737488355328) := by show _ ≤ _; omega
  clear hul hbl
  go_enter Tryd.func4, Tryd.ntmps4
  go_wp2_with fail
  go_fit k1
  rintro e w1 ⟨rfl, b1⟩
  have HB1 : Hid (Below w.heap.size w w1) := b1
  have k2 := K2.out w1 b1
  clear k1 b1 K2
  go_wp2_with fail
  go_fit k2
  rintro e w2 ⟨v2, rfl, o2, b2⟩
  obtain ⟨a2, c2, rfl⟩ := row_form o2
  have HB2 : Hid (Below w.heap.size w w2) := HB1.out.trans (b2.mono HB1.out.size)
  have HS2 : Hid (Sm w2 a2 ul) := Sm.of_row o2
  have k3 := K3.out w2 HB2.out
  clear k2 o2 b2 HB1 K3
  go_wp2_with fail
  go_fit k3
  rintro e w3 ⟨v3, rfl, o3, b3⟩
  obtain ⟨a3, c3', rfl⟩ := row_form o3
  have HB3 : Hid (Below w.heap.size w w3) := HB2.out.trans (b3.mono HB2.out.size)
  have HS3 : Hid (Sm w3 a3 bl) := Sm.of_row o3
  have HS23 : Hid (Sm w3 a2 ul) := HS2.out.below b3
  have k4 := K4.out w3 HB3.out
  clear k3 o3 b3 HB2 K4 HS2
  go_wp2_with fail
  go_fit k4
  rintro e w4 ⟨v4, rfl, o4, b4⟩
  obtain ⟨a4, c4, rfl⟩ := row_form o4
  have HB4 : Hid (Below w.heap.size w w4) := HB3.out.trans (b4.mono HB3.out.size)
  have HS4 : Hid (Sm w4 a4 ul) := Sm.of_row o4
  have HS24 : Hid (Sm w4 a2 ul) := HS23.out.below b4
  have HS34 : Hid (Sm w4 a3 bl) := HS3.out.below b4
  have k5 := K5.out w4 HB4.out
  clear k4 o4 b4 HB3 K5 HS23 HS3
  go_wp2_with fail
  go_fit k5
  rintro e w5 ⟨rfl, b5⟩
  have HB5 : Hid (Below w.heap.size w w5) := HB4.out.trans (b5.mono HB4.out.size)
  have HS45 : Hid (Sm w5 a4 ul) := HS4.out.below b5
  have HS25 : Hid (Sm w5 a2 ul) := HS24.out.below b5
  have HS35 : Hid (Sm w5 a3 bl) := HS34.out.below b5
  have k6 := K6.out w5 HB5.out
  clear k5 b5 HB4 K6 HS4 HS24 HS34
  go_wp2_with fail
  go_fit k6
  rintro e w6 ⟨v6, rfl, o6, b6⟩
  obtain ⟨a6, c6, rfl⟩ := row_form o6
  have HB6 : Hid (Below w.heap.size w w6) := HB5.out.trans (b6.mono HB5.out.size)
  have HS6 : Hid (Sm w6 a6 bl) := Sm.of_row o6
  have HS36 : Hid (Sm w6 a3 bl) := HS35.out.below b6
  have k7 := alike_true a4 a2 c4 c2 ul ul false w6 (HS45.out.below b6) (HS25.out.below b6) rfl (fun i x y hx hy => by rw [hx] at hy; cases hy; exact alk_refl _ _) HUL.out
  clear k6 o6 b6 HB5 HS45 HS25 HS35
  go_wp2_with fail
  go_fit k7
  rintro e w7 ⟨rfl, b7⟩
  have HB7 : Hid (Below w.heap.size w w7) := HB6.out.trans (b7.mono HB6.out.size)
  have k8 := alike_true a6 a3 c6 c3' bl bl false w7 (HS6.out.below b7) (HS36.out.below b7) rfl (fun i x y hx hy => by rw [hx] at hy; cases hy; exact alk_refl _ _) HBL.out
  clear k7 b7 HB6 HS6 HS36
  go_wp2_with fail
  go_fit k8
  rintro e w8 ⟨rfl, b8⟩
  have HB8 : Hid (Below w.heap.size w w8) := HB7.out.trans (b8.mono HB7.out.size)
  clear k8 b8 HB7
  go_wp2
  go_ret
  exact ⟨rfl, HB8.out⟩
end Go.Proofs.YtedlmjieclaojabDoor
/- ChunkReads: the row and the card. -/
namespace Go.Proofs.YtedlmjieclaojabDoor
open Go.ChangeShapes Go.WideShapes Go.ChangeAt Go.RowKit Go.Lib
set_option maxRecDepth 100000

/-- A list of bytes that came in. -/
theorem bytes_openL {H : Type} {enc : TypeId × Value → H} {W : World} {v : Value} {d : DataW H} {p : List MemPlace} {fuel : Nat}
    (hf : DataW.trod enc Tryd.prog W 0 (fun _ => true) true fuel 38 [v] = some (d, p)) (hz : ∀ n ∈ d.weights Tryd.prog 38, n ≤ reachBytes) :
    ∃ (a : Option Addr) (c : Nat) (xs : List Int), v = .slice a xs.length c ∧ Im W a xs ∧ By xs ∧ xs.length ≤ c ∧ xs.length ≤ 140737488351232 := by
  rcases open_ints Tryd.underlying38 Tryd.underlying5 (by kernel_rfl) hf with ⟨hcs, hd⟩ | ⟨x, l, c, zs, hcs, _, hl, hm, hzl, hd, hall, hwf⟩
  · have e : v = .slice none 0 0 := by simpa using hcs
    exact ⟨none, 0, [], e, .inl rfl, fun j hj => absurd hj (by simp), by simp, by simp⟩
  · have e : v = .slice (some x) l c := by simpa using hcs
    have hsl : zs.length = c := by simpa using hzl
    have hlen : (zs.take l).length = l := by rw [List.length_take]; omega
    have hget : ∀ i, i < l → (zs.take l).getD i 0 = zs.getD i 0 := fun i hi => by
      simp only [List.getD]
      rw [List.getElem?_take_of_lt hi]
    have hbnd : l ≤ 140737488351232 := by
      obtain ⟨rfl, _⟩ := Prod.mk.inj hd
      have hb : Tryd.prog.bytesOf 5 = 1 := by kernel_rfl
      have hr : reachBytes = 140737488351232 := by decide
      have := hz _ (by
        simp only [DataW.weights, Tryd.underlying38, hb]
        exact List.mem_cons.2 (.inl rfl))
      simp [lits] at this
      omega
    unfold maxLen at hm
    refine ⟨some x, c, zs.take l, by rw [hlen]; exact e, ?_, fun j hj => ?_, by omega, by omega⟩
    · by_cases h0 : l = 0
      · left
        rw [h0]; rfl
      · right
        obtain ⟨g, o, sp⟩ := x
        have hsp : sp = none := by
          have := hall 0 (by omega)
          simpa [Addr.add] using World.cell?_spot this
        subst hsp
        have h00 := hall 0 (by omega)
        rw [Go.WideShapes.add_plain] at h00
        refine ⟨g, o, rfl, World.block_lt_of_cell? W _ h00, fun i hi => ?_⟩
        have hi' : i < l := by simpa [hlen] using hi
        have := hall i (by omega)
        rw [Go.WideShapes.add_plain] at this
        rw [hget i hi']
        exact this
    · have hj' : j < l := by simpa [hlen] using hj
      rw [hget j hj']
      have hmem : zs.getD j 0 ∈ zs := by
        simp only [List.getD, List.getElem?_eq_getElem (show j < zs.length by omega), Option.getD_some]
        exact List.getElem_mem _
      have := hwf _ hmem
      generalize zs.getD j 0 = z at *
      simp [Lit.wf, IntKind.min, IntKind.max, IntKind.signed, IntKind.bits] at this
      exact ⟨this.1, by omega⟩

def laidR : List (String × DataW Unit) := Rows.chunkReadsRow.laid
theorem reads_lifted (os : Os) (started : os.Started) (H : Type) (enc : TypeId × Value → H) :
    ReturnsInHanded {} Tryd.checked os 4 .any (fun w args => (Rows.chunkReadsSpec.pre enc Tryd.prog Tryd.f4 [] false w args ∧ laidMetH Tryd.prog laidR w) ∧ sizedMet enc Tryd.prog Tryd.f4 (OpenSpec.ofChange Rows.chunkReadsSpec) false w args)
      (Rows.chunkReadsSpec.post enc Tryd.prog Tryd.f4 false true false false) := by
  refine returnsInHanded_of_change_and (C := Tryd.checked) (X := fun w _ => laidMetH Tryd.prog laidR w) (fun _ _ _ hh h => h.of_heap hh) own started (by kernel_rfl) Tryd.func4
    (ChangeSpec.witness_shaped (enc := enc) (C := Tryd.checked) (os := os) (X := fun w _ => laidMetH Tryd.prog laidR w) false (World.laidAll Tryd.prog os laidR) #[.slice none 0 0, .int .i64 0, .int .i64 0] 8 (World.laidAll_os _ _ _)
      (World.shaped_of_ZipB (by kernel_rfl) (by kernel_rfl)) (by kernel_rfl) (by kernel_rfl) (by kernel_rfl)
      (by rw [MakeChecks.laidMetH_plain _ _ _ (by kernel_rfl)]; exact laidMet_laidAll _ (by kernel_rfl) (by kernel_rfl))) ?_
  intro W base args ds gs before hval0 hW _ hz0 hL _
  have hval : ∀ (j : Nat) t v, Tryd.f4.params[j]? = some t → args[j]? = some v → Value.okWide Tryd.prog W .any base t v := hval0
  have hW' := hW
  obtain ⟨p, q, hA0, hV, rfl, _, _⟩ := hW
  have hA : DataW.TrodAll enc Tryd.prog W 0 (fun _ => true) true Tryd.f4.params.toList args.toList ds p := hA0
  have hsz : (DataW.weightsEach Tryd.prog (Tryd.f4.params.toList ++ Rows.chunkReadsSpec.plain.varTypes Tryd.prog) (ds ++ gs)).all (· ≤ reachBytes) = true := hz0
  rw [Tryd.params4] at hA hval hsz
  obtain ⟨v0, v1, v2, d0, d1, d2, p0, p1, p2, rfl, rfl, rfl, h0, h1, h2⟩ := trodAll_three hA
  obtain ⟨rfl, rfl⟩ := trodVars_none hV
  obtain ⟨a0, n0, c0, rfl⟩ := okWide_slice Tryd.underlying38 (hval 0 38 v0 rfl rfl)
  obtain ⟨x1, rfl, rfl, rfl, w1⟩ := open_int Tryd.underlying2 (hval 1 2 v1 rfl rfl) h1
  obtain ⟨x2, rfl, rfl, rfl, w2⟩ := open_int Tryd.underlying2 (hval 2 2 v2 rfl rfl) h2
  have hS : Scl W := scl_of hL (.tail _ (.head _)) (MakeChecks.laidMetH_plain _ _ _ (by kernel_rfl))
  have hT : Tab W := tab_of hL (.head _) (MakeChecks.laidMetH_plain _ _ _ (by kernel_rfl))
  have k0 := h0
  have lt0 : ∀ x ∈ p0, x.block < W.heap.size := by obtain ⟨m, hm⟩ := k0; exact DataW.trod_lt m _ _ _ hm
  have z0 : ∀ n ∈ d0.weights Tryd.prog 38, n ≤ reachBytes := fun n hn => by
    have := List.all_eq_true.1 hsz _ (DataW.weights_mem_each (j := 0) (t := 38) (d := d0) rfl rfl n hn)
    simpa using this
  have walk : Calls Tryd.prog 4 #[.slice a0 n0 c0, .int .i64 x1, .int .i64 x2] W fun e w' => e = .returned (.bool true) ∧ Below W.heap.size W w' := by
    obtain ⟨f0, hf0⟩ := h0
    have hg0 : DataW.trod enc Tryd.prog W 0 (fun _ => true) true f0 38 [.slice a0 n0 c0] = some (d0, p0) := hf0
    obtain ⟨a, c, xs, e1, hi, hx, hc, hn⟩ := bytes_openL hg0 z0
    obtain ⟨rfl, rfl, rfl⟩ : a0 = a ∧ n0 = xs.length ∧ c0 = c := by simpa using e1
    exact reads_walk a0 c0 xs x1 x2 W hi hx hS hT hc (by omega)
  refine walk.mono fun e W' ⟨he, bel⟩ => ?_
  subst he
  exact ⟨_, rfl, _, _, _, [], _, [], hW', trodAll_mk1 (shut_bool Tryd.underlying4 _), trodAll_mk3 (Below.trod laidOut (by kernel_rfl) (of_decide_eq_true (by kernel_rfl)) k0 bel lt0) (shut_int Tryd.underlying2 w1) (shut_int Tryd.underlying2 w2), rfl, bel.frame _, fun h => by cases h⟩

theorem reads_said : Rows.ChunkReadsSaid :=
  OpenClaim.holds_of_wide 4 Tryd.f4 rfl rfl rfl rfl rfl rfl rfl ⟨rfl, rfl, rfl, rfl, rfl⟩ rfl rfl rfl rfl rfl (by kernel_rfl) Tryd.func4 (by kernel_rfl)
    (of_decide_eq_true (by kernel_rfl)) (by unfold Func.isWrapper; first | (rw [if_pos (by decide +kernel)]; kernel_rfl) | (rw [if_neg (by decide +kernel)]; exact ⟨rfl, rfl⟩))
    (fun os started H enc _ => reads_lifted os started H enc)

theorem reads_plain (f : FuncId) (fn : Func) (hf : Tryd.pinned.checked.prog.funcNamed Rows.chunkReadsRow.func = some f) (hfn : Tryd.pinned.checked.prog.funcs[f]? = some fn) :
    false = Tryd.pinned.checked.prog.looks [] ∧ ∀ (j : Nat) t, fn.params[j]? = some t → Tryd.pinned.checked.prog.wantsStandIn t = false := by
  obtain rfl : f = 4 := Option.some.inj ((show Tryd.prog.funcNamed Rows.chunkReadsRow.func = some 4 by kernel_rfl).symm.trans hf) |>.symm
  obtain rfl : fn = Tryd.f4 := (Option.some.inj (Tryd.func4.symm.trans hfn)).symm
  refine ⟨by kernel_rfl, fun j t ht => ?_⟩
  rw [Tryd.params4] at ht
  have hm : t ∈ [38, 2, 2] := by simpa using Array.mem_of_getElem? ht
  have hall : ([38, 2, 2].all fun u => !Tryd.prog.wantsStandIn u) = true := by kernel_rfl
  exact (show Tryd.prog.wantsStandIn t = false by simpa using List.all_eq_true.1 hall t hm)

theorem reads_card : Rows.ChunkReadsCardSaid :=
  Claim7.holds_tied_plain_at .later [] _ _ _ _ reads_said (fun _ h => by cases h) (by kernel_rfl) (fun _ h => by cases h) chunkReads_row_tie rfl ⟨rfl, rfl⟩ (by kernel_rfl) rfl reads_plain (by kernel_rfl)
#print axioms reads_card
end Go.Proofs.YtedlmjieclaojabDoor
