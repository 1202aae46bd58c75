/- A bundle of texts. -/
import Derived.Test.YtbciclnffokjjaaDoorBb21
import Derived.Shelf.LaysM
import Derived.Shelf.Strconv.Clone
/- Trees: Clone; Groups. -/
namespace Go.Proofs
open Go.Shelf Go.RowKit Go.Lib
def YtbciclnffokjjaaDoor.laysM316_ren : Go.Shelf.Ren := ⟨fun | 316 => 37 | n => n, fun | 9 => 9 | 3 => 3 | 4 => 4 | 37 => 70 | 0 => 0 | 127 => 87 | 5 => 5 | n => n, fun | n => n⟩
theorem YtbciclnffokjjaaDoor.laysM316 : Go.Proofs.LaysM.n316 Tryd.prog YtbciclnffokjjaaDoor.laysM316_ren := {
  mixed := by kernel_rfl
  f316 := Tryd.func37.trans (congrArg some (by kernel_rfl))
  t0 := Tryd.underlying0
  a0 := Tryd.isAgg0
  z0 := Tryd.sizeOf0
  v0 := Tryd.zeroValue0
  t3 := Tryd.underlying3
  a3 := Tryd.isAgg3
  z3 := Tryd.sizeOf3
  v3 := Tryd.zeroValue3
  t4 := Tryd.underlying4
  a4 := Tryd.isAgg4
  z4 := Tryd.sizeOf4
  v4 := Tryd.zeroValue4
  t9 := Tryd.underlying9
  a9 := Tryd.isAgg9
  z9 := Tryd.sizeOf9
  v9 := Tryd.zeroValue9
  t37 := Tryd.underlying70
  a37 := Tryd.isAgg70
  z37 := Tryd.sizeOf70
  v37 := Tryd.zeroValue70
  t127 := Tryd.underlying87
  a127 := Tryd.isAgg87
  z127 := Tryd.sizeOf87
  v127 := Tryd.zeroValue87
  t5 := Tryd.underlying5
  a5 := Tryd.isAgg5
  z5 := Tryd.sizeOf5
  v5 := Tryd.zeroValue5
  i0 := by kernel_rfl
  i3 := by kernel_rfl
  i4 := by kernel_rfl
  i5 := by kernel_rfl
  i9 := by kernel_rfl
  i37 := by kernel_rfl
  i127 := by kernel_rfl }
namespace YtbciclnffokjjaaDoor
theorem strings_clone (s : ByteArray) (w : World) (hs : s.size ≤ 281474976710656) : Calls Tryd.prog 24 #[.string s] w fun e w' => e = .returned (.string s) ∧ Below w.heap.size w w' := by
  have k : Calls Tryd.prog 37 #[.string s] w fun e w' => e = .returned (.string s) ∧ Below w.heap.size w w' := Any.stringslite_Clone YtbciclnffokjjaaDoor.laysM316 s w hs
  go_enter Tryd.func24, Tryd.ntmps24
  go_wp2_with fail
  go_fit k
  rintro e w1 ⟨rfl, b⟩
  go_wp2
  go_ret
  exact ⟨rfl, b⟩

theorem up_self (f : Nat → ByteArray) (i : Nat) : up f i (f i) = f := by
  funext j
  by_cases h : j = i
  · subst h; rw [up_same]
  · rw [up_other _ _ _ _ h]
theorem row_mono {w : World} {S S' e s n : Nat} {v : Value} {xs : List Value} (h : w.ownsRow S e s v n xs) (hs : S' ≤ S) : w.ownsRow S' e s v n xs := by
  refine ⟨h.1, ?_⟩
  rcases h.2 with h0 | ⟨g, cap, cur, hv, hB, r⟩
  · exact .inl h0
  · exact .inr ⟨g, cap, cur, hv, by omega, r⟩
theorem groups_idle (w : World) : CallsD Tryd.prog 21 #[] .returning w fun e u' w' => e = .returned (.tuple #[]) ∧ u' = .returning ∧ w' = w := by
  refine callsD_of_wpS Tryd.func21 rfl fun c₀ cs hu => ?_
  apply wpS_region
  simp [wpOpsS, go_sem, recoverD, hu, Tryd.ntmps21]
  refine (reason_nil w).mono ?_
  rintro e w' ⟨rfl, rfl⟩
  cases c₀
  simp_all [bodyPostS, results, Tryd.results21]

set_option maxHeartbeats 1000000 in
set_option maxRecDepth 100000 in
/-- Groups of a valid tree: its names, in a row of one's own. -/
theorem groups_any (t : Tr) (w : World) (s1 : St) (ht : Tat w.heap.size w t) (h : svd t = some s1) (hsz : ∀ j, j < s1.n → (s1.f j).size ≤ 140737488351232) (hn : s1.n ≤ 100) :
    Calls Tryd.prog 11 #[ndV (t [])] w fun e w' => (∃ v, e = .returned v ∧ w'.ownsRow w.heap.size 9 1 v s1.n (sc s1.f s1.n)) ∧ Below w.heap.size w w' := by
  have hb : Below w.heap.size w (w.alloc (ndX (t []))) := (Below.refl _ w).alloc (Nat.le_refl _) _
  have ht' : Tat (w.alloc (ndX (t []))).heap.size (w.alloc (ndX (t []))) t := (ht.below hb).mono hb.size
  have k := surveyed_yes t _ s1 ht' h
  have HB : Hid (Below w.heap.size w (w.alloc (ndX (t [])))) := hb
  have HSZ : Hid (∀ j, j < s1.n → (s1.f j).size ≤ 140737488351232) := hsz
  clear ht ht' h hb hsz
  generalize t [] = d at *
  go_enter_defers Tryd.func11, Tryd.ntmps11
  go_wp2_with fail
  go_fit k
  rintro e w1 ⟨⟨a, c, rfl, hm⟩, b1⟩
  have HM : Hid (Sml w1 a s1.f s1.n) := hm
  have B1 : Hid (Below w.heap.size w w1) := HB.out.trans (b1.mono HB.out.size)
  have hnI : (s1.n : Int) ≤ 100 := by omega
  clear b1 k hm
  have hfl : ∀ W : World, Sem.run Tryd.prog (Instr.field 58 (svV (s1.k : Int) (Value.slice a s1.n c) s1.l) 1) W = .ok (.slice a s1.n c) W := fun _ => by kernel_rfl
  go_wp2_with fail
  go_loopw [2, 9] (fun nv ivv w' => ∃ i : Nat, ivv = .int .i64 (i : Int) ∧ i ≤ s1.n ∧ Hid (w'.ownsRow w1.heap.size 9 1 nv i (sc s1.f i) ∧ Below w1.heap.size w1 w')) (fun _ ivv _ => s1.n - (RowKit.intOf ivv).toNat)
  case atStart => exact ⟨0, rfl, by omega, ⟨rfl, .inl ⟨rfl, rfl⟩⟩, Below.refl _ _⟩
  case round =>
    obtain ⟨i, rfl, hi, hI⟩ := hrel
    obtain ⟨hrow, hbw⟩ := hI.out
    obtain ⟨na, ncc, hnv⟩ : ∃ na ncc, u2 = .slice na i ncc := by
      rcases hrow.2 with ⟨e, e2⟩ | ⟨g, cc, cur, e, _⟩
      · exact ⟨none, 0, by rw [e, e2]⟩
      · exact ⟨_, cc, e⟩
    by_cases hlt : i < s1.n
    · have hii : (i : Int) < s1.n := by omega
      obtain ⟨g1, o1, rfl, hg1, x0⟩ := (HM.out.below hbw).at i hlt
      have kC := strings_clone (s1.f i) wr (by have := HSZ.out i hlt; omega)
      have HROW : Hid (wr.ownsRow w1.heap.size 9 1 u2 i (sc s1.f i)) := hrow
      have HBW : Hid (Below w1.heap.size w1 wr) := hbw
      have hi100 : i ≤ 100 := by omega
      subst hnv
      clear hrow hbw hI
      go_wp2_with fail
      go_fit kC
      rintro e w2 ⟨rfl, b2⟩
      have h2 := (Kp.of (M := fun _ => False) b2).row HROW.out (fun _ _ => id)
      have hb2 := HBW.out.trans (b2.mono HBW.out.size)
      obtain ⟨g, cc, w3, r3, o3, k3, hg3⟩ := append_t w2 w1.heap.size (.slice na i ncc) i s1.f (s1.f i) hb2.size (by omega) h2
      rw [up_self] at o3
      have hb3 : Below w1.heap.size w1 w3 := hb2.trans (k3.below hb2.size (fun j hj e => by
        rcases h2.2 with ⟨e', _⟩ | ⟨G, _, _, e', hG, _⟩
        · rw [e'] at e; cases e
        · rw [e'] at e
          have : G = j := Option.some.inj e
          omega))
      have HO : Hid (w3.ownsRow w1.heap.size 9 1 (.slice (some ⟨g, 0, none⟩) (i + 1) cc) (i + 1) (sc s1.f (i + 1)) ∧ Below w1.heap.size w1 w3) := ⟨o3, hb3⟩
      clear o3 k3 hg3 h2 hb2 hb3 b2 kC x0
      go_wp2_with (at_builtin; refine wpList_append_run rfl (.tmp 13) (.tmp 16) 29 29 rfl _ _ rfl rfl r3 ?_)
      exact ⟨⟨i + 1, by go_num, by omega, HO⟩, by simp [RowKit.intOf]; omega⟩
    · have hii : ¬ (i : Int) < s1.n := by omega
      have hin : i = s1.n := by omega
      have HF : Hid (wr.ownsRow w.heap.size 9 1 u2 s1.n (sc s1.f s1.n) ∧ Below w.heap.size w wr) := by
        subst hin
        exact ⟨row_mono hrow B1.out.size, B1.out.trans (hbw.mono B1.out.size)⟩
      subst hnv
      clear hrow hbw hI hin
      go_wp2
      refine leaves_cons (f := 21) (args := #[]) (by simp) (by simp [go_sem]) ?_
      refine (groups_idle _).mono ?_
      rintro e u' w'' ⟨rfl, rfl, rfl⟩
      simp [Leaves, settle, results, Tryd.results11, go_sem]
      exact HF.out
end YtbciclnffokjjaaDoor
end Go.Proofs
