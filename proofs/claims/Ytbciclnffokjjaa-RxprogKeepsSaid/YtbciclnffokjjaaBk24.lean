/- A bundle of texts. -/
import Derived.Test.YtbciclnffokjjaaBk23
import Derived.Shelf.LaysM
import Derived.Shelf.Strconv.Clone
/- Trees: Clone; Groups. -/
namespace Go.Proofs
open Go.Shelf Go.RowKit Go.Lib
def Ytbciclnffokjjaa.laysM316_ren : Go.Shelf.Ren := ⟨fun | 316 => 67 | n => n, fun | 9 => 9 | 3 => 3 | 4 => 4 | 37 => 122 | 0 => 0 | 127 => 123 | 5 => 5 | n => n, fun | n => n⟩
theorem Ytbciclnffokjjaa.laysM316 : Go.Proofs.LaysM.n316 Try.prog Ytbciclnffokjjaa.laysM316_ren := {
  mixed := by kernel_rfl
  f316 := Try.func67.trans (congrArg some (by kernel_rfl))
  t0 := Try.underlying0
  a0 := Try.isAgg0
  z0 := Try.sizeOf0
  v0 := Try.zeroValue0
  t3 := Try.underlying3
  a3 := Try.isAgg3
  z3 := Try.sizeOf3
  v3 := Try.zeroValue3
  t4 := Try.underlying4
  a4 := Try.isAgg4
  z4 := Try.sizeOf4
  v4 := Try.zeroValue4
  t9 := Try.underlying9
  a9 := Try.isAgg9
  z9 := Try.sizeOf9
  v9 := Try.zeroValue9
  t37 := Try.underlying122
  a37 := Try.isAgg122
  z37 := Try.sizeOf122
  v37 := Try.zeroValue122
  t127 := Try.underlying123
  a127 := Try.isAgg123
  z127 := Try.sizeOf123
  v127 := Try.zeroValue123
  t5 := Try.underlying5
  a5 := Try.isAgg5
  z5 := Try.sizeOf5
  v5 := Try.zeroValue5
  i0 := by kernel_rfl
  i3 := by kernel_rfl
  i4 := by kernel_rfl
  i5 := by kernel_rfl
  i9 := by kernel_rfl
  i37 := by kernel_rfl
  i127 := by kernel_rfl }
namespace Ytbciclnffokjjaa
theorem strings_clone (s : ByteArray) (w : World) (hs : s.size ≤ 281474976710656) : Calls Try.prog 46 #[.string s] w fun e w' => e = .returned (.string s) ∧ Below w.heap.size w w' := by
  have k : Calls Try.prog 67 #[.string s] w fun e w' => e = .returned (.string s) ∧ Below w.heap.size w w' := Any.stringslite_Clone Ytbciclnffokjjaa.laysM316 s w hs
  go_enter Try.func46, Try.ntmps46
  go_wp2_with fail
  go_fit k
  rintro e w1 ⟨rfl, b⟩
  go_wp2
  go_ret
  exact ⟨rfl, b⟩

theorem up_self (f : Nat → ByteArray) (i : Nat) : up f i (f i) = f := by
  funext j
  by_cases h : j = i
  · subst h; rw [up_same]
  · rw [up_other _ _ _ _ h]
theorem row_mono {w : World} {S S' e s n : Nat} {v : Value} {xs : List Value} (h : w.ownsRow S e s v n xs) (hs : S' ≤ S) : w.ownsRow S' e s v n xs := by
  refine ⟨h.1, ?_⟩
  rcases h.2 with h0 | ⟨g, cap, cur, hv, hB, r⟩
  · exact .inl h0
  · exact .inr ⟨g, cap, cur, hv, by omega, r⟩
theorem groups_idle (w : World) : CallsD Try.prog 43 #[] .returning w fun e u' w' => e = .returned (.tuple #[]) ∧ u' = .returning ∧ w' = w := by
  refine callsD_of_wpS Try.func43 rfl fun c₀ cs hu => ?_
  apply wpS_region
  simp [wpOpsS, go_sem, recoverD, hu, Try.ntmps43]
  refine (reason_nil w).mono ?_
  rintro e w' ⟨rfl, rfl⟩
  cases c₀
  simp_all [bodyPostS, results, Try.results43]

set_option maxHeartbeats 1000000 in
set_option maxRecDepth 100000 in
/-- Groups of a valid tree: its names, in a row of one's own. -/
theorem groups_any (t : Tr) (w : World) (s1 : St) (ht : Tat w.heap.size w t) (h : svd t = some s1) (hsz : ∀ j, j < s1.n → (s1.f j).size ≤ 140737488351232) (hn : s1.n ≤ 100) :
    Calls Try.prog 26 #[ndV (t [])] w fun e w' => (∃ v, e = .returned v ∧ w'.ownsRow w.heap.size 9 1 v s1.n (sc s1.f s1.n)) ∧ Below w.heap.size w w' := by
  have hb : Below w.heap.size w (w.alloc (ndX (t []))) := (Below.refl _ w).alloc (Nat.le_refl _) _
  have ht' : Tat (w.alloc (ndX (t []))).heap.size (w.alloc (ndX (t []))) t := (ht.below hb).mono hb.size
  have k := surveyed_yes t _ s1 ht' h
  have HB : Hid (Below w.heap.size w (w.alloc (ndX (t [])))) := hb
  have HSZ : Hid (∀ j, j < s1.n → (s1.f j).size ≤ 140737488351232) := hsz
  clear ht ht' h hb hsz
  generalize t [] = d at *
  go_enter_defers Try.func26, Try.ntmps26
  go_wp2_with fail
  go_fit k
  rintro e w1 ⟨⟨a, c, rfl, hm⟩, b1⟩
  have HM : Hid (Sml w1 a s1.f s1.n) := hm
  have B1 : Hid (Below w.heap.size w w1) := HB.out.trans (b1.mono HB.out.size)
  have hnI : (s1.n : Int) ≤ 100 := by omega
  clear b1 k hm
  have hfl : ∀ W : World, Sem.run Try.prog (Instr.field 81 (svV (s1.k : Int) (Value.slice a s1.n c) s1.l) 1) W = .ok (.slice a s1.n c) W := fun _ => by kernel_rfl
  go_wp2_with fail
  go_loopw [2, 9] (fun nv ivv w' => ∃ i : Nat, ivv = .int .i64 (i : Int) ∧ i ≤ s1.n ∧ Hid (w'.ownsRow w1.heap.size 9 1 nv i (sc s1.f i) ∧ Below w1.heap.size w1 w')) (fun _ ivv _ => s1.n - (RowKit.intOf ivv).toNat)
  case atStart => exact ⟨0, rfl, by omega, ⟨rfl, .inl ⟨rfl, rfl⟩⟩, Below.refl _ _⟩
  case round =>
    obtain ⟨i, rfl, hi, hI⟩ := hrel
    obtain ⟨hrow, hbw⟩ := hI.out
    obtain ⟨na, ncc, hnv⟩ : ∃ na ncc, u2 = .slice na i ncc := by
      rcases hrow.2 with ⟨e, e2⟩ | ⟨g, cc, cur, e, _⟩
      · exact ⟨none, 0, by rw [e, e2]⟩
      · exact ⟨_, cc, e⟩
    by_cases hlt : i < s1.n
    · have hii : (i : Int) < s1.n := by omega
      obtain ⟨g1, o1, rfl, hg1, x0⟩ := (HM.out.below hbw).at i hlt
      have kC := strings_clone (s1.f i) wr (by have := HSZ.out i hlt; omega)
      have HROW : Hid (wr.ownsRow w1.heap.size 9 1 u2 i (sc s1.f i)) := hrow
      have HBW : Hid (Below w1.heap.size w1 wr) := hbw
      have hi100 : i ≤ 100 := by omega
      subst hnv
      clear hrow hbw hI
      go_wp2_with fail
      go_fit kC
      rintro e w2 ⟨rfl, b2⟩
      have h2 := (Kp.of (M := fun _ => False) b2).row HROW.out (fun _ _ => id)
      have hb2 := HBW.out.trans (b2.mono HBW.out.size)
      obtain ⟨g, cc, w3, r3, o3, k3, hg3⟩ := append_t w2 w1.heap.size (.slice na i ncc) i s1.f (s1.f i) hb2.size (by omega) h2
      rw [up_self] at o3
      have hb3 : Below w1.heap.size w1 w3 := hb2.trans (k3.below hb2.size (fun j hj e => by
        rcases h2.2 with ⟨e', _⟩ | ⟨G, _, _, e', hG, _⟩
        · rw [e'] at e; cases e
        · rw [e'] at e
          have : G = j := Option.some.inj e
          omega))
      have HO : Hid (w3.ownsRow w1.heap.size 9 1 (.slice (some ⟨g, 0, none⟩) (i + 1) cc) (i + 1) (sc s1.f (i + 1)) ∧ Below w1.heap.size w1 w3) := ⟨o3, hb3⟩
      clear o3 k3 hg3 h2 hb2 hb3 b2 kC x0
      go_wp2_with (at_builtin; refine wpList_append_run rfl (.tmp 13) (.tmp 16) 23 23 rfl _ _ rfl rfl r3 ?_)
      exact ⟨⟨i + 1, by go_num, by omega, HO⟩, by simp [RowKit.intOf]; omega⟩
    · have hii : ¬ (i : Int) < s1.n := by omega
      have hin : i = s1.n := by omega
      have HF : Hid (wr.ownsRow w.heap.size 9 1 u2 s1.n (sc s1.f s1.n) ∧ Below w.heap.size w wr) := by
        subst hin
        exact ⟨row_mono hrow B1.out.size, B1.out.trans (hbw.mono B1.out.size)⟩
      subst hnv
      clear hrow hbw hI hin
      go_wp2
      refine leaves_cons (f := 43) (args := #[]) (by simp) (by simp [go_sem]) ?_
      refine (groups_idle _).mono ?_
      rintro e u' w'' ⟨rfl, rfl, rfl⟩
      simp [Leaves, settle, results, Try.results26, go_sem]
      exact HF.out
end Ytbciclnffokjjaa
end Go.Proofs
