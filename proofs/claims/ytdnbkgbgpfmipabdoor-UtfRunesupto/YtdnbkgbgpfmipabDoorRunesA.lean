/- UtfRunes: utf.Runes, the reference's Runes, and the law's own num. -/
import Derived.Test.YtdnbkgbgpfmipabDoorRs
import Derived.Test.YtdnbkgbgpfmipabDoorAlsB
namespace Go.Proofs.YtdnbkgbgpfmipabDoor
open Go.RowKit Go.Lib

theorem al_rns (s : ByteArray) : ∀ f p, s.size ≤ p + f → vld s f p = true → (alF s f p).map (·.2) = rns s f p
  | 0, _, _, _ => rfl
  | f + 1, p, h, hv => by
    by_cases hl : p < s.size
    · obtain ⟨hg, hv2⟩ := (vld_step s f p hl).1 hv
      have hz := (good_iff s p hl).1 hg
      obtain ⟨e1, e2⟩ := nxt_width s p hz
      have hw := (decode_width s p).1
      rw [alF_go s f p hl hz, List.map_cons, al_rns s f _ (by omega) hv2, e2]
      unfold rns
      rw [if_pos hl]
      cases f <;> rfl
    · rw [alF_stop s (f + 1) p (fun x => hl x.1), rns_end s (f + 1) p hl]
      rfl
/-- The runes that a text has, and the error. -/
def rl (s : ByteArray) : List Int := if vld s s.size 0 = true then rns s s.size 0 else []
def re (s : ByteArray) : Int := if vld s s.size 0 = true then 0 else 4
theorem qc_rns (s : ByteArray) (hv : vld s s.size 0 = true) : qcells (al s) = rcells (rns s s.size 0) ∧ (al s).length = (rns s s.size 0).length := by
  have := al_rns s s.size 0 (by omega) hv
  unfold al
  rw [← this]
  exact ⟨by simp [qcells, rcells], by simp⟩

theorem num_any (n : Int) (w : World) : Calls Tryd.prog 16 #[.int .i64 n] w fun e w' => e = .returned (.int .i64 n) ∧ w' = w := by
  go_enter Tryd.func16, Tryd.ntmps16
  go_wp2
  go_ret
  exact ⟨rfl, rfl⟩

set_option maxHeartbeats 1000000 in
theorem runes_any (s : ByteArray) (w : World) (hs : s.size ≤ 16777216) (hT : Lib.Utf8Tabs 1 2 w) :
    Calls Tryd.prog 15 #[.string s] w fun e w' => ∃ v, e = .returned (.tuple #[v, .int .i64 (re s)]) ∧ w'.ownsRow w.heap.size 21 1 v (rl s).length (rcells (rl s)) ∧ Below w.heap.size w w' := by
  unfold re rl
  cases hv : vld s s.size 0 with
  | true =>
    rw [if_pos rfl, if_pos rfl]
    refine (runes_ok s w (by omega) hT hv).mono ?_
    rintro e w' ⟨g, cap, rfl, o, b⟩
    exact ⟨_, rfl, o, b⟩
  | false =>
    rw [if_neg (by simp), if_neg (by simp)]
    have k1 := valid_any s w (by unfold maxLen; omega) hT
    rw [hv] at k1
    clear hv hT
    go_enter Tryd.func15, Tryd.ntmps15
    go_wp2_with (go_at_call 29; go_fit k1; rintro e w1 ⟨rfl, hb⟩)
    go_ret2
    exact ⟨_, rfl, World.ownsRow_nil _ _ _ _, hb⟩

set_option maxHeartbeats 1000000 in
theorem rrunes_any (s : ByteArray) (w : World) (hs : s.size ≤ 1048576) :
    Calls Tryd.prog 14 #[.string s] w fun e w' => ∃ v, e = .returned (.tuple #[v, .int .i64 (re s)]) ∧ w'.ownsRow w.heap.size 21 1 v (rl s).length (rcells (rl s)) ∧ Below w.heap.size w w' := by
  have k1 := rvalid_any s w (by unfold maxLen; omega)
  have k2 := fun w' => rall_any s w' hs
  unfold re rl
  cases hv : vld s s.size 0 with
  | true =>
    rw [if_pos rfl, if_pos rfl]
    rw [hv] at k1
    obtain ⟨e1, e2⟩ := qc_rns s hv
    rw [e1, e2] at k2
    clear hv e1 e2
    generalize rns s s.size 0 = xs at *
    go_enter Tryd.func14, Tryd.ntmps14
    go_wp2_with fail
    go_fit k1
    rintro e w1 ⟨rfl, b1⟩
    go_wp2_with fail
    go_fit (k2 _)
    rintro e w2 ⟨v1, v2, rfl, _, o2, b2⟩
    have HO : Hid (w2.ownsRow w1.heap.size 21 1 v2 xs.length (rcells xs)) := o2
    clear o2
    go_wp2
    go_ret2
    refine ⟨v2, rfl, ?_, b1.trans (b2.mono b1.size)⟩
    refine ⟨HO.out.1, ?_⟩
    rcases HO.out.2 with h0 | ⟨g, cap, cur, hv, hb, r⟩
    · exact .inl h0
    · exact .inr ⟨g, cap, cur, hv, Nat.le_trans b1.size hb, r⟩
  | false =>
    rw [if_neg (by simp), if_neg (by simp)]
    rw [hv] at k1
    clear hv k2
    go_enter Tryd.func14, Tryd.ntmps14
    go_wp2_with fail
    go_fit k1
    rintro e w1 ⟨rfl, b1⟩
    go_wp2
    go_ret2
    exact ⟨_, rfl, World.ownsRow_nil _ _ _ _, b1⟩
end Go.Proofs.YtdnbkgbgpfmipabDoor
