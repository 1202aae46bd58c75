/- inOrder. -/
import Derived.Test.YtfjfpplemgjcmaaCe
import Derived.Test.YtfjfpplemgjcmaaEx
namespace Go.Proofs.Ytfjfpplemgjcmaa
open Go.RowKit

/-- Has the bucket a bound? -/
def nn (u : Bk) : Bool := !nanB u.1
set_option maxHeartbeats 2000000 in
set_option maxRecDepth 100000 in
theorem inOrder_any (a : Option Addr) (c n : Nat) (bs : Nat → Bk) (w : World) (hf : Bml w a bs n) (hl : 16 * n ≤ 140737488355328) :
    Calls Try.prog 38 #[.slice a n c] w fun r w' => ∃ v k f, r = .returned v ∧ Br w' w.heap.size v k f ∧ k ≤ n ∧ Sim kb ((seg bs 0 n).filter nn) (seg f 0 k) ∧ Up kb (seg f 0 k) ∧ Below w.heap.size w w' := by
  have hsf := @run_store_float Try.prog
  have HF : Hid (Bml w a bs n) := hf
  obtain ⟨G, hG⟩ : ∃ G, G = w.heap.size := ⟨_, rfl⟩
  rw [← hG]
  have HG : Hid (G = w.heap.size) := hG
  clear hf hG
  go_enter Try.func38, Try.ntmps38
  go_wp2
  go_loopw [3, 8] (fun ov iv w' => ∃ (i k : Nat) (f : Nat → Bk) (A : Option Addr) (C : Nat), iv = .int .i64 (i : Int) ∧ i ≤ n ∧ k ≤ i ∧ ov = .slice A k C ∧ Hid (Br w' G (.slice A k C) k f) ∧ Hid (seg f 0 k = (seg bs 0 i).filter nn) ∧ Below G w w') (fun _ iv _ => n - (RowKit.intOf iv).toNat)
  case atStart => exact ⟨0, 0, bs, none, 0, rfl, by omega, by omega, rfl, Br.nil _ _ _, rfl, by rw [HG.out]; exact Below.refl _ _⟩
  case round =>
    obtain ⟨i, k, f, A, C, rfl, hi, hk, rfl, o, hs, hb⟩ := hrel
    have hGw : G ≤ wr.heap.size := by rw [HG.out]; rw [HG.out] at hb; exact hb.size
    by_cases hlt : i < n
    · have hii : (i : Int) < n := by omega
      rcases HF.out with h0 | ⟨g, of_, rfl, hg, hat⟩
      · omega
      rw [← HG.out] at hg
      obtain ⟨f1, f2⟩ := hat i hlt
      have q1 := (hb.cell (p := ⟨g, of_ + i * 2, none⟩) hg).trans f1
      have q2 := (hb.cell (p := ⟨g, of_ + i * 2 + 1, none⟩) hg).trans f2
      have HI : Hid (i + 1 ≤ n) := hlt
      have hseg : seg bs 0 (i + 1) = seg bs 0 i ++ [bs i] := by rw [seg_add, Nat.zero_add]; rfl
      obtain ⟨u, hu⟩ : ∃ u, bs i = u := ⟨_, rfl⟩
      rw [hu] at q1 q2 hseg
      have kN := isNaN_any u.1
      clear f1 f2 hat hu
      cases hn : nanB u.1
      · rw [hn] at kN
        obtain ⟨v', w', r1, o', b'⟩ := append_b (wr.alloc (.cells #[.float .f64 u.1, .float .f64 u.2] 34)) G (.slice A k C) k f u (by simp; omega) (by omega) (World.ownsRow.alloc o.out _)
        have hs2 : Hid (seg (up f k u) 0 (k + 1) = (seg bs 0 (i + 1)).filter nn) := by
          show _ = _
          have : nn u = true := by unfold nn; rw [hn]; rfl
          rw [seg_up, hs.out, hseg, List.filter_append]
          simp [this]
        obtain ⟨A', C', rfl, _, _⟩ := o'.bml
        have O' : Hid _ := o'
        have B' : Hid (Below G w w') := (hb.alloc hGw _).trans b'
        clear o' b' hseg o
        obtain ⟨xu, xc⟩ := u
        dsimp only at q1 q2 r1 kN
        have hsz : (wr.alloc (.cells #[.float .f64 xu, .float .f64 xc] 34)).heap.size = wr.heap.size + 1 := by simp
        rw [hsz] at r1
        clear hsz
        go_wp2_with fail
        go_fit (kN _)
        rintro r w2 ⟨rfl, rfl⟩
        go_wp2_with (at_builtin; refine wpList_append_run rfl (.tmp 16) (.tmp 18) 36 36 rfl _ _ rfl rfl r1 ?_)
        exact ⟨⟨i + 1, k + 1, up f k (xu, xc), A', C', by go_num, HI, by omega, rfl, O', hs2, B'.out⟩, by simp [RowKit.intOf]; omega⟩
      · rw [hn] at kN
        have hs2 : Hid (seg f 0 k = (seg bs 0 (i + 1)).filter nn) := by
          show _ = _
          have : nn u = false := by unfold nn; rw [hn]; rfl
          rw [hs.out, hseg, List.filter_append]
          simp [this]
        have O' : Hid (Br (wr.alloc (.cells #[.float .f64 u.1, .float .f64 u.2] 34)) G (.slice A k C) k f) := World.ownsRow.alloc o.out _
        have B' : Hid (Below G w (wr.alloc (.cells #[.float .f64 u.1, .float .f64 u.2] 34))) := hb.alloc hGw _
        clear hseg o
        obtain ⟨xu, xc⟩ := u
        dsimp only at q1 q2 kN O' B'
        go_wp2_with fail
        go_fit (kN _)
        rintro r w2 ⟨rfl, rfl⟩
        go_wp2
        exact ⟨⟨i + 1, k, f, A, C, by go_num, HI, by omega, rfl, O', hs2, B'.out⟩, by simp [RowKit.intOf]; omega⟩
    · have hii : ¬ (i : Int) < n := by omega
      have e : i = n := by omega
      subst e
      rcases o.out.parts with ⟨hv, h0⟩ | ⟨g, c2, hv, hr, hc⟩
      · cases hv
        have kS := sortNil_any
        have HS0 : Hid ([] = (seg bs 0 i).filter nn) := hs.out
        go_wp2_with fail
        go_fit (kS _)
        rintro r w2 ⟨rfl, rfl⟩
        go_wp2
        go_ret
        exact ⟨_, 0, bs, rfl, Br.nil _ _ _, Nat.zero_le _, by rw [← HS0.out]; exact Sim.refl _, List.Pairwise.nil, hb⟩
      · cases hv
        have kS := sortStableB_any G g C k f wr hr (by omega)
        have HS0 : Hid (seg f 0 k = (seg bs 0 i).filter nn) := hs.out
        clear hr hc hs o
        go_wp2_with fail
        go_fit kS
        rintro r w2 ⟨rfl, ⟨f', h1, h2, h3⟩, hb2⟩
        have FIN : Hid (Br w2 G (.slice (some ⟨g, 0, none⟩) k C) k f' ∧ Sim kb ((seg bs 0 i).filter nn) (seg f' 0 k) ∧ Up kb (seg f' 0 k)) := by
          refine ⟨h1, ?_, ?_⟩
          · rw [← HS0.out]
            have := h2.2
            rw [Nat.sub_zero] at this
            exact this
          · exact Srt.up (by rw [Nat.zero_add]; exact h3)
        have B2 := hb.trans hb2
        clear h1 h2 h3 hb2 kS
        go_wp2
        go_ret
        exact ⟨_, k, f', rfl, FIN.out.1, hk, FIN.out.2.1, FIN.out.2.2, B2⟩
end Go.Proofs.Ytfjfpplemgjcmaa
