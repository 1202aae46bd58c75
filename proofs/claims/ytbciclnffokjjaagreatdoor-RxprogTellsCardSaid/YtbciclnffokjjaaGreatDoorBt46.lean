/- A bundle of texts. -/
import Derived.Test.YtbciclnffokjjaaGreatDoorBt45
import Derived.WalkLawsBesides
import Derived.WalkSpells
import Derived.WalkSmall
import Derived.Lib.OthersKept
import Derived.Deep.DeepFit
import Derived.Outline
import Derived.Test.YtbciclnffokjjaaGreatDoorBt23
import Derived.Test.YtbciclnffokjjaaGreatDoorBt25
import Derived.Test.YtbciclnffokjjaaGreatDoorBt30
import Derived.Test.YtbciclnffokjjaaGreatDoorBt24
/- The walks of the reference's Next and Valid. -/
namespace Go.Proofs.YtbciclnffokjjaaGreatDoor
open Go.RowKit Go.Lib

theorem iterPos_atR {w : World} {k : Nat} {s : ByteArray} {pos : Nat} (h : w.heap[k]? = some (.stringIter s pos)) : w.iterPos k = pos := by
  unfold World.iterPos; rw [h]

theorem vld_bad' (s : ByteArray) (b i : Nat) (h : i < s.size) (hb : 0 < b) (hz : (nxt s i).2 = 0) : vld s b i = false := by
  obtain ⟨f, rfl⟩ : ∃ f, b = f + 1 := ⟨b - 1, by omega⟩
  exact vld_bad s f i h hz
theorem vld_good' (s : ByteArray) (b i : Nat) (h : i < s.size) (hb : 0 < b) (hz : (nxt s i).2 ≠ 0) : vld s b i = vld s (b - 1) (i + (Utf8.decode s i).2) := by
  obtain ⟨f, rfl⟩ : ∃ f, b = f + 1 := ⟨b - 1, by omega⟩
  exact vld_good s f i h hz
set_option maxHeartbeats 400000 in
set_option maxRecDepth 100000 in
theorem rnext_out (s : ByteArray) (a : Int) (w : World) (hs : s.size ≤ maxLen) (h : a < 0 ∨ (s.size : Int) ≤ a) :
    Calls Tryz.prog 66 #[.string s, .int .i64 a] w fun e w' => e = .returned (.tuple #[.int .i32 (-1), .int .i64 0]) ∧ Below w.heap.size w w' := by
  unfold maxLen at hs
  rcases h with h | h
  · go_enter Tryz.func66, Tryz.ntmps66
    go_wp2
    go_ret2
    exact ⟨rfl, Below.refl _ _⟩
  · have h0 : ¬ a < 0 := by omega
    go_enter Tryz.func66, Tryz.ntmps66
    go_wp2
    go_ret2
    exact ⟨rfl, Below.refl _ _⟩

theorem hit_bd (s : ByteArray) (i k : Nat) (h1 : 1 ≤ k) (h : hit s i k) : 0 ≤ gs s i k ∧ gs s i k ≤ 1114111 := by
  have hl := h.1
  rw [strOfNums_size] at hl
  by_cases hr : isRune (gs s i k) = true
  · have hq := (isRune_iff _).1 hr
    exact ⟨hq.1, hq.2.1⟩
  · unfold formL at hl
    rw [if_neg hr] at hl
    simp at hl
    omega

set_option maxHeartbeats 1000000 in
set_option maxRecDepth 100000 in
theorem rnext_in (s : ByteArray) (i : Nat) (w : World) (hs : s.size ≤ maxLen) (h : i < s.size) :
    Calls Tryz.prog 66 #[.string s, .int .i64 i] w fun e w' => e = .returned (.tuple #[.int .i32 (nxt s i).1, .int .i64 (nxt s i).2]) ∧ Below w.heap.size w w' := by
  have HS : Hid (s.size ≤ maxLen) := hs
  unfold maxLen at hs
  have h0 : ¬ (i : Int) < 0 := by omega
  have h1 : ¬ (s.size : Int) ≤ i := by omega
  have hlt : i < s.size := h
  clear h
  go_enter Tryz.func66, Tryz.ntmps66
  go_wp2
  go_loopw [6] (fun t w' => ∃ k : Nat, 1 ≤ k ∧ k ≤ 5 ∧ t = .int .i64 k ∧ Below w.heap.size w w' ∧ ∀ v, 1 ≤ v → v < k → i + v ≤ s.size → ¬ hit s i v) (fun t _ => 5 - (RowKit.intOf t).toNat)
  case atStart => exact ⟨1, by omega, by omega, rfl, Below.refl _ _, fun v a b => by omega⟩
  case round =>
    obtain ⟨k, hk1, hk5, rfl, hbw, hno⟩ := hrel
    have HN : Hid (∀ v, 1 ≤ v → v < k → i + v ≤ s.size → ¬ hit s i v) := hno
    clear hno
    by_cases hin : k ≤ 4 ∧ i + k ≤ s.size
    · obtain ⟨hk4, hik⟩ := hin
      have cG := guess_any s i k wr HS.out hk1 hk4 hik
      have cF := form_any (gs s i k) wr
      have hh : hit s i k ↔ (strOfNums (formL (gs s i k))).size = k ∧ s.extract i (i + k) = strOfNums (formL (gs s i k)) := Iff.rfl
      have hyes := ref_hit s i k hk1 hk4 hik
      have hbd := hit_bd s i k hk1
      generalize strOfNums (formL (gs s i k)) = f at *
      generalize gs s i k = g at *
      have HH : Hid (hit s i k ↔ f.size = k ∧ s.extract i (i + k) = f) := hh
      have HY : Hid (hit s i k → nxt s i = (g, (k : Int))) := hyes
      have HB : Hid (hit s i k → 0 ≤ g ∧ g ≤ 1114111) := hbd
      clear hh hyes hbd
      have t1 : (k : Int) ≤ 4 := by omega
      have t2 : (k : Int) ≤ (s.size : Int) - i := by omega
      by_cases hf : f.size = k
      · by_cases he : s.extract i (i + k) = f
        · have hfb : ((f.size : Int) == (k : Int)) = true := by rw [beq_iff_eq]; omega
          have HX : Hid (nxt s i = (g, (k : Int))) := HY.out (HH.out.2 ⟨hf, he⟩)
          obtain ⟨g0, g1⟩ := HB.out (HH.out.2 ⟨hf, he⟩)
          have heb : ((s.extract i (i + k)).toList == f.toList) = true := by rw [he]; simp
          clear he hf
          go_wp2_with (first | (go_at_call 82; go_fit cG; rintro e w' ⟨rfl, rfl⟩) | (go_at_call 46; go_fit cF; rintro e w' ⟨rfl, hb2⟩))
          go_ret2
          exact ⟨by rw [HX.out]; rfl, hbw.trans (hb2.mono hbw.size)⟩
        · have hfb : ((f.size : Int) == (k : Int)) = true := by rw [beq_iff_eq]; omega
          have HE : Hid (¬ s.extract i (i + k) = f) := he
          have heb : ((s.extract i (i + k)).toList == f.toList) = false := by
            rw [beq_eq_false_iff_ne]
            intro hq
            apply HE.out
            rw [Lib.toList_data, Lib.toList_data] at hq
            exact ByteArray.ext (Array.toList_inj.1 hq)
          clear he hf
          go_wp2_with (first | (go_at_call 82; go_fit cG; rintro e w' ⟨rfl, rfl⟩) | (go_at_call 46; go_fit cF; rintro e w' ⟨rfl, hb2⟩))
          exact ⟨⟨k + 1, by omega, by omega, by go_num, hbw.trans (hb2.mono hbw.size), fun v a b c => by
            by_cases hv : v = k
            · subst hv; intro hq; exact HE.out (HH.out.1 hq).2
            · exact HN.out v a (by omega) c⟩, by simp [RowKit.intOf]; omega⟩
      · have hfb : ((f.size : Int) == (k : Int)) = false := by rw [beq_eq_false_iff_ne]; omega
        have HF : Hid (¬ f.size = k) := hf
        clear hf
        go_wp2_with (first | (go_at_call 82; go_fit cG; rintro e w' ⟨rfl, rfl⟩) | (go_at_call 46; go_fit cF; rintro e w' ⟨rfl, hb2⟩))
        exact ⟨⟨k + 1, by omega, by omega, by go_num, hbw.trans (hb2.mono hbw.size), fun v a b c => by
          by_cases hv : v = k
          · subst hv; intro hq; exact HF.out (HH.out.1 hq).1
          · exact HN.out v a (by omega) c⟩, by simp [RowKit.intOf]; omega⟩
    · have HX : Hid (nxt s i = (-1, 0)) := ref_none s i hlt (fun v a b c => HN.out v a (by omega) c)
      by_cases hk4 : k ≤ 4
      · have t1 : (k : Int) ≤ 4 := by omega
        have t2 : ¬ (k : Int) ≤ (s.size : Int) - i := by omega
        clear hin
        go_wp2
        go_ret2
        exact ⟨by rw [HX.out]; rfl, hbw⟩
      · have t1 : ¬ (k : Int) ≤ 4 := by omega
        clear hin
        go_wp2
        go_ret2
        exact ⟨by rw [HX.out]; rfl, hbw⟩

theorem rnext_any (s : ByteArray) (a : Int) (w : World) (hs : s.size ≤ maxLen) :
    Calls Tryz.prog 66 #[.string s, .int .i64 a] w fun e w' => e = .returned (.tuple #[.int .i32 (nxtZ s a).1, .int .i64 (nxtZ s a).2]) ∧ Below w.heap.size w w' := by
  by_cases h0 : a < 0
  · have e1 : nxtZ s a = (-1, 0) := by unfold nxtZ; rw [if_neg (by omega)]
    rw [e1]
    exact rnext_out s a w hs (Or.inl h0)
  · obtain ⟨i, rfl⟩ := Int.eq_ofNat_of_zero_le (show 0 ≤ a by omega)
    have e1 : nxtZ s (i : Int) = nxt s i := by unfold nxtZ; rw [if_pos (by omega)]; simp
    rw [e1]
    by_cases h1 : i < s.size
    · exact rnext_in s i w hs h1
    · rw [nxt_out s i (by omega)]
      exact rnext_out s i w hs (Or.inr (by omega))

theorem decode_le_size (s : ByteArray) (i : Nat) (h : i < s.size) : i + (Utf8.decode s i).2 ≤ s.size := by
  rw [decode_at]
  unfold decodeN
  repeat' split
  all_goals simp
  all_goals omega

end Go.Proofs.YtbciclnffokjjaaGreatDoor
/- The reference's common. -/
namespace Go.Proofs.YtbciclnffokjjaaGreatDoor
open Go.RowKit

theorem nxt_bd (s : ByteArray) (i : Nat) (h : (nxt s i).2 ≠ 0) (hi : i < s.size) : 0 ≤ (nxt s i).1 ∧ 1 ≤ (nxt s i).2 ∧ (i : Int) + (nxt s i).2 ≤ s.size := by
  obtain ⟨h2, h1⟩ := nxt_width s i h
  have h3 := dec_size s i hi
  have h4 := (decode_width s i).1
  rw [h1, h2]
  omega
set_option maxHeartbeats 4000000 in
set_option maxRecDepth 100000 in
theorem rcommon_any (a b : ByteArray) (ha : a.size ≤ 1048576) (hb : b.size ≤ 1048576) (hv : vld a a.size 0 = true) (w : World) :
    Calls Tryz.prog 47 #[.string a, .string b] w fun e w' => e = .returned (.string (a.extract 0 (cmF a b a.size 0))) ∧ Below w.heap.size w w' := by
  have hAI : (a.size : Int) ≤ 1048576 := by omega
  have hBI : (b.size : Int) ≤ 1048576 := by omega
  have hL : a.size ≤ maxLen := by unfold maxLen; omega
  have hL' : b.size ≤ maxLen := by unfold maxLen; omega
  have HV : Hid (vld a a.size 0 = true) := hv
  obtain ⟨E, hE⟩ : ∃ E, E = cmF a b a.size 0 := ⟨_, rfl⟩
  have HE : Hid (cmF a b a.size 0 = E) := hE.symm
  rw [← hE]
  clear hv hE
  go_enter Tryz.func47, Tryz.ntmps47
  go_wp2_with fail
  go_loopw [5] (fun ivv w' => ∃ p : Nat, ivv = .int .i64 (p : Int) ∧ p ≤ a.size ∧ Hid (∃ f, a.size ≤ p + f ∧ vld a f p = true ∧ cmF a b f p = E) ∧ Hid (Below w.heap.size w w')) (fun ivv _ => a.size - (RowKit.intOf ivv).toNat)
  case atStart => exact ⟨0, rfl, Nat.zero_le _, ⟨a.size, by omega, HV.out, HE.out⟩, Below.refl _ _⟩
  case round =>
    clear HV HE
    obtain ⟨p, rfl, hp, hf, hbw⟩ := hrel
    by_cases hlt : p < a.size
    · have hii : (p : Int) < a.size := by omega
      obtain ⟨f, hf1, hf2, hf3⟩ := hf.out
      obtain ⟨f, rfl⟩ : ∃ g, f = g + 1 := ⟨f - 1, by omega⟩
      obtain ⟨hg, hv'⟩ := (vld_step a f p hlt).1 hf2
      have hz := (good_iff a p hlt).1 hg
      unfold cmF at hf3
      rw [if_pos ⟨hlt, hz⟩] at hf3
      obtain ⟨n1, n2, n3⟩ := nxt_bd a p hz hlt
      have n4 := (nxt_width a p hz).1
      have hzb : ((nxt a p).2 == 0) = false := by simpa using hz
      by_cases hlb : p < b.size
      · have hjj : (p : Int) < b.size := by omega
        have kA := rnext_in a p wr hL hlt
        have HKB : Hid (∀ V, Calls Tryz.prog 66 #[.string b, .int .i64 p] V fun e w' => e = .returned (.tuple #[.int .i32 (nxt b p).1, .int .i64 (nxt b p).2]) ∧ Below V.heap.size V w') := fun V => rnext_in b p V hL' hlb
        by_cases he : (nxt b p).1 = (nxt a p).1
        · rw [if_pos he] at hf3
          have HN : Hid (∃ g, a.size ≤ (p + (nxt a p).2.toNat) + g ∧ vld a g (p + (nxt a p).2.toNat) = true ∧ cmF a b g (p + (nxt a p).2.toNat) = E) := by
            refine ⟨f, by omega, ?_, ?_⟩
            · rw [n4, Int.toNat_natCast]; exact hv'
            · rw [n4, Int.toNat_natCast]; exact hf3
          clear hf hf1 hf2 hf3 hg hv' n4 hL hL'
          rw [he] at HKB
          generalize (nxt b p).2 = nb at *
          generalize (nxt b p).1 = rb at *
          generalize (nxt a p).2 = na at *
          generalize (nxt a p).1 = ra at *
          go_wp2_with fail
          go_fit kA
          rintro e w5 ⟨rfl, b5⟩
          have B5 : Hid (Below w.heap.size w w5) := hbw.out.trans (b5.mono hbw.out.size)
          have kB := HKB.out w5
          clear b5 kA HKB
          go_wp2_with fail
          go_fit kB
          rintro e w6 ⟨rfl, b6⟩
          have B6 : Hid (Below w.heap.size w w6) := B5.out.trans (b6.mono B5.out.size)
          clear b6 kB
          go_wp2
          exact ⟨⟨p + na.toNat, by go_num, by omega, HN, B6⟩, by simp [RowKit.intOf]; omega⟩
        · rw [if_neg he] at hf3
          have hne : ((nxt a p).1 == (nxt b p).1) = false := by
            rw [beq_eq_false_iff_ne]
            exact fun e => he e.symm
          have hne2 : ((nxt a p).1 != (nxt b p).1) = true := by rw [bne, hne]; rfl
          have HX : Hid (E = p) := hf3.symm
          clear hf hf1 hf2 hf3 hg hv' n4 hL hL' he
          generalize (nxt b p).2 = nb at *
          generalize (nxt b p).1 = rb at *
          generalize (nxt a p).2 = na at *
          generalize (nxt a p).1 = ra at *
          go_wp2_with fail
          go_fit kA
          rintro e w5 ⟨rfl, b5⟩
          have B5 : Hid (Below w.heap.size w w5) := hbw.out.trans (b5.mono hbw.out.size)
          have kB := HKB.out w5
          clear b5 kA HKB
          go_wp2_with fail
          go_fit kB
          rintro e w6 ⟨rfl, b6⟩
          have B6 : Hid (Below w.heap.size w w6) := B5.out.trans (b6.mono B5.out.size)
          clear b6 kB
          go_wp2
          go_ret
          exact ⟨by rw [HX.out]; rfl, B6.out⟩
      · have hjj : ¬ (p : Int) < b.size := by omega
        have HX : Hid (E = p) := by
          rw [if_neg (by rw [nxt_out b p (by omega)]; show ¬ (-1 : Int) = _; omega)] at hf3
          exact hf3.symm
        clear hf hf1 hf2 hf3 hg hv' n4 hL hL'
        go_wp2
        go_ret
        exact ⟨by rw [HX.out]; rfl, hbw.out⟩
    · have hii : ¬ (p : Int) < a.size := by omega
      have HX : Hid (E = p) := by
        obtain ⟨f, _, _, hf3⟩ := hf.out
        rw [cmF_stop a b _ p (fun h => hlt h.1)] at hf3
        unfold Hid
        omega
      clear hf
      go_wp2
      go_ret
      exact ⟨by rw [HX.out]; rfl, hbw.out⟩
end Go.Proofs.YtbciclnffokjjaaGreatDoor
/- The reference's repeated. -/
namespace Go.Proofs.YtbciclnffokjjaaGreatDoor
open Go.RowKit

def pxV (f : Fr) : Value := .tuple #[.string (bA f.1), .bool f.2]
def PxC (m : Nat) : Prop := ∀ (t : Tr) (w : World), WF m t → lenF m t ≤ 10000 → Tat w.heap.size w t → Calls Tryz.prog 22 #[ndV (t [])] w fun e w' => e = .returned (pxV (frF cmC m t)) ∧ Below w.heap.size w w'
theorem tim_nil : ∀ n, timL [] n = []
  | 0 => rfl
  | n + 1 => by unfold timL; rw [tim_nil n]; rfl
set_option maxHeartbeats 4000000 in
set_option maxRecDepth 100000 in
theorem repeated_any (m : Nat) (hIH : PxC m) (t : Tr) (w : World) (hw : WF (m + 1) t) (hl : lenF (m + 1) t ≤ 10000) (h6 : (t []).kind = 6) (ht : Tat w.heap.size w t) :
    Calls Tryz.prog 48 #[ndV (t [])] w fun e w' => e = .returned (pxV (repF (frF cmC m (kid t 0)) (t []).mn (t []).mx)) ∧ Below w.heap.size w w' := by
  have hkid := lenF_kid hw hl
  obtain ⟨⟨hnd, _⟩, hkn, hk⟩ := hw
  obtain ⟨rm0, rm1, rm2, rmx⟩ := ndB_rep hnd h6
  have hb : Below w.heap.size w (w.alloc (ndX (t []))) := (Below.refl _ w).alloc (Nat.le_refl _) _
  have ht1 := (ht.below hb).mono hb.size
  have HKN : Hid ((t []).mx ≠ 0 → (Calls Tryz.prog 22 #[ndV (t [0])] (w.alloc (ndX (t []))) fun e w' => e = .returned (pxV (frF cmC m (kid t 0))) ∧ Below (w.alloc (ndX (t []))).heap.size (w.alloc (ndX (t []))) w') ∧ (frF cmC m (kid t 0)).1.length ≤ 40000) := fun hx => by
    have h2 := hkid (fun e => hx e.2) 0 (by omega)
    refine ⟨hIH (kid t 0) _ (hk 0 (by omega)) h2 (ht1.kid 0 (by omega)), ?_⟩
    have := fr_len m (kid t 0) (hk 0 (by omega)) h2
    omega
  obtain ⟨g, o, hka, hg, hcs⟩ := ht1.kids.at 0 (by omega)
  obtain ⟨p0, p1, p2, p3, p4, p5, p6, p7, p8⟩ := hcs
  simp only [Nat.zero_mul, Nat.add_zero] at p0 p1 p2 p3 p4 p5 p6 p7 p8
  have HX : Hid (∀ V, Below (w.alloc (ndX (t []))).heap.size (w.alloc (ndX (t []))) V → V.cell? ⟨w.heap.size, 3, none⟩ = some (.int .i64 (t []).mn) ∧ V.cell? ⟨w.heap.size, 4, none⟩ = some (.int .i64 (t []).mx) ∧ Below w.heap.size w V) := fun V b => by
    have x := box_lo w (t []) b
    have e3 := x.c3
    have e4 := x.c4
    rw [Nat.zero_add] at e3 e4
    exact ⟨e3, e4, hb.trans (b.mono hb.size)⟩
  obtain ⟨x0, x1, x2, x3, x4, x5, x6, x7, x8⟩ := box_lo w (t []) (Below.refl _ (w.alloc (ndX (t []))))
  simp only [Nat.zero_add] at x0 x1 x2 x3 x4 x5 x6 x7 x8
  rw [hka, rm0] at x8
  have HB : Hid _ := hb
  obtain ⟨W, hW⟩ : ∃ W, W = w.alloc (ndX (t [])) := ⟨_, rfl⟩
  rw [← hW] at x0 x1 x2 x3 x4 x5 x6 x7 x8 p0 p1 p2 p3 p4 p5 p6 p7 p8 HKN HB HX
  have HW : Hid (w.alloc (ndX (t [])) = W) := hW.symm
  clear hW hka hg hb ht1 ht hk hkid hkn hnd hIH hl rm0 h6
  obtain ⟨f, hf⟩ : ∃ f, frF cmC m (kid t 0) = f := ⟨_, rfl⟩
  rw [hf] at HKN ⊢
  clear hf
  generalize t [0] = dk at *
  generalize t [] = d at *
  obtain ⟨l, e⟩ := f
  by_cases hx : d.mx = 0
  · have HE : Hid (repF (l, e) d.mn d.mx = ([], true)) := by unfold Hid repF; rw [if_pos hx]
    rw [hx] at x4
    rw [HE.out]
    clear HKN HX hx
    go_enter Tryz.func48, Tryz.ntmps48
    go_upto_region 1 with fail
    rw [HW.out]
    go_wp2
    go_ret2
    exact ⟨rfl, HB.out⟩
  · have tx : (d.mx == 0) = false := by simpa using hx
    obtain ⟨kC, hlen⟩ := HKN.out hx
    have HE : Hid (repF (l, e) d.mn d.mx = if d.mn = 0 then ([], e && l == []) else if e = false then (l, e) else (timL l d.mn.toNat, (e && l == []) || d.mx == d.mn)) := by
      unfold Hid repF
      rw [if_neg hx]
    have HLN : Hid (l.length ≤ 40000) := hlen
    have hnil := bA_nil l
    clear hlen HKN
    unfold pxV at kC
    by_cases hm : d.mn = 0
    · rw [if_pos hm] at HE
      rw [HE.out]
      have HM0 : Hid (d.mn = 0) := hm
      clear hm rm1 rm2 rmx
      cases e with
      | false =>
        go_enter Tryz.func48, Tryz.ntmps48
        go_upto_region 1 with fail
        rw [HW.out]
        go_wp2_with fail
        go_fit kC
        rintro e w1 ⟨rfl, b1⟩
        obtain ⟨x3, x4, hb1⟩ := HX.out w1 b1
        have HB1 : Hid _ := hb1
        rw [HM0.out] at x3
        clear kC b1 hb1 HX
        go_wp2
        go_ret2
        exact ⟨rfl, HB1.out⟩
      | true =>
        by_cases hl : l = []
        · subst hl
          go_enter Tryz.func48, Tryz.ntmps48
          go_upto_region 1 with fail
          rw [HW.out]
          go_wp2_with fail
          go_fit kC
          rintro e w1 ⟨rfl, b1⟩
          obtain ⟨x3, x4, hb1⟩ := HX.out w1 b1
          have HB1 : Hid _ := hb1
          rw [HM0.out] at x3
          clear kC b1 hb1 HX
          go_wp2
          go_ret2
          exact ⟨rfl, HB1.out⟩
        · have hlb : (l == []) = false := by simpa using hl
          rw [hlb] at hnil
          rw [hlb]
          go_enter Tryz.func48, Tryz.ntmps48
          go_upto_region 1 with fail
          rw [HW.out]
          go_wp2_with fail
          go_fit kC
          rintro e w1 ⟨rfl, b1⟩
          obtain ⟨x3, x4, hb1⟩ := HX.out w1 b1
          have HB1 : Hid _ := hb1
          rw [HM0.out] at x3
          clear kC b1 hb1 HX
          go_wp2
          go_ret2
          exact ⟨rfl, HB1.out⟩
    · have tm : (d.mn == 0) = false := by simpa using hm
      rw [if_neg hm] at HE
      cases e with
      | false =>
        rw [if_pos rfl] at HE
        rw [HE.out]
        go_enter Tryz.func48, Tryz.ntmps48
        go_upto_region 1 with fail
        rw [HW.out]
        go_wp2_with fail
        go_fit kC
        rintro e w1 ⟨rfl, b1⟩
        obtain ⟨x3, x4, hb1⟩ := HX.out w1 b1
        have HB1 : Hid _ := hb1
        clear kC b1 hb1 HX
        go_wp2
        go_ret2
        exact ⟨rfl, HB1.out⟩
      | true =>
        rw [if_neg (by simp)] at HE
        by_cases hl : l = []
        · subst hl
          rw [tim_nil] at HE
          rw [HE.out]
          go_enter Tryz.func48, Tryz.ntmps48
          go_upto_region 1 with fail
          rw [HW.out]
          go_wp2_with fail
          go_fit kC
          rintro e w1 ⟨rfl, b1⟩
          obtain ⟨x3, x4, hb1⟩ := HX.out w1 b1
          have HB1 : Hid _ := hb1
          clear kC b1 hb1 HX
          go_wp2
          go_ret2
          exact ⟨rfl, HB1.out⟩
        · have hlb : (l == []) = false := by simpa using hl
          rw [hlb] at hnil
          rw [hlb, Bool.and_false, Bool.false_or] at HE
          obtain ⟨M, hM⟩ : ∃ M : Nat, d.mn = (M : Int) := ⟨d.mn.toNat, by omega⟩
          have HE2 : Hid (repF (l, true) d.mn d.mx = (timL l M, d.mx == d.mn)) := by
            unfold Hid
            rw [HE.out, hM, Int.toNat_natCast]
          have hMI : (M : Int) ≤ 1000 := by omega
          have HMN : Hid (d.mn = (M : Int)) := hM
          rw [HE2.out]
          clear HE hM hl
          go_enter Tryz.func48, Tryz.ntmps48
          go_upto_region 1 with fail
          rw [HW.out]
          go_wp2_with fail
          go_fit kC
          rintro e w1 ⟨rfl, b1⟩
          obtain ⟨x3, x4, hb1⟩ := HX.out w1 b1
          have HB1 : Hid _ := hb1
          clear kC b1 hb1 HX
          go_wp2_with fail
          clear x0 x1 x2 x5 x6 x7 x8 p0 p1 p2 p3 p4 p5 p6 p7 p8
          go_loopw [6, 7] (fun sv ivv w' => ∃ i : Nat, ivv = .int .i64 (i : Int) ∧ i ≤ M ∧ sv = .string (bA (timL l i)) ∧ w' = w1) (fun _ ivv _ => M - (RowKit.intOf ivv).toNat)
          case atStart => exact ⟨0, rfl, Nat.zero_le _, rfl, rfl⟩
          case round =>
            obtain ⟨i, rfl, hi, rfl, rfl⟩ := hrel
            rw [HMN.out] at x3
            by_cases hlt : i < M
            · have hii : (i : Int) < M := by omega
              have hadd : ∀ V, (Op.stringOp .add (bA (timL l i)) (bA l)).run Tryz.prog V = .ok (.string (bA (timL l (i + 1)))) V := fun V => by
                rw [str_add _ _ (by
                  rw [bA_size, bA_size, timL_len]
                  have h1 := HLN.out
                  have h2 : i * l.length ≤ 1000 * 40000 := Nat.mul_le_mul (by omega) h1
                  omega) V, ← bA_app]
                rfl
              clear hnil hlb
              go_wp2
              exact ⟨⟨i + 1, by go_num, by omega, by first | rfl | trivial, by first | rfl | trivial⟩, by simp [RowKit.intOf]; omega⟩
            · have hii : ¬ (i : Int) < M := by omega
              obtain rfl : i = M := by omega
              clear hnil hlb
              go_wp2_with fail
              go_big_quiet (fail)
              go_wp2
              go_ret2
              exact ⟨ret_tup (by rw [HMN.out]; rfl), Below.drewN HB1.out _⟩
end Go.Proofs.YtbciclnffokjjaaGreatDoor
