/- SpanRound: every input. -/
import Derived.Test.YtmfeckpcnofkhabDoorRoB
namespace Go.Proofs.YtmfeckpcnofkhabDoor
open Go.RowKit Go.Lib

theorem secT_size (ng : Bool) (n : Nat) (h : n ≤ 9223372036854775808) : (secT ng n).size ≤ 64 ∧ ¬ (secT ng n).toList = [] := by
  have hd := dd_len (n / 1000) (by omega)
  have hp := dd_pos (n / 1000)
  have ht : (tl (n % 1000)).length ≤ 4 := by
    unfold tl
    by_cases c : n % 1000 = 0
    · rw [if_pos c]; simp
    · rw [if_neg c]
      have := (fr_facts (n % 1000) (by omega) c).2.1
      simp
      omega
  have hl : ((if ng then [45] else []) ++ (decDigits (n / 1000) ++ tl (n % 1000)) : List UInt8).length ≤ 64 := by
    rw [List.length_append, List.length_append]
    cases ng <;> simp <;> omega
  have hg : 0 < ((if ng then [45] else []) ++ (decDigits (n / 1000) ++ tl (n % 1000)) : List UInt8).length := by
    rw [List.length_append, List.length_append]
    omega
  rw [secT_eq, mk_size]
  refine ⟨hl, fun q => ?_⟩
  rw [ByteArray.toList_eq] at q
  have := congrArg List.length q
  simp only [List.length_nil] at this
  have e : (mk ((if ng then [45] else []) ++ (decDigits (n / 1000) ++ tl (n % 1000)))).data.toList.length = ((if ng then [45] else []) ++ (decDigits (n / 1000) ++ tl (n % 1000)) : List UInt8).length := rfl
  omega

/-- What Stamp answers of a number of seconds' text. -/
theorem stamp_secs (ng : Bool) (n : Nat) (v : Int) (h : n ≤ 9223372036854775808) (hv : v = (if ng = true then -((min ((n / 1000 : Nat) : Int) 315360000001) * 1000 + ((n % 1000 : Nat) : Int)) else (min ((n / 1000 : Nat) : Int) 315360000001) * 1000 + ((n % 1000 : Nat) : Int))) (w : World) (hU : Units w) :
    Calls Tryd.prog 13 #[.string (secT ng n)] w fun e w' => e = .returned (.tuple #[.int .i64 (tmR v).1, .int .i64 (tmR v).2]) ∧ Below w.heap.size w w' := by
  obtain ⟨ho, hs⟩ := sec_parse ng n
  have hz := (secT_size ng n h).1
  refine stamp_sec _ v w (by omega) (fun w hU => ?_) hU
  have := seconds_ok (secT ng n) w hU (by omega) ho
  rwa [hs, ← hv] at this

theorem round_any (ms : Int) (w : World) (hU : Units w) (hT : Tab w) (i0 : -9223372036854775808 ≤ ms) (i1 : ms ≤ 9223372036854775807) :
    Calls Tryd.prog 4 #[.int .i64 ms] w fun e w' => e = .returned (.bool true) ∧ Below w.heap.size w w' := by
  obtain ⟨days, rest, cyc, inC, y, m, H⟩ := civR_ex ms
  obtain ⟨n, ng, hn, hk, hms, kS⟩ : ∃ (n : Nat) (ng : Bool), n ≤ 9223372036854775808 ∧ (ng = true ∧ ms < 0 ∨ ng = false ∧ 0 ≤ ms) ∧ (ms = if ng = true then -(n : Int) else (n : Int)) ∧ ∀ w, Tab w → Calls Tryd.prog 11 #[.int .i64 ms] w fun e w' => e = .returned (.string (secT ng n)) ∧ Below w.heap.size w w' := by
    by_cases c : ms < 0
    · refine ⟨ms.natAbs, true, by omega, .inl ⟨rfl, c⟩, by rw [if_pos rfl]; omega, fun w hT => secs_neg ms.natAbs ms w hT (by omega) (by omega) (by omega)⟩
    · refine ⟨ms.natAbs, false, by omega, .inr ⟨rfl, by omega⟩, by rw [if_neg (by decide)]; omega, fun w hT => ?_⟩
      have := secs_pos ms.natAbs w hT (by omega)
      rwa [show ((ms.natAbs : Nat) : Int) = ms by omega] at this
  have hz := secT_size ng n hn
  have kv := fun v hv w hU => stamp_secs ng n v hn hv w hU
  obtain ⟨v, hv⟩ : ∃ v : Int, v = (if ng = true then -((min ((n / 1000 : Nat) : Int) 315360000001) * 1000 + ((n % 1000 : Nat) : Int)) else (min ((n / 1000 : Nat) : Int) 315360000001) * 1000 + ((n % 1000 : Nat) : Int)) := ⟨_, rfl⟩
  have kR := kv v hv
  clear kv
  have hv' : v = ms ∨ v < -315360000000000 ∧ ms < -315360000000000 ∨ 315360000000000 < v ∧ 315360000000000 < ms := by
    rcases hk with ⟨rfl, h0⟩ | ⟨rfl, h0⟩
    · rw [if_pos rfl] at hv hms
      omega
    · rw [if_neg (by decide)] at hv hms
      omega
  by_cases c : ms < -62167219200000 ∨ 253402300799999 < ms
  · have ht : tmR v = (0, 33) := by
      rcases tmR_cases v with ⟨_, q⟩ | ⟨_, _, q⟩ | ⟨q1, q2, _⟩
      · exact q
      · exact q
      · omega
    rw [ht] at kR
    have kC : ∀ w, Units w → Calls Tryd.prog 10 #[.int .i64 ms] w fun e w' => e = .returned (.agg (civV days rest cyc inC y m)) ∧ Below w.heap.size w w' := fun w hU => civil_any ms days rest cyc inC y m H w hU i0 i1
    unfold civV at kC
    exact round_out ms _ _ _ _ _ _ _ _ _ _ (secT ng n) w hU hT c hz.2 kC kS kR
  · have j0 : -62167219200000 ≤ ms := by omega
    have j1 : ms ≤ 253402300799999 := by omega
    clear c
    obtain rfl : v = ms := by omega
    have ht : tmR v = (v, 0) := by
      rcases tmR_cases v with ⟨q, _⟩ | ⟨_, q, _⟩ | ⟨_, _, q⟩
      · omega
      · omega
      · exact q
    rw [ht] at kR
    obtain ⟨Y, M, D, h, mi, s, ml, x1, x2, x3, hvv, P⟩ := parts_of H j0 j1
    have hmd := md_bd (Y : Int) (M : Int)
    have pd2 := P.pd.2
    have pm2 := P.pm.2
    have kC : ∀ w, Units w → Calls Tryd.prog 10 #[.int .i64 v] w fun e w' => e = .returned (ag Y M D h mi s ml x1 x2 x3) ∧ Below w.heap.size w w' := fun w hU => by
      have := civil_any v days rest cyc inC y m H w hU i0 i1
      rwa [hvv] at this
    have kD := fun w hU hT => date_walk v Y M D h mi s ml x1 x2 x3 w hU hT j0 j1 (by have := P.py; omega) (by omega) (by omega) (by have := P.ph; omega) (by have := P.pmi; omega) (by have := P.ps; omega) P.pml kC
    have kE : ∀ w, Units w → Calls Tryd.prog 13 #[.string (mk (dt19 Y M D h mi s ++ (dtml ml ++ [90])))] w fun e w' => e = .returned (.tuple #[.int .i64 v, .int .i64 0]) ∧ Below w.heap.size w w' := fun w hU => by
      have := stamp_text Y M D h mi s ml 90 [] 0 P.py P.pm P.pd P.ph P.pmi P.ps P.pml (by decide) (by decide) (by decide) (by omega) (by omega) (fun w _ => offset_z w) w hU
      rwa [P.pv, Int.sub_zero, ht] at this
    have g0 : (0 : Int) ≤ (Y : Int) ∧ (Y : Int) ≤ 9999 := by have := P.py; omega
    have g1 : (1 : Int) ≤ (M : Int) ∧ (M : Int) ≤ 12 := by have := P.pm; omega
    have g2 : (1 : Int) ≤ (D : Int) ∧ (D : Int) ≤ md Y M := by have := P.pd; omega
    have g3 : (0 : Int) ≤ (h : Int) ∧ (h : Int) ≤ 23 := by have := P.ph; omega
    have g4 : (0 : Int) ≤ (mi : Int) ∧ (mi : Int) ≤ 59 := by have := P.pmi; omega
    have g5 : (0 : Int) ≤ (s : Int) ∧ (s : Int) ≤ 59 := by have := P.ps; omega
    have g6 : (0 : Int) ≤ (ml : Int) ∧ (ml : Int) ≤ 999 := by have := P.pml; omega
    have kM : ∀ w, Units w → Calls Tryd.prog 14 #[ag Y M D h mi s ml (-7) 1000 0] w fun e w' => e = .returned (.tuple #[.int .i64 v, .int .i64 0]) ∧ Below w.heap.size w w' := fun w hU => by
      have := moment_ok Y M D h mi s ml (-7) 1000 0 w hU g0 g1 g2 g3 g4 g5 g6 (fun w => inRange_ok Y M D h mi s ml (-7) 1000 0 w g0.1 g0.2 g1 g2 g3 g4 g5 g6)
      rwa [P.pv] at this
    exact round_in v _ _ _ _ _ _ _ _ _ _ (secT ng n) _ w hU hT j0 j1 hz.2 kC kS kD kR kE kM
end Go.Proofs.YtmfeckpcnofkhabDoor
