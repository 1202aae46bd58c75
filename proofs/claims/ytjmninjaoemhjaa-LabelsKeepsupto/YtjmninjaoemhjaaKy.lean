/- mark. -/
import Derived.Test.YtjmninjaoemhjaaKx
namespace Go.Proofs.Ytjmninjaoemhjaa
open Go.RowKit Go.Lib

attribute [local go_sem] Oper.semAt_some

set_option maxRecDepth 100000 in
theorem conv_new (w : World) (xs : List Int) (c : Nat) :
    (convert 59 9 (.slice (some ⟨w.heap.size, 0, none⟩) xs.length c)).run Try.prog (w.alloc (.cells (xs.map (Value.int .u8)).toArray 5)) = .ok (.string (strOfNums xs)) (w.alloc (.cells (xs.map (Value.int .u8)).toArray 5)) := by
  refine run_convert_bytes_arg (P := Try.prog) _ 59 5 Try.underlying59 Try.underlying5 w.heap.size 0 xs.length c xs rfl (fun i hi => ?_) 9 Try.underlying9
  rw [Nat.zero_add]
  have hh : (w.alloc (.cells (xs.map (Value.int .u8)).toArray 5)).heap[w.heap.size]? = some (.cells (xs.map (Value.int .u8)).toArray 5) := by
    show (w.heap.push _)[w.heap.size]? = _
    simp
  unfold World.cell?
  rw [hh]
  simp [List.getD, hi]
set_option maxRecDepth 100000 in
theorem conv2 (w : World) (a b : Int) : (convert 59 9 (.slice (some ⟨w.heap.size, 0, none⟩) 2 2)).run Try.prog (w.alloc (.cells #[.int .u8 a, .int .u8 b] 5)) = .ok (.string (strOfNums [a, b])) (w.alloc (.cells #[.int .u8 a, .int .u8 b] 5)) := conv_new w [a, b] 2
set_option maxRecDepth 100000 in
theorem conv3 (w : World) (a b c : Int) : (convert 59 9 (.slice (some ⟨w.heap.size, 0, none⟩) 3 3)).run Try.prog (w.alloc (.cells #[.int .u8 a, .int .u8 b, .int .u8 c] 5)) = .ok (.string (strOfNums [a, b, c])) (w.alloc (.cells #[.int .u8 a, .int .u8 b, .int .u8 c] 5)) := conv_new w [a, b, c] 3
set_option maxHeartbeats 2000000 in
set_option maxRecDepth 100000 in
theorem mark_any (i k : Nat) (hi : i < 65536) (hk : k < 256) (w : World) :
    Calls Try.prog 23 #[.int .i64 (i : Int), .int .i64 (k : Int)] w fun e w' => e = .returned (lbV (mkB i k)) ∧ Below w.heap.size w w' := by
  have hiI : (i : Int) < 65536 := by omega
  have hkI : (k : Int) < 256 := by omega
  obtain ⟨W1, hW1⟩ : ∃ W1, W1 = w.alloc (.cells #[.string ⟨#[]⟩, .string ⟨#[]⟩] 25) := ⟨_, rfl⟩
  have HW1 : Hid (W1 = w.alloc (.cells #[.string ⟨#[]⟩, .string ⟨#[]⟩] 25)) := hW1
  obtain ⟨W2, hW2⟩ : ∃ W2, W2 = W1.alloc (.cells #[.int .u8 35, .int .u8 ((i : Int) % 256), .int .u8 ((i : Int) / 256)] 5) := ⟨_, rfl⟩
  have z1 : W1.heap.size = w.heap.size + 1 := by rw [hW1]; simp
  have z2 : W2.heap.size = w.heap.size + 2 := by rw [hW2]; simp [z1]
  have q3 := conv3 W1 35 ((i : Int) % 256) ((i : Int) / 256)
  have q2 := conv2 W2 35 (k : Int)
  rw [z1] at q3
  rw [z2] at q2
  rw [hW2, hW1] at q2
  rw [hW1] at q3
  have e2 : ((w.alloc (.cells #[.string ⟨#[]⟩, .string ⟨#[]⟩] 25)).alloc (.cells #[.int .u8 35, .int .u8 ((i : Int) % 256), .int .u8 ((i : Int) / 256)] 5)).heap.size = w.heap.size + 2 := by simp
  clear hW1 hW2 z1 z2 HW1
  go_enter Try.func23, Try.ntmps23
  go_wp2
  obtain ⟨s1, hs1⟩ : ∃ s, s = strOfNums [35, (i : Int) % 256, (i : Int) / 256] := ⟨_, rfl⟩
  obtain ⟨s2, hs2⟩ : ∃ s, s = strOfNums [35, (k : Int)] := ⟨_, rfl⟩
  have HM : Hid (mkB i k = (s1, s2)) := by unfold Hid mkB; rw [hs1, hs2]
  rw [← hs1, ← hs2]
  have a1 : Below w.heap.size w (w.alloc (lbX (s1, s2))) := (Below.refl _ w).alloc (Nat.le_refl _) _
  have a2 := (Below.refl (w.alloc (lbX (s1, s2))).heap.size (w.alloc (lbX (s1, s2)))).alloc (Nat.le_refl _) (.cells #[.int .u8 35, .int .u8 ((i : Int) % 256), .int .u8 ((i : Int) / 256)] 5)
  have a3 := a2.alloc (by simp) (.cells #[.int .u8 35, .int .u8 (k : Int)] 5)
  have eh : (w.alloc (lbX (s1, s2))).heap[w.heap.size]? = some (lbX (s1, s2)) := heap_alloc_new w _
  have r0 := bcell2 a3 (show (w.alloc (lbX (s1, s2))).cell? ⟨w.heap.size, 0, none⟩ = some (.string s1) by unfold World.cell?; rw [eh]; rfl)
  have r1 := bcell2 a3 (show (w.alloc (lbX (s1, s2))).cell? ⟨w.heap.size, 1, none⟩ = some (.string s2) by unfold World.cell?; rw [eh]; rfl)
  have HF : Hid (Below w.heap.size w _) := a1.trans (a3.mono a1.size)
  clear q2 q3 e2 a1 a2 a3 eh hs1 hs2
  generalize ((w.alloc (lbX (s1, s2))).alloc (.cells #[.int .u8 35, .int .u8 ((i : Int) % 256), .int .u8 ((i : Int) / 256)] 5)).alloc (.cells #[.int .u8 35, .int .u8 (k : Int)] 5) = W4 at *
  refine bodyPost_ret (v := lbV (s1, s2)) (by simp [results, Try.results23, go_sem, r0, r1]) rfl ⟨by rw [HM.out], HF.out⟩
end Go.Proofs.Ytjmninjaoemhjaa
