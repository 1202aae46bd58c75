
/- PileDrains: one way of the walk. -/
import Derived.Test.YtcgpjmpppajfdaaPq
namespace Go.Proofs.Ytcgpjmpppajfdaa
open Go.RowKit

set_option maxHeartbeats 0 in
set_option maxRecDepth 100000 in
theorem drains_e : drainsX.1.2.2.2.2.2.2 := by
  intro a c n s w hN HF HTW G0 HG0 HL hnb z1 w0 B0 G HG w1 w2 Bb z2 rm b0 b1 b2 W4 Hb H2 z3 z4 z5 wr u2 u6 u7 u8 u9 u10 u11 u12 u13 u36 u37 u38 u39 u40 u41 u42 u43 u44 u45 u46 u47 u48 u49 u50 u51 u52 u53 u54 u55 u56 u57 u58 u59 u60 u61 u62 u63 u64 u65 u66 u67 u68 u69 u70 u71 u72 u73 u74 u75 u76 u77 u78 u79 u80 u81 u82 u83 u84 u85 u86 u87 u88 u89 u90 u91 u92 u93 u94 u95 u96 u97 u98 u99 u100 u101 u102 u103 u104 u105 u106 u107 u108 u109 u110 u111 u112 u113 u114 u115 u116 u117 u118 u119 u120 u121 u122 u123 u124 u125 u126 u127 u128 u129 u130 u131 u132 u133 u134 u135 u136 u137 u138 u139 u140 u141 u142 u143 u144 u145 u146 u147 u148 u149 u150 u151 u152 u153 u154 u155 u156 u157 u158 u159 u160 u161 u162 u163 u164 u165 u166 u167 u168 u169 u170 u171 u172 u173 u174 u175 u176 u177 u178 u179 u180 u181 u182 u183 u184 u185 u186 u187 u188 u189 u190 u191 u192 u193 u194 u195 i hi hlt hii LIr
  go_wp2
  go_loopw [198, 14, 15] (fun ivv _ _ w' => ∃ (k : Nat), ivv = .int .i64 (k : Int) ∧ k ≤ 3 ∧ Hid (EJ G Bb w0 i k w')) (fun ivv _ _ _ => 3 - (RowKit.intOf ivv).toNat)
  case atStart => exact ⟨0, rfl, by omega, EJ.start LIr.out⟩
  case round =>
    obtain ⟨k, rfl, hk, ei⟩ := hrel
    obtain ⟨col, bb, xx, v, vb, nn, mm, f, B, C, es, hC⟩ := ei.out
    by_cases hk3 : k < 3
    · have hki : (k : Int) < 3 := by omega
      have pc := es.pc k hk3
      have bc := es.bc k hk3
      obtain ⟨h1, h2, h3⟩ := hC k (Nat.le_refl _) hk3
      have hrow := es.row k (Nat.le_refl _) hk3
      obtain ⟨ak, ck, ev, imk, hck⟩ := hrow.iml
      rw [ev] at bc
      have bk := es.bk k (Nat.le_refl _) hk3
      have hnk : (C k).length = nn k := by rw [h1, List.length_map]; exact bk.len
      have hfl : ((k : Int) == 2) = fl k := by
        unfold fl
        by_cases hx : k % 3 = 2
        · rw [decide_eq_true hx, beq_iff_eq]; omega
        · rw [decide_eq_false hx, beq_eq_false_iff_ne]; omega
      rw [hnk] at bc imk hck
      have kE := fun W (hW : Below wr.heap.size wr W) => emptied_any (aF (fl k)) (fl k) (bb k) (xx k) (nn k) (mm k) _ (v k) (f k) (B k) ak ck (lk (C k)) W (ahF (fl k)) (isF (fl k)) ((es.pl k (Nat.le_refl _) hk3).below hW) bk (by rw [← hnk, il_lk, h1]) (imk.below hW) hck (by have := HL.out; omega)
      have kL := fun W (hW : Below wr.heap.size wr W) => len_any (bb k) (xx k) (nn k) (mm k) _ (v k) (f k) W ((es.pl k (Nat.le_refl _) hk3).below hW)
      have HE : Hid (∀ W w', Below wr.heap.size wr W → Kp (fun j => j = bb k ∨ (v k).ownBlock = some j) W w' → EJ G Bb w0 i (k + 1) w' ∧ w'.cell? ⟨Bb, k, none⟩ = some (.slice ak (nn k) ck)) := fun W w' hW k' => by
        have hM : ∀ j, (j = bb k ∨ (v k).ownBlock = some j) → col j = k := fun j e => by
          rcases e with e | e
          · rw [e]; exact (es.c1 k hk3).1
          · exact (es.c1 k hk3).2.2 j e
        have hB := es.cB
        have k2 : Kp (fun j => j = bb k ∨ (v k).ownBlock = some j) wr w' := (Kp.of hW).trans k'
        exact ⟨EJ.next es hC hk3 k2, k2.cell bc (fun (e : Bb = bb k ∨ (v k).ownBlock = some Bb) => by have := hM _ e; omega)⟩
      generalize nn k = N at *
      clear es hC ei hrow bk ev imk h1 h2 h3 hnk LIr
      go_wp2_with fail
      go_region_held3 (fun w' => w'.cell? ⟨Bb, k, none⟩ = some (.slice ak N ck)) (first | exact bc | exact bc5) (first | (go_at_call 18; first | go_fit (kL _ (Below.refl _ _)) | go_fit (kL _ (Below.refl _ _).drew); rintro e w3 ⟨rfl, rfl⟩) | (go_at_call 31; first | (go_fit (kE _ (Below.refl _ _)); rintro e w5 ⟨rfl, k5⟩; obtain ⟨HN, bc5⟩ := HE.out _ w5 (Below.refl _ _) k5; have HN : Hid _ := HN; clear k5) | (go_fit (kE _ (Below.refl _ _).drew); rintro e w5 ⟨rfl, k5⟩; obtain ⟨HN, bc5⟩ := HE.out _ w5 (Below.refl _ _).drew k5; have HN : Hid _ := HN; clear k5)))
      go_wp2
      exact ⟨⟨k + 1, by go_num, by omega, HN⟩, by simp [RowKit.intOf]; omega⟩
    · have hki : ¬ (k : Int) < 3 := by omega
      go_wp2
      go_ret
      refine ⟨rfl, ?_⟩
      obtain ⟨col, bb, xx, v, vb, nn, mm, f, B, C, es, hC⟩ := ei.out
      rw [HG0.out]
      exact B0.out.trans (es.below.mono (by rw [HG.out]; exact B0.out.size))
end Go.Proofs.Ytcgpjmpppajfdaa
