
/- PileDrains: one way of the walk. -/
import Derived.Test.YtcgpjmpppajfdaaPq
namespace Go.Proofs.Ytcgpjmpppajfdaa
open Go.RowKit

set_option maxHeartbeats 0 in
set_option maxRecDepth 100000 in
theorem drains_2 : drainsX.1.2.1 := by
  intro c n s w hN HTW G0 HG0 HL hnb z1 w0 B0 G HG w1 w2 Bb z2 rm b0 b1 b2 W4 Hb H2 z3 z4 z5 wr u2 u6 u7 u8 u9 u10 u11 u12 u13 u36 u37 u38 u39 u40 u41 u42 u43 u44 u45 u46 u47 u48 u49 u50 u51 u52 u53 u54 u55 u56 u57 u58 u59 u60 u61 u62 u63 u64 u65 u66 u67 u68 u69 u70 u71 u72 u73 u74 u75 u76 u77 u78 u79 u80 u81 u82 u83 u84 u85 u86 u87 u88 u89 u90 u91 u92 u93 u94 u95 u96 u97 u98 u99 u100 u101 u102 u103 u104 u105 u106 u107 u108 u109 u110 u111 u112 u113 u114 u115 u116 u117 u118 u119 u120 u121 u122 u123 u124 u125 u126 u127 u128 u129 u130 u131 u132 u133 u134 u135 u136 u137 u138 u139 u140 u141 u142 u143 u144 u145 u146 u147 u148 u149 u150 u151 u152 u153 u154 u155 u156 u157 u158 u159 u160 u161 u162 u163 u164 u165 u166 u167 u168 u169 u170 u171 u172 u173 u174 u175 u176 u177 u178 u179 u180 u181 u182 u183 u184 u185 u186 u187 u188 u189 u190 u191 u192 u193 u194 u195 i hi col bb xx v vb nn mm f B C hp hlt hii HI g o HF hg kd pi nu q3 q2 q1 k hk3 col1 HC Sb HSc LB HSb hki z6 z7 z8 z9 z10 z11 z12 W2 HW1 s2 s1 s0 S0 S2 E1 E0 kPu pk pka za HAft ek ek2
  go_wp2_with fail
  go_region_held3 (fun w' => w'.cell? ⟨G, k, none⟩ = some (.pointer (some ⟨bb k, 0, none⟩)) ∧ w'.cell? ⟨Sb, 2, none⟩ = some (.int .i64 nu)) (first | exact ⟨pk, s2⟩ | exact ⟨pka, za⟩ | exact ⟨pk5, z5⟩) (first | (go_at_call 9; go_fit (it_exact nu (i : Int) _); rintro e w3 ⟨rfl, rfl⟩) | (go_at_call 13; go_fit kPu; rintro e w5 ⟨rfl, hex⟩; obtain ⟨pk5, z5, ak, ck, L, bc5, g6, c6, w6, r', d1, d2, LN⟩ := HAft.out w5 hex; clear hex kPu))
  have bc6 := cell_al (.cells #[.int .i64 nu, .int .i64 (i : Int)] 24) bc5
  have bc8 := cell_al (.cells #[.int .i64 nu, .int .i64 (i : Int)] 24) bc6
  have z6 := cell_al (.cells #[.int .i64 nu, .int .i64 (i : Int)] 24) z5
  have z7 := cell_al (.cells #[.int .i64 nu, .int .i64 (i : Int)] 24) z6
  go_wp2_with fail
  go_region_law (first | (refine step_append_run rfl (.tmp 62) (.tmp 67) 22 22 rfl _ _ rfl rfl r' ?_) | (refine step_it rfl 64 65 #[3, 3] rfl nu (i : Int) rfl rfl ?_))
  all_goals go_wp2
  all_goals exact ⟨⟨i + 1, by go_num, HI.out, LN⟩, by simp [RowKit.intOf]; omega⟩
end Go.Proofs.Ytcgpjmpppajfdaa
