/-
  TriePlays of rialtolaw15, as its text runs.
-/
import Derived.Test.YtmbniakobhaomaaTyIns
import Derived.Test.YtmbniakobhaomaaTyLk
import Derived.Test.YtmbniakobhaomaaTyAtl
import Derived.Test.YtmbniakobhaomaaTyRst
import Derived.Deep.CutRange
import Derived.Deep.CutBlock
namespace Go.Proofs.Ytmbniakobhaomaa
open Go.ChangeShapes Go.WideShapes Go.ChangeAt Go.RowKit
set_option linter.unusedVariables false
set_option maxRecDepth 100000
attribute [local go_sem ↓] Go.wp_at_zero Go.wp_at_succ

/-- What holds from round to round. -/
def TyRnd (w : World) (T i : Nat) (mv : Value) (wr : World) : Prop := ∃ (z : SZ) (kk : Nat), TyIn w T z kk mv wr ∧ z.length ≤ i ∧ kk ≤ 2 * i
set_option maxRecDepth 1000000 in
theorem ty_act {w W : World} {T : Nat} {z : SZ} {kk : Nat} {am : Option Addr} {nm cm sb : Nat} {sw : Int} {ss : ByteArray} {si : Int} {at_ : Nat} {ib : Bool} (p : TyAt w T z kk am nm cm sb sw ss si at_ ib W) (u0 u1 u2 u5 u9 u10 u11 u12 u13 u14 u15 u16 u17 u18 u19 u20 u21 u22 u23 u24 u25 u26 u27 u28 u29 u30 u31 u32 u33 u34 u35 u36 u37 u38 u39 u40 u41 u42 u43 u44 u45 u46 u47 u48 u49 u50 u51 u52 u53 u54 u55 u56 u57 u58 u59 u60 u61 u62 u63 u64 u65 u66 u67 u68 u69 u70 u71 u72 u73 u74 u75 u76 u77 u78 u79 u80 u81 u82 u83 u84 u85 u86 u87 u88 u89 u90 u91 u92 u93 u94 u95 u96 u97 u98 u99 u100 u101 u102 u103 u104 u105 u106 u107 u108 u109 u110 u111 u112 u113 u114 u115 u116 u117 u118 u119 u120 u121 u122 u123 u124 u125 u126 u127 u128 u129 u130 u131 u132 u133 u134 u135 u136 u137 u138 u139 u140 u141 u142 u143 u144 u145 u146 u147 u148 u149 u150 u151 u152 u153 u154 u155 u156 u157 u158 u159 u160 u161 u162 u163 u164 u165 u166 u167 u168 u169 u170 u171 u172 u173 u174 u175 u176 u177 u178 u179 u180 u181 u182 u183 u184 u185 u186 u187 u188 u189 u190 u191 u192 u193 u194 u195 u196 u197 u198 u199 u200 u201 u202 u203 u204 u205 u206 u207 u208 u209 u210 u211 u212 u213 u214 u215 u216 u217 u218 u219 u220 u221 u222 u223 u224 u225 u226 u227 u228 u229 u230 u231 u232 u233 u234 u235 u236 u237 u238 u239 u240 u241 u242 u243 u244 u245 u246 u247 u248 u249 u250 u251 u252 u253 u254 u255 u256 u257 u258 u259 u260 u261 u262 u263 u264 u265 u266 u267 u268 u269 u270 u271 u272 u273 u274 u275 u276 u277 u278 u279 u280 u281 u282 u283 u284 u285 u286 u287 u288 u289 u290 u291 u292 u293 u294 u295 u296 u297 u298 u299 u300 u301 u302 u303 u304 u305 u306 u307 u308 u309 u310 u311 u312 u313 : Value) (K : Act → World → Prop) (Q : Exit → Act → World → Prop)
    (hK0 : ∀ (v4 v9 v93 v94 v95 v96 v97 v98 v99 v100 v101 v102 v103 v104 v105 v106 v107 v108 v109 v110 v111 v112 v113 v114 v115 v116 v117 v118 v119 v120 v121 v122 v123 v124 v125 v126 v127 v128 v129 v130 v131 v132 v133 v134 v135 v136 v137 v138 v139 v140 v141 v142 : Value) (wx : World), TyMid w T z.length kk sb ss v4 wx → K ⟨#[u0, u1, u2, .pointer (some ⟨T, 0, none⟩), v4, u5, .pointer (some ⟨sb, 0, none⟩), .int .i64 at_, .bool ib, v9, u10, u11, u12, u13, u14, u15, u16, u17, u18, u19, u20, u21, u22, u23, u24, u25, u26, u27, u28, u29, u30, u31, u32, u33, u34, u35, u36, u37, u38, u39, u40, u41, u42, u43, u44, u45, u46, u47, u48, u49, u50, u51, u52, u53, u54, u55, u56, u57, u58, u59, u60, u61, u62, u63, u64, u65, u66, u67, u68, u69, u70, u71, u72, u73, u74, u75, u76, u77, u78, u79, u80, u81, u82, u83, u84, u85, u86, u87, u88, u89, u90, u91, u92, v93, v94, v95, v96, v97, v98, v99, v100, v101, v102, v103, v104, v105, v106, v107, v108, v109, v110, v111, v112, v113, v114, v115, v116, v117, v118, v119, v120, v121, v122, v123, v124, v125, v126, v127, v128, v129, v130, v131, v132, v133, v134, v135, v136, v137, v138, v139, v140, v141, v142, u143, u144, u145, u146, u147, u148, u149, u150, u151, u152, u153, u154, u155, u156, u157, u158, u159, u160, u161, u162, u163, u164, u165, u166, u167, u168, u169, u170, u171, u172, u173, u174, u175, u176, u177, u178, u179, u180, u181, u182, u183, u184, u185, u186, u187, u188, u189, u190, u191, u192, u193, u194, u195, u196, u197, u198, u199, u200, u201, u202, u203, u204, u205, u206, u207, u208, u209, u210, u211, u212, u213, u214, u215, u216, u217, u218, u219, u220, u221, u222, u223, u224, u225, u226, u227, u228, u229, u230, u231, u232, u233, u234, u235, u236, u237, u238, u239, u240, u241, u242, u243, u244, u245, u246, u247, u248, u249, u250, u251, u252, u253, u254, u255, u256, u257, u258, u259, u260, u261, u262, u263, u264, u265, u266, u267, u268, u269, u270, u271, u272, u273, u274, u275, u276, u277, u278, u279, u280, u281, u282, u283, u284, u285, u286, u287, u288, u289, u290, u291, u292, u293, u294, u295, u296, u297, u298, u299, u300, u301, u302, u303, u304, u305, u306, u307, u308, u309, u310, u311, u312, u313], []⟩ wx) :
    Code.wp Try.prog ((Try.f4.body.bind (blkN 4)).getD .skip) (Exit.then K Q) ⟨#[u0, u1, u2, .pointer (some ⟨T, 0, none⟩), .slice am nm cm, u5, .pointer (some ⟨sb, 0, none⟩), .int .i64 at_, .bool ib, u9, u10, u11, u12, u13, u14, u15, u16, u17, u18, u19, u20, u21, u22, u23, u24, u25, u26, u27, u28, u29, u30, u31, u32, u33, u34, u35, u36, u37, u38, u39, u40, u41, u42, u43, u44, u45, u46, u47, u48, u49, u50, u51, u52, u53, u54, u55, u56, u57, u58, u59, u60, u61, u62, u63, u64, u65, u66, u67, u68, u69, u70, u71, u72, u73, u74, u75, u76, u77, u78, u79, u80, u81, u82, u83, u84, u85, u86, u87, u88, u89, u90, u91, u92, u93, u94, u95, u96, u97, u98, u99, u100, u101, u102, u103, u104, u105, u106, u107, u108, u109, u110, u111, u112, u113, u114, u115, u116, u117, u118, u119, u120, u121, u122, u123, u124, u125, u126, u127, u128, u129, u130, u131, u132, u133, u134, u135, u136, u137, u138, u139, u140, u141, u142, u143, u144, u145, u146, u147, u148, u149, u150, u151, u152, u153, u154, u155, u156, u157, u158, u159, u160, u161, u162, u163, u164, u165, u166, u167, u168, u169, u170, u171, u172, u173, u174, u175, u176, u177, u178, u179, u180, u181, u182, u183, u184, u185, u186, u187, u188, u189, u190, u191, u192, u193, u194, u195, u196, u197, u198, u199, u200, u201, u202, u203, u204, u205, u206, u207, u208, u209, u210, u211, u212, u213, u214, u215, u216, u217, u218, u219, u220, u221, u222, u223, u224, u225, u226, u227, u228, u229, u230, u231, u232, u233, u234, u235, u236, u237, u238, u239, u240, u241, u242, u243, u244, u245, u246, u247, u248, u249, u250, u251, u252, u253, u254, u255, u256, u257, u258, u259, u260, u261, u262, u263, u264, u265, u266, u267, u268, u269, u270, u271, u272, u273, u274, u275, u276, u277, u278, u279, u280, u281, u282, u283, u284, u285, u286, u287, u288, u289, u290, u291, u292, u293, u294, u295, u296, u297, u298, u299, u300, u301, u302, u303, u304, u305, u306, u307, u308, u309, u310, u311, u312, u313], []⟩ W := by
  have hK : ∀ a' w', Met (TyJ w T z.length kk sb at_ ss ib u0 u1 u2 u5 u10 u11 u12 u13 u14 u15 u16 u17 u18 u19 u20 u21 u22 u23 u24 u25 u26 u27 u28 u29 u30 u31 u32 u33 u34 u35 u36 u37 u38 u39 u40 u41 u42 u43 u44 u45 u46 u47 u48 u49 u50 u51 u52 u53 u54 u55 u56 u57 u58 u59 u60 u61 u62 u63 u64 u65 u66 u67 u68 u69 u70 u71 u72 u73 u74 u75 u76 u77 u78 u79 u80 u81 u82 u83 u84 u85 u86 u87 u88 u89 u90 u91 u92 u143 u144 u145 u146 u147 u148 u149 u150 u151 u152 u153 u154 u155 u156 u157 u158 u159 u160 u161 u162 u163 u164 u165 u166 u167 u168 u169 u170 u171 u172 u173 u174 u175 u176 u177 u178 u179 u180 u181 u182 u183 u184 u185 u186 u187 u188 u189 u190 u191 u192 u193 u194 u195 u196 u197 u198 u199 u200 u201 u202 u203 u204 u205 u206 u207 u208 u209 u210 u211 u212 u213 u214 u215 u216 u217 u218 u219 u220 u221 u222 u223 u224 u225 u226 u227 u228 u229 u230 u231 u232 u233 u234 u235 u236 u237 u238 u239 u240 u241 u242 u243 u244 u245 u246 u247 u248 u249 u250 u251 u252 u253 u254 u255 u256 u257 u258 u259 u260 u261 u262 u263 u264 u265 u266 u267 u268 u269 u270 u271 u272 u273 u274 u275 u276 u277 u278 u279 u280 u281 u282 u283 u284 u285 u286 u287 u288 u289 u290 u291 u292 u293 u294 u295 u296 u297 u298 u299 u300 u301 u302 u303 u304 u305 u306 u307 u308 u309 u310 u311 u312 u313) a' w' → K a' w' := by
    intro a' w' hJ
    unfold Met TyJ at hJ
    obtain ⟨v4, hJ⟩ := hJ
    obtain ⟨v9, hJ⟩ := hJ
    obtain ⟨v93, hJ⟩ := hJ
    obtain ⟨v94, hJ⟩ := hJ
    obtain ⟨v95, hJ⟩ := hJ
    obtain ⟨v96, hJ⟩ := hJ
    obtain ⟨v97, hJ⟩ := hJ
    obtain ⟨v98, hJ⟩ := hJ
    obtain ⟨v99, hJ⟩ := hJ
    obtain ⟨v100, hJ⟩ := hJ
    obtain ⟨v101, hJ⟩ := hJ
    obtain ⟨v102, hJ⟩ := hJ
    obtain ⟨v103, hJ⟩ := hJ
    obtain ⟨v104, hJ⟩ := hJ
    obtain ⟨v105, hJ⟩ := hJ
    obtain ⟨v106, hJ⟩ := hJ
    obtain ⟨v107, hJ⟩ := hJ
    obtain ⟨v108, hJ⟩ := hJ
    obtain ⟨v109, hJ⟩ := hJ
    obtain ⟨v110, hJ⟩ := hJ
    obtain ⟨v111, hJ⟩ := hJ
    obtain ⟨v112, hJ⟩ := hJ
    obtain ⟨v113, hJ⟩ := hJ
    obtain ⟨v114, hJ⟩ := hJ
    obtain ⟨v115, hJ⟩ := hJ
    obtain ⟨v116, hJ⟩ := hJ
    obtain ⟨v117, hJ⟩ := hJ
    obtain ⟨v118, hJ⟩ := hJ
    obtain ⟨v119, hJ⟩ := hJ
    obtain ⟨v120, hJ⟩ := hJ
    obtain ⟨v121, hJ⟩ := hJ
    obtain ⟨v122, hJ⟩ := hJ
    obtain ⟨v123, hJ⟩ := hJ
    obtain ⟨v124, hJ⟩ := hJ
    obtain ⟨v125, hJ⟩ := hJ
    obtain ⟨v126, hJ⟩ := hJ
    obtain ⟨v127, hJ⟩ := hJ
    obtain ⟨v128, hJ⟩ := hJ
    obtain ⟨v129, hJ⟩ := hJ
    obtain ⟨v130, hJ⟩ := hJ
    obtain ⟨v131, hJ⟩ := hJ
    obtain ⟨v132, hJ⟩ := hJ
    obtain ⟨v133, hJ⟩ := hJ
    obtain ⟨v134, hJ⟩ := hJ
    obtain ⟨v135, hJ⟩ := hJ
    obtain ⟨v136, hJ⟩ := hJ
    obtain ⟨v137, hJ⟩ := hJ
    obtain ⟨v138, hJ⟩ := hJ
    obtain ⟨v139, hJ⟩ := hJ
    obtain ⟨v140, hJ⟩ := hJ
    obtain ⟨v141, hJ⟩ := hJ
    obtain ⟨v142, hJ⟩ := hJ
    obtain ⟨hm, rfl⟩ := hJ
    exact hK0 v4 v9 v93 v94 v95 v96 v97 v98 v99 v100 v101 v102 v103 v104 v105 v106 v107 v108 v109 v110 v111 v112 v113 v114 v115 v116 v117 v118 v119 v120 v121 v122 v123 v124 v125 v126 v127 v128 v129 v130 v131 v132 v133 v134 v135 v136 v137 v138 v139 v140 v141 v142 w' hm
  clear hK0
  by_cases s0 : sw ≤ 3
  · cases ib
    · exact ty_ins p s0 rfl u0 u1 u2 u5 u9 u10 u11 u12 u13 u14 u15 u16 u17 u18 u19 u20 u21 u22 u23 u24 u25 u26 u27 u28 u29 u30 u31 u32 u33 u34 u35 u36 u37 u38 u39 u40 u41 u42 u43 u44 u45 u46 u47 u48 u49 u50 u51 u52 u53 u54 u55 u56 u57 u58 u59 u60 u61 u62 u63 u64 u65 u66 u67 u68 u69 u70 u71 u72 u73 u74 u75 u76 u77 u78 u79 u80 u81 u82 u83 u84 u85 u86 u87 u88 u89 u90 u91 u92 u93 u94 u95 u96 u97 u98 u99 u100 u101 u102 u103 u104 u105 u106 u107 u108 u109 u110 u111 u112 u113 u114 u115 u116 u117 u118 u119 u120 u121 u122 u123 u124 u125 u126 u127 u128 u129 u130 u131 u132 u133 u134 u135 u136 u137 u138 u139 u140 u141 u142 u143 u144 u145 u146 u147 u148 u149 u150 u151 u152 u153 u154 u155 u156 u157 u158 u159 u160 u161 u162 u163 u164 u165 u166 u167 u168 u169 u170 u171 u172 u173 u174 u175 u176 u177 u178 u179 u180 u181 u182 u183 u184 u185 u186 u187 u188 u189 u190 u191 u192 u193 u194 u195 u196 u197 u198 u199 u200 u201 u202 u203 u204 u205 u206 u207 u208 u209 u210 u211 u212 u213 u214 u215 u216 u217 u218 u219 u220 u221 u222 u223 u224 u225 u226 u227 u228 u229 u230 u231 u232 u233 u234 u235 u236 u237 u238 u239 u240 u241 u242 u243 u244 u245 u246 u247 u248 u249 u250 u251 u252 u253 u254 u255 u256 u257 u258 u259 u260 u261 u262 u263 u264 u265 u266 u267 u268 u269 u270 u271 u272 u273 u274 u275 u276 u277 u278 u279 u280 u281 u282 u283 u284 u285 u286 u287 u288 u289 u290 u291 u292 u293 u294 u295 u296 u297 u298 u299 u300 u301 u302 u303 u304 u305 u306 u307 u308 u309 u310 u311 u312 u313 K Q hK
    · exact ty_insnot p s0 rfl u0 u1 u2 u5 u9 u10 u11 u12 u13 u14 u15 u16 u17 u18 u19 u20 u21 u22 u23 u24 u25 u26 u27 u28 u29 u30 u31 u32 u33 u34 u35 u36 u37 u38 u39 u40 u41 u42 u43 u44 u45 u46 u47 u48 u49 u50 u51 u52 u53 u54 u55 u56 u57 u58 u59 u60 u61 u62 u63 u64 u65 u66 u67 u68 u69 u70 u71 u72 u73 u74 u75 u76 u77 u78 u79 u80 u81 u82 u83 u84 u85 u86 u87 u88 u89 u90 u91 u92 u93 u94 u95 u96 u97 u98 u99 u100 u101 u102 u103 u104 u105 u106 u107 u108 u109 u110 u111 u112 u113 u114 u115 u116 u117 u118 u119 u120 u121 u122 u123 u124 u125 u126 u127 u128 u129 u130 u131 u132 u133 u134 u135 u136 u137 u138 u139 u140 u141 u142 u143 u144 u145 u146 u147 u148 u149 u150 u151 u152 u153 u154 u155 u156 u157 u158 u159 u160 u161 u162 u163 u164 u165 u166 u167 u168 u169 u170 u171 u172 u173 u174 u175 u176 u177 u178 u179 u180 u181 u182 u183 u184 u185 u186 u187 u188 u189 u190 u191 u192 u193 u194 u195 u196 u197 u198 u199 u200 u201 u202 u203 u204 u205 u206 u207 u208 u209 u210 u211 u212 u213 u214 u215 u216 u217 u218 u219 u220 u221 u222 u223 u224 u225 u226 u227 u228 u229 u230 u231 u232 u233 u234 u235 u236 u237 u238 u239 u240 u241 u242 u243 u244 u245 u246 u247 u248 u249 u250 u251 u252 u253 u254 u255 u256 u257 u258 u259 u260 u261 u262 u263 u264 u265 u266 u267 u268 u269 u270 u271 u272 u273 u274 u275 u276 u277 u278 u279 u280 u281 u282 u283 u284 u285 u286 u287 u288 u289 u290 u291 u292 u293 u294 u295 u296 u297 u298 u299 u300 u301 u302 u303 u304 u305 u306 u307 u308 u309 u310 u311 u312 u313 K Q hK
  · cases ib
    · exact ty_delnot p s0 rfl u0 u1 u2 u5 u9 u10 u11 u12 u13 u14 u15 u16 u17 u18 u19 u20 u21 u22 u23 u24 u25 u26 u27 u28 u29 u30 u31 u32 u33 u34 u35 u36 u37 u38 u39 u40 u41 u42 u43 u44 u45 u46 u47 u48 u49 u50 u51 u52 u53 u54 u55 u56 u57 u58 u59 u60 u61 u62 u63 u64 u65 u66 u67 u68 u69 u70 u71 u72 u73 u74 u75 u76 u77 u78 u79 u80 u81 u82 u83 u84 u85 u86 u87 u88 u89 u90 u91 u92 u93 u94 u95 u96 u97 u98 u99 u100 u101 u102 u103 u104 u105 u106 u107 u108 u109 u110 u111 u112 u113 u114 u115 u116 u117 u118 u119 u120 u121 u122 u123 u124 u125 u126 u127 u128 u129 u130 u131 u132 u133 u134 u135 u136 u137 u138 u139 u140 u141 u142 u143 u144 u145 u146 u147 u148 u149 u150 u151 u152 u153 u154 u155 u156 u157 u158 u159 u160 u161 u162 u163 u164 u165 u166 u167 u168 u169 u170 u171 u172 u173 u174 u175 u176 u177 u178 u179 u180 u181 u182 u183 u184 u185 u186 u187 u188 u189 u190 u191 u192 u193 u194 u195 u196 u197 u198 u199 u200 u201 u202 u203 u204 u205 u206 u207 u208 u209 u210 u211 u212 u213 u214 u215 u216 u217 u218 u219 u220 u221 u222 u223 u224 u225 u226 u227 u228 u229 u230 u231 u232 u233 u234 u235 u236 u237 u238 u239 u240 u241 u242 u243 u244 u245 u246 u247 u248 u249 u250 u251 u252 u253 u254 u255 u256 u257 u258 u259 u260 u261 u262 u263 u264 u265 u266 u267 u268 u269 u270 u271 u272 u273 u274 u275 u276 u277 u278 u279 u280 u281 u282 u283 u284 u285 u286 u287 u288 u289 u290 u291 u292 u293 u294 u295 u296 u297 u298 u299 u300 u301 u302 u303 u304 u305 u306 u307 u308 u309 u310 u311 u312 u313 K Q hK
    · exact ty_del p s0 rfl u0 u1 u2 u5 u9 u10 u11 u12 u13 u14 u15 u16 u17 u18 u19 u20 u21 u22 u23 u24 u25 u26 u27 u28 u29 u30 u31 u32 u33 u34 u35 u36 u37 u38 u39 u40 u41 u42 u43 u44 u45 u46 u47 u48 u49 u50 u51 u52 u53 u54 u55 u56 u57 u58 u59 u60 u61 u62 u63 u64 u65 u66 u67 u68 u69 u70 u71 u72 u73 u74 u75 u76 u77 u78 u79 u80 u81 u82 u83 u84 u85 u86 u87 u88 u89 u90 u91 u92 u93 u94 u95 u96 u97 u98 u99 u100 u101 u102 u103 u104 u105 u106 u107 u108 u109 u110 u111 u112 u113 u114 u115 u116 u117 u118 u119 u120 u121 u122 u123 u124 u125 u126 u127 u128 u129 u130 u131 u132 u133 u134 u135 u136 u137 u138 u139 u140 u141 u142 u143 u144 u145 u146 u147 u148 u149 u150 u151 u152 u153 u154 u155 u156 u157 u158 u159 u160 u161 u162 u163 u164 u165 u166 u167 u168 u169 u170 u171 u172 u173 u174 u175 u176 u177 u178 u179 u180 u181 u182 u183 u184 u185 u186 u187 u188 u189 u190 u191 u192 u193 u194 u195 u196 u197 u198 u199 u200 u201 u202 u203 u204 u205 u206 u207 u208 u209 u210 u211 u212 u213 u214 u215 u216 u217 u218 u219 u220 u221 u222 u223 u224 u225 u226 u227 u228 u229 u230 u231 u232 u233 u234 u235 u236 u237 u238 u239 u240 u241 u242 u243 u244 u245 u246 u247 u248 u249 u250 u251 u252 u253 u254 u255 u256 u257 u258 u259 u260 u261 u262 u263 u264 u265 u266 u267 u268 u269 u270 u271 u272 u273 u274 u275 u276 u277 u278 u279 u280 u281 u282 u283 u284 u285 u286 u287 u288 u289 u290 u291 u292 u293 u294 u295 u296 u297 u298 u299 u300 u301 u302 u303 u304 u305 u306 u307 u308 u309 u310 u311 u312 u313 K Q hK
set_option maxRecDepth 1000000 in
theorem ty_k2 {W : World} {T : Nat} {z : SZ} {am : Option Addr} {nz cm sb : Nat} {ss : ByteArray} {X : Nat → Prop} (hm : RdP pC X W (.slice am nz cm) z) (h1 : W.cell? ⟨sb, 1, none⟩ = some (.string ss)) (hnz : nz ≤ 81) (hs : ∀ p ∈ z, p.1.size ≤ 60) (u0 u1 u2 u5 u7 u8 u9 u16 u17 u18 u19 u20 u21 u22 u23 u24 u25 u26 u27 u28 u29 u30 u31 u32 u33 u34 u35 u36 u37 u38 u39 u40 u41 u42 u43 u44 u45 u46 u47 u48 u49 u50 u51 u52 u53 u54 u55 u56 u57 u58 u59 u60 u61 u62 u63 u64 u65 u66 u67 u68 u69 u70 u71 u72 u73 u74 u75 u76 u77 u78 u79 u80 u81 u82 u83 u84 u85 u86 u87 u88 u89 u90 u91 u92 u93 u94 u95 u96 u97 u98 u99 u100 u101 u102 u103 u104 u105 u106 u107 u108 u109 u110 u111 u112 u113 u114 u115 u116 u117 u118 u119 u120 u121 u122 u123 u124 u125 u126 u127 u128 u129 u130 u131 u132 u133 u134 u135 u136 u137 u138 u139 u140 u141 u142 u143 u144 u145 u146 u147 u148 u149 u150 u151 u152 u153 u154 u155 u156 u157 u158 u159 u160 u161 u162 u163 u164 u165 u166 u167 u168 u169 u170 u171 u172 u173 u174 u175 u176 u177 u178 u179 u180 u181 u182 u183 u184 u185 u186 u187 u188 u189 u190 u191 u192 u193 u194 u195 u196 u197 u198 u199 u200 u201 u202 u203 u204 u205 u206 u207 u208 u209 u210 u211 u212 u213 u214 u215 u216 u217 u218 u219 u220 u221 u222 u223 u224 u225 u226 u227 u228 u229 u230 u231 u232 u233 u234 u235 u236 u237 u238 u239 u240 u241 u242 u243 u244 u245 u246 u247 u248 u249 u250 u251 u252 u253 u254 u255 u256 u257 u258 u259 u260 u261 u262 u263 u264 u265 u266 u267 u268 u269 u270 u271 u272 u273 u274 u275 u276 u277 u278 u279 u280 u281 u282 u283 u284 u285 u286 u287 u288 u289 u290 u291 u292 u293 u294 u295 u296 u297 u298 u299 u300 u301 u302 u303 u304 u305 u306 u307 u308 u309 u310 u311 u312 u313 : Value) (K : Act → World → Prop) (Q : Exit → Act → World → Prop)
    (hK0 : ∀ (v10 v11 v12 v13 v14 v15 v143 v144 v145 v146 v147 v148 v149 v150 v151 v152 v153 v154 v155 v156 v157 v158 v159 v160 v161 v162 v163 v164 v165 v166 v167 v168 v169 v170 v171 v172 v173 v174 v175 v176 v177 v178 v179 v180 v181 v182 v183 v184 v185 v186 v187 v188 v189 v190 v191 v192 v193 v194 v195 v196 v197 v198 v199 v200 v201 v202 v203 v204 v205 v206 v207 v208 v209 v210 v211 v212 v213 v214 v215 v216 v217 v218 v219 v220 v221 v222 v223 v224 v225 : Value) (wx : World), TkR W z ss z.length v10 v11 v12 v13 v14 wx → K ⟨#[u0, u1, u2, .pointer (some ⟨T, 0, none⟩), .slice am nz cm, u5, .pointer (some ⟨sb, 0, none⟩), u7, u8, u9, v10, v11, v12, v13, v14, v15, u16, u17, u18, u19, u20, u21, u22, u23, u24, u25, u26, u27, u28, u29, u30, u31, u32, u33, u34, u35, u36, u37, u38, u39, u40, u41, u42, u43, u44, u45, u46, u47, u48, u49, u50, u51, u52, u53, u54, u55, u56, u57, u58, u59, u60, u61, u62, u63, u64, u65, u66, u67, u68, u69, u70, u71, u72, u73, u74, u75, u76, u77, u78, u79, u80, u81, u82, u83, u84, u85, u86, u87, u88, u89, u90, u91, u92, u93, u94, u95, u96, u97, u98, u99, u100, u101, u102, u103, u104, u105, u106, u107, u108, u109, u110, u111, u112, u113, u114, u115, u116, u117, u118, u119, u120, u121, u122, u123, u124, u125, u126, u127, u128, u129, u130, u131, u132, u133, u134, u135, u136, u137, u138, u139, u140, u141, u142, v143, v144, v145, v146, v147, v148, v149, v150, v151, v152, v153, v154, v155, v156, v157, v158, v159, v160, v161, v162, v163, v164, v165, v166, v167, v168, v169, v170, v171, v172, v173, v174, v175, v176, v177, v178, v179, v180, v181, v182, v183, v184, v185, v186, v187, v188, v189, v190, v191, v192, v193, v194, v195, v196, v197, v198, v199, v200, v201, v202, v203, v204, v205, v206, v207, v208, v209, v210, v211, v212, v213, v214, v215, v216, v217, v218, v219, v220, v221, v222, v223, v224, v225, u226, u227, u228, u229, u230, u231, u232, u233, u234, u235, u236, u237, u238, u239, u240, u241, u242, u243, u244, u245, u246, u247, u248, u249, u250, u251, u252, u253, u254, u255, u256, u257, u258, u259, u260, u261, u262, u263, u264, u265, u266, u267, u268, u269, u270, u271, u272, u273, u274, u275, u276, u277, u278, u279, u280, u281, u282, u283, u284, u285, u286, u287, u288, u289, u290, u291, u292, u293, u294, u295, u296, u297, u298, u299, u300, u301, u302, u303, u304, u305, u306, u307, u308, u309, u310, u311, u312, u313], []⟩ wx) :
    Code.wp Try.prog ((Try.f4.body.bind (blkN 5)).getD .skip) (Exit.then K Q) ⟨#[u0, u1, u2, .pointer (some ⟨T, 0, none⟩), .slice am nz cm, u5, .pointer (some ⟨sb, 0, none⟩), u7, u8, u9, .slice none 0 0, .slice none 0 0, .string ⟨#[]⟩, .bool false, .int .i64 0, .int .i64 0, u16, u17, u18, u19, u20, u21, u22, u23, u24, u25, u26, u27, u28, u29, u30, u31, u32, u33, u34, u35, u36, u37, u38, u39, u40, u41, u42, u43, u44, u45, u46, u47, u48, u49, u50, u51, u52, u53, u54, u55, u56, u57, u58, u59, u60, u61, u62, u63, u64, u65, u66, u67, u68, u69, u70, u71, u72, u73, u74, u75, u76, u77, u78, u79, u80, u81, u82, u83, u84, u85, u86, u87, u88, u89, u90, u91, u92, u93, u94, u95, u96, u97, u98, u99, u100, u101, u102, u103, u104, u105, u106, u107, u108, u109, u110, u111, u112, u113, u114, u115, u116, u117, u118, u119, u120, u121, u122, u123, u124, u125, u126, u127, u128, u129, u130, u131, u132, u133, u134, u135, u136, u137, u138, u139, u140, u141, u142, u143, u144, u145, u146, u147, u148, u149, u150, u151, u152, u153, u154, u155, u156, u157, u158, u159, u160, u161, u162, u163, u164, u165, u166, u167, u168, u169, u170, u171, u172, u173, u174, u175, u176, u177, u178, u179, u180, u181, u182, u183, u184, u185, u186, u187, u188, u189, u190, u191, u192, u193, u194, u195, u196, u197, u198, u199, u200, u201, u202, u203, u204, u205, u206, u207, u208, u209, u210, u211, u212, u213, u214, u215, u216, u217, u218, u219, u220, u221, u222, u223, u224, u225, u226, u227, u228, u229, u230, u231, u232, u233, u234, u235, u236, u237, u238, u239, u240, u241, u242, u243, u244, u245, u246, u247, u248, u249, u250, u251, u252, u253, u254, u255, u256, u257, u258, u259, u260, u261, u262, u263, u264, u265, u266, u267, u268, u269, u270, u271, u272, u273, u274, u275, u276, u277, u278, u279, u280, u281, u282, u283, u284, u285, u286, u287, u288, u289, u290, u291, u292, u293, u294, u295, u296, u297, u298, u299, u300, u301, u302, u303, u304, u305, u306, u307, u308, u309, u310, u311, u312, u313], []⟩ W := by
  refine ty_k hm h1 hnz hs u0 u1 u2 u5 u7 u8 u9 u16 u17 u18 u19 u20 u21 u22 u23 u24 u25 u26 u27 u28 u29 u30 u31 u32 u33 u34 u35 u36 u37 u38 u39 u40 u41 u42 u43 u44 u45 u46 u47 u48 u49 u50 u51 u52 u53 u54 u55 u56 u57 u58 u59 u60 u61 u62 u63 u64 u65 u66 u67 u68 u69 u70 u71 u72 u73 u74 u75 u76 u77 u78 u79 u80 u81 u82 u83 u84 u85 u86 u87 u88 u89 u90 u91 u92 u93 u94 u95 u96 u97 u98 u99 u100 u101 u102 u103 u104 u105 u106 u107 u108 u109 u110 u111 u112 u113 u114 u115 u116 u117 u118 u119 u120 u121 u122 u123 u124 u125 u126 u127 u128 u129 u130 u131 u132 u133 u134 u135 u136 u137 u138 u139 u140 u141 u142 u143 u144 u145 u146 u147 u148 u149 u150 u151 u152 u153 u154 u155 u156 u157 u158 u159 u160 u161 u162 u163 u164 u165 u166 u167 u168 u169 u170 u171 u172 u173 u174 u175 u176 u177 u178 u179 u180 u181 u182 u183 u184 u185 u186 u187 u188 u189 u190 u191 u192 u193 u194 u195 u196 u197 u198 u199 u200 u201 u202 u203 u204 u205 u206 u207 u208 u209 u210 u211 u212 u213 u214 u215 u216 u217 u218 u219 u220 u221 u222 u223 u224 u225 u226 u227 u228 u229 u230 u231 u232 u233 u234 u235 u236 u237 u238 u239 u240 u241 u242 u243 u244 u245 u246 u247 u248 u249 u250 u251 u252 u253 u254 u255 u256 u257 u258 u259 u260 u261 u262 u263 u264 u265 u266 u267 u268 u269 u270 u271 u272 u273 u274 u275 u276 u277 u278 u279 u280 u281 u282 u283 u284 u285 u286 u287 u288 u289 u290 u291 u292 u293 u294 u295 u296 u297 u298 u299 u300 u301 u302 u303 u304 u305 u306 u307 u308 u309 u310 u311 u312 u313 K Q ?_
  intro a' w' hJ
  unfold Met TkJ at hJ
  obtain ⟨v10, hJ⟩ := hJ
  obtain ⟨v11, hJ⟩ := hJ
  obtain ⟨v12, hJ⟩ := hJ
  obtain ⟨v13, hJ⟩ := hJ
  obtain ⟨v14, hJ⟩ := hJ
  obtain ⟨v15, hJ⟩ := hJ
  obtain ⟨v143, hJ⟩ := hJ
  obtain ⟨v144, hJ⟩ := hJ
  obtain ⟨v145, hJ⟩ := hJ
  obtain ⟨v146, hJ⟩ := hJ
  obtain ⟨v147, hJ⟩ := hJ
  obtain ⟨v148, hJ⟩ := hJ
  obtain ⟨v149, hJ⟩ := hJ
  obtain ⟨v150, hJ⟩ := hJ
  obtain ⟨v151, hJ⟩ := hJ
  obtain ⟨v152, hJ⟩ := hJ
  obtain ⟨v153, hJ⟩ := hJ
  obtain ⟨v154, hJ⟩ := hJ
  obtain ⟨v155, hJ⟩ := hJ
  obtain ⟨v156, hJ⟩ := hJ
  obtain ⟨v157, hJ⟩ := hJ
  obtain ⟨v158, hJ⟩ := hJ
  obtain ⟨v159, hJ⟩ := hJ
  obtain ⟨v160, hJ⟩ := hJ
  obtain ⟨v161, hJ⟩ := hJ
  obtain ⟨v162, hJ⟩ := hJ
  obtain ⟨v163, hJ⟩ := hJ
  obtain ⟨v164, hJ⟩ := hJ
  obtain ⟨v165, hJ⟩ := hJ
  obtain ⟨v166, hJ⟩ := hJ
  obtain ⟨v167, hJ⟩ := hJ
  obtain ⟨v168, hJ⟩ := hJ
  obtain ⟨v169, hJ⟩ := hJ
  obtain ⟨v170, hJ⟩ := hJ
  obtain ⟨v171, hJ⟩ := hJ
  obtain ⟨v172, hJ⟩ := hJ
  obtain ⟨v173, hJ⟩ := hJ
  obtain ⟨v174, hJ⟩ := hJ
  obtain ⟨v175, hJ⟩ := hJ
  obtain ⟨v176, hJ⟩ := hJ
  obtain ⟨v177, hJ⟩ := hJ
  obtain ⟨v178, hJ⟩ := hJ
  obtain ⟨v179, hJ⟩ := hJ
  obtain ⟨v180, hJ⟩ := hJ
  obtain ⟨v181, hJ⟩ := hJ
  obtain ⟨v182, hJ⟩ := hJ
  obtain ⟨v183, hJ⟩ := hJ
  obtain ⟨v184, hJ⟩ := hJ
  obtain ⟨v185, hJ⟩ := hJ
  obtain ⟨v186, hJ⟩ := hJ
  obtain ⟨v187, hJ⟩ := hJ
  obtain ⟨v188, hJ⟩ := hJ
  obtain ⟨v189, hJ⟩ := hJ
  obtain ⟨v190, hJ⟩ := hJ
  obtain ⟨v191, hJ⟩ := hJ
  obtain ⟨v192, hJ⟩ := hJ
  obtain ⟨v193, hJ⟩ := hJ
  obtain ⟨v194, hJ⟩ := hJ
  obtain ⟨v195, hJ⟩ := hJ
  obtain ⟨v196, hJ⟩ := hJ
  obtain ⟨v197, hJ⟩ := hJ
  obtain ⟨v198, hJ⟩ := hJ
  obtain ⟨v199, hJ⟩ := hJ
  obtain ⟨v200, hJ⟩ := hJ
  obtain ⟨v201, hJ⟩ := hJ
  obtain ⟨v202, hJ⟩ := hJ
  obtain ⟨v203, hJ⟩ := hJ
  obtain ⟨v204, hJ⟩ := hJ
  obtain ⟨v205, hJ⟩ := hJ
  obtain ⟨v206, hJ⟩ := hJ
  obtain ⟨v207, hJ⟩ := hJ
  obtain ⟨v208, hJ⟩ := hJ
  obtain ⟨v209, hJ⟩ := hJ
  obtain ⟨v210, hJ⟩ := hJ
  obtain ⟨v211, hJ⟩ := hJ
  obtain ⟨v212, hJ⟩ := hJ
  obtain ⟨v213, hJ⟩ := hJ
  obtain ⟨v214, hJ⟩ := hJ
  obtain ⟨v215, hJ⟩ := hJ
  obtain ⟨v216, hJ⟩ := hJ
  obtain ⟨v217, hJ⟩ := hJ
  obtain ⟨v218, hJ⟩ := hJ
  obtain ⟨v219, hJ⟩ := hJ
  obtain ⟨v220, hJ⟩ := hJ
  obtain ⟨v221, hJ⟩ := hJ
  obtain ⟨v222, hJ⟩ := hJ
  obtain ⟨v223, hJ⟩ := hJ
  obtain ⟨v224, hJ⟩ := hJ
  obtain ⟨v225, hJ⟩ := hJ
  obtain ⟨hm, rfl⟩ := hJ
  exact hK0 v10 v11 v12 v13 v14 v15 v143 v144 v145 v146 v147 v148 v149 v150 v151 v152 v153 v154 v155 v156 v157 v158 v159 v160 v161 v162 v163 v164 v165 v166 v167 v168 v169 v170 v171 v172 v173 v174 v175 v176 v177 v178 v179 v180 v181 v182 v183 v184 v185 v186 v187 v188 v189 v190 v191 v192 v193 v194 v195 v196 v197 v198 v199 v200 v201 v202 v203 v204 v205 v206 v207 v208 v209 v210 v211 v212 v213 v214 v215 v216 v217 v218 v219 v220 v221 v222 v223 v224 v225 w' hm
set_option maxRecDepth 1000000 in
theorem ty_rest2 {w W : World} {T : Nat} {z : SZ} {kk : Nat} {am a10 a11 : Option Addr} {nz cm sb n10 c10 n11 c11 hn : Nat} {ss ln : ByteArray} {f : Bool} (hi : TyIn w T z kk (.slice am nz cm) W) (hkk : kk ≤ 300) (hs60 : ss.size ≤ 60) (hnz : nz ≤ 81) (c1 : W.cell? ⟨sb, 1, none⟩ = some (.string ss))
    (hids : RdJ W (.slice a10 n10 c10) (gE z ss.data.toList)) (hpre : RdP pC (fun _ => False) W (.slice a11 n11 c11) (preZ z ss.data.toList)) (hl : (ln, f) = longZ ss z) (hhn : hn = (headsZ z z.length).length)
    (u0 u1 u2 u5 u7 u8 u9 u15 u16 u17 u18 u19 u20 u21 u22 u23 u24 u25 u26 u27 u28 u29 u30 u31 u32 u33 u34 u35 u36 u37 u38 u39 u40 u41 u42 u43 u44 u45 u46 u47 u48 u49 u50 u51 u52 u53 u54 u55 u56 u57 u58 u59 u60 u61 u62 u63 u64 u65 u66 u67 u68 u69 u70 u71 u72 u73 u74 u75 u76 u77 u78 u79 u80 u81 u82 u83 u84 u85 u86 u87 u88 u89 u90 u91 u92 u93 u94 u95 u96 u97 u98 u99 u100 u101 u102 u103 u104 u105 u106 u107 u108 u109 u110 u111 u112 u113 u114 u115 u116 u117 u118 u119 u120 u121 u122 u123 u124 u125 u126 u127 u128 u129 u130 u131 u132 u133 u134 u135 u136 u137 u138 u139 u140 u141 u142 u143 u144 u145 u146 u147 u148 u149 u150 u151 u152 u153 u154 u155 u156 u157 u158 u159 u160 u161 u162 u163 u164 u165 u166 u167 u168 u169 u170 u171 u172 u173 u174 u175 u176 u177 u178 u179 u180 u181 u182 u183 u184 u185 u186 u187 u188 u189 u190 u191 u192 u193 u194 u195 u196 u197 u198 u199 u200 u201 u202 u203 u204 u205 u206 u207 u208 u209 u210 u211 u212 u213 u214 u215 u216 u217 u218 u219 u220 u221 u222 u223 u224 u225 u226 u227 u228 u229 u230 u231 u232 u233 u234 u235 u236 u237 u238 u239 u240 u241 u242 u243 u244 u245 u246 u247 u248 u249 u250 u251 u252 u253 u254 u255 u256 u257 u258 u259 u260 u261 u262 u263 u264 u265 u266 u267 u268 u269 u270 u271 u272 u273 u274 u275 u276 u277 u278 u279 u280 u281 u282 u283 u284 u285 u286 u287 u288 u289 u290 u291 u292 u293 u294 u295 u296 u297 u298 u299 u300 u301 u302 u303 u304 u305 u306 u307 u308 u309 u310 u311 u312 u313 : Value) (Q : Exit → Act → World → Prop)
    (hQ0 : ∀ (v16 v17 v18 v19 v20 v226 v227 v228 v229 v230 v231 v232 v233 v234 v235 v236 v237 v238 v239 v240 v241 v242 v243 v244 v245 v246 v247 v248 v249 v250 v251 v252 v253 v254 v255 v256 v257 v258 v259 v260 v261 v262 v263 v264 v265 v266 v267 v268 v269 v270 v271 v272 v273 v274 v275 v276 v277 v278 v279 v280 v281 v282 v283 v284 v285 v286 v287 v288 v289 v290 v291 v292 v293 v294 v295 v296 v297 v298 v299 v300 v301 v302 v303 v304 v305 v306 v307 v308 v309 v310 v311 v312 v313 : Value) (wx : World), TyIn w T z kk (.slice am nz cm) wx → Q .normal ⟨#[u0, u1, u2, .pointer (some ⟨T, 0, none⟩), .slice am nz cm, u5, .pointer (some ⟨sb, 0, none⟩), u7, u8, u9, .slice a10 n10 c10, .slice a11 n11 c11, .string ln, .bool f, .int .i64 hn, u15, v16, v17, v18, v19, v20, u21, u22, u23, u24, u25, u26, u27, u28, u29, u30, u31, u32, u33, u34, u35, u36, u37, u38, u39, u40, u41, u42, u43, u44, u45, u46, u47, u48, u49, u50, u51, u52, u53, u54, u55, u56, u57, u58, u59, u60, u61, u62, u63, u64, u65, u66, u67, u68, u69, u70, u71, u72, u73, u74, u75, u76, u77, u78, u79, u80, u81, u82, u83, u84, u85, u86, u87, u88, u89, u90, u91, u92, u93, u94, u95, u96, u97, u98, u99, u100, u101, u102, u103, u104, u105, u106, u107, u108, u109, u110, u111, u112, u113, u114, u115, u116, u117, u118, u119, u120, u121, u122, u123, u124, u125, u126, u127, u128, u129, u130, u131, u132, u133, u134, u135, u136, u137, u138, u139, u140, u141, u142, u143, u144, u145, u146, u147, u148, u149, u150, u151, u152, u153, u154, u155, u156, u157, u158, u159, u160, u161, u162, u163, u164, u165, u166, u167, u168, u169, u170, u171, u172, u173, u174, u175, u176, u177, u178, u179, u180, u181, u182, u183, u184, u185, u186, u187, u188, u189, u190, u191, u192, u193, u194, u195, u196, u197, u198, u199, u200, u201, u202, u203, u204, u205, u206, u207, u208, u209, u210, u211, u212, u213, u214, u215, u216, u217, u218, u219, u220, u221, u222, u223, u224, u225, v226, v227, v228, v229, v230, v231, v232, v233, v234, v235, v236, v237, v238, v239, v240, v241, v242, v243, v244, v245, v246, v247, v248, v249, v250, v251, v252, v253, v254, v255, v256, v257, v258, v259, v260, v261, v262, v263, v264, v265, v266, v267, v268, v269, v270, v271, v272, v273, v274, v275, v276, v277, v278, v279, v280, v281, v282, v283, v284, v285, v286, v287, v288, v289, v290, v291, v292, v293, v294, v295, v296, v297, v298, v299, v300, v301, v302, v303, v304, v305, v306, v307, v308, v309, v310, v311, v312, v313], []⟩ wx) :
    Code.wp Try.prog ((Try.f4.body.bind (aftN 5)).getD .skip) Q ⟨#[u0, u1, u2, .pointer (some ⟨T, 0, none⟩), .slice am nz cm, u5, .pointer (some ⟨sb, 0, none⟩), u7, u8, u9, .slice a10 n10 c10, .slice a11 n11 c11, .string ln, .bool f, .int .i64 hn, u15, u16, u17, u18, u19, u20, u21, u22, u23, u24, u25, u26, u27, u28, u29, u30, u31, u32, u33, u34, u35, u36, u37, u38, u39, u40, u41, u42, u43, u44, u45, u46, u47, u48, u49, u50, u51, u52, u53, u54, u55, u56, u57, u58, u59, u60, u61, u62, u63, u64, u65, u66, u67, u68, u69, u70, u71, u72, u73, u74, u75, u76, u77, u78, u79, u80, u81, u82, u83, u84, u85, u86, u87, u88, u89, u90, u91, u92, u93, u94, u95, u96, u97, u98, u99, u100, u101, u102, u103, u104, u105, u106, u107, u108, u109, u110, u111, u112, u113, u114, u115, u116, u117, u118, u119, u120, u121, u122, u123, u124, u125, u126, u127, u128, u129, u130, u131, u132, u133, u134, u135, u136, u137, u138, u139, u140, u141, u142, u143, u144, u145, u146, u147, u148, u149, u150, u151, u152, u153, u154, u155, u156, u157, u158, u159, u160, u161, u162, u163, u164, u165, u166, u167, u168, u169, u170, u171, u172, u173, u174, u175, u176, u177, u178, u179, u180, u181, u182, u183, u184, u185, u186, u187, u188, u189, u190, u191, u192, u193, u194, u195, u196, u197, u198, u199, u200, u201, u202, u203, u204, u205, u206, u207, u208, u209, u210, u211, u212, u213, u214, u215, u216, u217, u218, u219, u220, u221, u222, u223, u224, u225, u226, u227, u228, u229, u230, u231, u232, u233, u234, u235, u236, u237, u238, u239, u240, u241, u242, u243, u244, u245, u246, u247, u248, u249, u250, u251, u252, u253, u254, u255, u256, u257, u258, u259, u260, u261, u262, u263, u264, u265, u266, u267, u268, u269, u270, u271, u272, u273, u274, u275, u276, u277, u278, u279, u280, u281, u282, u283, u284, u285, u286, u287, u288, u289, u290, u291, u292, u293, u294, u295, u296, u297, u298, u299, u300, u301, u302, u303, u304, u305, u306, u307, u308, u309, u310, u311, u312, u313], []⟩ W := by
  refine ty_rest hi hkk hs60 hnz c1 hids hpre hl hhn u0 u1 u2 u5 u7 u8 u9 u15 u16 u17 u18 u19 u20 u21 u22 u23 u24 u25 u26 u27 u28 u29 u30 u31 u32 u33 u34 u35 u36 u37 u38 u39 u40 u41 u42 u43 u44 u45 u46 u47 u48 u49 u50 u51 u52 u53 u54 u55 u56 u57 u58 u59 u60 u61 u62 u63 u64 u65 u66 u67 u68 u69 u70 u71 u72 u73 u74 u75 u76 u77 u78 u79 u80 u81 u82 u83 u84 u85 u86 u87 u88 u89 u90 u91 u92 u93 u94 u95 u96 u97 u98 u99 u100 u101 u102 u103 u104 u105 u106 u107 u108 u109 u110 u111 u112 u113 u114 u115 u116 u117 u118 u119 u120 u121 u122 u123 u124 u125 u126 u127 u128 u129 u130 u131 u132 u133 u134 u135 u136 u137 u138 u139 u140 u141 u142 u143 u144 u145 u146 u147 u148 u149 u150 u151 u152 u153 u154 u155 u156 u157 u158 u159 u160 u161 u162 u163 u164 u165 u166 u167 u168 u169 u170 u171 u172 u173 u174 u175 u176 u177 u178 u179 u180 u181 u182 u183 u184 u185 u186 u187 u188 u189 u190 u191 u192 u193 u194 u195 u196 u197 u198 u199 u200 u201 u202 u203 u204 u205 u206 u207 u208 u209 u210 u211 u212 u213 u214 u215 u216 u217 u218 u219 u220 u221 u222 u223 u224 u225 u226 u227 u228 u229 u230 u231 u232 u233 u234 u235 u236 u237 u238 u239 u240 u241 u242 u243 u244 u245 u246 u247 u248 u249 u250 u251 u252 u253 u254 u255 u256 u257 u258 u259 u260 u261 u262 u263 u264 u265 u266 u267 u268 u269 u270 u271 u272 u273 u274 u275 u276 u277 u278 u279 u280 u281 u282 u283 u284 u285 u286 u287 u288 u289 u290 u291 u292 u293 u294 u295 u296 u297 u298 u299 u300 u301 u302 u303 u304 u305 u306 u307 u308 u309 u310 u311 u312 u313 Q ?_
  intro a' w' hJ
  unfold Met TyE at hJ
  obtain ⟨v16, hJ⟩ := hJ
  obtain ⟨v17, hJ⟩ := hJ
  obtain ⟨v18, hJ⟩ := hJ
  obtain ⟨v19, hJ⟩ := hJ
  obtain ⟨v20, hJ⟩ := hJ
  obtain ⟨v226, hJ⟩ := hJ
  obtain ⟨v227, hJ⟩ := hJ
  obtain ⟨v228, hJ⟩ := hJ
  obtain ⟨v229, hJ⟩ := hJ
  obtain ⟨v230, hJ⟩ := hJ
  obtain ⟨v231, hJ⟩ := hJ
  obtain ⟨v232, hJ⟩ := hJ
  obtain ⟨v233, hJ⟩ := hJ
  obtain ⟨v234, hJ⟩ := hJ
  obtain ⟨v235, hJ⟩ := hJ
  obtain ⟨v236, hJ⟩ := hJ
  obtain ⟨v237, hJ⟩ := hJ
  obtain ⟨v238, hJ⟩ := hJ
  obtain ⟨v239, hJ⟩ := hJ
  obtain ⟨v240, hJ⟩ := hJ
  obtain ⟨v241, hJ⟩ := hJ
  obtain ⟨v242, hJ⟩ := hJ
  obtain ⟨v243, hJ⟩ := hJ
  obtain ⟨v244, hJ⟩ := hJ
  obtain ⟨v245, hJ⟩ := hJ
  obtain ⟨v246, hJ⟩ := hJ
  obtain ⟨v247, hJ⟩ := hJ
  obtain ⟨v248, hJ⟩ := hJ
  obtain ⟨v249, hJ⟩ := hJ
  obtain ⟨v250, hJ⟩ := hJ
  obtain ⟨v251, hJ⟩ := hJ
  obtain ⟨v252, hJ⟩ := hJ
  obtain ⟨v253, hJ⟩ := hJ
  obtain ⟨v254, hJ⟩ := hJ
  obtain ⟨v255, hJ⟩ := hJ
  obtain ⟨v256, hJ⟩ := hJ
  obtain ⟨v257, hJ⟩ := hJ
  obtain ⟨v258, hJ⟩ := hJ
  obtain ⟨v259, hJ⟩ := hJ
  obtain ⟨v260, hJ⟩ := hJ
  obtain ⟨v261, hJ⟩ := hJ
  obtain ⟨v262, hJ⟩ := hJ
  obtain ⟨v263, hJ⟩ := hJ
  obtain ⟨v264, hJ⟩ := hJ
  obtain ⟨v265, hJ⟩ := hJ
  obtain ⟨v266, hJ⟩ := hJ
  obtain ⟨v267, hJ⟩ := hJ
  obtain ⟨v268, hJ⟩ := hJ
  obtain ⟨v269, hJ⟩ := hJ
  obtain ⟨v270, hJ⟩ := hJ
  obtain ⟨v271, hJ⟩ := hJ
  obtain ⟨v272, hJ⟩ := hJ
  obtain ⟨v273, hJ⟩ := hJ
  obtain ⟨v274, hJ⟩ := hJ
  obtain ⟨v275, hJ⟩ := hJ
  obtain ⟨v276, hJ⟩ := hJ
  obtain ⟨v277, hJ⟩ := hJ
  obtain ⟨v278, hJ⟩ := hJ
  obtain ⟨v279, hJ⟩ := hJ
  obtain ⟨v280, hJ⟩ := hJ
  obtain ⟨v281, hJ⟩ := hJ
  obtain ⟨v282, hJ⟩ := hJ
  obtain ⟨v283, hJ⟩ := hJ
  obtain ⟨v284, hJ⟩ := hJ
  obtain ⟨v285, hJ⟩ := hJ
  obtain ⟨v286, hJ⟩ := hJ
  obtain ⟨v287, hJ⟩ := hJ
  obtain ⟨v288, hJ⟩ := hJ
  obtain ⟨v289, hJ⟩ := hJ
  obtain ⟨v290, hJ⟩ := hJ
  obtain ⟨v291, hJ⟩ := hJ
  obtain ⟨v292, hJ⟩ := hJ
  obtain ⟨v293, hJ⟩ := hJ
  obtain ⟨v294, hJ⟩ := hJ
  obtain ⟨v295, hJ⟩ := hJ
  obtain ⟨v296, hJ⟩ := hJ
  obtain ⟨v297, hJ⟩ := hJ
  obtain ⟨v298, hJ⟩ := hJ
  obtain ⟨v299, hJ⟩ := hJ
  obtain ⟨v300, hJ⟩ := hJ
  obtain ⟨v301, hJ⟩ := hJ
  obtain ⟨v302, hJ⟩ := hJ
  obtain ⟨v303, hJ⟩ := hJ
  obtain ⟨v304, hJ⟩ := hJ
  obtain ⟨v305, hJ⟩ := hJ
  obtain ⟨v306, hJ⟩ := hJ
  obtain ⟨v307, hJ⟩ := hJ
  obtain ⟨v308, hJ⟩ := hJ
  obtain ⟨v309, hJ⟩ := hJ
  obtain ⟨v310, hJ⟩ := hJ
  obtain ⟨v311, hJ⟩ := hJ
  obtain ⟨v312, hJ⟩ := hJ
  obtain ⟨v313, hJ⟩ := hJ
  obtain ⟨hm, rfl⟩ := hJ
  exact hQ0 v16 v17 v18 v19 v20 v226 v227 v228 v229 v230 v231 v232 v233 v234 v235 v236 v237 v238 v239 v240 v241 v242 v243 v244 v245 v246 v247 v248 v249 v250 v251 v252 v253 v254 v255 v256 v257 v258 v259 v260 v261 v262 v263 v264 v265 v266 v267 v268 v269 v270 v271 v272 v273 v274 v275 v276 v277 v278 v279 v280 v281 v282 v283 v284 v285 v286 v287 v288 v289 v290 v291 v292 v293 v294 v295 v296 v297 v298 v299 v300 v301 v302 v303 v304 v305 v306 v307 v308 v309 v310 v311 v312 v313 w' hm
set_option maxRecDepth 1000000 in
theorem ty_at2 {W1 : World} {T : Nat} {z : SZ} {am : Option Addr} {nm cm sb : Nat} {sw : Int} {ss : ByteArray} {si : Int} {X : Nat → Prop} (HRD : Hid (RdP pC X W1 (.slice am nm cm) z)) (HNM : Hid (nm = z.length)) (hn80 : nm ≤ 80) (HB : Hid (∀ w', Up W1 w' → w'.cell? ⟨sb, 0, none⟩ = some (.int .i64 sw) ∧ w'.cell? ⟨sb, 1, none⟩ = some (.string ss) ∧ w'.cell? ⟨sb, 2, none⟩ = some (.int .i64 si)))
    (u0 u1 u2 u5 u8 u9 u10 u11 u12 u13 u14 u15 u16 u17 u18 u19 u20 u21 u22 u23 u24 u25 u26 u27 u28 u29 u30 u31 u32 u33 u34 u35 u36 u37 u38 u39 u40 u41 u42 u43 u44 u45 u46 u47 u48 u49 u50 u51 u52 u53 u54 u55 u56 u57 u58 u59 u60 u61 u62 u63 u64 u65 u66 u67 u68 u69 u70 u71 u72 u73 u74 u75 u76 u77 u78 u79 u80 u81 u82 u83 u84 u85 u86 u87 u88 u89 u90 u91 u92 u93 u94 u95 u96 u97 u98 u99 u100 u101 u102 u103 u104 u105 u106 u107 u108 u109 u110 u111 u112 u113 u114 u115 u116 u117 u118 u119 u120 u121 u122 u123 u124 u125 u126 u127 u128 u129 u130 u131 u132 u133 u134 u135 u136 u137 u138 u139 u140 u141 u142 u143 u144 u145 u146 u147 u148 u149 u150 u151 u152 u153 u154 u155 u156 u157 u158 u159 u160 u161 u162 u163 u164 u165 u166 u167 u168 u169 u170 u171 u172 u173 u174 u175 u176 u177 u178 u179 u180 u181 u182 u183 u184 u185 u186 u187 u188 u189 u190 u191 u192 u193 u194 u195 u196 u197 u198 u199 u200 u201 u202 u203 u204 u205 u206 u207 u208 u209 u210 u211 u212 u213 u214 u215 u216 u217 u218 u219 u220 u221 u222 u223 u224 u225 u226 u227 u228 u229 u230 u231 u232 u233 u234 u235 u236 u237 u238 u239 u240 u241 u242 u243 u244 u245 u246 u247 u248 u249 u250 u251 u252 u253 u254 u255 u256 u257 u258 u259 u260 u261 u262 u263 u264 u265 u266 u267 u268 u269 u270 u271 u272 u273 u274 u275 u276 u277 u278 u279 u280 u281 u282 u283 u284 u285 u286 u287 u288 u289 u290 u291 u292 u293 u294 u295 u296 u297 u298 u299 u300 u301 u302 u303 u304 u305 u306 u307 u308 u309 u310 u311 u312 u313 : Value) (K : Act → World → Prop) (Q : Exit → Act → World → Prop)
    (hK0 : ∀ (v7 v41 v42 v43 v44 v45 v46 v47 v48 v49 v50 v51 v52 v53 v54 v55 v56 v57 v58 v59 v60 v61 v62 v63 v64 v65 v66 v67 v68 v69 v70 v71 v72 v73 v74 v75 v76 : Value) (wx : World), (∃ j : Nat, v7 = .int .i64 j ∧ Spot z (ss, si) j ∧ Up W1 wx) → K ⟨#[u0, u1, u2, .pointer (some ⟨T, 0, none⟩), .slice am nm cm, u5, .pointer (some ⟨sb, 0, none⟩), v7, u8, u9, u10, u11, u12, u13, u14, u15, u16, u17, u18, u19, u20, u21, u22, u23, u24, u25, u26, u27, u28, u29, u30, u31, u32, u33, u34, u35, u36, u37, u38, u39, u40, v41, v42, v43, v44, v45, v46, v47, v48, v49, v50, v51, v52, v53, v54, v55, v56, v57, v58, v59, v60, v61, v62, v63, v64, v65, v66, v67, v68, v69, v70, v71, v72, v73, v74, v75, v76, u77, u78, u79, u80, u81, u82, u83, u84, u85, u86, u87, u88, u89, u90, u91, u92, u93, u94, u95, u96, u97, u98, u99, u100, u101, u102, u103, u104, u105, u106, u107, u108, u109, u110, u111, u112, u113, u114, u115, u116, u117, u118, u119, u120, u121, u122, u123, u124, u125, u126, u127, u128, u129, u130, u131, u132, u133, u134, u135, u136, u137, u138, u139, u140, u141, u142, u143, u144, u145, u146, u147, u148, u149, u150, u151, u152, u153, u154, u155, u156, u157, u158, u159, u160, u161, u162, u163, u164, u165, u166, u167, u168, u169, u170, u171, u172, u173, u174, u175, u176, u177, u178, u179, u180, u181, u182, u183, u184, u185, u186, u187, u188, u189, u190, u191, u192, u193, u194, u195, u196, u197, u198, u199, u200, u201, u202, u203, u204, u205, u206, u207, u208, u209, u210, u211, u212, u213, u214, u215, u216, u217, u218, u219, u220, u221, u222, u223, u224, u225, u226, u227, u228, u229, u230, u231, u232, u233, u234, u235, u236, u237, u238, u239, u240, u241, u242, u243, u244, u245, u246, u247, u248, u249, u250, u251, u252, u253, u254, u255, u256, u257, u258, u259, u260, u261, u262, u263, u264, u265, u266, u267, u268, u269, u270, u271, u272, u273, u274, u275, u276, u277, u278, u279, u280, u281, u282, u283, u284, u285, u286, u287, u288, u289, u290, u291, u292, u293, u294, u295, u296, u297, u298, u299, u300, u301, u302, u303, u304, u305, u306, u307, u308, u309, u310, u311, u312, u313], []⟩ wx) :
    Code.wp Try.prog ((Try.f4.body.bind (blkN 2)).getD .skip) (Exit.then K Q) ⟨#[u0, u1, u2, .pointer (some ⟨T, 0, none⟩), .slice am nm cm, u5, .pointer (some ⟨sb, 0, none⟩), .int .i64 0, u8, u9, u10, u11, u12, u13, u14, u15, u16, u17, u18, u19, u20, u21, u22, u23, u24, u25, u26, u27, u28, u29, u30, u31, u32, u33, u34, u35, u36, u37, u38, u39, u40, u41, u42, u43, u44, u45, u46, u47, u48, u49, u50, u51, u52, u53, u54, u55, u56, u57, u58, u59, u60, u61, u62, u63, u64, u65, u66, u67, u68, u69, u70, u71, u72, u73, u74, u75, u76, u77, u78, u79, u80, u81, u82, u83, u84, u85, u86, u87, u88, u89, u90, u91, u92, u93, u94, u95, u96, u97, u98, u99, u100, u101, u102, u103, u104, u105, u106, u107, u108, u109, u110, u111, u112, u113, u114, u115, u116, u117, u118, u119, u120, u121, u122, u123, u124, u125, u126, u127, u128, u129, u130, u131, u132, u133, u134, u135, u136, u137, u138, u139, u140, u141, u142, u143, u144, u145, u146, u147, u148, u149, u150, u151, u152, u153, u154, u155, u156, u157, u158, u159, u160, u161, u162, u163, u164, u165, u166, u167, u168, u169, u170, u171, u172, u173, u174, u175, u176, u177, u178, u179, u180, u181, u182, u183, u184, u185, u186, u187, u188, u189, u190, u191, u192, u193, u194, u195, u196, u197, u198, u199, u200, u201, u202, u203, u204, u205, u206, u207, u208, u209, u210, u211, u212, u213, u214, u215, u216, u217, u218, u219, u220, u221, u222, u223, u224, u225, u226, u227, u228, u229, u230, u231, u232, u233, u234, u235, u236, u237, u238, u239, u240, u241, u242, u243, u244, u245, u246, u247, u248, u249, u250, u251, u252, u253, u254, u255, u256, u257, u258, u259, u260, u261, u262, u263, u264, u265, u266, u267, u268, u269, u270, u271, u272, u273, u274, u275, u276, u277, u278, u279, u280, u281, u282, u283, u284, u285, u286, u287, u288, u289, u290, u291, u292, u293, u294, u295, u296, u297, u298, u299, u300, u301, u302, u303, u304, u305, u306, u307, u308, u309, u310, u311, u312, u313], []⟩ W1 := by
  refine ty_at HRD HNM hn80 HB u0 u1 u2 u5 u8 u9 u10 u11 u12 u13 u14 u15 u16 u17 u18 u19 u20 u21 u22 u23 u24 u25 u26 u27 u28 u29 u30 u31 u32 u33 u34 u35 u36 u37 u38 u39 u40 u41 u42 u43 u44 u45 u46 u47 u48 u49 u50 u51 u52 u53 u54 u55 u56 u57 u58 u59 u60 u61 u62 u63 u64 u65 u66 u67 u68 u69 u70 u71 u72 u73 u74 u75 u76 u77 u78 u79 u80 u81 u82 u83 u84 u85 u86 u87 u88 u89 u90 u91 u92 u93 u94 u95 u96 u97 u98 u99 u100 u101 u102 u103 u104 u105 u106 u107 u108 u109 u110 u111 u112 u113 u114 u115 u116 u117 u118 u119 u120 u121 u122 u123 u124 u125 u126 u127 u128 u129 u130 u131 u132 u133 u134 u135 u136 u137 u138 u139 u140 u141 u142 u143 u144 u145 u146 u147 u148 u149 u150 u151 u152 u153 u154 u155 u156 u157 u158 u159 u160 u161 u162 u163 u164 u165 u166 u167 u168 u169 u170 u171 u172 u173 u174 u175 u176 u177 u178 u179 u180 u181 u182 u183 u184 u185 u186 u187 u188 u189 u190 u191 u192 u193 u194 u195 u196 u197 u198 u199 u200 u201 u202 u203 u204 u205 u206 u207 u208 u209 u210 u211 u212 u213 u214 u215 u216 u217 u218 u219 u220 u221 u222 u223 u224 u225 u226 u227 u228 u229 u230 u231 u232 u233 u234 u235 u236 u237 u238 u239 u240 u241 u242 u243 u244 u245 u246 u247 u248 u249 u250 u251 u252 u253 u254 u255 u256 u257 u258 u259 u260 u261 u262 u263 u264 u265 u266 u267 u268 u269 u270 u271 u272 u273 u274 u275 u276 u277 u278 u279 u280 u281 u282 u283 u284 u285 u286 u287 u288 u289 u290 u291 u292 u293 u294 u295 u296 u297 u298 u299 u300 u301 u302 u303 u304 u305 u306 u307 u308 u309 u310 u311 u312 u313 K Q ?_
  intro a' w' hJ
  unfold Met TaJ at hJ
  obtain ⟨v7, hJ⟩ := hJ
  obtain ⟨v41, hJ⟩ := hJ
  obtain ⟨v42, hJ⟩ := hJ
  obtain ⟨v43, hJ⟩ := hJ
  obtain ⟨v44, hJ⟩ := hJ
  obtain ⟨v45, hJ⟩ := hJ
  obtain ⟨v46, hJ⟩ := hJ
  obtain ⟨v47, hJ⟩ := hJ
  obtain ⟨v48, hJ⟩ := hJ
  obtain ⟨v49, hJ⟩ := hJ
  obtain ⟨v50, hJ⟩ := hJ
  obtain ⟨v51, hJ⟩ := hJ
  obtain ⟨v52, hJ⟩ := hJ
  obtain ⟨v53, hJ⟩ := hJ
  obtain ⟨v54, hJ⟩ := hJ
  obtain ⟨v55, hJ⟩ := hJ
  obtain ⟨v56, hJ⟩ := hJ
  obtain ⟨v57, hJ⟩ := hJ
  obtain ⟨v58, hJ⟩ := hJ
  obtain ⟨v59, hJ⟩ := hJ
  obtain ⟨v60, hJ⟩ := hJ
  obtain ⟨v61, hJ⟩ := hJ
  obtain ⟨v62, hJ⟩ := hJ
  obtain ⟨v63, hJ⟩ := hJ
  obtain ⟨v64, hJ⟩ := hJ
  obtain ⟨v65, hJ⟩ := hJ
  obtain ⟨v66, hJ⟩ := hJ
  obtain ⟨v67, hJ⟩ := hJ
  obtain ⟨v68, hJ⟩ := hJ
  obtain ⟨v69, hJ⟩ := hJ
  obtain ⟨v70, hJ⟩ := hJ
  obtain ⟨v71, hJ⟩ := hJ
  obtain ⟨v72, hJ⟩ := hJ
  obtain ⟨v73, hJ⟩ := hJ
  obtain ⟨v74, hJ⟩ := hJ
  obtain ⟨v75, hJ⟩ := hJ
  obtain ⟨v76, hJ⟩ := hJ
  obtain ⟨hm, rfl⟩ := hJ
  exact hK0 v7 v41 v42 v43 v44 v45 v46 v47 v48 v49 v50 v51 v52 v53 v54 v55 v56 v57 v58 v59 v60 v61 v62 v63 v64 v65 v66 v67 v68 v69 v70 v71 v72 v73 v74 v75 v76 w' hm
set_option maxRecDepth 1000000 in
theorem ty_in2 {W1 : World} {T : Nat} {z : SZ} {am : Option Addr} {nm cm sb : Nat} {sw : Int} {ss : ByteArray} {si : Int} {X : Nat → Prop} {ib : Bool} {j : Nat} (HRD : Hid (RdP pC X W1 (.slice am nm cm) z)) (HNM : Hid (nm = z.length)) (hn80 : nm ≤ 80) (HB : Hid (∀ w', Up W1 w' → w'.cell? ⟨sb, 0, none⟩ = some (.int .i64 sw) ∧ w'.cell? ⟨sb, 1, none⟩ = some (.string ss) ∧ w'.cell? ⟨sb, 2, none⟩ = some (.int .i64 si)))
    (HSRT : Hid (SrtP z)) (HSP : Hid (Spot z (ss, si) j)) (HIB : Hid (ib = true ↔ (ss, si) ∈ z)) (wc : World) (HUC : Hid (Up W1 wc))
    (u0 u1 u2 u5 u8 u9 u10 u11 u12 u13 u14 u15 u16 u17 u18 u19 u20 u21 u22 u23 u24 u25 u26 u27 u28 u29 u30 u31 u32 u33 u34 u35 u36 u37 u38 u39 u40 u41 u42 u43 u44 u45 u46 u47 u48 u49 u50 u51 u52 u53 u54 u55 u56 u57 u58 u59 u60 u61 u62 u63 u64 u65 u66 u67 u68 u69 u70 u71 u72 u73 u74 u75 u76 u77 u78 u79 u80 u81 u82 u83 u84 u85 u86 u87 u88 u89 u90 u91 u92 u93 u94 u95 u96 u97 u98 u99 u100 u101 u102 u103 u104 u105 u106 u107 u108 u109 u110 u111 u112 u113 u114 u115 u116 u117 u118 u119 u120 u121 u122 u123 u124 u125 u126 u127 u128 u129 u130 u131 u132 u133 u134 u135 u136 u137 u138 u139 u140 u141 u142 u143 u144 u145 u146 u147 u148 u149 u150 u151 u152 u153 u154 u155 u156 u157 u158 u159 u160 u161 u162 u163 u164 u165 u166 u167 u168 u169 u170 u171 u172 u173 u174 u175 u176 u177 u178 u179 u180 u181 u182 u183 u184 u185 u186 u187 u188 u189 u190 u191 u192 u193 u194 u195 u196 u197 u198 u199 u200 u201 u202 u203 u204 u205 u206 u207 u208 u209 u210 u211 u212 u213 u214 u215 u216 u217 u218 u219 u220 u221 u222 u223 u224 u225 u226 u227 u228 u229 u230 u231 u232 u233 u234 u235 u236 u237 u238 u239 u240 u241 u242 u243 u244 u245 u246 u247 u248 u249 u250 u251 u252 u253 u254 u255 u256 u257 u258 u259 u260 u261 u262 u263 u264 u265 u266 u267 u268 u269 u270 u271 u272 u273 u274 u275 u276 u277 u278 u279 u280 u281 u282 u283 u284 u285 u286 u287 u288 u289 u290 u291 u292 u293 u294 u295 u296 u297 u298 u299 u300 u301 u302 u303 u304 u305 u306 u307 u308 u309 u310 u311 u312 u313 : Value) (K : Act → World → Prop) (Q : Exit → Act → World → Prop)
    (hK0 : ∀ (v77 v78 v79 v80 v81 v82 v83 v84 v85 v86 v87 v88 v89 v90 v91 v92 : Value) (wx : World), Up W1 wx → K ⟨#[u0, u1, u2, .pointer (some ⟨T, 0, none⟩), .slice am nm cm, u5, .pointer (some ⟨sb, 0, none⟩), .int .i64 j, .bool ib, u9, u10, u11, u12, u13, u14, u15, u16, u17, u18, u19, u20, u21, u22, u23, u24, u25, u26, u27, u28, u29, u30, u31, u32, u33, u34, u35, u36, u37, u38, u39, u40, u41, u42, u43, u44, u45, u46, u47, u48, u49, u50, u51, u52, u53, u54, u55, u56, u57, u58, u59, u60, u61, u62, u63, u64, u65, u66, u67, u68, u69, u70, u71, u72, u73, u74, u75, u76, v77, v78, v79, v80, v81, v82, v83, v84, v85, v86, v87, v88, v89, v90, v91, v92, u93, u94, u95, u96, u97, u98, u99, u100, u101, u102, u103, u104, u105, u106, u107, u108, u109, u110, u111, u112, u113, u114, u115, u116, u117, u118, u119, u120, u121, u122, u123, u124, u125, u126, u127, u128, u129, u130, u131, u132, u133, u134, u135, u136, u137, u138, u139, u140, u141, u142, u143, u144, u145, u146, u147, u148, u149, u150, u151, u152, u153, u154, u155, u156, u157, u158, u159, u160, u161, u162, u163, u164, u165, u166, u167, u168, u169, u170, u171, u172, u173, u174, u175, u176, u177, u178, u179, u180, u181, u182, u183, u184, u185, u186, u187, u188, u189, u190, u191, u192, u193, u194, u195, u196, u197, u198, u199, u200, u201, u202, u203, u204, u205, u206, u207, u208, u209, u210, u211, u212, u213, u214, u215, u216, u217, u218, u219, u220, u221, u222, u223, u224, u225, u226, u227, u228, u229, u230, u231, u232, u233, u234, u235, u236, u237, u238, u239, u240, u241, u242, u243, u244, u245, u246, u247, u248, u249, u250, u251, u252, u253, u254, u255, u256, u257, u258, u259, u260, u261, u262, u263, u264, u265, u266, u267, u268, u269, u270, u271, u272, u273, u274, u275, u276, u277, u278, u279, u280, u281, u282, u283, u284, u285, u286, u287, u288, u289, u290, u291, u292, u293, u294, u295, u296, u297, u298, u299, u300, u301, u302, u303, u304, u305, u306, u307, u308, u309, u310, u311, u312, u313], []⟩ wx) :
    Code.wp Try.prog ((Try.f4.body.bind (rgnN 16)).getD .skip) (Exit.then K Q) ⟨#[u0, u1, u2, .pointer (some ⟨T, 0, none⟩), .slice am nm cm, u5, .pointer (some ⟨sb, 0, none⟩), .int .i64 j, u8, u9, u10, u11, u12, u13, u14, u15, u16, u17, u18, u19, u20, u21, u22, u23, u24, u25, u26, u27, u28, u29, u30, u31, u32, u33, u34, u35, u36, u37, u38, u39, u40, u41, u42, u43, u44, u45, u46, u47, u48, u49, u50, u51, u52, u53, u54, u55, u56, u57, u58, u59, u60, u61, u62, u63, u64, u65, u66, u67, u68, u69, u70, u71, u72, u73, u74, u75, u76, u77, u78, u79, u80, u81, u82, u83, u84, u85, u86, u87, u88, u89, u90, u91, u92, u93, u94, u95, u96, u97, u98, u99, u100, u101, u102, u103, u104, u105, u106, u107, u108, u109, u110, u111, u112, u113, u114, u115, u116, u117, u118, u119, u120, u121, u122, u123, u124, u125, u126, u127, u128, u129, u130, u131, u132, u133, u134, u135, u136, u137, u138, u139, u140, u141, u142, u143, u144, u145, u146, u147, u148, u149, u150, u151, u152, u153, u154, u155, u156, u157, u158, u159, u160, u161, u162, u163, u164, u165, u166, u167, u168, u169, u170, u171, u172, u173, u174, u175, u176, u177, u178, u179, u180, u181, u182, u183, u184, u185, u186, u187, u188, u189, u190, u191, u192, u193, u194, u195, u196, u197, u198, u199, u200, u201, u202, u203, u204, u205, u206, u207, u208, u209, u210, u211, u212, u213, u214, u215, u216, u217, u218, u219, u220, u221, u222, u223, u224, u225, u226, u227, u228, u229, u230, u231, u232, u233, u234, u235, u236, u237, u238, u239, u240, u241, u242, u243, u244, u245, u246, u247, u248, u249, u250, u251, u252, u253, u254, u255, u256, u257, u258, u259, u260, u261, u262, u263, u264, u265, u266, u267, u268, u269, u270, u271, u272, u273, u274, u275, u276, u277, u278, u279, u280, u281, u282, u283, u284, u285, u286, u287, u288, u289, u290, u291, u292, u293, u294, u295, u296, u297, u298, u299, u300, u301, u302, u303, u304, u305, u306, u307, u308, u309, u310, u311, u312, u313], []⟩ wc := by
  refine ty_in HRD HNM hn80 HB HSRT HSP HIB wc HUC u0 u1 u2 u5 u8 u9 u10 u11 u12 u13 u14 u15 u16 u17 u18 u19 u20 u21 u22 u23 u24 u25 u26 u27 u28 u29 u30 u31 u32 u33 u34 u35 u36 u37 u38 u39 u40 u41 u42 u43 u44 u45 u46 u47 u48 u49 u50 u51 u52 u53 u54 u55 u56 u57 u58 u59 u60 u61 u62 u63 u64 u65 u66 u67 u68 u69 u70 u71 u72 u73 u74 u75 u76 u77 u78 u79 u80 u81 u82 u83 u84 u85 u86 u87 u88 u89 u90 u91 u92 u93 u94 u95 u96 u97 u98 u99 u100 u101 u102 u103 u104 u105 u106 u107 u108 u109 u110 u111 u112 u113 u114 u115 u116 u117 u118 u119 u120 u121 u122 u123 u124 u125 u126 u127 u128 u129 u130 u131 u132 u133 u134 u135 u136 u137 u138 u139 u140 u141 u142 u143 u144 u145 u146 u147 u148 u149 u150 u151 u152 u153 u154 u155 u156 u157 u158 u159 u160 u161 u162 u163 u164 u165 u166 u167 u168 u169 u170 u171 u172 u173 u174 u175 u176 u177 u178 u179 u180 u181 u182 u183 u184 u185 u186 u187 u188 u189 u190 u191 u192 u193 u194 u195 u196 u197 u198 u199 u200 u201 u202 u203 u204 u205 u206 u207 u208 u209 u210 u211 u212 u213 u214 u215 u216 u217 u218 u219 u220 u221 u222 u223 u224 u225 u226 u227 u228 u229 u230 u231 u232 u233 u234 u235 u236 u237 u238 u239 u240 u241 u242 u243 u244 u245 u246 u247 u248 u249 u250 u251 u252 u253 u254 u255 u256 u257 u258 u259 u260 u261 u262 u263 u264 u265 u266 u267 u268 u269 u270 u271 u272 u273 u274 u275 u276 u277 u278 u279 u280 u281 u282 u283 u284 u285 u286 u287 u288 u289 u290 u291 u292 u293 u294 u295 u296 u297 u298 u299 u300 u301 u302 u303 u304 u305 u306 u307 u308 u309 u310 u311 u312 u313 K Q ?_
  intro a' w' hJ
  unfold Met TbJ at hJ
  obtain ⟨v77, hJ⟩ := hJ
  obtain ⟨v78, hJ⟩ := hJ
  obtain ⟨v79, hJ⟩ := hJ
  obtain ⟨v80, hJ⟩ := hJ
  obtain ⟨v81, hJ⟩ := hJ
  obtain ⟨v82, hJ⟩ := hJ
  obtain ⟨v83, hJ⟩ := hJ
  obtain ⟨v84, hJ⟩ := hJ
  obtain ⟨v85, hJ⟩ := hJ
  obtain ⟨v86, hJ⟩ := hJ
  obtain ⟨v87, hJ⟩ := hJ
  obtain ⟨v88, hJ⟩ := hJ
  obtain ⟨v89, hJ⟩ := hJ
  obtain ⟨v90, hJ⟩ := hJ
  obtain ⟨v91, hJ⟩ := hJ
  obtain ⟨v92, hJ⟩ := hJ
  obtain ⟨hm, rfl⟩ := hJ
  exact hK0 v77 v78 v79 v80 v81 v82 v83 v84 v85 v86 v87 v88 v89 v90 v91 v92 w' hm
set_option maxHeartbeats 8000000 in
theorem triePlays_many (a0 : Option Addr) (n0 c0 : Nat) (w : World) (hn : ¬ n0 ≤ 80) :
    Calls Try.prog 4 #[.slice a0 n0 c0] w fun e w' => e = .returned (.bool true) ∧ Up w w' := by
  have g0 : (n0 : Int) > 80 := by omega
  have g1 : (80 : Int) < (n0 : Int) := by omega
  have g2 : decide ((n0 : Int) > 80) = true := decide_eq_true g0
  clear hn
  go_enter Try.func4, Try.ntmps4
  go_wp2_with fail
  refine (known15_calls w).mono ?_
  rintro _ wk ⟨rfl, huk⟩
  dsimp only
  go_wp2
  go_ret
  exact ⟨rfl, huk⟩
set_option maxHeartbeats 16000000 in
theorem triePlays_few (a0 : Option Addr) (n0 c0 : Nat) (l : List T15) (w : World) (hl : Steps15 w a0 n0 l) (hn : n0 ≤ 80) :
    Calls Try.prog 4 #[.slice a0 n0 c0] w fun e w' => e = .returned (.bool true) ∧ Up w w' := by
  have HL := hide hl
  have g0 : decide ((n0 : Int) > 80) = false := decide_eq_false (by omega)
  have g0' : ¬ ((n0 : Int) > 80) := by omega
  have g0'' : ¬ (80 : Int) < (n0 : Int) := by omega
  clear hl
  go_enter Try.func4, Try.ntmps4
  go_wp2_with fail
  refine (known15_calls w).mono ?_
  rintro _ wk ⟨rfl, huk⟩
  replace huk := hide huk
  dsimp only
  go_wp2_with fail
  refine (trnew_calls wk).mono ?_
  rintro _ w0 ⟨T, O, rfl, hT, htr, hO, hu⟩
  have HA0 : Hid (TyRnd w T 0 (.slice none 0 0) w0) := hide ⟨[], 0, ⟨⟨O, by rw [gE_nil]; exact htr, fun y hy => Nat.le_trans huk.out.size (hO y hy), RdP.nil _ _ _⟩, List.Pairwise.nil, (fun p hp => by cases hp), huk.out.trans hu⟩, Nat.le_refl _, Nat.le_refl _⟩
  clear htr hO hu hT huk
  dsimp only
  go_wp2_with fail
  go_loopw [4, 5] (fun mv iv wr => ∃ i : Nat, i ≤ n0 ∧ iv = .int .i64 i ∧ Hid (TyRnd w T i mv wr)) (fun _ iv _ => n0 - (intOf iv).toNat)
  case atStart => exact ⟨0, Nat.zero_le _, rfl, HA0⟩
  case round =>
    obtain ⟨i, hi, rfl, hA⟩ := hrel
    clear HA0
    by_cases hlt : i < n0
    · have hlt' : (i : Int) < (n0 : Int) := by omega
      have i0 : (0 : Int) ≤ (i : Int) := by omega
      obtain ⟨z, kk, hin, hzl, hkk⟩ := hA.out
      obtain ⟨O, t1, t2, rdm⟩ := hin.tr
      obtain ⟨am, nm, cm, rfl, hnm, hcm⟩ := rdm.sliceN
      have hil : i < l.length := by rw [HL.out.1]; exact hlt
      obtain ⟨s, hs⟩ : ∃ s, s = l[i] := ⟨_, rfl⟩
      obtain ⟨gb, ob, rfl, hg⟩ : ∃ gb ob, a0 = some ⟨gb, ob, none⟩ ∧ ∀ (j : Nat) (v : Value), (t15Cells s)[j]? = some v → wr.cell? ⟨gb, ob + i * 3 + j, none⟩ = some v := by
        rcases HL.out.2.2 with h0 | ⟨b, off, e, hc⟩
        · omega
        · exact ⟨b, off, e, fun j v hv => hin.up.cell (hc i hil j v (by rw [← hs]; exact hv))⟩
      obtain ⟨sw, ss, si⟩ := s
      have q0 : wr.cell? ⟨gb, ob + i * 3, none⟩ = some (.int .i64 sw) := hg 0 _ rfl
      have q1 : wr.cell? ⟨gb, ob + i * 3 + 1, none⟩ = some (.string ss) := hg 1 _ rfl
      have q2 : wr.cell? ⟨gb, ob + i * 3 + 2, none⟩ = some (.int .i64 si) := hg 2 _ rfl
      have HNM : Hid (nm = z.length) := hnm.out
      have HCM : Hid (nm ≤ cm) := hcm.out
      have hn80 : nm ≤ 80 := by rw [hnm.out]; omega
      have hk160 : kk ≤ 160 := by omega
      have HIN := hide hin
      have HZL := hide hzl
      have HKK := hide hkk
      have HTL : Hid (∀ y, O y → y < wr.heap.size) := t1.lt
      obtain ⟨W1, hW1⟩ : ∃ W1, W1 = wr.alloc (.cells #[.int .i64 sw, .string ss, .int .i64 si] 41) := ⟨_, rfl⟩
      have u1 : Up wr W1 := by rw [hW1]; exact (Up.refl _).alloc _
      obtain ⟨sb, hsb⟩ : ∃ sb, sb = wr.heap.size := ⟨_, rfl⟩
      have HB : Hid (∀ w', Up W1 w' → w'.cell? ⟨sb, 0, none⟩ = some (.int .i64 sw) ∧ w'.cell? ⟨sb, 1, none⟩ = some (.string ss) ∧ w'.cell? ⟨sb, 2, none⟩ = some (.int .i64 si)) := hide (fun w' hu => by
        rw [hsb]
        exact ⟨hu.cell (by rw [hW1]; go_simp), hu.cell (by rw [hW1]; go_simp), hu.cell (by rw [hW1]; go_simp)⟩)
      have HT1 : Hid (∀ w', Up W1 w' → ∃ O, TrI w' T O (gE z) z.length kk ∧ (∀ y, O y → w.heap.size ≤ y) ∧ RdP pC O w' (.slice am nm cm) z ∧ ¬ O sb) := hide (fun w' hu => ⟨O, t1.up (u1.trans hu), t2, rdm.up (u1.trans hu), fun e => by have := t1.lt sb e; omega⟩)
      have HUP : Hid (∀ w', Up W1 w' → Up w w') := hide (fun w' hu => hin.up.trans (u1.trans hu))
      have HRD := hide (rdm.up u1)
      have HW1 := hide hW1
      have HSB := hide hsb
      clear hA hin t1 t2 rdm hg hnm hcm hs hzl hkk u1 hW1 hsb
      by_cases h60 : ss.size ≤ 60
      · have d60 : ¬ (ss.size : Int) > 60 := by omega
        have d60' : ¬ (60 : Int) < (ss.size : Int) := by omega
        go_upto_region 13 with fail
        rw [← HW1.out, ← HSB.out]
        clear q0 q1 q2
        go_upto_block 2 with fail
        refine ty_at2 HRD HNM hn80 HB _ _ _ _ _ _ _ _ _ _ _ _ _ _ _ _ _ _ _ _ _ _ _ _ _ _ _ _ _ _ _ _ _ _ _ _ _ _ _ _ _ _ _ _ _ _ _ _ _ _ _ _ _ _ _ _ _ _ _ _ _ _ _ _ _ _ _ _ _ _ _ _ _ _ _ _ _ _ _ _ _ _ _ _ _ _ _ _ _ _ _ _ _ _ _ _ _ _ _ _ _ _ _ _ _ _ _ _ _ _ _ _ _ _ _ _ _ _ _ _ _ _ _ _ _ _ _ _ _ _ _ _ _ _ _ _ _ _ _ _ _ _ _ _ _ _ _ _ _ _ _ _ _ _ _ _ _ _ _ _ _ _ _ _ _ _ _ _ _ _ _ _ _ _ _ _ _ _ _ _ _ _ _ _ _ _ _ _ _ _ _ _ _ _ _ _ _ _ _ _ _ _ _ _ _ _ _ _ _ _ _ _ _ _ _ _ _ _ _ _ _ _ _ _ _ _ _ _ _ _ _ _ _ _ _ _ _ _ _ _ _ _ _ _ _ _ _ _ _ _ _ _ _ _ _ _ _ _ _ _ _ _ _ _ _ _ _ _ _ _ _ _ _ _ _ _ _ _ _ _ _ _ _ _ _ _ _ _ _ _ _ _ _ _ _ _ _ _ _ _ _ _ _ _ _ _ _ _ _ _ _ _ ?_
        intro v7 v41 v42 v43 v44 v45 v46 v47 v48 v49 v50 v51 v52 v53 v54 v55 v56 v57 v58 v59 v60 v61 v62 v63 v64 v65 v66 v67 v68 v69 v70 v71 v72 v73 v74 v75 v76 wx hme
        obtain ⟨j, rfl, hsp, hux⟩ := hme
        have HSP := hide hsp
        have HUX := hide hux
        clear hsp hux
        rename_i hK0
        refine hK0 _ _ ?_
        obtain ⟨ib, hib⟩ : ∃ ib : Bool, ib = true ↔ (ss, si) ∈ z := by
          by_cases h : (ss, si) ∈ z
          · exact ⟨true, fun _ => h, fun _ => rfl⟩
          · exact ⟨false, fun e => (by cases e), fun e => absurd e h⟩
        have HIB := hide hib
        clear hib
        go_upto_region 16 with fail
        refine ty_in2 HRD HNM hn80 HB (hide HIN.out.srt) HSP HIB _ HUX _ _ _ _ _ _ _ _ _ _ _ _ _ _ _ _ _ _ _ _ _ _ _ _ _ _ _ _ _ _ _ _ _ _ _ _ _ _ _ _ _ _ _ _ _ _ _ _ _ _ _ _ _ _ _ _ _ _ _ _ _ _ _ _ _ _ _ _ _ _ _ _ _ _ _ _ _ _ _ _ _ _ _ _ _ _ _ _ _ _ _ _ _ _ _ _ _ _ _ _ _ _ _ _ _ _ _ _ _ _ _ _ _ _ _ _ _ _ _ _ _ _ _ _ _ _ _ _ _ _ _ _ _ _ _ _ _ _ _ _ _ _ _ _ _ _ _ _ _ _ _ _ _ _ _ _ _ _ _ _ _ _ _ _ _ _ _ _ _ _ _ _ _ _ _ _ _ _ _ _ _ _ _ _ _ _ _ _ _ _ _ _ _ _ _ _ _ _ _ _ _ _ _ _ _ _ _ _ _ _ _ _ _ _ _ _ _ _ _ _ _ _ _ _ _ _ _ _ _ _ _ _ _ _ _ _ _ _ _ _ _ _ _ _ _ _ _ _ _ _ _ _ _ _ _ _ _ _ _ _ _ _ _ _ _ _ _ _ _ _ _ _ _ _ _ _ _ _ _ _ _ _ _ _ _ _ _ _ _ _ _ _ _ _ _ _ _ _ _ _ _ _ _ _ _ _ _ _ _ _ _ _ ?_
        intro v77 v78 v79 v80 v81 v82 v83 v84 v85 v86 v87 v88 v89 v90 v91 v92 wc hU8
        rename_i hKb
        refine hKb _ _ ?_
        have HPA : Hid (TyAt w T z kk am nm cm sb sw ss si j ib wc) := hide ⟨(HB.out _ hU8).1, (HB.out _ hU8).2.1, (HB.out _ hU8).2.2, HT1.out _ hU8, HIN.out.srt, HIN.out.str, HSP.out, HIB.out, HNM.out, HCM.out, hn80, by omega, h60, HUP.out _ hU8⟩
        clear hU8 HUX HSP HIB HRD
        go_upto_block 4 with fail
        refine ty_act HPA.out _ _ _ _ _ _ _ _ _ _ _ _ _ _ _ _ _ _ _ _ _ _ _ _ _ _ _ _ _ _ _ _ _ _ _ _ _ _ _ _ _ _ _ _ _ _ _ _ _ _ _ _ _ _ _ _ _ _ _ _ _ _ _ _ _ _ _ _ _ _ _ _ _ _ _ _ _ _ _ _ _ _ _ _ _ _ _ _ _ _ _ _ _ _ _ _ _ _ _ _ _ _ _ _ _ _ _ _ _ _ _ _ _ _ _ _ _ _ _ _ _ _ _ _ _ _ _ _ _ _ _ _ _ _ _ _ _ _ _ _ _ _ _ _ _ _ _ _ _ _ _ _ _ _ _ _ _ _ _ _ _ _ _ _ _ _ _ _ _ _ _ _ _ _ _ _ _ _ _ _ _ _ _ _ _ _ _ _ _ _ _ _ _ _ _ _ _ _ _ _ _ _ _ _ _ _ _ _ _ _ _ _ _ _ _ _ _ _ _ _ _ _ _ _ _ _ _ _ _ _ _ _ _ _ _ _ _ _ _ _ _ _ _ _ _ _ _ _ _ _ _ _ _ _ _ _ _ _ _ _ _ _ _ _ _ _ _ _ _ _ _ _ _ _ _ _ _ _ _ _ _ _ _ _ _ _ _ _ _ _ _ _ _ _ _ _ _ _ _ _ _ _ _ _ _ _ _ _ _ _ _ ?_
        intro v4 v9 v93 v94 v95 v96 v97 v98 v99 v100 v101 v102 v103 v104 v105 v106 v107 v108 v109 v110 v111 v112 v113 v114 v115 v116 v117 v118 v119 v120 v121 v122 v123 v124 v125 v126 v127 v128 v129 v130 v131 v132 v133 v134 v135 v136 v137 v138 v139 v140 v141 v142 wx hmid
        obtain ⟨z2, k2, hin2, hz2, hk2, c1⟩ := hmid
        obtain ⟨O2, -, -, rd2⟩ := hin2.tr
        obtain ⟨am2, nz, cm2, rfl, hnz, -⟩ := rd2.sliceN
        have HNZ : Hid (nz = z2.length) := hnz.out
        have HZ2 := hide hz2
        have HK2 := hide hk2
        have HIN2 := hide hin2
        have HRD2 := hide rd2
        have HC1 := hide c1
        have hz81 : nz ≤ 81 := by have := HNZ.out; have := HNM.out; omega
        have hk162 : k2 ≤ 162 := by omega
        clear hin2 rd2 c1 hnz hz2 hk2
        rename_i hK1
        refine hK1 _ _ ?_
        go_upto_block 5 with fail
        refine ty_k2 HRD2.out HC1.out hz81 HIN2.out.str _ _ _ _ _ _ _ _ _ _ _ _ _ _ _ _ _ _ _ _ _ _ _ _ _ _ _ _ _ _ _ _ _ _ _ _ _ _ _ _ _ _ _ _ _ _ _ _ _ _ _ _ _ _ _ _ _ _ _ _ _ _ _ _ _ _ _ _ _ _ _ _ _ _ _ _ _ _ _ _ _ _ _ _ _ _ _ _ _ _ _ _ _ _ _ _ _ _ _ _ _ _ _ _ _ _ _ _ _ _ _ _ _ _ _ _ _ _ _ _ _ _ _ _ _ _ _ _ _ _ _ _ _ _ _ _ _ _ _ _ _ _ _ _ _ _ _ _ _ _ _ _ _ _ _ _ _ _ _ _ _ _ _ _ _ _ _ _ _ _ _ _ _ _ _ _ _ _ _ _ _ _ _ _ _ _ _ _ _ _ _ _ _ _ _ _ _ _ _ _ _ _ _ _ _ _ _ _ _ _ _ _ _ _ _ _ _ _ _ _ _ _ _ _ _ _ _ _ _ _ _ _ _ _ _ _ _ _ _ _ _ _ _ _ _ _ _ _ _ _ _ _ _ _ _ _ _ _ _ _ _ _ _ _ _ _ _ _ _ _ _ _ _ _ _ _ _ _ _ _ _ _ _ _ _ _ _ _ _ _ _ _ _ _ _ _ _ _ _ _ _ _ _ _ _ _ _ ?_
        intro v10 v11 v12 v13 v14 v15 v143 v144 v145 v146 v147 v148 v149 v150 v151 v152 v153 v154 v155 v156 v157 v158 v159 v160 v161 v162 v163 v164 v165 v166 v167 v168 v169 v170 v171 v172 v173 v174 v175 v176 v177 v178 v179 v180 v181 v182 v183 v184 v185 v186 v187 v188 v189 v190 v191 v192 v193 v194 v195 v196 v197 v198 v199 v200 v201 v202 v203 v204 v205 v206 v207 v208 v209 v210 v211 v212 v213 v214 v215 v216 v217 v218 v219 v220 v221 v222 v223 v224 v225 wy htk
        rename_i hK2
        refine hK2 _ _ ?_
        obtain ⟨hup, hids, hpre, rfl, rfl, rfl⟩ := htk
        obtain ⟨a10, n10, c10, rfl, -, -⟩ := hids.sliceN
        obtain ⟨a11, n11, c11, rfl, -, -⟩ := hpre.sliceN
        rw [show z2.take z2.length = z2 from List.take_length] at hids hpre
        have htl : z2.take z2.length = z2 := List.take_length
        refine ty_rest2 (HIN2.out.upw hup) (by omega) h60 hz81 (hup.cell HC1.out) (ownR_J hids).rd (hpre.rd (fun _ _ h => h)) (by rw [htl]) rfl _ _ _ _ _ _ _ _ _ _ _ _ _ _ _ _ _ _ _ _ _ _ _ _ _ _ _ _ _ _ _ _ _ _ _ _ _ _ _ _ _ _ _ _ _ _ _ _ _ _ _ _ _ _ _ _ _ _ _ _ _ _ _ _ _ _ _ _ _ _ _ _ _ _ _ _ _ _ _ _ _ _ _ _ _ _ _ _ _ _ _ _ _ _ _ _ _ _ _ _ _ _ _ _ _ _ _ _ _ _ _ _ _ _ _ _ _ _ _ _ _ _ _ _ _ _ _ _ _ _ _ _ _ _ _ _ _ _ _ _ _ _ _ _ _ _ _ _ _ _ _ _ _ _ _ _ _ _ _ _ _ _ _ _ _ _ _ _ _ _ _ _ _ _ _ _ _ _ _ _ _ _ _ _ _ _ _ _ _ _ _ _ _ _ _ _ _ _ _ _ _ _ _ _ _ _ _ _ _ _ _ _ _ _ _ _ _ _ _ _ _ _ _ _ _ _ _ _ _ _ _ _ _ _ _ _ _ _ _ _ _ _ _ _ _ _ _ _ _ _ _ _ _ _ _ _ _ _ _ _ _ _ _ _ _ _ _ _ _ _ _ _ _ _ _ _ _ _ _ _ _ _ _ _ _ _ _ _ _ _ _ _ _ _ _ _ _ _ _ _ _ _ _ _ _ _ _ ?_
        intro v16 v17 v18 v19 v20 v226 v227 v228 v229 v230 v231 v232 v233 v234 v235 v236 v237 v238 v239 v240 v241 v242 v243 v244 v245 v246 v247 v248 v249 v250 v251 v252 v253 v254 v255 v256 v257 v258 v259 v260 v261 v262 v263 v264 v265 v266 v267 v268 v269 v270 v271 v272 v273 v274 v275 v276 v277 v278 v279 v280 v281 v282 v283 v284 v285 v286 v287 v288 v289 v290 v291 v292 v293 v294 v295 v296 v297 v298 v299 v300 v301 v302 v303 v304 v305 v306 v307 v308 v309 v310 v311 v312 v313 wz hend
        have HEND : Hid (TyRnd w T (i + 1) (.slice am2 nz cm2) wz) := hide ⟨z2, k2, hend, by have := HZ2.out; have := HZL.out; omega, by have := HK2.out; have := HKK.out; omega⟩
        clear hids hpre htl hend hup
        go_wp2
        go_roundw
        case rel => exact ⟨i + 1, by omega, by simp, HEND⟩
        case measure => simp [intOf]; omega
      · have d60 : (ss.size : Int) > 60 := by omega
        have d60' : (60 : Int) < (ss.size : Int) := by omega
        have HE := hide (HUP.out W1 (Up.refl _))
        go_wp2
        try go_ret
        rw [← HW1.out]
        exact ⟨rfl, HE.out⟩
    · obtain rfl : n0 = i := by omega
      have hlt' : ¬ (n0 : Int) < (n0 : Int) := by omega
      obtain ⟨z, kk, hin, hzl, hkk⟩ := hA.out
      have HU := hide hin.up
      clear hA hin hzl hkk
      go_wp2
      go_ret
      exact ⟨rfl, HU.out⟩
end Go.Proofs.Ytmbniakobhaomaa
