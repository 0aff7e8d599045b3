/-
  SeqPlays of rialtolaw13, as its text runs.
-/
import Derived.Test.YtbnkddnjfkagkaaQyEra
import Derived.Test.YtbnkddnjfkagkaaQyMov
import Derived.Test.YtbnkddnjfkagkaaQySpl
import Derived.Test.YtbnkddnjfkagkaaQyRst
import Derived.Deep.CutBlock
namespace Go.Proofs.Ytbnkddnjfkagkaa
open Go.ChangeShapes Go.WideShapes Go.ChangeAt Go.RowKit
set_option linter.unusedVariables false
set_option maxRecDepth 100000
attribute [local go_sem ↓] Go.wp_at_zero Go.wp_at_succ

theorem bitsN7 {m : Nat} (h : m ≤ 127) : bitsN m ≤ 7 := by
  have hall : ∀ k : Fin 128, bitsN k.val ≤ 7 := by decide +kernel
  exact hall ⟨m, by omega⟩
theorem seqPlays_many (a0 : Option Addr) (n0 c0 : Nat) (w : World) (hn : 80 < n0) :
    Calls Try.prog 3 #[.slice a0 n0 c0] w fun e w' => e = .returned (.bool true) ∧ Up w w' := by
  have g0 : decide ((n0 : Int) > 80) = true := decide_eq_true (by omega)
  have g0' : (n0 : Int) > 80 := by omega
  have g0'' : decide (80 < n0) = true := decide_eq_true hn
  go_enter Try.func3, Try.ntmps3
  go_wp2_with fail
  refine (known13_calls w).mono ?_
  rintro _ wk ⟨rfl, huk⟩
  replace huk := hide huk
  dsimp only
  go_wp2
  go_ret
  exact ⟨rfl, huk.out⟩
/-- What holds from round to round: the sequence and the plain row hold the same numbers. -/
def QyIn (w : World) (q T M i : Nat) (mv : Value) (wr : World) : Prop := ∃ (xs : List Int) (h n : Nat) (f : Int → Option Nat), SqIx (fun _ => False) q T M xs h n f wr ∧ Rd (Value.int .i64) (TM T M) wr mv xs ∧ xs.length ≤ i ∧ n ≤ 2400 * i ∧ Up w wr
set_option maxHeartbeats 4000000 in
/-- Whatever the act is. -/
theorem qy_act {w W : World} {q T M : Nat} {xs : List Int} {h n : Nat} {f : Int → Option Nat} {am : Option Addr} {nm cm sb : Nat} {sw si bf id : Int} {ia : Option Addr} {inn ic : Nat} {ids : List Int} (p : QyAt w q T M xs h n f am nm cm sb id bf si ia inn ic ids W) (u0 u1 u2 u5 u8 u15 u16 u17 u18 u19 u20 u21 u22 u23 u24 u25 u26 u27 u28 u29 u30 u31 u32 u33 u34 u35 u36 u37 u38 u39 u40 u41 u42 u43 u44 u45 u46 u47 u48 u49 u50 u51 u52 u53 u54 u55 u56 u57 u58 u59 u60 u61 u63 u64 u65 u66 u67 u68 u69 u70 u71 u72 u73 u74 u75 u76 u77 u78 u79 u80 u81 u82 u83 u84 u85 u86 u87 u88 u89 u90 u91 u92 u93 u94 u95 u96 u97 u98 u99 u100 u101 u102 u103 u104 u105 u106 u107 u108 u109 u110 u111 u112 u113 u114 u115 u116 u117 u118 u119 u120 u121 u122 u123 u124 u125 u126 u127 u128 u129 u130 u131 u132 u133 u134 u135 u136 u137 u138 u139 u140 u141 u142 u143 u144 u145 u146 u147 u148 u149 u150 u151 u152 u153 u154 u155 u156 u157 u158 u159 u160 u161 u162 u163 u164 u165 u166 u167 u168 u169 u170 u171 u172 u173 u174 u175 u176 u177 u178 u179 u180 u181 u182 u183 u184 u185 u186 u187 u188 u189 u190 u191 u192 u193 u194 u195 u196 u197 u198 u199 u200 u201 u202 u203 u204 u205 u206 u207 u208 u209 u210 u211 u212 u213 u214 u215 u216 u217 u218 u219 u220 u221 u222 u223 u224 u225 u226 u227 u228 u229 u230 u231 u232 u233 u234 u235 u236 u237 u238 u239 u240 u241 u242 u243 u244 u245 u246 u247 u248 u249 u250 u251 u252 u253 u254 u255 u256 u257 u258 u259 u260 u261 u262 u263 u264 u265 u266 u267 u268 u269 u270 u271 u272 u273 u274 u275 u276 u277 u278 u279 u280 u281 u282 u283 u284 u285 u286 : Value) (K : Act → World → Prop) (Q : Exit → Act → World → Prop)
    (hK0 : ∀ (v4 v10 v11 v12 v13 v14 v15 v63 v64 v65 v66 v67 v68 v69 v70 v71 v72 v73 v74 v75 v76 v77 v78 v79 v80 v81 v82 v83 v84 v85 v86 v87 v88 v89 v90 v91 v92 v93 v94 v95 v96 v97 v98 v99 v100 v101 v102 v103 v104 v105 v106 v107 v108 v109 v110 v111 v112 v113 v114 v115 v116 v117 v118 v119 v120 v121 v122 v123 v124 v125 v126 v127 v128 v129 v130 v131 v132 v133 v134 v135 v136 v137 v138 v139 v140 v141 v142 v143 v144 v145 v146 v147 v148 v149 v150 v151 v152 v153 v154 v155 v156 v157 v158 v159 v160 v161 v162 v163 v164 v165 v166 v167 v168 v169 v170 v171 v172 v173 v174 v175 v176 v177 v178 v179 v180 v181 v182 : Value) (wx : World), QyMid w q T M xs n sb id si v4 v10 v11 v12 v13 v14 wx → K ⟨#[u0, u1, u2, .pointer (some ⟨q, 0, none⟩), v4, u5, .pointer (some ⟨sb, 0, none⟩), .int .i64 nm, u8, .int .i64 (fdI xs id), v10, v11, v12, v13, v14, v15, u16, u17, u18, u19, u20, u21, u22, u23, u24, u25, u26, u27, u28, u29, u30, u31, u32, u33, u34, u35, u36, u37, u38, u39, u40, u41, u42, u43, u44, u45, u46, u47, u48, u49, u50, u51, u52, u53, u54, u55, u56, u57, u58, u59, u60, u61, .int .i64 sw, v63, v64, v65, v66, v67, v68, v69, v70, v71, v72, v73, v74, v75, v76, v77, v78, v79, v80, v81, v82, v83, v84, v85, v86, v87, v88, v89, v90, v91, v92, v93, v94, v95, v96, v97, v98, v99, v100, v101, v102, v103, v104, v105, v106, v107, v108, v109, v110, v111, v112, v113, v114, v115, v116, v117, v118, v119, v120, v121, v122, v123, v124, v125, v126, v127, v128, v129, v130, v131, v132, v133, v134, v135, v136, v137, v138, v139, v140, v141, v142, v143, v144, v145, v146, v147, v148, v149, v150, v151, v152, v153, v154, v155, v156, v157, v158, v159, v160, v161, v162, v163, v164, v165, v166, v167, v168, v169, v170, v171, v172, v173, v174, v175, v176, v177, v178, v179, v180, v181, v182, u183, u184, u185, u186, u187, u188, u189, u190, u191, u192, u193, u194, u195, u196, u197, u198, u199, u200, u201, u202, u203, u204, u205, u206, u207, u208, u209, u210, u211, u212, u213, u214, u215, u216, u217, u218, u219, u220, u221, u222, u223, u224, u225, u226, u227, u228, u229, u230, u231, u232, u233, u234, u235, u236, u237, u238, u239, u240, u241, u242, u243, u244, u245, u246, u247, u248, u249, u250, u251, u252, u253, u254, u255, u256, u257, u258, u259, u260, u261, u262, u263, u264, u265, u266, u267, u268, u269, u270, u271, u272, u273, u274, u275, u276, u277, u278, u279, u280, u281, u282, u283, u284, u285, u286], []⟩ wx) :
    Code.wp Try.prog ((Try.f3.body.bind (blkQ 2)).getD .skip) (Exit.then K Q) ⟨#[u0, u1, u2, .pointer (some ⟨q, 0, none⟩), .slice am nm cm, u5, .pointer (some ⟨sb, 0, none⟩), .int .i64 nm, u8, .int .i64 (fdI xs id), .int .i64 0, .int .i64 0, .int .i64 0, .int .i64 0, .int .i64 1, u15, u16, u17, u18, u19, u20, u21, u22, u23, u24, u25, u26, u27, u28, u29, u30, u31, u32, u33, u34, u35, u36, u37, u38, u39, u40, u41, u42, u43, u44, u45, u46, u47, u48, u49, u50, u51, u52, u53, u54, u55, u56, u57, u58, u59, u60, u61, .int .i64 sw, u63, u64, u65, u66, u67, u68, u69, u70, u71, u72, u73, u74, u75, u76, u77, u78, u79, u80, u81, u82, u83, u84, u85, u86, u87, u88, u89, u90, u91, u92, u93, u94, u95, u96, u97, u98, u99, u100, u101, u102, u103, u104, u105, u106, u107, u108, u109, u110, u111, u112, u113, u114, u115, u116, u117, u118, u119, u120, u121, u122, u123, u124, u125, u126, u127, u128, u129, u130, u131, u132, u133, u134, u135, u136, u137, u138, u139, u140, u141, u142, u143, u144, u145, u146, u147, u148, u149, u150, u151, u152, u153, u154, u155, u156, u157, u158, u159, u160, u161, u162, u163, u164, u165, u166, u167, u168, u169, u170, u171, u172, u173, u174, u175, u176, u177, u178, u179, u180, u181, u182, u183, u184, u185, u186, u187, u188, u189, u190, u191, u192, u193, u194, u195, u196, u197, u198, u199, u200, u201, u202, u203, u204, u205, u206, u207, u208, u209, u210, u211, u212, u213, u214, u215, u216, u217, u218, u219, u220, u221, u222, u223, u224, u225, u226, u227, u228, u229, u230, u231, u232, u233, u234, u235, u236, u237, u238, u239, u240, u241, u242, u243, u244, u245, u246, u247, u248, u249, u250, u251, u252, u253, u254, u255, u256, u257, u258, u259, u260, u261, u262, u263, u264, u265, u266, u267, u268, u269, u270, u271, u272, u273, u274, u275, u276, u277, u278, u279, u280, u281, u282, u283, u284, u285, u286], []⟩ W := by
  have hK : ∀ a' w', Met (QyJ w q T M xs n nm sb id si sw u0 u1 u2 u5 u8 u16 u17 u18 u19 u20 u21 u22 u23 u24 u25 u26 u27 u28 u29 u30 u31 u32 u33 u34 u35 u36 u37 u38 u39 u40 u41 u42 u43 u44 u45 u46 u47 u48 u49 u50 u51 u52 u53 u54 u55 u56 u57 u58 u59 u60 u61 u183 u184 u185 u186 u187 u188 u189 u190 u191 u192 u193 u194 u195 u196 u197 u198 u199 u200 u201 u202 u203 u204 u205 u206 u207 u208 u209 u210 u211 u212 u213 u214 u215 u216 u217 u218 u219 u220 u221 u222 u223 u224 u225 u226 u227 u228 u229 u230 u231 u232 u233 u234 u235 u236 u237 u238 u239 u240 u241 u242 u243 u244 u245 u246 u247 u248 u249 u250 u251 u252 u253 u254 u255 u256 u257 u258 u259 u260 u261 u262 u263 u264 u265 u266 u267 u268 u269 u270 u271 u272 u273 u274 u275 u276 u277 u278 u279 u280 u281 u282 u283 u284 u285 u286) a' w' → K a' w' := by
    intro a' w' hJ
    unfold Met QyJ at hJ
    obtain ⟨v4, hJ⟩ := hJ
    obtain ⟨v10, hJ⟩ := hJ
    obtain ⟨v11, hJ⟩ := hJ
    obtain ⟨v12, hJ⟩ := hJ
    obtain ⟨v13, hJ⟩ := hJ
    obtain ⟨v14, hJ⟩ := hJ
    obtain ⟨v15, hJ⟩ := hJ
    obtain ⟨v63, hJ⟩ := hJ
    obtain ⟨v64, hJ⟩ := hJ
    obtain ⟨v65, hJ⟩ := hJ
    obtain ⟨v66, hJ⟩ := hJ
    obtain ⟨v67, hJ⟩ := hJ
    obtain ⟨v68, hJ⟩ := hJ
    obtain ⟨v69, hJ⟩ := hJ
    obtain ⟨v70, hJ⟩ := hJ
    obtain ⟨v71, hJ⟩ := hJ
    obtain ⟨v72, hJ⟩ := hJ
    obtain ⟨v73, hJ⟩ := hJ
    obtain ⟨v74, hJ⟩ := hJ
    obtain ⟨v75, hJ⟩ := hJ
    obtain ⟨v76, hJ⟩ := hJ
    obtain ⟨v77, hJ⟩ := hJ
    obtain ⟨v78, hJ⟩ := hJ
    obtain ⟨v79, hJ⟩ := hJ
    obtain ⟨v80, hJ⟩ := hJ
    obtain ⟨v81, hJ⟩ := hJ
    obtain ⟨v82, hJ⟩ := hJ
    obtain ⟨v83, hJ⟩ := hJ
    obtain ⟨v84, hJ⟩ := hJ
    obtain ⟨v85, hJ⟩ := hJ
    obtain ⟨v86, hJ⟩ := hJ
    obtain ⟨v87, hJ⟩ := hJ
    obtain ⟨v88, hJ⟩ := hJ
    obtain ⟨v89, hJ⟩ := hJ
    obtain ⟨v90, hJ⟩ := hJ
    obtain ⟨v91, hJ⟩ := hJ
    obtain ⟨v92, hJ⟩ := hJ
    obtain ⟨v93, hJ⟩ := hJ
    obtain ⟨v94, hJ⟩ := hJ
    obtain ⟨v95, hJ⟩ := hJ
    obtain ⟨v96, hJ⟩ := hJ
    obtain ⟨v97, hJ⟩ := hJ
    obtain ⟨v98, hJ⟩ := hJ
    obtain ⟨v99, hJ⟩ := hJ
    obtain ⟨v100, hJ⟩ := hJ
    obtain ⟨v101, hJ⟩ := hJ
    obtain ⟨v102, hJ⟩ := hJ
    obtain ⟨v103, hJ⟩ := hJ
    obtain ⟨v104, hJ⟩ := hJ
    obtain ⟨v105, hJ⟩ := hJ
    obtain ⟨v106, hJ⟩ := hJ
    obtain ⟨v107, hJ⟩ := hJ
    obtain ⟨v108, hJ⟩ := hJ
    obtain ⟨v109, hJ⟩ := hJ
    obtain ⟨v110, hJ⟩ := hJ
    obtain ⟨v111, hJ⟩ := hJ
    obtain ⟨v112, hJ⟩ := hJ
    obtain ⟨v113, hJ⟩ := hJ
    obtain ⟨v114, hJ⟩ := hJ
    obtain ⟨v115, hJ⟩ := hJ
    obtain ⟨v116, hJ⟩ := hJ
    obtain ⟨v117, hJ⟩ := hJ
    obtain ⟨v118, hJ⟩ := hJ
    obtain ⟨v119, hJ⟩ := hJ
    obtain ⟨v120, hJ⟩ := hJ
    obtain ⟨v121, hJ⟩ := hJ
    obtain ⟨v122, hJ⟩ := hJ
    obtain ⟨v123, hJ⟩ := hJ
    obtain ⟨v124, hJ⟩ := hJ
    obtain ⟨v125, hJ⟩ := hJ
    obtain ⟨v126, hJ⟩ := hJ
    obtain ⟨v127, hJ⟩ := hJ
    obtain ⟨v128, hJ⟩ := hJ
    obtain ⟨v129, hJ⟩ := hJ
    obtain ⟨v130, hJ⟩ := hJ
    obtain ⟨v131, hJ⟩ := hJ
    obtain ⟨v132, hJ⟩ := hJ
    obtain ⟨v133, hJ⟩ := hJ
    obtain ⟨v134, hJ⟩ := hJ
    obtain ⟨v135, hJ⟩ := hJ
    obtain ⟨v136, hJ⟩ := hJ
    obtain ⟨v137, hJ⟩ := hJ
    obtain ⟨v138, hJ⟩ := hJ
    obtain ⟨v139, hJ⟩ := hJ
    obtain ⟨v140, hJ⟩ := hJ
    obtain ⟨v141, hJ⟩ := hJ
    obtain ⟨v142, hJ⟩ := hJ
    obtain ⟨v143, hJ⟩ := hJ
    obtain ⟨v144, hJ⟩ := hJ
    obtain ⟨v145, hJ⟩ := hJ
    obtain ⟨v146, hJ⟩ := hJ
    obtain ⟨v147, hJ⟩ := hJ
    obtain ⟨v148, hJ⟩ := hJ
    obtain ⟨v149, hJ⟩ := hJ
    obtain ⟨v150, hJ⟩ := hJ
    obtain ⟨v151, hJ⟩ := hJ
    obtain ⟨v152, hJ⟩ := hJ
    obtain ⟨v153, hJ⟩ := hJ
    obtain ⟨v154, hJ⟩ := hJ
    obtain ⟨v155, hJ⟩ := hJ
    obtain ⟨v156, hJ⟩ := hJ
    obtain ⟨v157, hJ⟩ := hJ
    obtain ⟨v158, hJ⟩ := hJ
    obtain ⟨v159, hJ⟩ := hJ
    obtain ⟨v160, hJ⟩ := hJ
    obtain ⟨v161, hJ⟩ := hJ
    obtain ⟨v162, hJ⟩ := hJ
    obtain ⟨v163, hJ⟩ := hJ
    obtain ⟨v164, hJ⟩ := hJ
    obtain ⟨v165, hJ⟩ := hJ
    obtain ⟨v166, hJ⟩ := hJ
    obtain ⟨v167, hJ⟩ := hJ
    obtain ⟨v168, hJ⟩ := hJ
    obtain ⟨v169, hJ⟩ := hJ
    obtain ⟨v170, hJ⟩ := hJ
    obtain ⟨v171, hJ⟩ := hJ
    obtain ⟨v172, hJ⟩ := hJ
    obtain ⟨v173, hJ⟩ := hJ
    obtain ⟨v174, hJ⟩ := hJ
    obtain ⟨v175, hJ⟩ := hJ
    obtain ⟨v176, hJ⟩ := hJ
    obtain ⟨v177, hJ⟩ := hJ
    obtain ⟨v178, hJ⟩ := hJ
    obtain ⟨v179, hJ⟩ := hJ
    obtain ⟨v180, hJ⟩ := hJ
    obtain ⟨v181, hJ⟩ := hJ
    obtain ⟨v182, hJ⟩ := hJ
    obtain ⟨hm, rfl⟩ := hJ
    exact hK0 v4 v10 v11 v12 v13 v14 v15 v63 v64 v65 v66 v67 v68 v69 v70 v71 v72 v73 v74 v75 v76 v77 v78 v79 v80 v81 v82 v83 v84 v85 v86 v87 v88 v89 v90 v91 v92 v93 v94 v95 v96 v97 v98 v99 v100 v101 v102 v103 v104 v105 v106 v107 v108 v109 v110 v111 v112 v113 v114 v115 v116 v117 v118 v119 v120 v121 v122 v123 v124 v125 v126 v127 v128 v129 v130 v131 v132 v133 v134 v135 v136 v137 v138 v139 v140 v141 v142 v143 v144 v145 v146 v147 v148 v149 v150 v151 v152 v153 v154 v155 v156 v157 v158 v159 v160 v161 v162 v163 v164 v165 v166 v167 v168 v169 v170 v171 v172 v173 v174 v175 v176 v177 v178 v179 v180 v181 v182 w' hm
  clear hK0
  by_cases s012 : sw = 0 ∨ sw = 1 ∨ sw = 2
  · by_cases hid : id ∈ xs
    · exact qy_there p s012 hid u0 u1 u2 u5 u8 u15 u16 u17 u18 u19 u20 u21 u22 u23 u24 u25 u26 u27 u28 u29 u30 u31 u32 u33 u34 u35 u36 u37 u38 u39 u40 u41 u42 u43 u44 u45 u46 u47 u48 u49 u50 u51 u52 u53 u54 u55 u56 u57 u58 u59 u60 u61 u63 u64 u65 u66 u67 u68 u69 u70 u71 u72 u73 u74 u75 u76 u77 u78 u79 u80 u81 u82 u83 u84 u85 u86 u87 u88 u89 u90 u91 u92 u93 u94 u95 u96 u97 u98 u99 u100 u101 u102 u103 u104 u105 u106 u107 u108 u109 u110 u111 u112 u113 u114 u115 u116 u117 u118 u119 u120 u121 u122 u123 u124 u125 u126 u127 u128 u129 u130 u131 u132 u133 u134 u135 u136 u137 u138 u139 u140 u141 u142 u143 u144 u145 u146 u147 u148 u149 u150 u151 u152 u153 u154 u155 u156 u157 u158 u159 u160 u161 u162 u163 u164 u165 u166 u167 u168 u169 u170 u171 u172 u173 u174 u175 u176 u177 u178 u179 u180 u181 u182 u183 u184 u185 u186 u187 u188 u189 u190 u191 u192 u193 u194 u195 u196 u197 u198 u199 u200 u201 u202 u203 u204 u205 u206 u207 u208 u209 u210 u211 u212 u213 u214 u215 u216 u217 u218 u219 u220 u221 u222 u223 u224 u225 u226 u227 u228 u229 u230 u231 u232 u233 u234 u235 u236 u237 u238 u239 u240 u241 u242 u243 u244 u245 u246 u247 u248 u249 u250 u251 u252 u253 u254 u255 u256 u257 u258 u259 u260 u261 u262 u263 u264 u265 u266 u267 u268 u269 u270 u271 u272 u273 u274 u275 u276 u277 u278 u279 u280 u281 u282 u283 u284 u285 u286 K Q hK
    · exact qy_add p s012 hid u0 u1 u2 u5 u8 u15 u16 u17 u18 u19 u20 u21 u22 u23 u24 u25 u26 u27 u28 u29 u30 u31 u32 u33 u34 u35 u36 u37 u38 u39 u40 u41 u42 u43 u44 u45 u46 u47 u48 u49 u50 u51 u52 u53 u54 u55 u56 u57 u58 u59 u60 u61 u63 u64 u65 u66 u67 u68 u69 u70 u71 u72 u73 u74 u75 u76 u77 u78 u79 u80 u81 u82 u83 u84 u85 u86 u87 u88 u89 u90 u91 u92 u93 u94 u95 u96 u97 u98 u99 u100 u101 u102 u103 u104 u105 u106 u107 u108 u109 u110 u111 u112 u113 u114 u115 u116 u117 u118 u119 u120 u121 u122 u123 u124 u125 u126 u127 u128 u129 u130 u131 u132 u133 u134 u135 u136 u137 u138 u139 u140 u141 u142 u143 u144 u145 u146 u147 u148 u149 u150 u151 u152 u153 u154 u155 u156 u157 u158 u159 u160 u161 u162 u163 u164 u165 u166 u167 u168 u169 u170 u171 u172 u173 u174 u175 u176 u177 u178 u179 u180 u181 u182 u183 u184 u185 u186 u187 u188 u189 u190 u191 u192 u193 u194 u195 u196 u197 u198 u199 u200 u201 u202 u203 u204 u205 u206 u207 u208 u209 u210 u211 u212 u213 u214 u215 u216 u217 u218 u219 u220 u221 u222 u223 u224 u225 u226 u227 u228 u229 u230 u231 u232 u233 u234 u235 u236 u237 u238 u239 u240 u241 u242 u243 u244 u245 u246 u247 u248 u249 u250 u251 u252 u253 u254 u255 u256 u257 u258 u259 u260 u261 u262 u263 u264 u265 u266 u267 u268 u269 u270 u271 u272 u273 u274 u275 u276 u277 u278 u279 u280 u281 u282 u283 u284 u285 u286 K Q hK
  · by_cases s3 : sw = 3
    · by_cases hid : id ∈ xs
      · have hlt := List.idxOf_lt_length_of_mem hid
        exact qy_era _ p s3 (by rw [List.getElem?_eq_getElem hlt, List.getElem_idxOf]) u0 u1 u2 u5 u8 u15 u16 u17 u18 u19 u20 u21 u22 u23 u24 u25 u26 u27 u28 u29 u30 u31 u32 u33 u34 u35 u36 u37 u38 u39 u40 u41 u42 u43 u44 u45 u46 u47 u48 u49 u50 u51 u52 u53 u54 u55 u56 u57 u58 u59 u60 u61 u63 u64 u65 u66 u67 u68 u69 u70 u71 u72 u73 u74 u75 u76 u77 u78 u79 u80 u81 u82 u83 u84 u85 u86 u87 u88 u89 u90 u91 u92 u93 u94 u95 u96 u97 u98 u99 u100 u101 u102 u103 u104 u105 u106 u107 u108 u109 u110 u111 u112 u113 u114 u115 u116 u117 u118 u119 u120 u121 u122 u123 u124 u125 u126 u127 u128 u129 u130 u131 u132 u133 u134 u135 u136 u137 u138 u139 u140 u141 u142 u143 u144 u145 u146 u147 u148 u149 u150 u151 u152 u153 u154 u155 u156 u157 u158 u159 u160 u161 u162 u163 u164 u165 u166 u167 u168 u169 u170 u171 u172 u173 u174 u175 u176 u177 u178 u179 u180 u181 u182 u183 u184 u185 u186 u187 u188 u189 u190 u191 u192 u193 u194 u195 u196 u197 u198 u199 u200 u201 u202 u203 u204 u205 u206 u207 u208 u209 u210 u211 u212 u213 u214 u215 u216 u217 u218 u219 u220 u221 u222 u223 u224 u225 u226 u227 u228 u229 u230 u231 u232 u233 u234 u235 u236 u237 u238 u239 u240 u241 u242 u243 u244 u245 u246 u247 u248 u249 u250 u251 u252 u253 u254 u255 u256 u257 u258 u259 u260 u261 u262 u263 u264 u265 u266 u267 u268 u269 u270 u271 u272 u273 u274 u275 u276 u277 u278 u279 u280 u281 u282 u283 u284 u285 u286 K Q hK
      · exact qy_erano p s3 hid u0 u1 u2 u5 u8 u15 u16 u17 u18 u19 u20 u21 u22 u23 u24 u25 u26 u27 u28 u29 u30 u31 u32 u33 u34 u35 u36 u37 u38 u39 u40 u41 u42 u43 u44 u45 u46 u47 u48 u49 u50 u51 u52 u53 u54 u55 u56 u57 u58 u59 u60 u61 u63 u64 u65 u66 u67 u68 u69 u70 u71 u72 u73 u74 u75 u76 u77 u78 u79 u80 u81 u82 u83 u84 u85 u86 u87 u88 u89 u90 u91 u92 u93 u94 u95 u96 u97 u98 u99 u100 u101 u102 u103 u104 u105 u106 u107 u108 u109 u110 u111 u112 u113 u114 u115 u116 u117 u118 u119 u120 u121 u122 u123 u124 u125 u126 u127 u128 u129 u130 u131 u132 u133 u134 u135 u136 u137 u138 u139 u140 u141 u142 u143 u144 u145 u146 u147 u148 u149 u150 u151 u152 u153 u154 u155 u156 u157 u158 u159 u160 u161 u162 u163 u164 u165 u166 u167 u168 u169 u170 u171 u172 u173 u174 u175 u176 u177 u178 u179 u180 u181 u182 u183 u184 u185 u186 u187 u188 u189 u190 u191 u192 u193 u194 u195 u196 u197 u198 u199 u200 u201 u202 u203 u204 u205 u206 u207 u208 u209 u210 u211 u212 u213 u214 u215 u216 u217 u218 u219 u220 u221 u222 u223 u224 u225 u226 u227 u228 u229 u230 u231 u232 u233 u234 u235 u236 u237 u238 u239 u240 u241 u242 u243 u244 u245 u246 u247 u248 u249 u250 u251 u252 u253 u254 u255 u256 u257 u258 u259 u260 u261 u262 u263 u264 u265 u266 u267 u268 u269 u270 u271 u272 u273 u274 u275 u276 u277 u278 u279 u280 u281 u282 u283 u284 u285 u286 K Q hK
    · by_cases s45 : sw = 4 ∨ sw = 5
      · by_cases hid : id ∈ xs
        · have hlt := List.idxOf_lt_length_of_mem hid
          have hk : xs[xs.idxOf id]? = some id := by rw [List.getElem?_eq_getElem hlt, List.getElem_idxOf]
          by_cases h0 : bf = 0
          · exact qy_mov _ xs.length p s45 hk (.inl ⟨h0, rfl⟩) u0 u1 u2 u5 u8 u15 u16 u17 u18 u19 u20 u21 u22 u23 u24 u25 u26 u27 u28 u29 u30 u31 u32 u33 u34 u35 u36 u37 u38 u39 u40 u41 u42 u43 u44 u45 u46 u47 u48 u49 u50 u51 u52 u53 u54 u55 u56 u57 u58 u59 u60 u61 u63 u64 u65 u66 u67 u68 u69 u70 u71 u72 u73 u74 u75 u76 u77 u78 u79 u80 u81 u82 u83 u84 u85 u86 u87 u88 u89 u90 u91 u92 u93 u94 u95 u96 u97 u98 u99 u100 u101 u102 u103 u104 u105 u106 u107 u108 u109 u110 u111 u112 u113 u114 u115 u116 u117 u118 u119 u120 u121 u122 u123 u124 u125 u126 u127 u128 u129 u130 u131 u132 u133 u134 u135 u136 u137 u138 u139 u140 u141 u142 u143 u144 u145 u146 u147 u148 u149 u150 u151 u152 u153 u154 u155 u156 u157 u158 u159 u160 u161 u162 u163 u164 u165 u166 u167 u168 u169 u170 u171 u172 u173 u174 u175 u176 u177 u178 u179 u180 u181 u182 u183 u184 u185 u186 u187 u188 u189 u190 u191 u192 u193 u194 u195 u196 u197 u198 u199 u200 u201 u202 u203 u204 u205 u206 u207 u208 u209 u210 u211 u212 u213 u214 u215 u216 u217 u218 u219 u220 u221 u222 u223 u224 u225 u226 u227 u228 u229 u230 u231 u232 u233 u234 u235 u236 u237 u238 u239 u240 u241 u242 u243 u244 u245 u246 u247 u248 u249 u250 u251 u252 u253 u254 u255 u256 u257 u258 u259 u260 u261 u262 u263 u264 u265 u266 u267 u268 u269 u270 u271 u272 u273 u274 u275 u276 u277 u278 u279 u280 u281 u282 u283 u284 u285 u286 K Q hK
          · by_cases hbx : bf ∈ xs
            · have hlb := List.idxOf_lt_length_of_mem hbx
              exact qy_mov _ (xs.idxOf bf) p s45 hk (.inr ⟨h0, by rw [List.getElem?_eq_getElem hlb, List.getElem_idxOf]⟩) u0 u1 u2 u5 u8 u15 u16 u17 u18 u19 u20 u21 u22 u23 u24 u25 u26 u27 u28 u29 u30 u31 u32 u33 u34 u35 u36 u37 u38 u39 u40 u41 u42 u43 u44 u45 u46 u47 u48 u49 u50 u51 u52 u53 u54 u55 u56 u57 u58 u59 u60 u61 u63 u64 u65 u66 u67 u68 u69 u70 u71 u72 u73 u74 u75 u76 u77 u78 u79 u80 u81 u82 u83 u84 u85 u86 u87 u88 u89 u90 u91 u92 u93 u94 u95 u96 u97 u98 u99 u100 u101 u102 u103 u104 u105 u106 u107 u108 u109 u110 u111 u112 u113 u114 u115 u116 u117 u118 u119 u120 u121 u122 u123 u124 u125 u126 u127 u128 u129 u130 u131 u132 u133 u134 u135 u136 u137 u138 u139 u140 u141 u142 u143 u144 u145 u146 u147 u148 u149 u150 u151 u152 u153 u154 u155 u156 u157 u158 u159 u160 u161 u162 u163 u164 u165 u166 u167 u168 u169 u170 u171 u172 u173 u174 u175 u176 u177 u178 u179 u180 u181 u182 u183 u184 u185 u186 u187 u188 u189 u190 u191 u192 u193 u194 u195 u196 u197 u198 u199 u200 u201 u202 u203 u204 u205 u206 u207 u208 u209 u210 u211 u212 u213 u214 u215 u216 u217 u218 u219 u220 u221 u222 u223 u224 u225 u226 u227 u228 u229 u230 u231 u232 u233 u234 u235 u236 u237 u238 u239 u240 u241 u242 u243 u244 u245 u246 u247 u248 u249 u250 u251 u252 u253 u254 u255 u256 u257 u258 u259 u260 u261 u262 u263 u264 u265 u266 u267 u268 u269 u270 u271 u272 u273 u274 u275 u276 u277 u278 u279 u280 u281 u282 u283 u284 u285 u286 K Q hK
            · exact qy_movno p s45 (.inr ⟨h0, hbx⟩) u0 u1 u2 u5 u8 u15 u16 u17 u18 u19 u20 u21 u22 u23 u24 u25 u26 u27 u28 u29 u30 u31 u32 u33 u34 u35 u36 u37 u38 u39 u40 u41 u42 u43 u44 u45 u46 u47 u48 u49 u50 u51 u52 u53 u54 u55 u56 u57 u58 u59 u60 u61 u63 u64 u65 u66 u67 u68 u69 u70 u71 u72 u73 u74 u75 u76 u77 u78 u79 u80 u81 u82 u83 u84 u85 u86 u87 u88 u89 u90 u91 u92 u93 u94 u95 u96 u97 u98 u99 u100 u101 u102 u103 u104 u105 u106 u107 u108 u109 u110 u111 u112 u113 u114 u115 u116 u117 u118 u119 u120 u121 u122 u123 u124 u125 u126 u127 u128 u129 u130 u131 u132 u133 u134 u135 u136 u137 u138 u139 u140 u141 u142 u143 u144 u145 u146 u147 u148 u149 u150 u151 u152 u153 u154 u155 u156 u157 u158 u159 u160 u161 u162 u163 u164 u165 u166 u167 u168 u169 u170 u171 u172 u173 u174 u175 u176 u177 u178 u179 u180 u181 u182 u183 u184 u185 u186 u187 u188 u189 u190 u191 u192 u193 u194 u195 u196 u197 u198 u199 u200 u201 u202 u203 u204 u205 u206 u207 u208 u209 u210 u211 u212 u213 u214 u215 u216 u217 u218 u219 u220 u221 u222 u223 u224 u225 u226 u227 u228 u229 u230 u231 u232 u233 u234 u235 u236 u237 u238 u239 u240 u241 u242 u243 u244 u245 u246 u247 u248 u249 u250 u251 u252 u253 u254 u255 u256 u257 u258 u259 u260 u261 u262 u263 u264 u265 u266 u267 u268 u269 u270 u271 u272 u273 u274 u275 u276 u277 u278 u279 u280 u281 u282 u283 u284 u285 u286 K Q hK
        · exact qy_movno p s45 (.inl hid) u0 u1 u2 u5 u8 u15 u16 u17 u18 u19 u20 u21 u22 u23 u24 u25 u26 u27 u28 u29 u30 u31 u32 u33 u34 u35 u36 u37 u38 u39 u40 u41 u42 u43 u44 u45 u46 u47 u48 u49 u50 u51 u52 u53 u54 u55 u56 u57 u58 u59 u60 u61 u63 u64 u65 u66 u67 u68 u69 u70 u71 u72 u73 u74 u75 u76 u77 u78 u79 u80 u81 u82 u83 u84 u85 u86 u87 u88 u89 u90 u91 u92 u93 u94 u95 u96 u97 u98 u99 u100 u101 u102 u103 u104 u105 u106 u107 u108 u109 u110 u111 u112 u113 u114 u115 u116 u117 u118 u119 u120 u121 u122 u123 u124 u125 u126 u127 u128 u129 u130 u131 u132 u133 u134 u135 u136 u137 u138 u139 u140 u141 u142 u143 u144 u145 u146 u147 u148 u149 u150 u151 u152 u153 u154 u155 u156 u157 u158 u159 u160 u161 u162 u163 u164 u165 u166 u167 u168 u169 u170 u171 u172 u173 u174 u175 u176 u177 u178 u179 u180 u181 u182 u183 u184 u185 u186 u187 u188 u189 u190 u191 u192 u193 u194 u195 u196 u197 u198 u199 u200 u201 u202 u203 u204 u205 u206 u207 u208 u209 u210 u211 u212 u213 u214 u215 u216 u217 u218 u219 u220 u221 u222 u223 u224 u225 u226 u227 u228 u229 u230 u231 u232 u233 u234 u235 u236 u237 u238 u239 u240 u241 u242 u243 u244 u245 u246 u247 u248 u249 u250 u251 u252 u253 u254 u255 u256 u257 u258 u259 u260 u261 u262 u263 u264 u265 u266 u267 u268 u269 u270 u271 u272 u273 u274 u275 u276 u277 u278 u279 u280 u281 u282 u283 u284 u285 u286 K Q hK
      · by_cases s6 : sw = 6
        · exact qy_spl p s6 u0 u1 u2 u5 u8 u15 u16 u17 u18 u19 u20 u21 u22 u23 u24 u25 u26 u27 u28 u29 u30 u31 u32 u33 u34 u35 u36 u37 u38 u39 u40 u41 u42 u43 u44 u45 u46 u47 u48 u49 u50 u51 u52 u53 u54 u55 u56 u57 u58 u59 u60 u61 u63 u64 u65 u66 u67 u68 u69 u70 u71 u72 u73 u74 u75 u76 u77 u78 u79 u80 u81 u82 u83 u84 u85 u86 u87 u88 u89 u90 u91 u92 u93 u94 u95 u96 u97 u98 u99 u100 u101 u102 u103 u104 u105 u106 u107 u108 u109 u110 u111 u112 u113 u114 u115 u116 u117 u118 u119 u120 u121 u122 u123 u124 u125 u126 u127 u128 u129 u130 u131 u132 u133 u134 u135 u136 u137 u138 u139 u140 u141 u142 u143 u144 u145 u146 u147 u148 u149 u150 u151 u152 u153 u154 u155 u156 u157 u158 u159 u160 u161 u162 u163 u164 u165 u166 u167 u168 u169 u170 u171 u172 u173 u174 u175 u176 u177 u178 u179 u180 u181 u182 u183 u184 u185 u186 u187 u188 u189 u190 u191 u192 u193 u194 u195 u196 u197 u198 u199 u200 u201 u202 u203 u204 u205 u206 u207 u208 u209 u210 u211 u212 u213 u214 u215 u216 u217 u218 u219 u220 u221 u222 u223 u224 u225 u226 u227 u228 u229 u230 u231 u232 u233 u234 u235 u236 u237 u238 u239 u240 u241 u242 u243 u244 u245 u246 u247 u248 u249 u250 u251 u252 u253 u254 u255 u256 u257 u258 u259 u260 u261 u262 u263 u264 u265 u266 u267 u268 u269 u270 u271 u272 u273 u274 u275 u276 u277 u278 u279 u280 u281 u282 u283 u284 u285 u286 K Q hK
        · have hsw : sw ≠ 0 ∧ sw ≠ 1 ∧ sw ≠ 2 ∧ sw ≠ 3 ∧ sw ≠ 4 ∧ sw ≠ 5 ∧ sw ≠ 6 := by omega
          by_cases hid : id ∈ xs
          · exact qy_insthere p hsw hid u0 u1 u2 u5 u8 u15 u16 u17 u18 u19 u20 u21 u22 u23 u24 u25 u26 u27 u28 u29 u30 u31 u32 u33 u34 u35 u36 u37 u38 u39 u40 u41 u42 u43 u44 u45 u46 u47 u48 u49 u50 u51 u52 u53 u54 u55 u56 u57 u58 u59 u60 u61 u63 u64 u65 u66 u67 u68 u69 u70 u71 u72 u73 u74 u75 u76 u77 u78 u79 u80 u81 u82 u83 u84 u85 u86 u87 u88 u89 u90 u91 u92 u93 u94 u95 u96 u97 u98 u99 u100 u101 u102 u103 u104 u105 u106 u107 u108 u109 u110 u111 u112 u113 u114 u115 u116 u117 u118 u119 u120 u121 u122 u123 u124 u125 u126 u127 u128 u129 u130 u131 u132 u133 u134 u135 u136 u137 u138 u139 u140 u141 u142 u143 u144 u145 u146 u147 u148 u149 u150 u151 u152 u153 u154 u155 u156 u157 u158 u159 u160 u161 u162 u163 u164 u165 u166 u167 u168 u169 u170 u171 u172 u173 u174 u175 u176 u177 u178 u179 u180 u181 u182 u183 u184 u185 u186 u187 u188 u189 u190 u191 u192 u193 u194 u195 u196 u197 u198 u199 u200 u201 u202 u203 u204 u205 u206 u207 u208 u209 u210 u211 u212 u213 u214 u215 u216 u217 u218 u219 u220 u221 u222 u223 u224 u225 u226 u227 u228 u229 u230 u231 u232 u233 u234 u235 u236 u237 u238 u239 u240 u241 u242 u243 u244 u245 u246 u247 u248 u249 u250 u251 u252 u253 u254 u255 u256 u257 u258 u259 u260 u261 u262 u263 u264 u265 u266 u267 u268 u269 u270 u271 u272 u273 u274 u275 u276 u277 u278 u279 u280 u281 u282 u283 u284 u285 u286 K Q hK
          · by_cases hj : si < 0 ∨ (nm : Int) < si
            · exact qy_insnot p hsw hid hj u0 u1 u2 u5 u8 u15 u16 u17 u18 u19 u20 u21 u22 u23 u24 u25 u26 u27 u28 u29 u30 u31 u32 u33 u34 u35 u36 u37 u38 u39 u40 u41 u42 u43 u44 u45 u46 u47 u48 u49 u50 u51 u52 u53 u54 u55 u56 u57 u58 u59 u60 u61 u63 u64 u65 u66 u67 u68 u69 u70 u71 u72 u73 u74 u75 u76 u77 u78 u79 u80 u81 u82 u83 u84 u85 u86 u87 u88 u89 u90 u91 u92 u93 u94 u95 u96 u97 u98 u99 u100 u101 u102 u103 u104 u105 u106 u107 u108 u109 u110 u111 u112 u113 u114 u115 u116 u117 u118 u119 u120 u121 u122 u123 u124 u125 u126 u127 u128 u129 u130 u131 u132 u133 u134 u135 u136 u137 u138 u139 u140 u141 u142 u143 u144 u145 u146 u147 u148 u149 u150 u151 u152 u153 u154 u155 u156 u157 u158 u159 u160 u161 u162 u163 u164 u165 u166 u167 u168 u169 u170 u171 u172 u173 u174 u175 u176 u177 u178 u179 u180 u181 u182 u183 u184 u185 u186 u187 u188 u189 u190 u191 u192 u193 u194 u195 u196 u197 u198 u199 u200 u201 u202 u203 u204 u205 u206 u207 u208 u209 u210 u211 u212 u213 u214 u215 u216 u217 u218 u219 u220 u221 u222 u223 u224 u225 u226 u227 u228 u229 u230 u231 u232 u233 u234 u235 u236 u237 u238 u239 u240 u241 u242 u243 u244 u245 u246 u247 u248 u249 u250 u251 u252 u253 u254 u255 u256 u257 u258 u259 u260 u261 u262 u263 u264 u265 u266 u267 u268 u269 u270 u271 u272 u273 u274 u275 u276 u277 u278 u279 u280 u281 u282 u283 u284 u285 u286 K Q hK
            · obtain ⟨j, rfl⟩ : ∃ j : Nat, si = j := ⟨si.toNat, by omega⟩
              exact qy_ins j p hsw hid (by omega) u0 u1 u2 u5 u8 u15 u16 u17 u18 u19 u20 u21 u22 u23 u24 u25 u26 u27 u28 u29 u30 u31 u32 u33 u34 u35 u36 u37 u38 u39 u40 u41 u42 u43 u44 u45 u46 u47 u48 u49 u50 u51 u52 u53 u54 u55 u56 u57 u58 u59 u60 u61 u63 u64 u65 u66 u67 u68 u69 u70 u71 u72 u73 u74 u75 u76 u77 u78 u79 u80 u81 u82 u83 u84 u85 u86 u87 u88 u89 u90 u91 u92 u93 u94 u95 u96 u97 u98 u99 u100 u101 u102 u103 u104 u105 u106 u107 u108 u109 u110 u111 u112 u113 u114 u115 u116 u117 u118 u119 u120 u121 u122 u123 u124 u125 u126 u127 u128 u129 u130 u131 u132 u133 u134 u135 u136 u137 u138 u139 u140 u141 u142 u143 u144 u145 u146 u147 u148 u149 u150 u151 u152 u153 u154 u155 u156 u157 u158 u159 u160 u161 u162 u163 u164 u165 u166 u167 u168 u169 u170 u171 u172 u173 u174 u175 u176 u177 u178 u179 u180 u181 u182 u183 u184 u185 u186 u187 u188 u189 u190 u191 u192 u193 u194 u195 u196 u197 u198 u199 u200 u201 u202 u203 u204 u205 u206 u207 u208 u209 u210 u211 u212 u213 u214 u215 u216 u217 u218 u219 u220 u221 u222 u223 u224 u225 u226 u227 u228 u229 u230 u231 u232 u233 u234 u235 u236 u237 u238 u239 u240 u241 u242 u243 u244 u245 u246 u247 u248 u249 u250 u251 u252 u253 u254 u255 u256 u257 u258 u259 u260 u261 u262 u263 u264 u265 u266 u267 u268 u269 u270 u271 u272 u273 u274 u275 u276 u277 u278 u279 u280 u281 u282 u283 u284 u285 u286 K Q hK
set_option maxHeartbeats 4000000 in
theorem qy_rest2 {w W : World} {q T M : Nat} {xs zs : List Int} {h n k : Nat} {f : Int → Option Nat} {am : Option Addr} {nm nz cm sb my : Nat} {id si c g : Int} (ix : SqIx (fun _ => False) q T M zs h (n + k) f W) (rd : Rd (Value.int .i64) (TM T M) W (.slice am nz cm) zs) (hu : Up w W) (c1 : W.cell? ⟨sb, 1, none⟩ = some (.int .i64 id)) (c3 : W.cell? ⟨sb, 3, none⟩ = some (.int .i64 si)) (hwid : wf64 id) (hm : 1 ≤ my ∧ my ≤ 41) (hk : k ≤ my * (8 * bitsN (xs.length + 1))) (hnm : nm = xs.length) (hn80 : nm ≤ 80) (hzl : zs.length ≤ xs.length + 1) (hn81 : n ≤ 10000000)
    (hc : (0 ≤ c ∧ c ≤ 100) ∧ (c ≠ 0 → k = 0)) (u0 u1 u2 u5 u9 u15 u16 u17 u18 u19 u20 u21 u22 u23 u24 u25 u26 u27 u28 u29 u30 u31 u32 u33 u34 u35 u36 u37 u38 u39 u40 u41 u42 u43 u44 u45 u46 u47 u48 u49 u50 u51 u52 u53 u54 u55 u56 u57 u58 u59 u60 u61 u62 u63 u64 u65 u66 u67 u68 u69 u70 u71 u72 u73 u74 u75 u76 u77 u78 u79 u80 u81 u82 u83 u84 u85 u86 u87 u88 u89 u90 u91 u92 u93 u94 u95 u96 u97 u98 u99 u100 u101 u102 u103 u104 u105 u106 u107 u108 u109 u110 u111 u112 u113 u114 u115 u116 u117 u118 u119 u120 u121 u122 u123 u124 u125 u126 u127 u128 u129 u130 u131 u132 u133 u134 u135 u136 u137 u138 u139 u140 u141 u142 u143 u144 u145 u146 u147 u148 u149 u150 u151 u152 u153 u154 u155 u156 u157 u158 u159 u160 u161 u162 u163 u164 u165 u166 u167 u168 u169 u170 u171 u172 u173 u174 u175 u176 u177 u178 u179 u180 u181 u182 u183 u184 u185 u186 u187 u188 u189 u190 u191 u192 u193 u194 u195 u196 u197 u198 u199 u200 u201 u202 u203 u204 u205 u206 u207 u208 u209 u210 u211 u212 u213 u214 u215 u216 u217 u218 u219 u220 u221 u222 u223 u224 u225 u226 u227 u228 u229 u230 u231 u232 u233 u234 u235 u236 u237 u238 u239 u240 u241 u242 u243 u244 u245 u246 u247 u248 u249 u250 u251 u252 u253 u254 u255 u256 u257 u258 u259 u260 u261 u262 u263 u264 u265 u266 u267 u268 u269 u270 u271 u272 u273 u274 u275 u276 u277 u278 u279 u280 u281 u282 u283 u284 u285 u286 : Value) (Q : Exit → Act → World → Prop)
    (hQ0 : ∀ (v16 v17 v18 v19 v20 v21 v183 v184 v185 v186 v187 v188 v189 v190 v191 v192 v193 v194 v195 v196 v197 v198 v199 v200 v201 v202 v203 v204 v205 v206 v207 v208 v209 v210 v211 v212 v213 v214 v215 v216 v217 v218 v219 v220 v221 v222 v223 v224 v225 v226 v227 v228 v229 v230 v231 v232 v233 v234 v235 v236 v237 v238 v239 v240 v241 v242 v243 v244 v245 v246 v247 v248 v249 v250 v251 v252 v253 v254 v255 v256 v257 v258 v259 v260 v261 v262 v263 v264 v265 v266 v267 v268 v269 v270 v271 v272 v273 v274 v275 v276 v277 v278 v279 v280 v281 v282 v283 v284 v285 v286 : Value) (wx : World), QyEnd w q T M zs (n + k) (.slice am nz cm) wx → Q .normal ⟨#[u0, u1, u2, .pointer (some ⟨q, 0, none⟩), .slice am nz cm, u5, .pointer (some ⟨sb, 0, none⟩), .int .i64 nm, .int .i64 n, u9, .int .i64 c, .int .i64 c, .int .i64 g, .int .i64 g, .int .i64 my, u15, v16, v17, v18, v19, v20, v21, u22, u23, u24, u25, u26, u27, u28, u29, u30, u31, u32, u33, u34, u35, u36, u37, u38, u39, u40, u41, u42, u43, u44, u45, u46, u47, u48, u49, u50, u51, u52, u53, u54, u55, u56, u57, u58, u59, u60, u61, u62, u63, u64, u65, u66, u67, u68, u69, u70, u71, u72, u73, u74, u75, u76, u77, u78, u79, u80, u81, u82, u83, u84, u85, u86, u87, u88, u89, u90, u91, u92, u93, u94, u95, u96, u97, u98, u99, u100, u101, u102, u103, u104, u105, u106, u107, u108, u109, u110, u111, u112, u113, u114, u115, u116, u117, u118, u119, u120, u121, u122, u123, u124, u125, u126, u127, u128, u129, u130, u131, u132, u133, u134, u135, u136, u137, u138, u139, u140, u141, u142, u143, u144, u145, u146, u147, u148, u149, u150, u151, u152, u153, u154, u155, u156, u157, u158, u159, u160, u161, u162, u163, u164, u165, u166, u167, u168, u169, u170, u171, u172, u173, u174, u175, u176, u177, u178, u179, u180, u181, u182, v183, v184, v185, v186, v187, v188, v189, v190, v191, v192, v193, v194, v195, v196, v197, v198, v199, v200, v201, v202, v203, v204, v205, v206, v207, v208, v209, v210, v211, v212, v213, v214, v215, v216, v217, v218, v219, v220, v221, v222, v223, v224, v225, v226, v227, v228, v229, v230, v231, v232, v233, v234, v235, v236, v237, v238, v239, v240, v241, v242, v243, v244, v245, v246, v247, v248, v249, v250, v251, v252, v253, v254, v255, v256, v257, v258, v259, v260, v261, v262, v263, v264, v265, v266, v267, v268, v269, v270, v271, v272, v273, v274, v275, v276, v277, v278, v279, v280, v281, v282, v283, v284, v285, v286], []⟩ wx) :
    Code.wp Try.prog ((Try.f3.body.bind (aftQ 2)).getD .skip) Q ⟨#[u0, u1, u2, .pointer (some ⟨q, 0, none⟩), .slice am nz cm, u5, .pointer (some ⟨sb, 0, none⟩), .int .i64 nm, .int .i64 n, u9, .int .i64 c, .int .i64 c, .int .i64 g, .int .i64 g, .int .i64 my, u15, u16, u17, u18, u19, u20, u21, u22, u23, u24, u25, u26, u27, u28, u29, u30, u31, u32, u33, u34, u35, u36, u37, u38, u39, u40, u41, u42, u43, u44, u45, u46, u47, u48, u49, u50, u51, u52, u53, u54, u55, u56, u57, u58, u59, u60, u61, u62, u63, u64, u65, u66, u67, u68, u69, u70, u71, u72, u73, u74, u75, u76, u77, u78, u79, u80, u81, u82, u83, u84, u85, u86, u87, u88, u89, u90, u91, u92, u93, u94, u95, u96, u97, u98, u99, u100, u101, u102, u103, u104, u105, u106, u107, u108, u109, u110, u111, u112, u113, u114, u115, u116, u117, u118, u119, u120, u121, u122, u123, u124, u125, u126, u127, u128, u129, u130, u131, u132, u133, u134, u135, u136, u137, u138, u139, u140, u141, u142, u143, u144, u145, u146, u147, u148, u149, u150, u151, u152, u153, u154, u155, u156, u157, u158, u159, u160, u161, u162, u163, u164, u165, u166, u167, u168, u169, u170, u171, u172, u173, u174, u175, u176, u177, u178, u179, u180, u181, u182, u183, u184, u185, u186, u187, u188, u189, u190, u191, u192, u193, u194, u195, u196, u197, u198, u199, u200, u201, u202, u203, u204, u205, u206, u207, u208, u209, u210, u211, u212, u213, u214, u215, u216, u217, u218, u219, u220, u221, u222, u223, u224, u225, u226, u227, u228, u229, u230, u231, u232, u233, u234, u235, u236, u237, u238, u239, u240, u241, u242, u243, u244, u245, u246, u247, u248, u249, u250, u251, u252, u253, u254, u255, u256, u257, u258, u259, u260, u261, u262, u263, u264, u265, u266, u267, u268, u269, u270, u271, u272, u273, u274, u275, u276, u277, u278, u279, u280, u281, u282, u283, u284, u285, u286], []⟩ W := by
  refine qy_rest ix rd hu c1 c3 hwid hm hk hnm hn80 hzl hn81 hc u0 u1 u2 u5 u9 u15 u16 u17 u18 u19 u20 u21 u22 u23 u24 u25 u26 u27 u28 u29 u30 u31 u32 u33 u34 u35 u36 u37 u38 u39 u40 u41 u42 u43 u44 u45 u46 u47 u48 u49 u50 u51 u52 u53 u54 u55 u56 u57 u58 u59 u60 u61 u62 u63 u64 u65 u66 u67 u68 u69 u70 u71 u72 u73 u74 u75 u76 u77 u78 u79 u80 u81 u82 u83 u84 u85 u86 u87 u88 u89 u90 u91 u92 u93 u94 u95 u96 u97 u98 u99 u100 u101 u102 u103 u104 u105 u106 u107 u108 u109 u110 u111 u112 u113 u114 u115 u116 u117 u118 u119 u120 u121 u122 u123 u124 u125 u126 u127 u128 u129 u130 u131 u132 u133 u134 u135 u136 u137 u138 u139 u140 u141 u142 u143 u144 u145 u146 u147 u148 u149 u150 u151 u152 u153 u154 u155 u156 u157 u158 u159 u160 u161 u162 u163 u164 u165 u166 u167 u168 u169 u170 u171 u172 u173 u174 u175 u176 u177 u178 u179 u180 u181 u182 u183 u184 u185 u186 u187 u188 u189 u190 u191 u192 u193 u194 u195 u196 u197 u198 u199 u200 u201 u202 u203 u204 u205 u206 u207 u208 u209 u210 u211 u212 u213 u214 u215 u216 u217 u218 u219 u220 u221 u222 u223 u224 u225 u226 u227 u228 u229 u230 u231 u232 u233 u234 u235 u236 u237 u238 u239 u240 u241 u242 u243 u244 u245 u246 u247 u248 u249 u250 u251 u252 u253 u254 u255 u256 u257 u258 u259 u260 u261 u262 u263 u264 u265 u266 u267 u268 u269 u270 u271 u272 u273 u274 u275 u276 u277 u278 u279 u280 u281 u282 u283 u284 u285 u286 Q ?_
  intro a' w' hJ
  unfold Met QyE at hJ
  obtain ⟨v16, hJ⟩ := hJ
  obtain ⟨v17, hJ⟩ := hJ
  obtain ⟨v18, hJ⟩ := hJ
  obtain ⟨v19, hJ⟩ := hJ
  obtain ⟨v20, hJ⟩ := hJ
  obtain ⟨v21, hJ⟩ := hJ
  obtain ⟨v183, hJ⟩ := hJ
  obtain ⟨v184, hJ⟩ := hJ
  obtain ⟨v185, hJ⟩ := hJ
  obtain ⟨v186, hJ⟩ := hJ
  obtain ⟨v187, hJ⟩ := hJ
  obtain ⟨v188, hJ⟩ := hJ
  obtain ⟨v189, hJ⟩ := hJ
  obtain ⟨v190, hJ⟩ := hJ
  obtain ⟨v191, hJ⟩ := hJ
  obtain ⟨v192, hJ⟩ := hJ
  obtain ⟨v193, hJ⟩ := hJ
  obtain ⟨v194, hJ⟩ := hJ
  obtain ⟨v195, hJ⟩ := hJ
  obtain ⟨v196, hJ⟩ := hJ
  obtain ⟨v197, hJ⟩ := hJ
  obtain ⟨v198, hJ⟩ := hJ
  obtain ⟨v199, hJ⟩ := hJ
  obtain ⟨v200, hJ⟩ := hJ
  obtain ⟨v201, hJ⟩ := hJ
  obtain ⟨v202, hJ⟩ := hJ
  obtain ⟨v203, hJ⟩ := hJ
  obtain ⟨v204, hJ⟩ := hJ
  obtain ⟨v205, hJ⟩ := hJ
  obtain ⟨v206, hJ⟩ := hJ
  obtain ⟨v207, hJ⟩ := hJ
  obtain ⟨v208, hJ⟩ := hJ
  obtain ⟨v209, hJ⟩ := hJ
  obtain ⟨v210, hJ⟩ := hJ
  obtain ⟨v211, hJ⟩ := hJ
  obtain ⟨v212, hJ⟩ := hJ
  obtain ⟨v213, hJ⟩ := hJ
  obtain ⟨v214, hJ⟩ := hJ
  obtain ⟨v215, hJ⟩ := hJ
  obtain ⟨v216, hJ⟩ := hJ
  obtain ⟨v217, hJ⟩ := hJ
  obtain ⟨v218, hJ⟩ := hJ
  obtain ⟨v219, hJ⟩ := hJ
  obtain ⟨v220, hJ⟩ := hJ
  obtain ⟨v221, hJ⟩ := hJ
  obtain ⟨v222, hJ⟩ := hJ
  obtain ⟨v223, hJ⟩ := hJ
  obtain ⟨v224, hJ⟩ := hJ
  obtain ⟨v225, hJ⟩ := hJ
  obtain ⟨v226, hJ⟩ := hJ
  obtain ⟨v227, hJ⟩ := hJ
  obtain ⟨v228, hJ⟩ := hJ
  obtain ⟨v229, hJ⟩ := hJ
  obtain ⟨v230, hJ⟩ := hJ
  obtain ⟨v231, hJ⟩ := hJ
  obtain ⟨v232, hJ⟩ := hJ
  obtain ⟨v233, hJ⟩ := hJ
  obtain ⟨v234, hJ⟩ := hJ
  obtain ⟨v235, hJ⟩ := hJ
  obtain ⟨v236, hJ⟩ := hJ
  obtain ⟨v237, hJ⟩ := hJ
  obtain ⟨v238, hJ⟩ := hJ
  obtain ⟨v239, hJ⟩ := hJ
  obtain ⟨v240, hJ⟩ := hJ
  obtain ⟨v241, hJ⟩ := hJ
  obtain ⟨v242, hJ⟩ := hJ
  obtain ⟨v243, hJ⟩ := hJ
  obtain ⟨v244, hJ⟩ := hJ
  obtain ⟨v245, hJ⟩ := hJ
  obtain ⟨v246, hJ⟩ := hJ
  obtain ⟨v247, hJ⟩ := hJ
  obtain ⟨v248, hJ⟩ := hJ
  obtain ⟨v249, hJ⟩ := hJ
  obtain ⟨v250, hJ⟩ := hJ
  obtain ⟨v251, hJ⟩ := hJ
  obtain ⟨v252, hJ⟩ := hJ
  obtain ⟨v253, hJ⟩ := hJ
  obtain ⟨v254, hJ⟩ := hJ
  obtain ⟨v255, hJ⟩ := hJ
  obtain ⟨v256, hJ⟩ := hJ
  obtain ⟨v257, hJ⟩ := hJ
  obtain ⟨v258, hJ⟩ := hJ
  obtain ⟨v259, hJ⟩ := hJ
  obtain ⟨v260, hJ⟩ := hJ
  obtain ⟨v261, hJ⟩ := hJ
  obtain ⟨v262, hJ⟩ := hJ
  obtain ⟨v263, hJ⟩ := hJ
  obtain ⟨v264, hJ⟩ := hJ
  obtain ⟨v265, hJ⟩ := hJ
  obtain ⟨v266, hJ⟩ := hJ
  obtain ⟨v267, hJ⟩ := hJ
  obtain ⟨v268, hJ⟩ := hJ
  obtain ⟨v269, hJ⟩ := hJ
  obtain ⟨v270, hJ⟩ := hJ
  obtain ⟨v271, hJ⟩ := hJ
  obtain ⟨v272, hJ⟩ := hJ
  obtain ⟨v273, hJ⟩ := hJ
  obtain ⟨v274, hJ⟩ := hJ
  obtain ⟨v275, hJ⟩ := hJ
  obtain ⟨v276, hJ⟩ := hJ
  obtain ⟨v277, hJ⟩ := hJ
  obtain ⟨v278, hJ⟩ := hJ
  obtain ⟨v279, hJ⟩ := hJ
  obtain ⟨v280, hJ⟩ := hJ
  obtain ⟨v281, hJ⟩ := hJ
  obtain ⟨v282, hJ⟩ := hJ
  obtain ⟨v283, hJ⟩ := hJ
  obtain ⟨v284, hJ⟩ := hJ
  obtain ⟨v285, hJ⟩ := hJ
  obtain ⟨v286, hJ⟩ := hJ
  obtain ⟨hm, rfl⟩ := hJ
  exact hQ0 v16 v17 v18 v19 v20 v21 v183 v184 v185 v186 v187 v188 v189 v190 v191 v192 v193 v194 v195 v196 v197 v198 v199 v200 v201 v202 v203 v204 v205 v206 v207 v208 v209 v210 v211 v212 v213 v214 v215 v216 v217 v218 v219 v220 v221 v222 v223 v224 v225 v226 v227 v228 v229 v230 v231 v232 v233 v234 v235 v236 v237 v238 v239 v240 v241 v242 v243 v244 v245 v246 v247 v248 v249 v250 v251 v252 v253 v254 v255 v256 v257 v258 v259 v260 v261 v262 v263 v264 v265 v266 v267 v268 v269 v270 v271 v272 v273 v274 v275 v276 v277 v278 v279 v280 v281 v282 v283 v284 v285 v286 w' hm
set_option maxHeartbeats 16000000 in
theorem seqPlays_few (a0 : Option Addr) (n0 c0 : Nat) (l : List QS) (w : World) (hl : QStepsAt w a0 n0 l) (hn : n0 ≤ 80) :
    Calls Try.prog 3 #[.slice a0 n0 c0] w fun e w' => e = .returned (.bool true) ∧ Up w w' := by
  have HL := hide hl
  have g0 : decide ((n0 : Int) > 80) = false := decide_eq_false (by omega)
  have g0' : ¬ ((n0 : Int) > 80) := by omega
  have g0'' : decide (80 < n0) = false := decide_eq_false (by omega)
  clear hl
  go_enter Try.func3, Try.ntmps3
  go_wp2_with fail
  refine (known13_calls w).mono ?_
  rintro _ wk ⟨rfl, huk⟩
  replace huk := hide huk
  dsimp only
  go_wp2_with fail
  refine (sqnew_calls wk).mono ?_
  rintro _ w0 ⟨q, T, M, rfl, ix0, hqw, hTw, hMw, hu0⟩
  have hT : w.heap.size ≤ T := Nat.le_trans huk.out.size hTw
  have hM : w.heap.size ≤ M := Nat.le_trans huk.out.size hMw
  have HA0 : Hid (QyIn w q T M 0 (.slice none 0 0) w0) := ⟨[], 0, 0, _, ix0, Rd.nil _ _ _, Nat.le_refl _, Nat.le_refl _, huk.out.trans hu0⟩
  clear ix0 hu0 hqw hTw hMw
  dsimp only
  go_wp2_with fail
  --A1
  go_loopw [4, 5] (fun mv iv wr => ∃ i : Nat, i ≤ n0 ∧ iv = .int .i64 i ∧ Hid (QyIn w q T M i mv wr)) (fun _ iv _ => n0 - (intOf iv).toNat)
  case atStart => exact ⟨0, Nat.zero_le _, rfl, HA0⟩
  case round =>
    --B0
    obtain ⟨i, hi, rfl, hA⟩ := hrel
    clear HA0
    by_cases hlt : i < n0
    · have hlt' : (i : Int) < (n0 : Int) := by omega
      have i0 : (0 : Int) ≤ (i : Int) := by omega
      obtain ⟨xs, h, n, f, ix, hm, hxl, hnn, hu⟩ := hA.out
      obtain ⟨am, nm, cm, rfl, hnm, hcm⟩ := hm.sliceN
      have hil : i < l.length := by rw [HL.out.1]; exact hlt
      obtain ⟨s, hs⟩ : ∃ s, s = l[i] := ⟨_, rfl⟩
      have hok : OkQS w s := by rw [hs]; exact HL.out.2.1 _ (List.getElem_mem hil)
      obtain ⟨gb, ob, rfl, hg⟩ : ∃ gb ob, a0 = some ⟨gb, ob, none⟩ ∧ ∀ (j : Nat) (v : Value), (qsCells s)[j]? = some v → wr.cell? ⟨gb, ob + i * 5 + j, none⟩ = some v := by
        rcases HL.out.2.2 with h0 | ⟨b, off, e, hc⟩
        · omega
        · exact ⟨b, off, e, fun j v hv => hu.cell (hc i hil j v (by rw [← hs]; exact hv))⟩
      obtain ⟨sw, id, bf, si, ia, inn, ic, ids⟩ := s
      have q0 : wr.cell? ⟨gb, ob + i * 5, none⟩ = some (.int .i64 sw) := hg 0 _ rfl
      have q1 : wr.cell? ⟨gb, ob + i * 5 + 1, none⟩ = some (.int .i64 id) := hg 1 _ rfl
      have q2 : wr.cell? ⟨gb, ob + i * 5 + 2, none⟩ = some (.int .i64 bf) := hg 2 _ rfl
      have q3 : wr.cell? ⟨gb, ob + i * 5 + 3, none⟩ = some (.int .i64 si) := hg 3 _ rfl
      have q4 : wr.cell? ⟨gb, ob + i * 5 + 4, none⟩ = some (.slice ia inn ic) := hg 4 _ rfl
      obtain ⟨⟨hwid, hwbf⟩, _, hidn, hrid, hwz⟩ := hok
      have HWID := hide hwid
      have HWBF := hide hwbf
      have HIDN : Hid (inn = ids.length) := hidn.symm
      have HRID : Hid (Rd (Value.int .i64) (fun _ => False) w (.slice ia inn ic) ids) := hrid
      have HWZ : Hid (∀ z ∈ ids, wf64 z) := hwz
      have HW : Hid (∀ W, Up wr W → Calls Try.prog 12 #[.pointer (some ⟨q, 0, none⟩)] W fun e w' => e = .returned (.int .i64 n) ∧ w' = W) := fun W hW => sqwrites_calls (ix.up hW)
      have HFN : Hid (∀ W, Up wr W → Calls Try.prog 11 #[.slice am nm cm, .int .i64 id] W fun e w' => e = .returned (.int .i64 (fdI xs id)) ∧ w' = W) := fun W hW => find13_calls _ xs id (TM T M) W (hm.up hW) (by omega)
      have HIX := hide ix
      have HM := hide hm
      have HU := hide hu
      have hwl : T < wr.heap.size ∧ M < wr.heap.size := ⟨ix.ltT, ix.ltM⟩
      have HNM : Hid (nm = xs.length) := hnm.out
      have HCM : Hid (nm ≤ cm) := hcm.out
      have hn80 : nm ≤ 80 := by rw [hnm.out]; omega
      have hn81 : n ≤ 200000 := by omega
      clear hA ix hm hu hg hnm hcm hs hwid hwbf hidn hrid hwz
      obtain ⟨W1, hW1⟩ : ∃ W1, W1 = wr.alloc (.cells #[.int .i64 sw, .int .i64 id, .int .i64 bf, .int .i64 si, .slice ia inn ic] 28) := ⟨_, rfl⟩
      have u1 : Up wr W1 := by rw [hW1]; exact (Up.refl _).alloc _
      have p0 : W1.cell? ⟨wr.heap.size, 0, none⟩ = some (.int .i64 sw) := by rw [hW1]; go_simp
      have p1 : W1.cell? ⟨wr.heap.size, 1, none⟩ = some (.int .i64 id) := by rw [hW1]; go_simp
      have p2 : W1.cell? ⟨wr.heap.size, 2, none⟩ = some (.int .i64 bf) := by rw [hW1]; go_simp
      have p3 : W1.cell? ⟨wr.heap.size, 3, none⟩ = some (.int .i64 si) := by rw [hW1]; go_simp
      have p4 : W1.cell? ⟨wr.heap.size, 4, none⟩ = some (.slice ia inn ic) := by rw [hW1]; go_simp
      obtain ⟨sb, hsb⟩ : ∃ sb, sb = wr.heap.size := ⟨_, rfl⟩
      have HW1 := hide hW1
      have HU1 := hide u1
      have HSB := hide hsb
      rw [← hsb] at p0 p1 p2 p3 p4
      have HF0 : Hid (inn ≤ 20 → Calls Try.prog 11 #[.slice ia inn ic, .int .i64 0] W1 fun e w' => e = .returned (.int .i64 (fdI ids 0)) ∧ w' = W1) := by
        intro hl20
        exact find13_calls _ ids 0 (fun _ => False) W1 (HRID.out.up (HU.out.trans u1)) (by have := HIDN.out; omega)
      clear hW1 u1 hsb
      --B1
      by_cases h20 : 20 < inn
      · have d0 : decide ((inn : Int) > 20) = true := decide_eq_true (by omega)
        have d0' : decide (20 < inn) = true := decide_eq_true h20
        have d0n : (20 : Int) < (inn : Int) := by omega
        go_wp2
        go_ret
        first
          | exact ⟨rfl, HU.out.trans HU1.out⟩
          | exact ⟨rfl, HU.out.trans ((Up.refl wr).alloc _)⟩
      · have hF0 := HF0.out (by omega)
        have HF1 := hide hF0
        have d0 : decide ((inn : Int) > 20) = false := decide_eq_false (by omega)
        have d0' : decide (20 < inn) = false := decide_eq_false h20
        have d0n : ¬ (20 : Int) < (inn : Int) := by omega
        clear HF0 hF0
        by_cases hz0 : id = 0
        · have d1 : (id == 0) = true := by simp [hz0]
          clear hz0
          go_wp2
          go_ret
          first
            | exact ⟨rfl, HU.out.trans HU1.out⟩
            | exact ⟨rfl, HU.out.trans ((Up.refl wr).alloc _)⟩
        · have d1 : (id == 0) = false := by simpa using hz0
          have HZ0 := hide hz0
          clear hz0
          by_cases hz : (0 : Int) ∈ ids
          · obtain ⟨p9, hp9⟩ := fdI_mem hz
            rw [hp9] at HF1
            have d2 : decide ((p9 : Int) ≥ 0) = true := decide_eq_true (by omega)
            have d2' : decide (0 ≤ (p9 : Int)) = true := decide_eq_true (by omega)
            clear hz hp9
            go_wp2_with fail
            rw [← HW1.out, ← HSB.out]
            refine HF1.out.mono ?_
            rintro _ w2 ⟨rfl, hw2⟩
            obtain rfl : W1 = w2 := hw2.symm
            dsimp only
            go_wp2
            go_ret
            exact ⟨rfl, HU.out.trans HU1.out⟩
          · rw [fdI_no hz] at HF1
            have d2 : decide ((-1 : Int) ≥ 0) = false := decide_eq_false (by omega)
            have HZN := hide hz
            clear hz
            go_wp2_with fail
            rw [← HW1.out, ← HSB.out]
            refine HF1.out.mono ?_
            rintro _ w2 ⟨rfl, hw2⟩
            obtain rfl : W1 = w2 := hw2.symm
            clear q0 q1 q2 q3 q4 HF1
            dsimp only
            --B2
            go_wp2_with fail
            refine (HW.out W1 HU1.out).mono ?_
            rintro _ w2 ⟨rfl, hw2⟩
            obtain rfl : W1 = w2 := hw2.symm
            dsimp only
            go_wp2_with fail
            refine (HFN.out _ HU1.out).mono ?_
            rintro _ w2 ⟨rfl, hw2⟩
            obtain rfl : W1 = w2 := hw2.symm
            dsimp only
            clear HFN HW
            --A3
            have hPA : Hid (QyAt w q T M xs h n f am nm cm sb id bf si ia inn ic ids W1) := ⟨p1, p2, p3, p4, HIX.out.up HU1.out, HM.out.up HU1.out, HNM.out, HCM.out, hn80, by omega, HWID.out, HWBF.out, HZ0.out, (HRID.out.up (HU.out.trans HU1.out)).mono (fun y hy e => absurd hy (by omega)), HIDN.out, by omega, fun z hz => ⟨HWZ.out z hz, fun e => HZN.out (e ▸ hz)⟩, HU.out.trans HU1.out, fun e => by have := HSB.out; omega, fun e => by have := HSB.out; omega, hT, hM, HRID.out⟩
            clear p1 p2 p3 p4
            go_upto_block 2 with fail
            --A6
            refine qy_act hPA.out _ _ _ _ _ _ _ _ _ _ _ _ _ _ _ _ _ _ _ _ _ _ _ _ _ _ _ _ _ _ _ _ _ _ _ _ _ _ _ _ _ _ _ _ _ _ _ _ _ _ _ _ _ _ _ _ _ _ _ _ _ _ _ _ _ _ _ _ _ _ _ _ _ _ _ _ _ _ _ _ _ _ _ _ _ _ _ _ _ _ _ _ _ _ _ _ _ _ _ _ _ _ _ _ _ _ _ _ _ _ _ _ _ _ _ _ _ _ _ _ _ _ _ _ _ _ _ _ _ _ _ _ _ _ _ _ _ _ _ _ _ _ _ _ _ _ _ _ _ _ _ _ _ _ _ _ _ _ _ _ _ _ _ _ _ _ _ _ _ _ _ _ _ _ _ _ _ _ _ _ _ _ _ _ _ _ _ _ _ _ _ _ _ _ _ _ _ _ _ _ _ _ _ _ _ _ _ _ _ _ _ _ _ _ _ _ _ _ _ _ _ _ _ _ _ _ _ _ _ _ _ _ _ _ _ _ _ _ _ _ _ _ _ _ _ _ _ _ _ _ _ _ _ _ _ _ _ _ _ _ _ _ _ _ _ _ _ _ _ _ _ _ _ _ _ _ _ _ ?_
            intro v4 v10 v11 v12 v13 v14 v15 v63 v64 v65 v66 v67 v68 v69 v70 v71 v72 v73 v74 v75 v76 v77 v78 v79 v80 v81 v82 v83 v84 v85 v86 v87 v88 v89 v90 v91 v92 v93 v94 v95 v96 v97 v98 v99 v100 v101 v102 v103 v104 v105 v106 v107 v108 v109 v110 v111 v112 v113 v114 v115 v116 v117 v118 v119 v120 v121 v122 v123 v124 v125 v126 v127 v128 v129 v130 v131 v132 v133 v134 v135 v136 v137 v138 v139 v140 v141 v142 v143 v144 v145 v146 v147 v148 v149 v150 v151 v152 v153 v154 v155 v156 v157 v158 v159 v160 v161 v162 v163 v164 v165 v166 v167 v168 v169 v170 v171 v172 v173 v174 v175 v176 v177 v178 v179 v180 v181 v182 wx hmid
            obtain ⟨zs, h', k, f', c, g, my, ⟨rfl, rfl, rfl, rfl, rfl⟩, hc1, hmy, ix2, hk, hc2, rd2, hzl, hu2, c1, c3⟩ := hmid
            obtain ⟨am2, nz, cm2, rfl, -, -⟩ := rd2.sliceN
            --A7
            rename_i hK1
            refine hK1 _ _ ?_
            refine qy_rest2 ix2 rd2 hu2 c1 c3 HWID.out hmy hk HNM.out hn80 hzl (by omega) ⟨hc1, hc2⟩ _ _ _ _ _ _ _ _ _ _ _ _ _ _ _ _ _ _ _ _ _ _ _ _ _ _ _ _ _ _ _ _ _ _ _ _ _ _ _ _ _ _ _ _ _ _ _ _ _ _ _ _ _ _ _ _ _ _ _ _ _ _ _ _ _ _ _ _ _ _ _ _ _ _ _ _ _ _ _ _ _ _ _ _ _ _ _ _ _ _ _ _ _ _ _ _ _ _ _ _ _ _ _ _ _ _ _ _ _ _ _ _ _ _ _ _ _ _ _ _ _ _ _ _ _ _ _ _ _ _ _ _ _ _ _ _ _ _ _ _ _ _ _ _ _ _ _ _ _ _ _ _ _ _ _ _ _ _ _ _ _ _ _ _ _ _ _ _ _ _ _ _ _ _ _ _ _ _ _ _ _ _ _ _ _ _ _ _ _ _ _ _ _ _ _ _ _ _ _ _ _ _ _ _ _ _ _ _ _ _ _ _ _ _ _ _ _ _ _ _ _ _ _ _ _ _ _ _ _ _ _ _ _ _ _ _ _ _ _ _ _ _ _ _ _ _ _ _ _ _ _ _ _ _ _ _ _ _ _ _ _ _ _ _ _ _ _ _ _ _ _ _ _ _ _ _ _ _ ?_
            intro v16 v17 v18 v19 v20 v21 v183 v184 v185 v186 v187 v188 v189 v190 v191 v192 v193 v194 v195 v196 v197 v198 v199 v200 v201 v202 v203 v204 v205 v206 v207 v208 v209 v210 v211 v212 v213 v214 v215 v216 v217 v218 v219 v220 v221 v222 v223 v224 v225 v226 v227 v228 v229 v230 v231 v232 v233 v234 v235 v236 v237 v238 v239 v240 v241 v242 v243 v244 v245 v246 v247 v248 v249 v250 v251 v252 v253 v254 v255 v256 v257 v258 v259 v260 v261 v262 v263 v264 v265 v266 v267 v268 v269 v270 v271 v272 v273 v274 v275 v276 v277 v278 v279 v280 v281 v282 v283 v284 v285 v286 wy hend
            obtain ⟨h3, f3, ix3, rd3, hu3⟩ := hend
            have hbb := bitsN7 (m := xs.length + 1) (by omega)
            have hk2 : k ≤ 41 * 56 := Nat.le_trans hk (Nat.mul_le_mul hmy.2 (by omega))
            have HEND : Hid (QyIn w q T M (i + 1) (.slice am2 nz cm2) wy) := ⟨zs, h3, n + k, f3, ix3, rd3, by omega, by omega, hu3⟩
            clear ix2 rd2 ix3 rd3 hu2 hu3 c1 c3
            --A8
            go_wp2
            go_roundw
            case rel => exact ⟨i + 1, by omega, by simp, HEND⟩
            case measure => simp [intOf]; omega
    · obtain rfl : n0 = i := by omega
      have hlt' : ¬ (n0 : Int) < (n0 : Int) := by omega
      obtain ⟨xs, h, n, f, ix, hm, hxl, hnn, hu⟩ := hA.out
      have HU := hide hu
      clear hA ix hm hu
      go_wp2
      go_ret
      exact ⟨rfl, HU.out⟩
end Go.Proofs.Ytbnkddnjfkagkaa
