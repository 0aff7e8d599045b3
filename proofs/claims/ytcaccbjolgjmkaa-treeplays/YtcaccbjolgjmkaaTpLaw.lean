/-
  TreePlays of rialtolaw11, as its text runs.
-/
import Derived.Test.YtcaccbjolgjmkaaTpSet
import Derived.Test.YtcaccbjolgjmkaaTpEra
import Derived.Test.YtcaccbjolgjmkaaTpIns
import Derived.Test.YtcaccbjolgjmkaaTpInt
import Derived.Test.YtcaccbjolgjmkaaTpNon
import Derived.Test.YtcaccbjolgjmkaaTpRst
import Derived.Test.YtcaccbjolgjmkaaTrPly
import Derived.Deep.CutRange
import Derived.Deep.CutBlock
namespace Go.Proofs.Ytcaccbjolgjmkaa
open Go.ChangeShapes Go.WideShapes Go.ChangeAt Go.RowKit
set_option linter.unusedVariables false
set_option maxRecDepth 100000
attribute [local go_sem ↓] Go.wp_at_zero Go.wp_at_succ

/-- What holds from round to round: the tree and the plain row hold the same numbers. -/
def TpIn (w : World) (T i : Nat) (mv : Value) (wr : World) : Prop := ∃ (xs : List Int) (h n : Nat), TrI wr T xs h n ∧ Rd (Value.int .i64) (fun y => y = T) wr mv xs ∧ xs.length ≤ i ∧ n ≤ 100 * i ∧ Up w wr
theorem bitsN_up : ∀ (k m : Nat), m < 2 ^ k → bitsN m ≤ k
  | 0, m, h => by
    have : m = 0 := by rw [Nat.pow_zero] at h; omega
    subst this
    unfold bitsN; simp
  | k + 1, m, h => by
    by_cases h0 : m = 0
    · subst h0; unfold bitsN; simp
    · rw [bitsN_pos h0]
      have := bitsN_up k (m / 2) (by rw [Nat.pow_succ] at h; omega)
      omega
theorem bitsN_150 {m : Nat} (h : m ≤ 151) : 8 * bitsN m ≤ 100 := by
  have := bitsN_up 8 m (by omega)
  omega
set_option maxHeartbeats 4000000 in
/-- Whatever the act is. -/
theorem tp_act {w W : World} {T : Nat} {xs : List Int} {h n : Nat} {am : Option Addr} {nm cm sb : Nat} {sw si sv : Int} {ib : Bool} (p : TpAt w T xs h n am nm cm sb sw si sv ib W) (u0 u1 u2 u5 u8 u11 u12 u13 u14 u15 u16 u17 u18 u19 u20 u21 u22 u23 u24 u25 u26 u27 u28 u29 u30 u31 u32 u33 u34 u35 u36 u37 u38 u39 u40 u41 u42 u43 u44 u45 u46 u47 u48 u49 u50 u51 u52 u54 u55 u56 u57 u58 u59 u60 u61 u62 u63 u64 u65 u66 u67 u68 u69 u70 u71 u72 u73 u74 u75 u76 u77 u78 u79 u80 u81 u82 u83 u84 u85 u86 u87 u88 u89 u90 u91 u92 u93 u94 u95 u96 u97 u98 u99 u100 u101 u102 u103 u104 u105 u106 u107 u108 u109 u110 u111 u112 u113 u114 u115 u116 u117 u118 u119 u120 u121 u122 u123 u124 u125 u126 u127 u128 u129 u130 u131 u132 u133 u134 u135 u136 u137 u138 u139 u140 u141 u142 u143 u144 u145 u146 u147 u148 u149 u150 u151 u152 u153 u154 u155 u156 u157 u158 u159 u160 u161 u162 u163 u164 u165 u166 u167 u168 u169 u170 u171 u172 u173 u174 u175 u176 u177 u178 u179 u180 u181 u182 u183 u184 u185 u186 u187 u188 u189 u190 u191 u192 u193 u194 u195 u196 u197 u198 u199 u200 u201 u202 u203 u204 u205 u206 u207 u208 u209 u210 u211 u212 u213 u214 u215 u216 u217 u218 u219 u220 u221 u222 u223 u224 u225 u226 u227 u228 u229 u230 u231 u232 u233 u234 u235 u236 u237 u238 u239 u240 u241 u242 u243 u244 u245 u246 u247 u248 u249 u250 u251 u252 u253 u254 u255 u256 u257 u258 u259 u260 u261 u262 u263 u264 u265 u266 u267 u268 u269 u270 u271 u272 u273 u274 u275 u276 u277 u278 u279 u280 u281 u282 u283 u284 u285 u286 u287 u288 u289 u290 u291 u292 u293 u294 u295 u296 u297 u298 u299 u300 u301 u302 u303 u304 u305 u306 : Value) (K : Act → World → Prop) (Q : Exit → Act → World → Prop)
    (hK0 : ∀ (v4 v10 v11 v12 v13 v14 v15 v16 v17 v18 v54 v55 v56 v57 v58 v59 v60 v61 v62 v63 v64 v65 v66 v67 v68 v69 v70 v71 v72 v73 v74 v75 v76 v77 v78 v79 v80 v81 v82 v83 v84 v85 v86 v87 v88 v89 v90 v91 v92 v93 v94 v95 v96 v97 v98 v99 v100 v101 v102 v103 v104 v105 v106 v107 v108 v109 v110 v111 v112 v113 v114 v115 v116 v117 v118 v119 v120 v121 v122 v123 v124 v125 v126 v127 v128 v129 v130 v131 v132 v133 v134 v135 v136 v137 v138 v139 v140 v141 v142 v143 v144 v145 v146 v147 v148 v149 v150 v151 v152 v153 v154 v155 v156 v157 v158 v159 v160 v161 v162 v163 v164 v165 v166 v167 v168 v169 v170 v171 v172 v173 v174 v175 v176 v177 v178 v179 v180 v181 v182 v183 v184 v185 v186 v187 v188 v189 v190 v191 v192 v193 v194 v195 v196 v197 v198 v199 v200 v201 v202 v203 v204 v205 v206 v207 v208 : Value) (wx : World), TpMid w T xs n sb si v4 v10 wx → K ⟨#[u0, u1, u2, .pointer (some ⟨T, 0, none⟩), v4, u5, .pointer (some ⟨sb, 0, none⟩), .int .i64 nm, u8, .bool ib, v10, v11, v12, v13, v14, v15, v16, v17, v18, u19, u20, u21, u22, u23, u24, u25, u26, u27, u28, u29, u30, u31, u32, u33, u34, u35, u36, u37, u38, u39, u40, u41, u42, u43, u44, u45, u46, u47, u48, u49, u50, u51, u52, .int .i64 sw, v54, v55, v56, v57, v58, v59, v60, v61, v62, v63, v64, v65, v66, v67, v68, v69, v70, v71, v72, v73, v74, v75, v76, v77, v78, v79, v80, v81, v82, v83, v84, v85, v86, v87, v88, v89, v90, v91, v92, v93, v94, v95, v96, v97, v98, v99, v100, v101, v102, v103, v104, v105, v106, v107, v108, v109, v110, v111, v112, v113, v114, v115, v116, v117, v118, v119, v120, v121, v122, v123, v124, v125, v126, v127, v128, v129, v130, v131, v132, v133, v134, v135, v136, v137, v138, v139, v140, v141, v142, v143, v144, v145, v146, v147, v148, v149, v150, v151, v152, v153, v154, v155, v156, v157, v158, v159, v160, v161, v162, v163, v164, v165, v166, v167, v168, v169, v170, v171, v172, v173, v174, v175, v176, v177, v178, v179, v180, v181, v182, v183, v184, v185, v186, v187, v188, v189, v190, v191, v192, v193, v194, v195, v196, v197, v198, v199, v200, v201, v202, v203, v204, v205, v206, v207, v208, u209, u210, u211, u212, u213, u214, u215, u216, u217, u218, u219, u220, u221, u222, u223, u224, u225, u226, u227, u228, u229, u230, u231, u232, u233, u234, u235, u236, u237, u238, u239, u240, u241, u242, u243, u244, u245, u246, u247, u248, u249, u250, u251, u252, u253, u254, u255, u256, u257, u258, u259, u260, u261, u262, u263, u264, u265, u266, u267, u268, u269, u270, u271, u272, u273, u274, u275, u276, u277, u278, u279, u280, u281, u282, u283, u284, u285, u286, u287, u288, u289, u290, u291, u292, u293, u294, u295, u296, u297, u298, u299, u300, u301, u302, u303, u304, u305, u306], []⟩ wx) :
    Code.wp Try.prog ((Try.f3.body.bind (blkN 2)).getD .skip) (Exit.then K Q) ⟨#[u0, u1, u2, .pointer (some ⟨T, 0, none⟩), .slice am nm cm, u5, .pointer (some ⟨sb, 0, none⟩), .int .i64 nm, u8, .bool ib, .bool false, u11, u12, u13, u14, u15, u16, u17, u18, u19, u20, u21, u22, u23, u24, u25, u26, u27, u28, u29, u30, u31, u32, u33, u34, u35, u36, u37, u38, u39, u40, u41, u42, u43, u44, u45, u46, u47, u48, u49, u50, u51, u52, .int .i64 sw, u54, u55, u56, u57, u58, u59, u60, u61, u62, u63, u64, u65, u66, u67, u68, u69, u70, u71, u72, u73, u74, u75, u76, u77, u78, u79, u80, u81, u82, u83, u84, u85, u86, u87, u88, u89, u90, u91, u92, u93, u94, u95, u96, u97, u98, u99, u100, u101, u102, u103, u104, u105, u106, u107, u108, u109, u110, u111, u112, u113, u114, u115, u116, u117, u118, u119, u120, u121, u122, u123, u124, u125, u126, u127, u128, u129, u130, u131, u132, u133, u134, u135, u136, u137, u138, u139, u140, u141, u142, u143, u144, u145, u146, u147, u148, u149, u150, u151, u152, u153, u154, u155, u156, u157, u158, u159, u160, u161, u162, u163, u164, u165, u166, u167, u168, u169, u170, u171, u172, u173, u174, u175, u176, u177, u178, u179, u180, u181, u182, u183, u184, u185, u186, u187, u188, u189, u190, u191, u192, u193, u194, u195, u196, u197, u198, u199, u200, u201, u202, u203, u204, u205, u206, u207, u208, u209, u210, u211, u212, u213, u214, u215, u216, u217, u218, u219, u220, u221, u222, u223, u224, u225, u226, u227, u228, u229, u230, u231, u232, u233, u234, u235, u236, u237, u238, u239, u240, u241, u242, u243, u244, u245, u246, u247, u248, u249, u250, u251, u252, u253, u254, u255, u256, u257, u258, u259, u260, u261, u262, u263, u264, u265, u266, u267, u268, u269, u270, u271, u272, u273, u274, u275, u276, u277, u278, u279, u280, u281, u282, u283, u284, u285, u286, u287, u288, u289, u290, u291, u292, u293, u294, u295, u296, u297, u298, u299, u300, u301, u302, u303, u304, u305, u306], []⟩ W := by
  have hK : ∀ a' w', Met (TpJ w T xs n nm sb si sw ib u0 u1 u2 u5 u8 u19 u20 u21 u22 u23 u24 u25 u26 u27 u28 u29 u30 u31 u32 u33 u34 u35 u36 u37 u38 u39 u40 u41 u42 u43 u44 u45 u46 u47 u48 u49 u50 u51 u52 u209 u210 u211 u212 u213 u214 u215 u216 u217 u218 u219 u220 u221 u222 u223 u224 u225 u226 u227 u228 u229 u230 u231 u232 u233 u234 u235 u236 u237 u238 u239 u240 u241 u242 u243 u244 u245 u246 u247 u248 u249 u250 u251 u252 u253 u254 u255 u256 u257 u258 u259 u260 u261 u262 u263 u264 u265 u266 u267 u268 u269 u270 u271 u272 u273 u274 u275 u276 u277 u278 u279 u280 u281 u282 u283 u284 u285 u286 u287 u288 u289 u290 u291 u292 u293 u294 u295 u296 u297 u298 u299 u300 u301 u302 u303 u304 u305 u306) a' w' → K a' w' := by
    intro a' w' hJ
    unfold Met TpJ at hJ
    obtain ⟨v4, hJ⟩ := hJ
    obtain ⟨v10, hJ⟩ := hJ
    obtain ⟨v11, hJ⟩ := hJ
    obtain ⟨v12, hJ⟩ := hJ
    obtain ⟨v13, hJ⟩ := hJ
    obtain ⟨v14, hJ⟩ := hJ
    obtain ⟨v15, hJ⟩ := hJ
    obtain ⟨v16, hJ⟩ := hJ
    obtain ⟨v17, hJ⟩ := hJ
    obtain ⟨v18, hJ⟩ := hJ
    obtain ⟨v54, hJ⟩ := hJ
    obtain ⟨v55, hJ⟩ := hJ
    obtain ⟨v56, hJ⟩ := hJ
    obtain ⟨v57, hJ⟩ := hJ
    obtain ⟨v58, hJ⟩ := hJ
    obtain ⟨v59, hJ⟩ := hJ
    obtain ⟨v60, hJ⟩ := hJ
    obtain ⟨v61, hJ⟩ := hJ
    obtain ⟨v62, hJ⟩ := hJ
    obtain ⟨v63, hJ⟩ := hJ
    obtain ⟨v64, hJ⟩ := hJ
    obtain ⟨v65, hJ⟩ := hJ
    obtain ⟨v66, hJ⟩ := hJ
    obtain ⟨v67, hJ⟩ := hJ
    obtain ⟨v68, hJ⟩ := hJ
    obtain ⟨v69, hJ⟩ := hJ
    obtain ⟨v70, hJ⟩ := hJ
    obtain ⟨v71, hJ⟩ := hJ
    obtain ⟨v72, hJ⟩ := hJ
    obtain ⟨v73, hJ⟩ := hJ
    obtain ⟨v74, hJ⟩ := hJ
    obtain ⟨v75, hJ⟩ := hJ
    obtain ⟨v76, hJ⟩ := hJ
    obtain ⟨v77, hJ⟩ := hJ
    obtain ⟨v78, hJ⟩ := hJ
    obtain ⟨v79, hJ⟩ := hJ
    obtain ⟨v80, hJ⟩ := hJ
    obtain ⟨v81, hJ⟩ := hJ
    obtain ⟨v82, hJ⟩ := hJ
    obtain ⟨v83, hJ⟩ := hJ
    obtain ⟨v84, hJ⟩ := hJ
    obtain ⟨v85, hJ⟩ := hJ
    obtain ⟨v86, hJ⟩ := hJ
    obtain ⟨v87, hJ⟩ := hJ
    obtain ⟨v88, hJ⟩ := hJ
    obtain ⟨v89, hJ⟩ := hJ
    obtain ⟨v90, hJ⟩ := hJ
    obtain ⟨v91, hJ⟩ := hJ
    obtain ⟨v92, hJ⟩ := hJ
    obtain ⟨v93, hJ⟩ := hJ
    obtain ⟨v94, hJ⟩ := hJ
    obtain ⟨v95, hJ⟩ := hJ
    obtain ⟨v96, hJ⟩ := hJ
    obtain ⟨v97, hJ⟩ := hJ
    obtain ⟨v98, hJ⟩ := hJ
    obtain ⟨v99, hJ⟩ := hJ
    obtain ⟨v100, hJ⟩ := hJ
    obtain ⟨v101, hJ⟩ := hJ
    obtain ⟨v102, hJ⟩ := hJ
    obtain ⟨v103, hJ⟩ := hJ
    obtain ⟨v104, hJ⟩ := hJ
    obtain ⟨v105, hJ⟩ := hJ
    obtain ⟨v106, hJ⟩ := hJ
    obtain ⟨v107, hJ⟩ := hJ
    obtain ⟨v108, hJ⟩ := hJ
    obtain ⟨v109, hJ⟩ := hJ
    obtain ⟨v110, hJ⟩ := hJ
    obtain ⟨v111, hJ⟩ := hJ
    obtain ⟨v112, hJ⟩ := hJ
    obtain ⟨v113, hJ⟩ := hJ
    obtain ⟨v114, hJ⟩ := hJ
    obtain ⟨v115, hJ⟩ := hJ
    obtain ⟨v116, hJ⟩ := hJ
    obtain ⟨v117, hJ⟩ := hJ
    obtain ⟨v118, hJ⟩ := hJ
    obtain ⟨v119, hJ⟩ := hJ
    obtain ⟨v120, hJ⟩ := hJ
    obtain ⟨v121, hJ⟩ := hJ
    obtain ⟨v122, hJ⟩ := hJ
    obtain ⟨v123, hJ⟩ := hJ
    obtain ⟨v124, hJ⟩ := hJ
    obtain ⟨v125, hJ⟩ := hJ
    obtain ⟨v126, hJ⟩ := hJ
    obtain ⟨v127, hJ⟩ := hJ
    obtain ⟨v128, hJ⟩ := hJ
    obtain ⟨v129, hJ⟩ := hJ
    obtain ⟨v130, hJ⟩ := hJ
    obtain ⟨v131, hJ⟩ := hJ
    obtain ⟨v132, hJ⟩ := hJ
    obtain ⟨v133, hJ⟩ := hJ
    obtain ⟨v134, hJ⟩ := hJ
    obtain ⟨v135, hJ⟩ := hJ
    obtain ⟨v136, hJ⟩ := hJ
    obtain ⟨v137, hJ⟩ := hJ
    obtain ⟨v138, hJ⟩ := hJ
    obtain ⟨v139, hJ⟩ := hJ
    obtain ⟨v140, hJ⟩ := hJ
    obtain ⟨v141, hJ⟩ := hJ
    obtain ⟨v142, hJ⟩ := hJ
    obtain ⟨v143, hJ⟩ := hJ
    obtain ⟨v144, hJ⟩ := hJ
    obtain ⟨v145, hJ⟩ := hJ
    obtain ⟨v146, hJ⟩ := hJ
    obtain ⟨v147, hJ⟩ := hJ
    obtain ⟨v148, hJ⟩ := hJ
    obtain ⟨v149, hJ⟩ := hJ
    obtain ⟨v150, hJ⟩ := hJ
    obtain ⟨v151, hJ⟩ := hJ
    obtain ⟨v152, hJ⟩ := hJ
    obtain ⟨v153, hJ⟩ := hJ
    obtain ⟨v154, hJ⟩ := hJ
    obtain ⟨v155, hJ⟩ := hJ
    obtain ⟨v156, hJ⟩ := hJ
    obtain ⟨v157, hJ⟩ := hJ
    obtain ⟨v158, hJ⟩ := hJ
    obtain ⟨v159, hJ⟩ := hJ
    obtain ⟨v160, hJ⟩ := hJ
    obtain ⟨v161, hJ⟩ := hJ
    obtain ⟨v162, hJ⟩ := hJ
    obtain ⟨v163, hJ⟩ := hJ
    obtain ⟨v164, hJ⟩ := hJ
    obtain ⟨v165, hJ⟩ := hJ
    obtain ⟨v166, hJ⟩ := hJ
    obtain ⟨v167, hJ⟩ := hJ
    obtain ⟨v168, hJ⟩ := hJ
    obtain ⟨v169, hJ⟩ := hJ
    obtain ⟨v170, hJ⟩ := hJ
    obtain ⟨v171, hJ⟩ := hJ
    obtain ⟨v172, hJ⟩ := hJ
    obtain ⟨v173, hJ⟩ := hJ
    obtain ⟨v174, hJ⟩ := hJ
    obtain ⟨v175, hJ⟩ := hJ
    obtain ⟨v176, hJ⟩ := hJ
    obtain ⟨v177, hJ⟩ := hJ
    obtain ⟨v178, hJ⟩ := hJ
    obtain ⟨v179, hJ⟩ := hJ
    obtain ⟨v180, hJ⟩ := hJ
    obtain ⟨v181, hJ⟩ := hJ
    obtain ⟨v182, hJ⟩ := hJ
    obtain ⟨v183, hJ⟩ := hJ
    obtain ⟨v184, hJ⟩ := hJ
    obtain ⟨v185, hJ⟩ := hJ
    obtain ⟨v186, hJ⟩ := hJ
    obtain ⟨v187, hJ⟩ := hJ
    obtain ⟨v188, hJ⟩ := hJ
    obtain ⟨v189, hJ⟩ := hJ
    obtain ⟨v190, hJ⟩ := hJ
    obtain ⟨v191, hJ⟩ := hJ
    obtain ⟨v192, hJ⟩ := hJ
    obtain ⟨v193, hJ⟩ := hJ
    obtain ⟨v194, hJ⟩ := hJ
    obtain ⟨v195, hJ⟩ := hJ
    obtain ⟨v196, hJ⟩ := hJ
    obtain ⟨v197, hJ⟩ := hJ
    obtain ⟨v198, hJ⟩ := hJ
    obtain ⟨v199, hJ⟩ := hJ
    obtain ⟨v200, hJ⟩ := hJ
    obtain ⟨v201, hJ⟩ := hJ
    obtain ⟨v202, hJ⟩ := hJ
    obtain ⟨v203, hJ⟩ := hJ
    obtain ⟨v204, hJ⟩ := hJ
    obtain ⟨v205, hJ⟩ := hJ
    obtain ⟨v206, hJ⟩ := hJ
    obtain ⟨v207, hJ⟩ := hJ
    obtain ⟨v208, hJ⟩ := hJ
    obtain ⟨hm, rfl⟩ := hJ
    exact hK0 v4 v10 v11 v12 v13 v14 v15 v16 v17 v18 v54 v55 v56 v57 v58 v59 v60 v61 v62 v63 v64 v65 v66 v67 v68 v69 v70 v71 v72 v73 v74 v75 v76 v77 v78 v79 v80 v81 v82 v83 v84 v85 v86 v87 v88 v89 v90 v91 v92 v93 v94 v95 v96 v97 v98 v99 v100 v101 v102 v103 v104 v105 v106 v107 v108 v109 v110 v111 v112 v113 v114 v115 v116 v117 v118 v119 v120 v121 v122 v123 v124 v125 v126 v127 v128 v129 v130 v131 v132 v133 v134 v135 v136 v137 v138 v139 v140 v141 v142 v143 v144 v145 v146 v147 v148 v149 v150 v151 v152 v153 v154 v155 v156 v157 v158 v159 v160 v161 v162 v163 v164 v165 v166 v167 v168 v169 v170 v171 v172 v173 v174 v175 v176 v177 v178 v179 v180 v181 v182 v183 v184 v185 v186 v187 v188 v189 v190 v191 v192 v193 v194 v195 v196 v197 v198 v199 v200 v201 v202 v203 v204 v205 v206 v207 v208 w' hm
  clear hK0
  by_cases s0 : sw < 0 ∨ 7 < sw
  · exact tp_none p s0 u0 u1 u2 u5 u8 u11 u12 u13 u14 u15 u16 u17 u18 u19 u20 u21 u22 u23 u24 u25 u26 u27 u28 u29 u30 u31 u32 u33 u34 u35 u36 u37 u38 u39 u40 u41 u42 u43 u44 u45 u46 u47 u48 u49 u50 u51 u52 u54 u55 u56 u57 u58 u59 u60 u61 u62 u63 u64 u65 u66 u67 u68 u69 u70 u71 u72 u73 u74 u75 u76 u77 u78 u79 u80 u81 u82 u83 u84 u85 u86 u87 u88 u89 u90 u91 u92 u93 u94 u95 u96 u97 u98 u99 u100 u101 u102 u103 u104 u105 u106 u107 u108 u109 u110 u111 u112 u113 u114 u115 u116 u117 u118 u119 u120 u121 u122 u123 u124 u125 u126 u127 u128 u129 u130 u131 u132 u133 u134 u135 u136 u137 u138 u139 u140 u141 u142 u143 u144 u145 u146 u147 u148 u149 u150 u151 u152 u153 u154 u155 u156 u157 u158 u159 u160 u161 u162 u163 u164 u165 u166 u167 u168 u169 u170 u171 u172 u173 u174 u175 u176 u177 u178 u179 u180 u181 u182 u183 u184 u185 u186 u187 u188 u189 u190 u191 u192 u193 u194 u195 u196 u197 u198 u199 u200 u201 u202 u203 u204 u205 u206 u207 u208 u209 u210 u211 u212 u213 u214 u215 u216 u217 u218 u219 u220 u221 u222 u223 u224 u225 u226 u227 u228 u229 u230 u231 u232 u233 u234 u235 u236 u237 u238 u239 u240 u241 u242 u243 u244 u245 u246 u247 u248 u249 u250 u251 u252 u253 u254 u255 u256 u257 u258 u259 u260 u261 u262 u263 u264 u265 u266 u267 u268 u269 u270 u271 u272 u273 u274 u275 u276 u277 u278 u279 u280 u281 u282 u283 u284 u285 u286 u287 u288 u289 u290 u291 u292 u293 u294 u295 u296 u297 u298 u299 u300 u301 u302 u303 u304 u305 u306 K Q hK
  by_cases s7 : sw = 7
  · by_cases hj : 0 ≤ si ∧ si < (nm : Int)
    · obtain ⟨j, rfl⟩ : ∃ j : Nat, si = j := ⟨si.toNat, by omega⟩
      exact tp_set j p s7 (by omega) u0 u1 u2 u5 u8 u11 u12 u13 u14 u15 u16 u17 u18 u19 u20 u21 u22 u23 u24 u25 u26 u27 u28 u29 u30 u31 u32 u33 u34 u35 u36 u37 u38 u39 u40 u41 u42 u43 u44 u45 u46 u47 u48 u49 u50 u51 u52 u54 u55 u56 u57 u58 u59 u60 u61 u62 u63 u64 u65 u66 u67 u68 u69 u70 u71 u72 u73 u74 u75 u76 u77 u78 u79 u80 u81 u82 u83 u84 u85 u86 u87 u88 u89 u90 u91 u92 u93 u94 u95 u96 u97 u98 u99 u100 u101 u102 u103 u104 u105 u106 u107 u108 u109 u110 u111 u112 u113 u114 u115 u116 u117 u118 u119 u120 u121 u122 u123 u124 u125 u126 u127 u128 u129 u130 u131 u132 u133 u134 u135 u136 u137 u138 u139 u140 u141 u142 u143 u144 u145 u146 u147 u148 u149 u150 u151 u152 u153 u154 u155 u156 u157 u158 u159 u160 u161 u162 u163 u164 u165 u166 u167 u168 u169 u170 u171 u172 u173 u174 u175 u176 u177 u178 u179 u180 u181 u182 u183 u184 u185 u186 u187 u188 u189 u190 u191 u192 u193 u194 u195 u196 u197 u198 u199 u200 u201 u202 u203 u204 u205 u206 u207 u208 u209 u210 u211 u212 u213 u214 u215 u216 u217 u218 u219 u220 u221 u222 u223 u224 u225 u226 u227 u228 u229 u230 u231 u232 u233 u234 u235 u236 u237 u238 u239 u240 u241 u242 u243 u244 u245 u246 u247 u248 u249 u250 u251 u252 u253 u254 u255 u256 u257 u258 u259 u260 u261 u262 u263 u264 u265 u266 u267 u268 u269 u270 u271 u272 u273 u274 u275 u276 u277 u278 u279 u280 u281 u282 u283 u284 u285 u286 u287 u288 u289 u290 u291 u292 u293 u294 u295 u296 u297 u298 u299 u300 u301 u302 u303 u304 u305 u306 K Q hK
    · exact tp_setnot p s7 hj u0 u1 u2 u5 u8 u11 u12 u13 u14 u15 u16 u17 u18 u19 u20 u21 u22 u23 u24 u25 u26 u27 u28 u29 u30 u31 u32 u33 u34 u35 u36 u37 u38 u39 u40 u41 u42 u43 u44 u45 u46 u47 u48 u49 u50 u51 u52 u54 u55 u56 u57 u58 u59 u60 u61 u62 u63 u64 u65 u66 u67 u68 u69 u70 u71 u72 u73 u74 u75 u76 u77 u78 u79 u80 u81 u82 u83 u84 u85 u86 u87 u88 u89 u90 u91 u92 u93 u94 u95 u96 u97 u98 u99 u100 u101 u102 u103 u104 u105 u106 u107 u108 u109 u110 u111 u112 u113 u114 u115 u116 u117 u118 u119 u120 u121 u122 u123 u124 u125 u126 u127 u128 u129 u130 u131 u132 u133 u134 u135 u136 u137 u138 u139 u140 u141 u142 u143 u144 u145 u146 u147 u148 u149 u150 u151 u152 u153 u154 u155 u156 u157 u158 u159 u160 u161 u162 u163 u164 u165 u166 u167 u168 u169 u170 u171 u172 u173 u174 u175 u176 u177 u178 u179 u180 u181 u182 u183 u184 u185 u186 u187 u188 u189 u190 u191 u192 u193 u194 u195 u196 u197 u198 u199 u200 u201 u202 u203 u204 u205 u206 u207 u208 u209 u210 u211 u212 u213 u214 u215 u216 u217 u218 u219 u220 u221 u222 u223 u224 u225 u226 u227 u228 u229 u230 u231 u232 u233 u234 u235 u236 u237 u238 u239 u240 u241 u242 u243 u244 u245 u246 u247 u248 u249 u250 u251 u252 u253 u254 u255 u256 u257 u258 u259 u260 u261 u262 u263 u264 u265 u266 u267 u268 u269 u270 u271 u272 u273 u274 u275 u276 u277 u278 u279 u280 u281 u282 u283 u284 u285 u286 u287 u288 u289 u290 u291 u292 u293 u294 u295 u296 u297 u298 u299 u300 u301 u302 u303 u304 u305 u306 K Q hK
  by_cases s56 : sw = 5 ∨ sw = 6
  · by_cases hj : 0 ≤ si ∧ si < (nm : Int)
    · obtain ⟨j, rfl⟩ : ∃ j : Nat, si = j := ⟨si.toNat, by omega⟩
      exact tp_era j p s56 (by omega) u0 u1 u2 u5 u8 u11 u12 u13 u14 u15 u16 u17 u18 u19 u20 u21 u22 u23 u24 u25 u26 u27 u28 u29 u30 u31 u32 u33 u34 u35 u36 u37 u38 u39 u40 u41 u42 u43 u44 u45 u46 u47 u48 u49 u50 u51 u52 u54 u55 u56 u57 u58 u59 u60 u61 u62 u63 u64 u65 u66 u67 u68 u69 u70 u71 u72 u73 u74 u75 u76 u77 u78 u79 u80 u81 u82 u83 u84 u85 u86 u87 u88 u89 u90 u91 u92 u93 u94 u95 u96 u97 u98 u99 u100 u101 u102 u103 u104 u105 u106 u107 u108 u109 u110 u111 u112 u113 u114 u115 u116 u117 u118 u119 u120 u121 u122 u123 u124 u125 u126 u127 u128 u129 u130 u131 u132 u133 u134 u135 u136 u137 u138 u139 u140 u141 u142 u143 u144 u145 u146 u147 u148 u149 u150 u151 u152 u153 u154 u155 u156 u157 u158 u159 u160 u161 u162 u163 u164 u165 u166 u167 u168 u169 u170 u171 u172 u173 u174 u175 u176 u177 u178 u179 u180 u181 u182 u183 u184 u185 u186 u187 u188 u189 u190 u191 u192 u193 u194 u195 u196 u197 u198 u199 u200 u201 u202 u203 u204 u205 u206 u207 u208 u209 u210 u211 u212 u213 u214 u215 u216 u217 u218 u219 u220 u221 u222 u223 u224 u225 u226 u227 u228 u229 u230 u231 u232 u233 u234 u235 u236 u237 u238 u239 u240 u241 u242 u243 u244 u245 u246 u247 u248 u249 u250 u251 u252 u253 u254 u255 u256 u257 u258 u259 u260 u261 u262 u263 u264 u265 u266 u267 u268 u269 u270 u271 u272 u273 u274 u275 u276 u277 u278 u279 u280 u281 u282 u283 u284 u285 u286 u287 u288 u289 u290 u291 u292 u293 u294 u295 u296 u297 u298 u299 u300 u301 u302 u303 u304 u305 u306 K Q hK
    · exact tp_eranot p s56 hj u0 u1 u2 u5 u8 u11 u12 u13 u14 u15 u16 u17 u18 u19 u20 u21 u22 u23 u24 u25 u26 u27 u28 u29 u30 u31 u32 u33 u34 u35 u36 u37 u38 u39 u40 u41 u42 u43 u44 u45 u46 u47 u48 u49 u50 u51 u52 u54 u55 u56 u57 u58 u59 u60 u61 u62 u63 u64 u65 u66 u67 u68 u69 u70 u71 u72 u73 u74 u75 u76 u77 u78 u79 u80 u81 u82 u83 u84 u85 u86 u87 u88 u89 u90 u91 u92 u93 u94 u95 u96 u97 u98 u99 u100 u101 u102 u103 u104 u105 u106 u107 u108 u109 u110 u111 u112 u113 u114 u115 u116 u117 u118 u119 u120 u121 u122 u123 u124 u125 u126 u127 u128 u129 u130 u131 u132 u133 u134 u135 u136 u137 u138 u139 u140 u141 u142 u143 u144 u145 u146 u147 u148 u149 u150 u151 u152 u153 u154 u155 u156 u157 u158 u159 u160 u161 u162 u163 u164 u165 u166 u167 u168 u169 u170 u171 u172 u173 u174 u175 u176 u177 u178 u179 u180 u181 u182 u183 u184 u185 u186 u187 u188 u189 u190 u191 u192 u193 u194 u195 u196 u197 u198 u199 u200 u201 u202 u203 u204 u205 u206 u207 u208 u209 u210 u211 u212 u213 u214 u215 u216 u217 u218 u219 u220 u221 u222 u223 u224 u225 u226 u227 u228 u229 u230 u231 u232 u233 u234 u235 u236 u237 u238 u239 u240 u241 u242 u243 u244 u245 u246 u247 u248 u249 u250 u251 u252 u253 u254 u255 u256 u257 u258 u259 u260 u261 u262 u263 u264 u265 u266 u267 u268 u269 u270 u271 u272 u273 u274 u275 u276 u277 u278 u279 u280 u281 u282 u283 u284 u285 u286 u287 u288 u289 u290 u291 u292 u293 u294 u295 u296 u297 u298 u299 u300 u301 u302 u303 u304 u305 u306 K Q hK
  by_cases s2 : (sw = 2 ∨ sw = 3 ∨ sw = 4) ∧ 0 < nm
  · exact tp_int p s2.1 s2.2 u0 u1 u2 u5 u8 u11 u12 u13 u14 u15 u16 u17 u18 u19 u20 u21 u22 u23 u24 u25 u26 u27 u28 u29 u30 u31 u32 u33 u34 u35 u36 u37 u38 u39 u40 u41 u42 u43 u44 u45 u46 u47 u48 u49 u50 u51 u52 u54 u55 u56 u57 u58 u59 u60 u61 u62 u63 u64 u65 u66 u67 u68 u69 u70 u71 u72 u73 u74 u75 u76 u77 u78 u79 u80 u81 u82 u83 u84 u85 u86 u87 u88 u89 u90 u91 u92 u93 u94 u95 u96 u97 u98 u99 u100 u101 u102 u103 u104 u105 u106 u107 u108 u109 u110 u111 u112 u113 u114 u115 u116 u117 u118 u119 u120 u121 u122 u123 u124 u125 u126 u127 u128 u129 u130 u131 u132 u133 u134 u135 u136 u137 u138 u139 u140 u141 u142 u143 u144 u145 u146 u147 u148 u149 u150 u151 u152 u153 u154 u155 u156 u157 u158 u159 u160 u161 u162 u163 u164 u165 u166 u167 u168 u169 u170 u171 u172 u173 u174 u175 u176 u177 u178 u179 u180 u181 u182 u183 u184 u185 u186 u187 u188 u189 u190 u191 u192 u193 u194 u195 u196 u197 u198 u199 u200 u201 u202 u203 u204 u205 u206 u207 u208 u209 u210 u211 u212 u213 u214 u215 u216 u217 u218 u219 u220 u221 u222 u223 u224 u225 u226 u227 u228 u229 u230 u231 u232 u233 u234 u235 u236 u237 u238 u239 u240 u241 u242 u243 u244 u245 u246 u247 u248 u249 u250 u251 u252 u253 u254 u255 u256 u257 u258 u259 u260 u261 u262 u263 u264 u265 u266 u267 u268 u269 u270 u271 u272 u273 u274 u275 u276 u277 u278 u279 u280 u281 u282 u283 u284 u285 u286 u287 u288 u289 u290 u291 u292 u293 u294 u295 u296 u297 u298 u299 u300 u301 u302 u303 u304 u305 u306 K Q hK
  have s3 : sw = 0 ∨ sw = 1 ∨ ((sw = 2 ∨ sw = 3 ∨ sw = 4) ∧ nm = 0) := by omega
  by_cases hj : si < 0 ∨ (nm : Int) < si
  · exact tp_insnot p s3 hj u0 u1 u2 u5 u8 u11 u12 u13 u14 u15 u16 u17 u18 u19 u20 u21 u22 u23 u24 u25 u26 u27 u28 u29 u30 u31 u32 u33 u34 u35 u36 u37 u38 u39 u40 u41 u42 u43 u44 u45 u46 u47 u48 u49 u50 u51 u52 u54 u55 u56 u57 u58 u59 u60 u61 u62 u63 u64 u65 u66 u67 u68 u69 u70 u71 u72 u73 u74 u75 u76 u77 u78 u79 u80 u81 u82 u83 u84 u85 u86 u87 u88 u89 u90 u91 u92 u93 u94 u95 u96 u97 u98 u99 u100 u101 u102 u103 u104 u105 u106 u107 u108 u109 u110 u111 u112 u113 u114 u115 u116 u117 u118 u119 u120 u121 u122 u123 u124 u125 u126 u127 u128 u129 u130 u131 u132 u133 u134 u135 u136 u137 u138 u139 u140 u141 u142 u143 u144 u145 u146 u147 u148 u149 u150 u151 u152 u153 u154 u155 u156 u157 u158 u159 u160 u161 u162 u163 u164 u165 u166 u167 u168 u169 u170 u171 u172 u173 u174 u175 u176 u177 u178 u179 u180 u181 u182 u183 u184 u185 u186 u187 u188 u189 u190 u191 u192 u193 u194 u195 u196 u197 u198 u199 u200 u201 u202 u203 u204 u205 u206 u207 u208 u209 u210 u211 u212 u213 u214 u215 u216 u217 u218 u219 u220 u221 u222 u223 u224 u225 u226 u227 u228 u229 u230 u231 u232 u233 u234 u235 u236 u237 u238 u239 u240 u241 u242 u243 u244 u245 u246 u247 u248 u249 u250 u251 u252 u253 u254 u255 u256 u257 u258 u259 u260 u261 u262 u263 u264 u265 u266 u267 u268 u269 u270 u271 u272 u273 u274 u275 u276 u277 u278 u279 u280 u281 u282 u283 u284 u285 u286 u287 u288 u289 u290 u291 u292 u293 u294 u295 u296 u297 u298 u299 u300 u301 u302 u303 u304 u305 u306 K Q hK
  · obtain ⟨j, rfl⟩ : ∃ j : Nat, si = j := ⟨si.toNat, by omega⟩
    exact tp_ins j p s3 (by omega) u0 u1 u2 u5 u8 u11 u12 u13 u14 u15 u16 u17 u18 u19 u20 u21 u22 u23 u24 u25 u26 u27 u28 u29 u30 u31 u32 u33 u34 u35 u36 u37 u38 u39 u40 u41 u42 u43 u44 u45 u46 u47 u48 u49 u50 u51 u52 u54 u55 u56 u57 u58 u59 u60 u61 u62 u63 u64 u65 u66 u67 u68 u69 u70 u71 u72 u73 u74 u75 u76 u77 u78 u79 u80 u81 u82 u83 u84 u85 u86 u87 u88 u89 u90 u91 u92 u93 u94 u95 u96 u97 u98 u99 u100 u101 u102 u103 u104 u105 u106 u107 u108 u109 u110 u111 u112 u113 u114 u115 u116 u117 u118 u119 u120 u121 u122 u123 u124 u125 u126 u127 u128 u129 u130 u131 u132 u133 u134 u135 u136 u137 u138 u139 u140 u141 u142 u143 u144 u145 u146 u147 u148 u149 u150 u151 u152 u153 u154 u155 u156 u157 u158 u159 u160 u161 u162 u163 u164 u165 u166 u167 u168 u169 u170 u171 u172 u173 u174 u175 u176 u177 u178 u179 u180 u181 u182 u183 u184 u185 u186 u187 u188 u189 u190 u191 u192 u193 u194 u195 u196 u197 u198 u199 u200 u201 u202 u203 u204 u205 u206 u207 u208 u209 u210 u211 u212 u213 u214 u215 u216 u217 u218 u219 u220 u221 u222 u223 u224 u225 u226 u227 u228 u229 u230 u231 u232 u233 u234 u235 u236 u237 u238 u239 u240 u241 u242 u243 u244 u245 u246 u247 u248 u249 u250 u251 u252 u253 u254 u255 u256 u257 u258 u259 u260 u261 u262 u263 u264 u265 u266 u267 u268 u269 u270 u271 u272 u273 u274 u275 u276 u277 u278 u279 u280 u281 u282 u283 u284 u285 u286 u287 u288 u289 u290 u291 u292 u293 u294 u295 u296 u297 u298 u299 u300 u301 u302 u303 u304 u305 u306 K Q hK
set_option maxHeartbeats 4000000 in
theorem tp_rest2 {w W : World} {T : Nat} {zs : List Int} {h n k : Nat} {am : Option Addr} {nm nz cm sb : Nat} {si : Int} {b : Bool} (t : TrI W T zs h (n + k)) (rd : Rd (Value.int .i64) (fun y => y = T) W (.slice am nz cm) zs) (hu : Up w W) (c1 : W.cell? ⟨sb, 1, none⟩ = some (.int .i64 si)) (hfew : nm ≤ 150) (hzl : zs.length ≤ nm + 1) (hb1 : b = true → 1 ≤ k ∧ k ≤ 8 * bitsN (nm + 1)) (hb0 : b = false → k = 0) (hn : n ≤ 100000)
    (u0 u1 u2 u5 u9 u11 u12 u13 u14 u15 u16 u17 u18 u19 u20 u21 u22 u23 u24 u25 u26 u27 u28 u29 u30 u31 u32 u33 u34 u35 u36 u37 u38 u39 u40 u41 u42 u43 u44 u45 u46 u47 u48 u49 u50 u51 u52 u53 u54 u55 u56 u57 u58 u59 u60 u61 u62 u63 u64 u65 u66 u67 u68 u69 u70 u71 u72 u73 u74 u75 u76 u77 u78 u79 u80 u81 u82 u83 u84 u85 u86 u87 u88 u89 u90 u91 u92 u93 u94 u95 u96 u97 u98 u99 u100 u101 u102 u103 u104 u105 u106 u107 u108 u109 u110 u111 u112 u113 u114 u115 u116 u117 u118 u119 u120 u121 u122 u123 u124 u125 u126 u127 u128 u129 u130 u131 u132 u133 u134 u135 u136 u137 u138 u139 u140 u141 u142 u143 u144 u145 u146 u147 u148 u149 u150 u151 u152 u153 u154 u155 u156 u157 u158 u159 u160 u161 u162 u163 u164 u165 u166 u167 u168 u169 u170 u171 u172 u173 u174 u175 u176 u177 u178 u179 u180 u181 u182 u183 u184 u185 u186 u187 u188 u189 u190 u191 u192 u193 u194 u195 u196 u197 u198 u199 u200 u201 u202 u203 u204 u205 u206 u207 u208 u209 u210 u211 u212 u213 u214 u215 u216 u217 u218 u219 u220 u221 u222 u223 u224 u225 u226 u227 u228 u229 u230 u231 u232 u233 u234 u235 u236 u237 u238 u239 u240 u241 u242 u243 u244 u245 u246 u247 u248 u249 u250 u251 u252 u253 u254 u255 u256 u257 u258 u259 u260 u261 u262 u263 u264 u265 u266 u267 u268 u269 u270 u271 u272 u273 u274 u275 u276 u277 u278 u279 u280 u281 u282 u283 u284 u285 u286 u287 u288 u289 u290 u291 u292 u293 u294 u295 u296 u297 u298 u299 u300 u301 u302 u303 u304 u305 u306 : Value) (Q : Exit → Act → World → Prop)
    (hQ0 : ∀ (v19 v20 v21 v22 v209 v210 v211 v212 v213 v214 v215 v216 v217 v218 v219 v220 v221 v222 v223 v224 v225 v226 v227 v228 v229 v230 v231 v232 v233 v234 v235 v236 v237 v238 v239 v240 v241 v242 v243 v244 v245 v246 v247 v248 v249 v250 v251 v252 v253 v254 v255 v256 v257 v258 v259 v260 v261 v262 v263 v264 v265 v266 v267 v268 v269 v270 v271 v272 v273 v274 v275 v276 v277 v278 v279 v280 v281 v282 v283 v284 v285 v286 v287 v288 v289 v290 v291 v292 v293 v294 v295 v296 v297 v298 v299 v300 v301 v302 v303 v304 v305 v306 : Value) (wx : World), TpEnd w T zs (n + k) (.slice am nz cm) wx → Q .normal ⟨#[u0, u1, u2, .pointer (some ⟨T, 0, none⟩), .slice am nz cm, u5, .pointer (some ⟨sb, 0, none⟩), .int .i64 nm, .int .i64 n, u9, .bool b, u11, u12, u13, u14, u15, u16, u17, u18, v19, v20, v21, v22, u23, u24, u25, u26, u27, u28, u29, u30, u31, u32, u33, u34, u35, u36, u37, u38, u39, u40, u41, u42, u43, u44, u45, u46, u47, u48, u49, u50, u51, u52, u53, u54, u55, u56, u57, u58, u59, u60, u61, u62, u63, u64, u65, u66, u67, u68, u69, u70, u71, u72, u73, u74, u75, u76, u77, u78, u79, u80, u81, u82, u83, u84, u85, u86, u87, u88, u89, u90, u91, u92, u93, u94, u95, u96, u97, u98, u99, u100, u101, u102, u103, u104, u105, u106, u107, u108, u109, u110, u111, u112, u113, u114, u115, u116, u117, u118, u119, u120, u121, u122, u123, u124, u125, u126, u127, u128, u129, u130, u131, u132, u133, u134, u135, u136, u137, u138, u139, u140, u141, u142, u143, u144, u145, u146, u147, u148, u149, u150, u151, u152, u153, u154, u155, u156, u157, u158, u159, u160, u161, u162, u163, u164, u165, u166, u167, u168, u169, u170, u171, u172, u173, u174, u175, u176, u177, u178, u179, u180, u181, u182, u183, u184, u185, u186, u187, u188, u189, u190, u191, u192, u193, u194, u195, u196, u197, u198, u199, u200, u201, u202, u203, u204, u205, u206, u207, u208, v209, v210, v211, v212, v213, v214, v215, v216, v217, v218, v219, v220, v221, v222, v223, v224, v225, v226, v227, v228, v229, v230, v231, v232, v233, v234, v235, v236, v237, v238, v239, v240, v241, v242, v243, v244, v245, v246, v247, v248, v249, v250, v251, v252, v253, v254, v255, v256, v257, v258, v259, v260, v261, v262, v263, v264, v265, v266, v267, v268, v269, v270, v271, v272, v273, v274, v275, v276, v277, v278, v279, v280, v281, v282, v283, v284, v285, v286, v287, v288, v289, v290, v291, v292, v293, v294, v295, v296, v297, v298, v299, v300, v301, v302, v303, v304, v305, v306], []⟩ wx) :
    Code.wp Try.prog ((Try.f3.body.bind (aftN 2)).getD .skip) Q ⟨#[u0, u1, u2, .pointer (some ⟨T, 0, none⟩), .slice am nz cm, u5, .pointer (some ⟨sb, 0, none⟩), .int .i64 nm, .int .i64 n, u9, .bool b, u11, u12, u13, u14, u15, u16, u17, u18, u19, u20, u21, u22, u23, u24, u25, u26, u27, u28, u29, u30, u31, u32, u33, u34, u35, u36, u37, u38, u39, u40, u41, u42, u43, u44, u45, u46, u47, u48, u49, u50, u51, u52, u53, u54, u55, u56, u57, u58, u59, u60, u61, u62, u63, u64, u65, u66, u67, u68, u69, u70, u71, u72, u73, u74, u75, u76, u77, u78, u79, u80, u81, u82, u83, u84, u85, u86, u87, u88, u89, u90, u91, u92, u93, u94, u95, u96, u97, u98, u99, u100, u101, u102, u103, u104, u105, u106, u107, u108, u109, u110, u111, u112, u113, u114, u115, u116, u117, u118, u119, u120, u121, u122, u123, u124, u125, u126, u127, u128, u129, u130, u131, u132, u133, u134, u135, u136, u137, u138, u139, u140, u141, u142, u143, u144, u145, u146, u147, u148, u149, u150, u151, u152, u153, u154, u155, u156, u157, u158, u159, u160, u161, u162, u163, u164, u165, u166, u167, u168, u169, u170, u171, u172, u173, u174, u175, u176, u177, u178, u179, u180, u181, u182, u183, u184, u185, u186, u187, u188, u189, u190, u191, u192, u193, u194, u195, u196, u197, u198, u199, u200, u201, u202, u203, u204, u205, u206, u207, u208, u209, u210, u211, u212, u213, u214, u215, u216, u217, u218, u219, u220, u221, u222, u223, u224, u225, u226, u227, u228, u229, u230, u231, u232, u233, u234, u235, u236, u237, u238, u239, u240, u241, u242, u243, u244, u245, u246, u247, u248, u249, u250, u251, u252, u253, u254, u255, u256, u257, u258, u259, u260, u261, u262, u263, u264, u265, u266, u267, u268, u269, u270, u271, u272, u273, u274, u275, u276, u277, u278, u279, u280, u281, u282, u283, u284, u285, u286, u287, u288, u289, u290, u291, u292, u293, u294, u295, u296, u297, u298, u299, u300, u301, u302, u303, u304, u305, u306], []⟩ W := by
  refine tp_rest t rd hu c1 hfew hzl hb1 hb0 hn u0 u1 u2 u5 u9 u11 u12 u13 u14 u15 u16 u17 u18 u19 u20 u21 u22 u23 u24 u25 u26 u27 u28 u29 u30 u31 u32 u33 u34 u35 u36 u37 u38 u39 u40 u41 u42 u43 u44 u45 u46 u47 u48 u49 u50 u51 u52 u53 u54 u55 u56 u57 u58 u59 u60 u61 u62 u63 u64 u65 u66 u67 u68 u69 u70 u71 u72 u73 u74 u75 u76 u77 u78 u79 u80 u81 u82 u83 u84 u85 u86 u87 u88 u89 u90 u91 u92 u93 u94 u95 u96 u97 u98 u99 u100 u101 u102 u103 u104 u105 u106 u107 u108 u109 u110 u111 u112 u113 u114 u115 u116 u117 u118 u119 u120 u121 u122 u123 u124 u125 u126 u127 u128 u129 u130 u131 u132 u133 u134 u135 u136 u137 u138 u139 u140 u141 u142 u143 u144 u145 u146 u147 u148 u149 u150 u151 u152 u153 u154 u155 u156 u157 u158 u159 u160 u161 u162 u163 u164 u165 u166 u167 u168 u169 u170 u171 u172 u173 u174 u175 u176 u177 u178 u179 u180 u181 u182 u183 u184 u185 u186 u187 u188 u189 u190 u191 u192 u193 u194 u195 u196 u197 u198 u199 u200 u201 u202 u203 u204 u205 u206 u207 u208 u209 u210 u211 u212 u213 u214 u215 u216 u217 u218 u219 u220 u221 u222 u223 u224 u225 u226 u227 u228 u229 u230 u231 u232 u233 u234 u235 u236 u237 u238 u239 u240 u241 u242 u243 u244 u245 u246 u247 u248 u249 u250 u251 u252 u253 u254 u255 u256 u257 u258 u259 u260 u261 u262 u263 u264 u265 u266 u267 u268 u269 u270 u271 u272 u273 u274 u275 u276 u277 u278 u279 u280 u281 u282 u283 u284 u285 u286 u287 u288 u289 u290 u291 u292 u293 u294 u295 u296 u297 u298 u299 u300 u301 u302 u303 u304 u305 u306 Q ?_
  intro a' w' hJ
  unfold Met TpE at hJ
  obtain ⟨v19, hJ⟩ := hJ
  obtain ⟨v20, hJ⟩ := hJ
  obtain ⟨v21, hJ⟩ := hJ
  obtain ⟨v22, hJ⟩ := hJ
  obtain ⟨v209, hJ⟩ := hJ
  obtain ⟨v210, hJ⟩ := hJ
  obtain ⟨v211, hJ⟩ := hJ
  obtain ⟨v212, hJ⟩ := hJ
  obtain ⟨v213, hJ⟩ := hJ
  obtain ⟨v214, hJ⟩ := hJ
  obtain ⟨v215, hJ⟩ := hJ
  obtain ⟨v216, hJ⟩ := hJ
  obtain ⟨v217, hJ⟩ := hJ
  obtain ⟨v218, hJ⟩ := hJ
  obtain ⟨v219, hJ⟩ := hJ
  obtain ⟨v220, hJ⟩ := hJ
  obtain ⟨v221, hJ⟩ := hJ
  obtain ⟨v222, hJ⟩ := hJ
  obtain ⟨v223, hJ⟩ := hJ
  obtain ⟨v224, hJ⟩ := hJ
  obtain ⟨v225, hJ⟩ := hJ
  obtain ⟨v226, hJ⟩ := hJ
  obtain ⟨v227, hJ⟩ := hJ
  obtain ⟨v228, hJ⟩ := hJ
  obtain ⟨v229, hJ⟩ := hJ
  obtain ⟨v230, hJ⟩ := hJ
  obtain ⟨v231, hJ⟩ := hJ
  obtain ⟨v232, hJ⟩ := hJ
  obtain ⟨v233, hJ⟩ := hJ
  obtain ⟨v234, hJ⟩ := hJ
  obtain ⟨v235, hJ⟩ := hJ
  obtain ⟨v236, hJ⟩ := hJ
  obtain ⟨v237, hJ⟩ := hJ
  obtain ⟨v238, hJ⟩ := hJ
  obtain ⟨v239, hJ⟩ := hJ
  obtain ⟨v240, hJ⟩ := hJ
  obtain ⟨v241, hJ⟩ := hJ
  obtain ⟨v242, hJ⟩ := hJ
  obtain ⟨v243, hJ⟩ := hJ
  obtain ⟨v244, hJ⟩ := hJ
  obtain ⟨v245, hJ⟩ := hJ
  obtain ⟨v246, hJ⟩ := hJ
  obtain ⟨v247, hJ⟩ := hJ
  obtain ⟨v248, hJ⟩ := hJ
  obtain ⟨v249, hJ⟩ := hJ
  obtain ⟨v250, hJ⟩ := hJ
  obtain ⟨v251, hJ⟩ := hJ
  obtain ⟨v252, hJ⟩ := hJ
  obtain ⟨v253, hJ⟩ := hJ
  obtain ⟨v254, hJ⟩ := hJ
  obtain ⟨v255, hJ⟩ := hJ
  obtain ⟨v256, hJ⟩ := hJ
  obtain ⟨v257, hJ⟩ := hJ
  obtain ⟨v258, hJ⟩ := hJ
  obtain ⟨v259, hJ⟩ := hJ
  obtain ⟨v260, hJ⟩ := hJ
  obtain ⟨v261, hJ⟩ := hJ
  obtain ⟨v262, hJ⟩ := hJ
  obtain ⟨v263, hJ⟩ := hJ
  obtain ⟨v264, hJ⟩ := hJ
  obtain ⟨v265, hJ⟩ := hJ
  obtain ⟨v266, hJ⟩ := hJ
  obtain ⟨v267, hJ⟩ := hJ
  obtain ⟨v268, hJ⟩ := hJ
  obtain ⟨v269, hJ⟩ := hJ
  obtain ⟨v270, hJ⟩ := hJ
  obtain ⟨v271, hJ⟩ := hJ
  obtain ⟨v272, hJ⟩ := hJ
  obtain ⟨v273, hJ⟩ := hJ
  obtain ⟨v274, hJ⟩ := hJ
  obtain ⟨v275, hJ⟩ := hJ
  obtain ⟨v276, hJ⟩ := hJ
  obtain ⟨v277, hJ⟩ := hJ
  obtain ⟨v278, hJ⟩ := hJ
  obtain ⟨v279, hJ⟩ := hJ
  obtain ⟨v280, hJ⟩ := hJ
  obtain ⟨v281, hJ⟩ := hJ
  obtain ⟨v282, hJ⟩ := hJ
  obtain ⟨v283, hJ⟩ := hJ
  obtain ⟨v284, hJ⟩ := hJ
  obtain ⟨v285, hJ⟩ := hJ
  obtain ⟨v286, hJ⟩ := hJ
  obtain ⟨v287, hJ⟩ := hJ
  obtain ⟨v288, hJ⟩ := hJ
  obtain ⟨v289, hJ⟩ := hJ
  obtain ⟨v290, hJ⟩ := hJ
  obtain ⟨v291, hJ⟩ := hJ
  obtain ⟨v292, hJ⟩ := hJ
  obtain ⟨v293, hJ⟩ := hJ
  obtain ⟨v294, hJ⟩ := hJ
  obtain ⟨v295, hJ⟩ := hJ
  obtain ⟨v296, hJ⟩ := hJ
  obtain ⟨v297, hJ⟩ := hJ
  obtain ⟨v298, hJ⟩ := hJ
  obtain ⟨v299, hJ⟩ := hJ
  obtain ⟨v300, hJ⟩ := hJ
  obtain ⟨v301, hJ⟩ := hJ
  obtain ⟨v302, hJ⟩ := hJ
  obtain ⟨v303, hJ⟩ := hJ
  obtain ⟨v304, hJ⟩ := hJ
  obtain ⟨v305, hJ⟩ := hJ
  obtain ⟨v306, hJ⟩ := hJ
  obtain ⟨hm, rfl⟩ := hJ
  exact hQ0 v19 v20 v21 v22 v209 v210 v211 v212 v213 v214 v215 v216 v217 v218 v219 v220 v221 v222 v223 v224 v225 v226 v227 v228 v229 v230 v231 v232 v233 v234 v235 v236 v237 v238 v239 v240 v241 v242 v243 v244 v245 v246 v247 v248 v249 v250 v251 v252 v253 v254 v255 v256 v257 v258 v259 v260 v261 v262 v263 v264 v265 v266 v267 v268 v269 v270 v271 v272 v273 v274 v275 v276 v277 v278 v279 v280 v281 v282 v283 v284 v285 v286 v287 v288 v289 v290 v291 v292 v293 v294 v295 v296 v297 v298 v299 v300 v301 v302 v303 v304 v305 v306 w' hm
set_option maxHeartbeats 16000000 in
theorem treePlays_few (a0 : Option Addr) (n0 c0 : Nat) (l : List TS) (w : World) (hl : StepsAt w a0 n0 l) (hn : n0 ≤ 150) :
    Calls Try.prog 3 #[.slice a0 n0 c0] w fun e w' => e = .returned (.bool true) ∧ Up w w' := by
  have HL := hide hl
  have g0 : decide ((n0 : Int) > 150) = false := decide_eq_false (by omega)
  have g0' : ¬ ((n0 : Int) > 150) := by omega
  have g0'' : decide (150 < n0) = false := decide_eq_false (by omega)
  clear hl
  go_enter Try.func3, Try.ntmps3
  go_wp2_with fail
  refine (known11_calls w).mono ?_
  rintro _ wk ⟨rfl, huk⟩
  replace huk := hide huk
  dsimp only
  go_wp2_with fail
  refine (tnewI_calls wk).mono ?_
  rintro _ w0 ⟨T, rfl, t0, hTw, hu0⟩
  have hT : w.heap.size ≤ T := Nat.le_trans huk.out.size hTw
  have HA0 : Hid (TpIn w T 0 (.slice none 0 0) w0) := ⟨[], 0, 0, t0, Rd.nil _ _ _, Nat.le_refl _, Nat.le_refl _, huk.out.trans hu0⟩
  clear t0 hu0 hTw
  dsimp only
  go_wp2_with fail
  go_loopw [4, 5] (fun mv iv wr => ∃ i : Nat, i ≤ n0 ∧ iv = .int .i64 i ∧ Hid (TpIn w T i mv wr)) (fun _ iv _ => n0 - (intOf iv).toNat)
  case atStart => exact ⟨0, Nat.zero_le _, rfl, HA0⟩
  case round =>
    obtain ⟨i, hi, rfl, hA⟩ := hrel
    clear HA0
    by_cases hlt : i < n0
    · have hlt' : (i : Int) < (n0 : Int) := by omega
      have i0 : (0 : Int) ≤ (i : Int) := by omega
      obtain ⟨xs, h, n, t, hm, hxl, hnn, hu⟩ := hA.out
      obtain ⟨am, nm, cm, rfl, hnm, hcm⟩ := hm.sliceN
      have hil : i < l.length := by rw [HL.out.1]; exact hlt
      obtain ⟨s, hs⟩ : ∃ s, s = l[i] := ⟨_, rfl⟩
      have hok : OkTS s := by rw [hs]; exact HL.out.2.1 _ (List.getElem_mem hil)
      obtain ⟨gb, ob, rfl, hg⟩ : ∃ gb ob, a0 = some ⟨gb, ob, none⟩ ∧ ∀ (j : Nat) (v : Value), (tsCells s)[j]? = some v → wr.cell? ⟨gb, ob + i * 3 + j, none⟩ = some v := by
        rcases HL.out.2.2 with h0 | ⟨b, off, e, hc⟩
        · omega
        · exact ⟨b, off, e, fun j v hv => hu.cell (hc i hil j v (by rw [← hs]; exact hv))⟩
      obtain ⟨sw, si, sv⟩ := s
      have q0 : wr.cell? ⟨gb, ob + i * 3, none⟩ = some (.int .i64 sw) := hg 0 _ rfl
      have q1 : wr.cell? ⟨gb, ob + i * 3 + 1, none⟩ = some (.int .i64 si) := hg 1 _ rfl
      have q2 : wr.cell? ⟨gb, ob + i * 3 + 2, none⟩ = some (.int .i64 sv) := hg 2 _ rfl
      have hwi : Hid (-9223372036854775808 ≤ si ∧ si ≤ 9223372036854775807) := hide hok.2.1
      have HW : Hid (∀ W, Up wr W → Calls Try.prog 11 #[.pointer (some ⟨T, 0, none⟩)] W fun e w' => e = .returned (.int .i64 n) ∧ w' = W) := fun W hW => twritesI_calls T h n xs W (Tr.up t hW)
      have HTR := hide t
      have HM := hide hm
      have HU := hide hu
      have hwl : T < wr.heap.size := t.lt
      have HNM : Hid (nm = xs.length) := hnm.out
      have HCM : Hid (nm ≤ cm) := hcm.out
      have hn150 : nm ≤ 150 := by rw [hnm.out]; omega
      have hn81 : n ≤ 100000 := by omega
      clear hA t hm hu hg hnm hcm hs
      obtain ⟨W1, hW1⟩ : ∃ W1, W1 = wr.alloc (.cells #[.int .i64 sw, .int .i64 si, .int .i64 sv] 28) := ⟨_, rfl⟩
      have u1 : Up wr W1 := by rw [hW1]; exact (Up.refl _).alloc _
      have p0 : W1.cell? ⟨wr.heap.size, 0, none⟩ = some (.int .i64 sw) := by rw [hW1]; go_simp
      have p1 : W1.cell? ⟨wr.heap.size, 1, none⟩ = some (.int .i64 si) := by rw [hW1]; go_simp
      have p2 : W1.cell? ⟨wr.heap.size, 2, none⟩ = some (.int .i64 sv) := by rw [hW1]; go_simp
      obtain ⟨sb, hsb⟩ : ∃ sb, sb = wr.heap.size := ⟨_, rfl⟩
      have HW1 := hide hW1
      have HU1 := hide u1
      have HSB := hide hsb
      rw [← hsb] at p0 p1 p2
      clear hW1 u1 hsb
      go_wp2_with fail
      rw [← HW1.out, ← HSB.out]
      refine (HW.out W1 HU1.out).mono ?_
      rintro _ w2 ⟨rfl, hw2⟩
      obtain rfl : W1 = w2 := hw2.symm
      dsimp only
      clear q0 q1 q2 HW
      go_upto_region 12 with fail
      obtain ⟨ib, hib⟩ : ∃ ib, ib = decide (0 ≤ si ∧ si < (nm : Int)) := ⟨_, rfl⟩
      have HIB := hide hib
      go_cut [9] from 43 to 51 (fun v wx => v = .bool ib ∧ wx = W1)
      case first =>
        by_cases hs0 : 0 ≤ si
        · have d0 : decide (si ≥ 0) = true := decide_eq_true hs0
          have d0' : decide (0 ≤ si) = true := decide_eq_true hs0
          by_cases hs1 : si < (nm : Int)
          · obtain rfl : ib = true := by rw [hib]; exact decide_eq_true ⟨hs0, hs1⟩
            have d1 : decide (si < (nm : Int)) = true := decide_eq_true hs1
            clear hib HIB
            go_wp2
            go_meet
            exact ⟨rfl, rfl⟩
          · obtain rfl : ib = false := by rw [hib]; exact decide_eq_false (fun e => hs1 e.2)
            have d1 : decide (si < (nm : Int)) = false := decide_eq_false hs1
            clear hib HIB
            go_wp2
            go_meet
            exact ⟨rfl, rfl⟩
        · obtain rfl : ib = false := by rw [hib]; exact decide_eq_false (fun e => hs0 e.1)
          have d0 : decide (si ≥ 0) = false := decide_eq_false hs0
          have d0' : decide (0 ≤ si) = false := decide_eq_false hs0
          clear hib HIB
          go_wp2
          go_meet
          exact ⟨rfl, rfl⟩
      case rest =>
        obtain ⟨rfl, rfl⟩ := hcut
        have hPA : Hid (TpAt w T xs h n am nm cm sb sw si sv ib wc) := ⟨p0, p1, p2, Tr.up HTR.out HU1.out, HM.out.up HU1.out, HNM.out, HCM.out, hn150, hn81, HU.out.trans HU1.out, fun e => by have := HSB.out; omega, hT, hwi.out, HIB.out⟩
        clear hib p1 p2
        go_upto_block 2 with fail
        refine tp_act hPA.out _ _ _ _ _ _ _ _ _ _ _ _ _ _ _ _ _ _ _ _ _ _ _ _ _ _ _ _ _ _ _ _ _ _ _ _ _ _ _ _ _ _ _ _ _ _ _ _ _ _ _ _ _ _ _ _ _ _ _ _ _ _ _ _ _ _ _ _ _ _ _ _ _ _ _ _ _ _ _ _ _ _ _ _ _ _ _ _ _ _ _ _ _ _ _ _ _ _ _ _ _ _ _ _ _ _ _ _ _ _ _ _ _ _ _ _ _ _ _ _ _ _ _ _ _ _ _ _ _ _ _ _ _ _ _ _ _ _ _ _ _ _ _ _ _ _ _ _ _ _ _ _ _ _ _ _ _ _ _ _ _ _ _ _ _ _ _ _ _ _ _ _ _ _ _ _ _ _ _ _ _ _ _ _ _ _ _ _ _ _ _ _ _ _ _ _ _ _ _ _ _ _ _ _ _ _ _ _ _ _ _ _ _ _ _ _ _ _ _ _ _ _ _ _ _ _ _ _ _ _ _ _ _ _ _ _ _ _ _ _ _ _ _ _ _ _ _ _ _ _ _ _ _ _ _ _ _ _ _ _ _ _ _ _ _ _ _ _ _ _ _ _ _ _ _ _ _ _ _ _ _ _ _ _ _ _ _ _ _ _ _ _ _ _ _ _ _ _ _ _ _ _ ?_
        intro v4 v10 v11 v12 v13 v14 v15 v16 v17 v18 v54 v55 v56 v57 v58 v59 v60 v61 v62 v63 v64 v65 v66 v67 v68 v69 v70 v71 v72 v73 v74 v75 v76 v77 v78 v79 v80 v81 v82 v83 v84 v85 v86 v87 v88 v89 v90 v91 v92 v93 v94 v95 v96 v97 v98 v99 v100 v101 v102 v103 v104 v105 v106 v107 v108 v109 v110 v111 v112 v113 v114 v115 v116 v117 v118 v119 v120 v121 v122 v123 v124 v125 v126 v127 v128 v129 v130 v131 v132 v133 v134 v135 v136 v137 v138 v139 v140 v141 v142 v143 v144 v145 v146 v147 v148 v149 v150 v151 v152 v153 v154 v155 v156 v157 v158 v159 v160 v161 v162 v163 v164 v165 v166 v167 v168 v169 v170 v171 v172 v173 v174 v175 v176 v177 v178 v179 v180 v181 v182 v183 v184 v185 v186 v187 v188 v189 v190 v191 v192 v193 v194 v195 v196 v197 v198 v199 v200 v201 v202 v203 v204 v205 v206 v207 v208 wx hmid
        obtain ⟨zs, h', k, b, rfl, t2, rd2, hzl, hb1, hb0, hu2, c1⟩ := hmid
        obtain ⟨am2, nz, cm2, rfl, -, -⟩ := rd2.sliceN
        rw [← HNM.out] at hzl hb1
        have hk100 : Hid (k ≤ 100) := hide (by
          cases b
          · have := hb0 rfl; omega
          · have h1 := hb1 rfl; have h2 := bitsN_150 (m := nm + 1) (by omega); omega)
        rename_i hK1
        refine hK1 _ _ ?_
        refine tp_rest2 t2 rd2 hu2 c1 hn150 hzl hb1 hb0 hn81 _ _ _ _ _ _ _ _ _ _ _ _ _ _ _ _ _ _ _ _ _ _ _ _ _ _ _ _ _ _ _ _ _ _ _ _ _ _ _ _ _ _ _ _ _ _ _ _ _ _ _ _ _ _ _ _ _ _ _ _ _ _ _ _ _ _ _ _ _ _ _ _ _ _ _ _ _ _ _ _ _ _ _ _ _ _ _ _ _ _ _ _ _ _ _ _ _ _ _ _ _ _ _ _ _ _ _ _ _ _ _ _ _ _ _ _ _ _ _ _ _ _ _ _ _ _ _ _ _ _ _ _ _ _ _ _ _ _ _ _ _ _ _ _ _ _ _ _ _ _ _ _ _ _ _ _ _ _ _ _ _ _ _ _ _ _ _ _ _ _ _ _ _ _ _ _ _ _ _ _ _ _ _ _ _ _ _ _ _ _ _ _ _ _ _ _ _ _ _ _ _ _ _ _ _ _ _ _ _ _ _ _ _ _ _ _ _ _ _ _ _ _ _ _ _ _ _ _ _ _ _ _ _ _ _ _ _ _ _ _ _ _ _ _ _ _ _ _ _ _ _ _ _ _ _ _ _ _ _ _ _ _ _ _ _ _ _ _ _ _ _ _ _ _ _ _ _ _ _ _ _ _ _ _ _ _ _ _ _ _ _ _ _ _ _ _ _ _ _ _ _ _ ?_
        intro v19 v20 v21 v22 v209 v210 v211 v212 v213 v214 v215 v216 v217 v218 v219 v220 v221 v222 v223 v224 v225 v226 v227 v228 v229 v230 v231 v232 v233 v234 v235 v236 v237 v238 v239 v240 v241 v242 v243 v244 v245 v246 v247 v248 v249 v250 v251 v252 v253 v254 v255 v256 v257 v258 v259 v260 v261 v262 v263 v264 v265 v266 v267 v268 v269 v270 v271 v272 v273 v274 v275 v276 v277 v278 v279 v280 v281 v282 v283 v284 v285 v286 v287 v288 v289 v290 v291 v292 v293 v294 v295 v296 v297 v298 v299 v300 v301 v302 v303 v304 v305 v306 wy hend
        obtain ⟨h3, t3, rd3, hu3⟩ := hend
        have HEND : Hid (TpIn w T (i + 1) (.slice am2 nz cm2) wy) := hide ⟨zs, h3, n + k, t3, rd3, by have := HNM.out; omega, by have := hk100.out; omega, hu3⟩
        clear t2 rd2 t3 rd3 hu2 hu3 c1
        go_wp2
        go_roundw
        case rel => exact ⟨i + 1, by omega, by simp, HEND⟩
        case measure => simp [intOf]; omega
    · obtain rfl : n0 = i := by omega
      have hlt' : ¬ (n0 : Int) < (n0 : Int) := by omega
      obtain ⟨xs, h, n, t, hm, hxl, hnn, hu⟩ := hA.out
      have HU := hide hu
      clear hA t hm hu
      go_wp2
      go_ret
      exact ⟨rfl, HU.out⟩
end Go.Proofs.Ytcaccbjolgjmkaa
