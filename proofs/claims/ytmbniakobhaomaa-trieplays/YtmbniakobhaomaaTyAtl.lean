/-
  TriePlays of rialtolaw15: the place at which a pair would stand, and whether it stands there, as its text runs.
-/
import Derived.Test.YtmbniakobhaomaaTyArm
import Derived.Deep.CutRange
namespace Go.Proofs.Ytmbniakobhaomaa
open Go.ChangeShapes Go.WideShapes Go.ChangeAt Go.RowKit
set_option linter.unusedVariables false
set_option maxRecDepth 100000
attribute [local go_sem ↓] Go.wp_at_zero Go.wp_at_succ

/-- The region with this number. -/
def rgnN (n : Nat) : Code → Option Code
  | .region k o d => if k == n then some (.region k o d) else none
  | .seq a b => match rgnN n a with
    | some c => some c
    | none => rgnN n b
  | .block _ c => rgnN n c
  | .loop c => rgnN n c
  | .scope c => rgnN n c
  | .cond _ a b => match rgnN n a with
    | some c => some c
    | none => rgnN n b
  | _ => none
set_option maxRecDepth 1000000 in
def TaJ (W1 : World) (T nm cm sb : Nat) (am : Option Addr) (z : SZ) (ss : ByteArray) (si : Int) (u0 u1 u2 u5 u8 u9 u10 u11 u12 u13 u14 u15 u16 u17 u18 u19 u20 u21 u22 u23 u24 u25 u26 u27 u28 u29 u30 u31 u32 u33 u34 u35 u36 u37 u38 u39 u40 u77 u78 u79 u80 u81 u82 u83 u84 u85 u86 u87 u88 u89 u90 u91 u92 u93 u94 u95 u96 u97 u98 u99 u100 u101 u102 u103 u104 u105 u106 u107 u108 u109 u110 u111 u112 u113 u114 u115 u116 u117 u118 u119 u120 u121 u122 u123 u124 u125 u126 u127 u128 u129 u130 u131 u132 u133 u134 u135 u136 u137 u138 u139 u140 u141 u142 u143 u144 u145 u146 u147 u148 u149 u150 u151 u152 u153 u154 u155 u156 u157 u158 u159 u160 u161 u162 u163 u164 u165 u166 u167 u168 u169 u170 u171 u172 u173 u174 u175 u176 u177 u178 u179 u180 u181 u182 u183 u184 u185 u186 u187 u188 u189 u190 u191 u192 u193 u194 u195 u196 u197 u198 u199 u200 u201 u202 u203 u204 u205 u206 u207 u208 u209 u210 u211 u212 u213 u214 u215 u216 u217 u218 u219 u220 u221 u222 u223 u224 u225 u226 u227 u228 u229 u230 u231 u232 u233 u234 u235 u236 u237 u238 u239 u240 u241 u242 u243 u244 u245 u246 u247 u248 u249 u250 u251 u252 u253 u254 u255 u256 u257 u258 u259 u260 u261 u262 u263 u264 u265 u266 u267 u268 u269 u270 u271 u272 u273 u274 u275 u276 u277 u278 u279 u280 u281 u282 u283 u284 u285 u286 u287 u288 u289 u290 u291 u292 u293 u294 u295 u296 u297 u298 u299 u300 u301 u302 u303 u304 u305 u306 u307 u308 u309 u310 u311 u312 u313 : Value) (a : Act) (wx : World) : Prop :=
  ∃ v7 v41 v42 v43 v44 v45 v46 v47 v48 v49 v50 v51 v52 v53 v54 v55 v56 v57 v58 v59 v60 v61 v62 v63 v64 v65 v66 v67 v68 v69 v70 v71 v72 v73 v74 v75 v76 : Value, (∃ j : Nat, v7 = .int .i64 j ∧ Spot z (ss, si) j ∧ Up W1 wx) ∧ a = ⟨#[u0, u1, u2, .pointer (some ⟨T, 0, none⟩), .slice am nm cm, u5, .pointer (some ⟨sb, 0, none⟩), v7, u8, u9, u10, u11, u12, u13, u14, u15, u16, u17, u18, u19, u20, u21, u22, u23, u24, u25, u26, u27, u28, u29, u30, u31, u32, u33, u34, u35, u36, u37, u38, u39, u40, v41, v42, v43, v44, v45, v46, v47, v48, v49, v50, v51, v52, v53, v54, v55, v56, v57, v58, v59, v60, v61, v62, v63, v64, v65, v66, v67, v68, v69, v70, v71, v72, v73, v74, v75, v76, u77, u78, u79, u80, u81, u82, u83, u84, u85, u86, u87, u88, u89, u90, u91, u92, u93, u94, u95, u96, u97, u98, u99, u100, u101, u102, u103, u104, u105, u106, u107, u108, u109, u110, u111, u112, u113, u114, u115, u116, u117, u118, u119, u120, u121, u122, u123, u124, u125, u126, u127, u128, u129, u130, u131, u132, u133, u134, u135, u136, u137, u138, u139, u140, u141, u142, u143, u144, u145, u146, u147, u148, u149, u150, u151, u152, u153, u154, u155, u156, u157, u158, u159, u160, u161, u162, u163, u164, u165, u166, u167, u168, u169, u170, u171, u172, u173, u174, u175, u176, u177, u178, u179, u180, u181, u182, u183, u184, u185, u186, u187, u188, u189, u190, u191, u192, u193, u194, u195, u196, u197, u198, u199, u200, u201, u202, u203, u204, u205, u206, u207, u208, u209, u210, u211, u212, u213, u214, u215, u216, u217, u218, u219, u220, u221, u222, u223, u224, u225, u226, u227, u228, u229, u230, u231, u232, u233, u234, u235, u236, u237, u238, u239, u240, u241, u242, u243, u244, u245, u246, u247, u248, u249, u250, u251, u252, u253, u254, u255, u256, u257, u258, u259, u260, u261, u262, u263, u264, u265, u266, u267, u268, u269, u270, u271, u272, u273, u274, u275, u276, u277, u278, u279, u280, u281, u282, u283, u284, u285, u286, u287, u288, u289, u290, u291, u292, u293, u294, u295, u296, u297, u298, u299, u300, u301, u302, u303, u304, u305, u306, u307, u308, u309, u310, u311, u312, u313], []⟩
set_option maxRecDepth 1000000 in
def TbJ (W1 : World) (T nm cm sb j : Nat) (am : Option Addr) (ib : Bool) (u0 u1 u2 u5 u9 u10 u11 u12 u13 u14 u15 u16 u17 u18 u19 u20 u21 u22 u23 u24 u25 u26 u27 u28 u29 u30 u31 u32 u33 u34 u35 u36 u37 u38 u39 u40 u41 u42 u43 u44 u45 u46 u47 u48 u49 u50 u51 u52 u53 u54 u55 u56 u57 u58 u59 u60 u61 u62 u63 u64 u65 u66 u67 u68 u69 u70 u71 u72 u73 u74 u75 u76 u93 u94 u95 u96 u97 u98 u99 u100 u101 u102 u103 u104 u105 u106 u107 u108 u109 u110 u111 u112 u113 u114 u115 u116 u117 u118 u119 u120 u121 u122 u123 u124 u125 u126 u127 u128 u129 u130 u131 u132 u133 u134 u135 u136 u137 u138 u139 u140 u141 u142 u143 u144 u145 u146 u147 u148 u149 u150 u151 u152 u153 u154 u155 u156 u157 u158 u159 u160 u161 u162 u163 u164 u165 u166 u167 u168 u169 u170 u171 u172 u173 u174 u175 u176 u177 u178 u179 u180 u181 u182 u183 u184 u185 u186 u187 u188 u189 u190 u191 u192 u193 u194 u195 u196 u197 u198 u199 u200 u201 u202 u203 u204 u205 u206 u207 u208 u209 u210 u211 u212 u213 u214 u215 u216 u217 u218 u219 u220 u221 u222 u223 u224 u225 u226 u227 u228 u229 u230 u231 u232 u233 u234 u235 u236 u237 u238 u239 u240 u241 u242 u243 u244 u245 u246 u247 u248 u249 u250 u251 u252 u253 u254 u255 u256 u257 u258 u259 u260 u261 u262 u263 u264 u265 u266 u267 u268 u269 u270 u271 u272 u273 u274 u275 u276 u277 u278 u279 u280 u281 u282 u283 u284 u285 u286 u287 u288 u289 u290 u291 u292 u293 u294 u295 u296 u297 u298 u299 u300 u301 u302 u303 u304 u305 u306 u307 u308 u309 u310 u311 u312 u313 : Value) (a : Act) (wx : World) : Prop :=
  ∃ v77 v78 v79 v80 v81 v82 v83 v84 v85 v86 v87 v88 v89 v90 v91 v92 : Value, Up W1 wx ∧ a = ⟨#[u0, u1, u2, .pointer (some ⟨T, 0, none⟩), .slice am nm cm, u5, .pointer (some ⟨sb, 0, none⟩), .int .i64 j, .bool ib, u9, u10, u11, u12, u13, u14, u15, u16, u17, u18, u19, u20, u21, u22, u23, u24, u25, u26, u27, u28, u29, u30, u31, u32, u33, u34, u35, u36, u37, u38, u39, u40, u41, u42, u43, u44, u45, u46, u47, u48, u49, u50, u51, u52, u53, u54, u55, u56, u57, u58, u59, u60, u61, u62, u63, u64, u65, u66, u67, u68, u69, u70, u71, u72, u73, u74, u75, u76, v77, v78, v79, v80, v81, v82, v83, v84, v85, v86, v87, v88, v89, v90, v91, v92, u93, u94, u95, u96, u97, u98, u99, u100, u101, u102, u103, u104, u105, u106, u107, u108, u109, u110, u111, u112, u113, u114, u115, u116, u117, u118, u119, u120, u121, u122, u123, u124, u125, u126, u127, u128, u129, u130, u131, u132, u133, u134, u135, u136, u137, u138, u139, u140, u141, u142, u143, u144, u145, u146, u147, u148, u149, u150, u151, u152, u153, u154, u155, u156, u157, u158, u159, u160, u161, u162, u163, u164, u165, u166, u167, u168, u169, u170, u171, u172, u173, u174, u175, u176, u177, u178, u179, u180, u181, u182, u183, u184, u185, u186, u187, u188, u189, u190, u191, u192, u193, u194, u195, u196, u197, u198, u199, u200, u201, u202, u203, u204, u205, u206, u207, u208, u209, u210, u211, u212, u213, u214, u215, u216, u217, u218, u219, u220, u221, u222, u223, u224, u225, u226, u227, u228, u229, u230, u231, u232, u233, u234, u235, u236, u237, u238, u239, u240, u241, u242, u243, u244, u245, u246, u247, u248, u249, u250, u251, u252, u253, u254, u255, u256, u257, u258, u259, u260, u261, u262, u263, u264, u265, u266, u267, u268, u269, u270, u271, u272, u273, u274, u275, u276, u277, u278, u279, u280, u281, u282, u283, u284, u285, u286, u287, u288, u289, u290, u291, u292, u293, u294, u295, u296, u297, u298, u299, u300, u301, u302, u303, u304, u305, u306, u307, u308, u309, u310, u311, u312, u313], []⟩
variable {W1 : World} {T : Nat} {z : SZ} {am : Option Addr} {nm cm sb : Nat} {sw : Int} {ss : ByteArray} {si : Int} {X : Nat → Prop}
set_option maxHeartbeats 16000000 in
theorem ty_at (HRD : Hid (RdP pC X W1 (.slice am nm cm) z)) (HNM : Hid (nm = z.length)) (hn80 : nm ≤ 80) (HB : Hid (∀ w', Up W1 w' → w'.cell? ⟨sb, 0, none⟩ = some (.int .i64 sw) ∧ w'.cell? ⟨sb, 1, none⟩ = some (.string ss) ∧ w'.cell? ⟨sb, 2, none⟩ = some (.int .i64 si)))
    (u0 u1 u2 u5 u8 u9 u10 u11 u12 u13 u14 u15 u16 u17 u18 u19 u20 u21 u22 u23 u24 u25 u26 u27 u28 u29 u30 u31 u32 u33 u34 u35 u36 u37 u38 u39 u40 u41 u42 u43 u44 u45 u46 u47 u48 u49 u50 u51 u52 u53 u54 u55 u56 u57 u58 u59 u60 u61 u62 u63 u64 u65 u66 u67 u68 u69 u70 u71 u72 u73 u74 u75 u76 u77 u78 u79 u80 u81 u82 u83 u84 u85 u86 u87 u88 u89 u90 u91 u92 u93 u94 u95 u96 u97 u98 u99 u100 u101 u102 u103 u104 u105 u106 u107 u108 u109 u110 u111 u112 u113 u114 u115 u116 u117 u118 u119 u120 u121 u122 u123 u124 u125 u126 u127 u128 u129 u130 u131 u132 u133 u134 u135 u136 u137 u138 u139 u140 u141 u142 u143 u144 u145 u146 u147 u148 u149 u150 u151 u152 u153 u154 u155 u156 u157 u158 u159 u160 u161 u162 u163 u164 u165 u166 u167 u168 u169 u170 u171 u172 u173 u174 u175 u176 u177 u178 u179 u180 u181 u182 u183 u184 u185 u186 u187 u188 u189 u190 u191 u192 u193 u194 u195 u196 u197 u198 u199 u200 u201 u202 u203 u204 u205 u206 u207 u208 u209 u210 u211 u212 u213 u214 u215 u216 u217 u218 u219 u220 u221 u222 u223 u224 u225 u226 u227 u228 u229 u230 u231 u232 u233 u234 u235 u236 u237 u238 u239 u240 u241 u242 u243 u244 u245 u246 u247 u248 u249 u250 u251 u252 u253 u254 u255 u256 u257 u258 u259 u260 u261 u262 u263 u264 u265 u266 u267 u268 u269 u270 u271 u272 u273 u274 u275 u276 u277 u278 u279 u280 u281 u282 u283 u284 u285 u286 u287 u288 u289 u290 u291 u292 u293 u294 u295 u296 u297 u298 u299 u300 u301 u302 u303 u304 u305 u306 u307 u308 u309 u310 u311 u312 u313 : Value) (K : Act → World → Prop) (Q : Exit → Act → World → Prop)
    (hK : ∀ a' w', Met (TaJ W1 T nm cm sb am z ss si u0 u1 u2 u5 u8 u9 u10 u11 u12 u13 u14 u15 u16 u17 u18 u19 u20 u21 u22 u23 u24 u25 u26 u27 u28 u29 u30 u31 u32 u33 u34 u35 u36 u37 u38 u39 u40 u77 u78 u79 u80 u81 u82 u83 u84 u85 u86 u87 u88 u89 u90 u91 u92 u93 u94 u95 u96 u97 u98 u99 u100 u101 u102 u103 u104 u105 u106 u107 u108 u109 u110 u111 u112 u113 u114 u115 u116 u117 u118 u119 u120 u121 u122 u123 u124 u125 u126 u127 u128 u129 u130 u131 u132 u133 u134 u135 u136 u137 u138 u139 u140 u141 u142 u143 u144 u145 u146 u147 u148 u149 u150 u151 u152 u153 u154 u155 u156 u157 u158 u159 u160 u161 u162 u163 u164 u165 u166 u167 u168 u169 u170 u171 u172 u173 u174 u175 u176 u177 u178 u179 u180 u181 u182 u183 u184 u185 u186 u187 u188 u189 u190 u191 u192 u193 u194 u195 u196 u197 u198 u199 u200 u201 u202 u203 u204 u205 u206 u207 u208 u209 u210 u211 u212 u213 u214 u215 u216 u217 u218 u219 u220 u221 u222 u223 u224 u225 u226 u227 u228 u229 u230 u231 u232 u233 u234 u235 u236 u237 u238 u239 u240 u241 u242 u243 u244 u245 u246 u247 u248 u249 u250 u251 u252 u253 u254 u255 u256 u257 u258 u259 u260 u261 u262 u263 u264 u265 u266 u267 u268 u269 u270 u271 u272 u273 u274 u275 u276 u277 u278 u279 u280 u281 u282 u283 u284 u285 u286 u287 u288 u289 u290 u291 u292 u293 u294 u295 u296 u297 u298 u299 u300 u301 u302 u303 u304 u305 u306 u307 u308 u309 u310 u311 u312 u313) a' w' → K a' w') :
    Code.wp Try.prog ((Try.f4.body.bind (blkN 2)).getD .skip) (Exit.then K Q) ⟨#[u0, u1, u2, .pointer (some ⟨T, 0, none⟩), .slice am nm cm, u5, .pointer (some ⟨sb, 0, none⟩), .int .i64 0, u8, u9, u10, u11, u12, u13, u14, u15, u16, u17, u18, u19, u20, u21, u22, u23, u24, u25, u26, u27, u28, u29, u30, u31, u32, u33, u34, u35, u36, u37, u38, u39, u40, u41, u42, u43, u44, u45, u46, u47, u48, u49, u50, u51, u52, u53, u54, u55, u56, u57, u58, u59, u60, u61, u62, u63, u64, u65, u66, u67, u68, u69, u70, u71, u72, u73, u74, u75, u76, u77, u78, u79, u80, u81, u82, u83, u84, u85, u86, u87, u88, u89, u90, u91, u92, u93, u94, u95, u96, u97, u98, u99, u100, u101, u102, u103, u104, u105, u106, u107, u108, u109, u110, u111, u112, u113, u114, u115, u116, u117, u118, u119, u120, u121, u122, u123, u124, u125, u126, u127, u128, u129, u130, u131, u132, u133, u134, u135, u136, u137, u138, u139, u140, u141, u142, u143, u144, u145, u146, u147, u148, u149, u150, u151, u152, u153, u154, u155, u156, u157, u158, u159, u160, u161, u162, u163, u164, u165, u166, u167, u168, u169, u170, u171, u172, u173, u174, u175, u176, u177, u178, u179, u180, u181, u182, u183, u184, u185, u186, u187, u188, u189, u190, u191, u192, u193, u194, u195, u196, u197, u198, u199, u200, u201, u202, u203, u204, u205, u206, u207, u208, u209, u210, u211, u212, u213, u214, u215, u216, u217, u218, u219, u220, u221, u222, u223, u224, u225, u226, u227, u228, u229, u230, u231, u232, u233, u234, u235, u236, u237, u238, u239, u240, u241, u242, u243, u244, u245, u246, u247, u248, u249, u250, u251, u252, u253, u254, u255, u256, u257, u258, u259, u260, u261, u262, u263, u264, u265, u266, u267, u268, u269, u270, u271, u272, u273, u274, u275, u276, u277, u278, u279, u280, u281, u282, u283, u284, u285, u286, u287, u288, u289, u290, u291, u292, u293, u294, u295, u296, u297, u298, u299, u300, u301, u302, u303, u304, u305, u306, u307, u308, u309, u310, u311, u312, u313], []⟩ W1 := by
  unfold TaJ at hK
  conv => arg 2; whnf
  go_wp2_with fail
  go_loopw [7] (fun v7 wx => ∃ j : Nat, j ≤ nm ∧ v7 = .int .i64 j ∧ Hid (Up W1 wx) ∧ Hid (∀ q (h : q < z.length), q < j → ltP z[q] (ss, si))) (fun v7 _ => nm - (intOf v7).toNat)
  case atStart => exact ⟨0, Nat.zero_le _, rfl, hide (Up.refl _), hide (fun q _ h => absurd h (Nat.not_lt_zero _))⟩
  case round =>
    obtain ⟨j, hj, rfl, hU, hS⟩ := hrel
    have j0 : (0 : Int) ≤ (j : Int) := by omega
    obtain ⟨c0, c1, c2⟩ := HB.out _ hU.out
    obtain ⟨b, hb⟩ : ∃ b : Bool, b = true ↔ ∃ h : j < z.length, ltP z[j] (ss, si) := by
      by_cases h : ∃ h : j < z.length, ltP z[j] (ss, si)
      · exact ⟨true, fun _ => h, fun _ => rfl⟩
      · exact ⟨false, fun e => (by cases e), fun e => absurd e h⟩
    have HBB := hide hb
    clear hb
    go_upto_region 14 with fail
    go_cut [74] from 41 to 76 (fun v wx => v = .bool b ∧ Up W1 wx)
    case first =>
      have ek : IntKind.i64.wrap (j : Int) = (j : Int) := by rw [IntKind.wrap_i64]; omega
      by_cases hjn : j < nm
      · have hjz : j < z.length := by rw [← HNM.out]; exact hjn
        obtain ⟨g, o, rfl, m0, m1⟩ := (HRD.out.up hU.out).pair hjz
        have j1 : (j : Int) < (nm : Int) := by omega
        have j1' : decide ((j : Int) < (nm : Int)) = true := decide_eq_true j1
        have HBI : Hid (b = true ↔ ltP z[j] (ss, si)) := hide ⟨fun e => (HBB.out.1 e).2, fun e => HBB.out.2 ⟨hjz, e⟩⟩
        have HBJ : Hid (b = true ↔ (z[j].1.data.toList < ss.data.toList ∨ (z[j].1.data.toList = ss.data.toList ∧ z[j].2 < si))) := HBI
        generalize z[j].1 = s' at m0 HBJ
        generalize z[j].2 = id' at m1 HBJ
        clear HBI hjz
        have w1 : Op.bytesLess s'.toList ss.toList = decide (s'.data.toList < ss.data.toList) := str_lt s' ss
        have w2 : (s'.toList == ss.toList) = decide (s' = ss) := str_eq s' ss
        by_cases q1 : s'.data.toList < ss.data.toList
        · obtain rfl : b = true := HBJ.out.2 (.inl q1)
          rw [decide_eq_true q1] at w1
          clear w2 q1
          go_quiet (fail)
          go_wp2
          go_meet
          exact ⟨rfl, hU.out.trans (by first | exact (Up.refl _).drewN _ | exact (Up.refl _).drew)⟩
        · rw [decide_eq_false q1] at w1
          by_cases q2 : s' = ss
          · rw [decide_eq_true q2] at w2
            by_cases q3 : id' < si
            · obtain rfl : b = true := HBJ.out.2 (.inr ⟨by rw [q2], q3⟩)
              have w3 : decide (id' < si) = true := decide_eq_true q3
              clear q1 q2
              go_quiet (fail)
              go_wp2
              go_meet
              exact ⟨rfl, hU.out.trans (by first | exact (Up.refl _).drewN _ | exact (Up.refl _).drew)⟩
            · obtain rfl : b = false := by
                cases b
                · rfl
                · rcases HBJ.out.1 rfl with h | ⟨_, h⟩
                  · exact absurd h q1
                  · exact absurd h q3
              have w3 : decide (id' < si) = false := decide_eq_false q3
              clear q1 q2
              go_quiet (fail)
              go_wp2
              go_meet
              exact ⟨rfl, hU.out.trans (by first | exact (Up.refl _).drewN _ | exact (Up.refl _).drew)⟩
          · rw [decide_eq_false q2] at w2
            obtain rfl : b = false := by
              cases b
              · rfl
              · rcases HBJ.out.1 rfl with h | ⟨h, _⟩
                · exact absurd h q1
                · exact absurd (ByteArray.ext (Array.toList_inj.1 h)) q2
            clear q1 q2
            go_quiet (fail)
            go_wp2
            go_meet
            exact ⟨rfl, hU.out.trans (by first | exact (Up.refl _).drewN _ | exact (Up.refl _).drew)⟩
      · obtain rfl : b = false := by
          cases b
          · rfl
          · obtain ⟨h, _⟩ := HBB.out.1 rfl
            have := HNM.out
            omega
        have j1 : ¬ (j : Int) < (nm : Int) := by omega
        have j1' : decide ((j : Int) < (nm : Int)) = false := decide_eq_false j1
        go_quiet (fail)
        go_wp2
        go_meet
        exact ⟨rfl, hU.out.trans (by first | exact (Up.refl _).drewN _ | exact (Up.refl _).drew)⟩
    case rest =>
    obtain ⟨rfl, hUc⟩ := hcut
    have HUC := hide hUc
    clear hUc hU c0 c1 c2
    cases b
    · have HSP : Hid (Spot z (ss, si) j) := hide ⟨by rw [← HNM.out]; exact hj, hS.out, fun h e => by have := HBB.out.2 ⟨h, e⟩; cases this⟩
      clear HBB hS
      go_wp2
      refine Met.intro ?_
      (repeat apply Exists.intro)
      exact ⟨⟨j, rfl, HSP.out, HUC.out⟩, rfl⟩
    · have ek1 : wrap64 ((j : Int) + 1) = (j : Int) + 1 := by rw [wrap64]; omega
      have HSN : Hid (j < nm ∧ ∀ q (h : q < z.length), q < j + 1 → ltP z[q] (ss, si)) := hide (by
        obtain ⟨h1, h2⟩ := HBB.out.1 rfl
        refine ⟨by rw [HNM.out]; exact h1, fun q h hq => ?_⟩
        rcases Nat.lt_or_ge q j with h3 | h3
        · exact hS.out q h h3
        · obtain rfl : q = j := by omega
          exact h2)
      clear HBB hS
      go_wp2
      go_roundw
      case rel => exact ⟨j + 1, HSN.out.1, by simp, HUC, hide HSN.out.2⟩
      case measure => have := HSN.out.1; simp [intOf]; omega
set_option maxHeartbeats 16000000 in
theorem ty_in {ib : Bool} {j : Nat} (HRD : Hid (RdP pC X W1 (.slice am nm cm) z)) (HNM : Hid (nm = z.length)) (hn80 : nm ≤ 80) (HB : Hid (∀ w', Up W1 w' → w'.cell? ⟨sb, 0, none⟩ = some (.int .i64 sw) ∧ w'.cell? ⟨sb, 1, none⟩ = some (.string ss) ∧ w'.cell? ⟨sb, 2, none⟩ = some (.int .i64 si)))
    (HSRT : Hid (SrtP z)) (HSP : Hid (Spot z (ss, si) j)) (HIB : Hid (ib = true ↔ (ss, si) ∈ z)) (wc : World) (HUC : Hid (Up W1 wc))
    (u0 u1 u2 u5 u8 u9 u10 u11 u12 u13 u14 u15 u16 u17 u18 u19 u20 u21 u22 u23 u24 u25 u26 u27 u28 u29 u30 u31 u32 u33 u34 u35 u36 u37 u38 u39 u40 u41 u42 u43 u44 u45 u46 u47 u48 u49 u50 u51 u52 u53 u54 u55 u56 u57 u58 u59 u60 u61 u62 u63 u64 u65 u66 u67 u68 u69 u70 u71 u72 u73 u74 u75 u76 u77 u78 u79 u80 u81 u82 u83 u84 u85 u86 u87 u88 u89 u90 u91 u92 u93 u94 u95 u96 u97 u98 u99 u100 u101 u102 u103 u104 u105 u106 u107 u108 u109 u110 u111 u112 u113 u114 u115 u116 u117 u118 u119 u120 u121 u122 u123 u124 u125 u126 u127 u128 u129 u130 u131 u132 u133 u134 u135 u136 u137 u138 u139 u140 u141 u142 u143 u144 u145 u146 u147 u148 u149 u150 u151 u152 u153 u154 u155 u156 u157 u158 u159 u160 u161 u162 u163 u164 u165 u166 u167 u168 u169 u170 u171 u172 u173 u174 u175 u176 u177 u178 u179 u180 u181 u182 u183 u184 u185 u186 u187 u188 u189 u190 u191 u192 u193 u194 u195 u196 u197 u198 u199 u200 u201 u202 u203 u204 u205 u206 u207 u208 u209 u210 u211 u212 u213 u214 u215 u216 u217 u218 u219 u220 u221 u222 u223 u224 u225 u226 u227 u228 u229 u230 u231 u232 u233 u234 u235 u236 u237 u238 u239 u240 u241 u242 u243 u244 u245 u246 u247 u248 u249 u250 u251 u252 u253 u254 u255 u256 u257 u258 u259 u260 u261 u262 u263 u264 u265 u266 u267 u268 u269 u270 u271 u272 u273 u274 u275 u276 u277 u278 u279 u280 u281 u282 u283 u284 u285 u286 u287 u288 u289 u290 u291 u292 u293 u294 u295 u296 u297 u298 u299 u300 u301 u302 u303 u304 u305 u306 u307 u308 u309 u310 u311 u312 u313 : Value) (K : Act → World → Prop) (Q : Exit → Act → World → Prop)
    (hK : ∀ a' w', Met (TbJ W1 T nm cm sb j am ib u0 u1 u2 u5 u9 u10 u11 u12 u13 u14 u15 u16 u17 u18 u19 u20 u21 u22 u23 u24 u25 u26 u27 u28 u29 u30 u31 u32 u33 u34 u35 u36 u37 u38 u39 u40 u41 u42 u43 u44 u45 u46 u47 u48 u49 u50 u51 u52 u53 u54 u55 u56 u57 u58 u59 u60 u61 u62 u63 u64 u65 u66 u67 u68 u69 u70 u71 u72 u73 u74 u75 u76 u93 u94 u95 u96 u97 u98 u99 u100 u101 u102 u103 u104 u105 u106 u107 u108 u109 u110 u111 u112 u113 u114 u115 u116 u117 u118 u119 u120 u121 u122 u123 u124 u125 u126 u127 u128 u129 u130 u131 u132 u133 u134 u135 u136 u137 u138 u139 u140 u141 u142 u143 u144 u145 u146 u147 u148 u149 u150 u151 u152 u153 u154 u155 u156 u157 u158 u159 u160 u161 u162 u163 u164 u165 u166 u167 u168 u169 u170 u171 u172 u173 u174 u175 u176 u177 u178 u179 u180 u181 u182 u183 u184 u185 u186 u187 u188 u189 u190 u191 u192 u193 u194 u195 u196 u197 u198 u199 u200 u201 u202 u203 u204 u205 u206 u207 u208 u209 u210 u211 u212 u213 u214 u215 u216 u217 u218 u219 u220 u221 u222 u223 u224 u225 u226 u227 u228 u229 u230 u231 u232 u233 u234 u235 u236 u237 u238 u239 u240 u241 u242 u243 u244 u245 u246 u247 u248 u249 u250 u251 u252 u253 u254 u255 u256 u257 u258 u259 u260 u261 u262 u263 u264 u265 u266 u267 u268 u269 u270 u271 u272 u273 u274 u275 u276 u277 u278 u279 u280 u281 u282 u283 u284 u285 u286 u287 u288 u289 u290 u291 u292 u293 u294 u295 u296 u297 u298 u299 u300 u301 u302 u303 u304 u305 u306 u307 u308 u309 u310 u311 u312 u313) a' w' → K a' w') :
    Code.wp Try.prog ((Try.f4.body.bind (rgnN 16)).getD .skip) (Exit.then K Q) ⟨#[u0, u1, u2, .pointer (some ⟨T, 0, none⟩), .slice am nm cm, u5, .pointer (some ⟨sb, 0, none⟩), .int .i64 j, u8, u9, u10, u11, u12, u13, u14, u15, u16, u17, u18, u19, u20, u21, u22, u23, u24, u25, u26, u27, u28, u29, u30, u31, u32, u33, u34, u35, u36, u37, u38, u39, u40, u41, u42, u43, u44, u45, u46, u47, u48, u49, u50, u51, u52, u53, u54, u55, u56, u57, u58, u59, u60, u61, u62, u63, u64, u65, u66, u67, u68, u69, u70, u71, u72, u73, u74, u75, u76, u77, u78, u79, u80, u81, u82, u83, u84, u85, u86, u87, u88, u89, u90, u91, u92, u93, u94, u95, u96, u97, u98, u99, u100, u101, u102, u103, u104, u105, u106, u107, u108, u109, u110, u111, u112, u113, u114, u115, u116, u117, u118, u119, u120, u121, u122, u123, u124, u125, u126, u127, u128, u129, u130, u131, u132, u133, u134, u135, u136, u137, u138, u139, u140, u141, u142, u143, u144, u145, u146, u147, u148, u149, u150, u151, u152, u153, u154, u155, u156, u157, u158, u159, u160, u161, u162, u163, u164, u165, u166, u167, u168, u169, u170, u171, u172, u173, u174, u175, u176, u177, u178, u179, u180, u181, u182, u183, u184, u185, u186, u187, u188, u189, u190, u191, u192, u193, u194, u195, u196, u197, u198, u199, u200, u201, u202, u203, u204, u205, u206, u207, u208, u209, u210, u211, u212, u213, u214, u215, u216, u217, u218, u219, u220, u221, u222, u223, u224, u225, u226, u227, u228, u229, u230, u231, u232, u233, u234, u235, u236, u237, u238, u239, u240, u241, u242, u243, u244, u245, u246, u247, u248, u249, u250, u251, u252, u253, u254, u255, u256, u257, u258, u259, u260, u261, u262, u263, u264, u265, u266, u267, u268, u269, u270, u271, u272, u273, u274, u275, u276, u277, u278, u279, u280, u281, u282, u283, u284, u285, u286, u287, u288, u289, u290, u291, u292, u293, u294, u295, u296, u297, u298, u299, u300, u301, u302, u303, u304, u305, u306, u307, u308, u309, u310, u311, u312, u313], []⟩ wc := by
  unfold TbJ at hK
  dsimp only at hK
  conv => arg 2; whnf
  dsimp only
  obtain ⟨c0, c1, c2⟩ := HB.out _ HUC.out
  have j0 : (0 : Int) ≤ (j : Int) := by omega
  have hj80 : j ≤ 80 := by have := HSP.out.le; have := HNM.out; omega
  go_cut [8] from 77 to 92 (fun v wx => v = .bool ib ∧ Up W1 wx)
  case first =>
    have ek : IntKind.i64.wrap (j : Int) = (j : Int) := by rw [IntKind.wrap_i64]; omega
    by_cases hjn : j < nm
    · have hjz : j < z.length := by rw [← HNM.out]; exact hjn
      obtain ⟨g, o, rfl, m0, m1⟩ := (HRD.out.up HUC.out).pair hjz
      have j1 : (j : Int) < (nm : Int) := by omega
      have j1' : decide ((j : Int) < (nm : Int)) = true := decide_eq_true j1
      have HBJ : Hid (ib = true ↔ z[j] = (ss, si)) := hide ⟨fun e => ((HSP.out.mem HSRT.out).1 (HIB.out.1 e)).2, fun e => HIB.out.2 (by rw [← e]; exact List.getElem_mem _)⟩
      obtain ⟨p, hp⟩ : ∃ p, p = z[j] := ⟨_, rfl⟩
      rw [← hp] at HBJ m0 m1
      obtain ⟨s', id'⟩ := p
      clear hp hjz
      simp only at m0 m1
      have w2 : (s'.toList == ss.toList) = decide (s' = ss) := str_eq s' ss
      by_cases q2 : s' = ss
      · subst q2
        by_cases q3 : id' = si
        · subst q3
          obtain rfl : ib = true := HBJ.out.2 rfl
          rw [decide_eq_true rfl] at w2
          go_quiet (fail)
          go_wp2
          go_meet
          exact ⟨rfl, HUC.out.trans (by first | exact (Up.refl _).drewN _ | exact (Up.refl _).drew)⟩
        · have w3 : (id' == si) = false := by simp; exact q3
          obtain rfl : ib = false := by
            cases ib
            · rfl
            · exact absurd (Prod.mk.inj (HBJ.out.1 rfl)).2 q3
          rw [decide_eq_true rfl] at w2
          clear q3
          go_quiet (fail)
          go_wp2
          go_meet
          exact ⟨rfl, HUC.out.trans (by first | exact (Up.refl _).drewN _ | exact (Up.refl _).drew)⟩
      · obtain rfl : ib = false := by
          cases ib
          · rfl
          · exact absurd (Prod.mk.inj (HBJ.out.1 rfl)).1 q2
        rw [decide_eq_false q2] at w2
        clear q2
        go_quiet (fail)
        go_wp2
        go_meet
        exact ⟨rfl, HUC.out.trans (by first | exact (Up.refl _).drewN _ | exact (Up.refl _).drew)⟩
    · obtain rfl : ib = false := by
        cases ib
        · rfl
        · obtain ⟨h, _⟩ := (HSP.out.mem HSRT.out).1 (HIB.out.1 rfl)
          have := HNM.out
          omega
      have j1 : ¬ (j : Int) < (nm : Int) := by omega
      have j1' : decide ((j : Int) < (nm : Int)) = false := decide_eq_false j1
      go_quiet (fail)
      go_wp2
      go_meet
      exact ⟨rfl, HUC.out.trans (by first | exact (Up.refl _).drewN _ | exact (Up.refl _).drew)⟩
  case rest =>
    obtain ⟨rfl, hu⟩ := hcut
    refine hK _ _ ?_
    refine Met.intro ?_
    (repeat apply Exists.intro)
    exact ⟨hu, rfl⟩
end Go.Proofs.Ytmbniakobhaomaa
