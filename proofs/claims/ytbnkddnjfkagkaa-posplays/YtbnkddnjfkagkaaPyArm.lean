/-
  PosPlays of rialtolaw14: one act, as its text runs: the acts by themselves.
-/
import Derived.Test.YtbnkddnjfkagkaaPyPux
import Derived.Test.YtbnkddnjfkagkaaPyStp
import Derived.Test.YtbnkddnjfkagkaaPxKnw
import Derived.Deep.Cut
import Derived.BigRegion
namespace Go.Proofs.Ytbnkddnjfkagkaa
open Go.ChangeShapes Go.WideShapes Go.ChangeAt Go.RowKit
set_option linter.unusedVariables false
set_option maxRecDepth 100000
attribute [local go_sem ↓] Go.wp_at_zero Go.wp_at_succ

/-- The block with this number. -/
def blkN (n : Nat) : Code → Option Code
  | .block k c => if k == n then some (.block k c) else blkN n c
  | .seq a b => match blkN n a with
    | some c => some c
    | none => blkN n b
  | .loop c => blkN n c
  | .scope c => blkN n c
  | .cond _ a b => match blkN n a with
    | some c => some c
    | none => blkN n b
  | _ => none
/-- What an act leaves: its two errors are one, the index and the plain row hold the same. -/
def PyMid (w : World) (q T M : Nat) (xs : List Int) (n : Nat) (sb : Nat) (id : Int) (mv ev fv : Value) (wx : World) : Prop :=
  ∃ (zs : List Int) (h' k : Nat) (f' : Int → Option Nat) (c : Int), ev = .int .i64 c ∧ fv = .int .i64 c ∧ (0 ≤ c ∧ c ≤ 100) ∧ SqIx (fun _ => False) q T M zs h' (n + k) f' wx ∧ k ≤ 16 * bitsN (xs.length + 1) ∧ (c ≠ 0 → k = 0) ∧ Rd (Value.int .i64) (TM T M) wx mv zs ∧ zs.length ≤ xs.length + 1 ∧ Up w wx ∧
    wx.cell? ⟨sb, 3, none⟩ = some (.int .i64 id)
set_option maxRecDepth 1000000 in
def PyJ (w : World) (q T M : Nat) (xs : List Int) (n nm sb : Nat) (id sw : Int) (ib : Bool) (u0 u1 u2 u5 u8 u18 u19 u20 u21 u22 u23 u24 u25 u26 u27 u28 u29 u30 u31 u32 u33 u34 u35 u36 u37 u38 u39 u40 u41 u42 u43 u44 u45 u46 u47 u48 u49 u50 u51 u52 u53 u54 u55 u56 u57 u58 u59 u205 u206 u207 u208 u209 u210 u211 u212 u213 u214 u215 u216 u217 u218 u219 u220 u221 u222 u223 u224 u225 u226 u227 u228 u229 u230 u231 u232 u233 u234 u235 u236 u237 u238 u239 u240 u241 u242 u243 u244 u245 u246 u247 u248 u249 u250 u251 u252 u253 u254 u255 u256 u257 u258 u259 u260 u261 u262 u263 u264 u265 u266 u267 u268 u269 u270 u271 u272 u273 u274 u275 u276 u277 u278 u279 u280 u281 u282 u283 u284 u285 u286 u287 u288 u289 u290 u291 u292 u293 u294 u295 u296 u297 u298 u299 : Value) (a : Act) (wx : World) : Prop :=
  ∃ v4 v11 v12 v13 v14 v15 v16 v17 v61 v62 v63 v64 v65 v66 v67 v68 v69 v70 v71 v72 v73 v74 v75 v76 v77 v78 v79 v80 v81 v82 v83 v84 v85 v86 v87 v88 v89 v90 v91 v92 v93 v94 v95 v96 v97 v98 v99 v100 v101 v102 v103 v104 v105 v106 v107 v108 v109 v110 v111 v112 v113 v114 v115 v116 v117 v118 v119 v120 v121 v122 v123 v124 v125 v126 v127 v128 v129 v130 v131 v132 v133 v134 v135 v136 v137 v138 v139 v140 v141 v142 v143 v144 v145 v146 v147 v148 v149 v150 v151 v152 v153 v154 v155 v156 v157 v158 v159 v160 v161 v162 v163 v164 v165 v166 v167 v168 v169 v170 v171 v172 v173 v174 v175 v176 v177 v178 v179 v180 v181 v182 v183 v184 v185 v186 v187 v188 v189 v190 v191 v192 v193 v194 v195 v196 v197 v198 v199 v200 v201 v202 v203 v204 : Value, PyMid w q T M xs n sb id v4 v11 v12 wx ∧ a = ⟨#[u0, u1, u2, .pointer (some ⟨q, 0, none⟩), v4, u5, .pointer (some ⟨sb, 0, none⟩), .int .i64 nm, u8, .int .i64 (fdI xs id), .bool ib, v11, v12, v13, v14, v15, v16, v17, u18, u19, u20, u21, u22, u23, u24, u25, u26, u27, u28, u29, u30, u31, u32, u33, u34, u35, u36, u37, u38, u39, u40, u41, u42, u43, u44, u45, u46, u47, u48, u49, u50, u51, u52, u53, u54, u55, u56, u57, u58, u59, .int .i64 sw, v61, v62, v63, v64, v65, v66, v67, v68, v69, v70, v71, v72, v73, v74, v75, v76, v77, v78, v79, v80, v81, v82, v83, v84, v85, v86, v87, v88, v89, v90, v91, v92, v93, v94, v95, v96, v97, v98, v99, v100, v101, v102, v103, v104, v105, v106, v107, v108, v109, v110, v111, v112, v113, v114, v115, v116, v117, v118, v119, v120, v121, v122, v123, v124, v125, v126, v127, v128, v129, v130, v131, v132, v133, v134, v135, v136, v137, v138, v139, v140, v141, v142, v143, v144, v145, v146, v147, v148, v149, v150, v151, v152, v153, v154, v155, v156, v157, v158, v159, v160, v161, v162, v163, v164, v165, v166, v167, v168, v169, v170, v171, v172, v173, v174, v175, v176, v177, v178, v179, v180, v181, v182, v183, v184, v185, v186, v187, v188, v189, v190, v191, v192, v193, v194, v195, v196, v197, v198, v199, v200, v201, v202, v203, v204, u205, u206, u207, u208, u209, u210, u211, u212, u213, u214, u215, u216, u217, u218, u219, u220, u221, u222, u223, u224, u225, u226, u227, u228, u229, u230, u231, u232, u233, u234, u235, u236, u237, u238, u239, u240, u241, u242, u243, u244, u245, u246, u247, u248, u249, u250, u251, u252, u253, u254, u255, u256, u257, u258, u259, u260, u261, u262, u263, u264, u265, u266, u267, u268, u269, u270, u271, u272, u273, u274, u275, u276, u277, u278, u279, u280, u281, u282, u283, u284, u285, u286, u287, u288, u289, u290, u291, u292, u293, u294, u295, u296, u297, u298, u299], []⟩
/-- What stands where an act begins. -/
structure PyAt (w : World) (q T M : Nat) (xs : List Int) (h n : Nat) (f : Int → Option Nat) (am : Option Addr) (nm cm sb : Nat) (sw si sk id : Int) (ib : Bool) (W : World) : Prop where
  c1 : W.cell? ⟨sb, 1, none⟩ = some (.int .i64 si)
  c2 : W.cell? ⟨sb, 2, none⟩ = some (.int .i64 sk)
  c3 : W.cell? ⟨sb, 3, none⟩ = some (.int .i64 id)
  ix : SqIx (fun _ => False) q T M xs h n f W
  rd : Rd (Value.int .i64) (TM T M) W (.slice am nm cm) xs
  len : nm = xs.length
  lec : nm ≤ cm
  few : nm ≤ 80
  ww : n ≤ 200000
  wid : wf64 id
  hup : Up w W
  sT : sb ≠ T
  sM : sb ≠ M
  hT : w.heap.size ≤ T
  hM : w.heap.size ≤ M
  hib : ib = decide (0 ≤ si ∧ si < (nm : Int))
variable {w W : World} {q T M : Nat} {xs : List Int} {h n : Nat} {f : Int → Option Nat} {am : Option Addr} {nm cm sb : Nat} {sw si sk id : Int} {ib : Bool}
/-- An act that changes nothing. -/
theorem PyAt.same (p : PyAt w q T M xs h n f am nm cm sb sw si sk id ib W) {w' : World} (hu : Up W w') (c : Int) (hc : 0 ≤ c ∧ c ≤ 100) : PyMid w q T M xs n sb id (.slice am nm cm) (.int .i64 c) (.int .i64 c) w' :=
  ⟨xs, h, 0, f, c, rfl, rfl, hc, p.ix.up hu, Nat.zero_le _, fun _ => rfl, p.rd.up hu, Nat.le_succ _, p.hup.trans hu, hu.cell p.c3⟩
theorem tm_cell {T M sb o : Nat} {W w' : World} {v : Value} (hc : Chg (TM T M) W w') (h : W.cell? ⟨sb, o, none⟩ = some v) (sT : sb ≠ T) (sM : sb ≠ M) : w'.cell? ⟨sb, o, none⟩ = some v :=
  hc.cell h (fun e => by rcases e with e | e; exact sT e; exact sM e)
/-- A change that was done, and what the plain row is then. -/
theorem PyAt.done (p : PyAt w q T M xs h n f am nm cm sb sw si sk id ib W) {zs : List Int} {K : Nat} {w1 w2 : World} (d : SqDone (fun _ => False) q T M zs n K W w1) (hK : K ≤ 16 * bitsN (xs.length + 1)) (hu : Up w1 w2) {mv : Value} (hr : Rd (Value.int .i64) (TM T M) w2 mv zs) (hz : zs.length ≤ xs.length + 1) :
    PyMid w q T M xs n sb id mv (.int .i64 0) (.int .i64 0) w2 := by
  obtain ⟨h', k, f', ix, hk, hc⟩ := d
  exact ⟨zs, h', k, f', 0, rfl, rfl, by omega, ix.up hu, by omega, fun e => absurd rfl e, hr, hz, (up_of_tm p.hup p.hT p.hM hc).trans hu, hu.cell (tm_cell hc p.c3 p.sT p.sM)⟩
set_option maxHeartbeats 8000000 in
theorem py_there (p : PyAt w q T M xs h n f am nm cm sb sw si sk id ib W) (hsw : sw = 0 ∨ sw = 1 ∨ sw = 2) (hid : id ∈ xs) (u0 u1 u2 u5 u8 u13 u14 u15 u16 u17 u18 u19 u20 u21 u22 u23 u24 u25 u26 u27 u28 u29 u30 u31 u32 u33 u34 u35 u36 u37 u38 u39 u40 u41 u42 u43 u44 u45 u46 u47 u48 u49 u50 u51 u52 u53 u54 u55 u56 u57 u58 u59 u61 u62 u63 u64 u65 u66 u67 u68 u69 u70 u71 u72 u73 u74 u75 u76 u77 u78 u79 u80 u81 u82 u83 u84 u85 u86 u87 u88 u89 u90 u91 u92 u93 u94 u95 u96 u97 u98 u99 u100 u101 u102 u103 u104 u105 u106 u107 u108 u109 u110 u111 u112 u113 u114 u115 u116 u117 u118 u119 u120 u121 u122 u123 u124 u125 u126 u127 u128 u129 u130 u131 u132 u133 u134 u135 u136 u137 u138 u139 u140 u141 u142 u143 u144 u145 u146 u147 u148 u149 u150 u151 u152 u153 u154 u155 u156 u157 u158 u159 u160 u161 u162 u163 u164 u165 u166 u167 u168 u169 u170 u171 u172 u173 u174 u175 u176 u177 u178 u179 u180 u181 u182 u183 u184 u185 u186 u187 u188 u189 u190 u191 u192 u193 u194 u195 u196 u197 u198 u199 u200 u201 u202 u203 u204 u205 u206 u207 u208 u209 u210 u211 u212 u213 u214 u215 u216 u217 u218 u219 u220 u221 u222 u223 u224 u225 u226 u227 u228 u229 u230 u231 u232 u233 u234 u235 u236 u237 u238 u239 u240 u241 u242 u243 u244 u245 u246 u247 u248 u249 u250 u251 u252 u253 u254 u255 u256 u257 u258 u259 u260 u261 u262 u263 u264 u265 u266 u267 u268 u269 u270 u271 u272 u273 u274 u275 u276 u277 u278 u279 u280 u281 u282 u283 u284 u285 u286 u287 u288 u289 u290 u291 u292 u293 u294 u295 u296 u297 u298 u299 : Value) (K : Act → World → Prop) (Q : Exit → Act → World → Prop)
    (hK : ∀ a' w', Met (PyJ w q T M xs n nm sb id sw ib u0 u1 u2 u5 u8 u18 u19 u20 u21 u22 u23 u24 u25 u26 u27 u28 u29 u30 u31 u32 u33 u34 u35 u36 u37 u38 u39 u40 u41 u42 u43 u44 u45 u46 u47 u48 u49 u50 u51 u52 u53 u54 u55 u56 u57 u58 u59 u205 u206 u207 u208 u209 u210 u211 u212 u213 u214 u215 u216 u217 u218 u219 u220 u221 u222 u223 u224 u225 u226 u227 u228 u229 u230 u231 u232 u233 u234 u235 u236 u237 u238 u239 u240 u241 u242 u243 u244 u245 u246 u247 u248 u249 u250 u251 u252 u253 u254 u255 u256 u257 u258 u259 u260 u261 u262 u263 u264 u265 u266 u267 u268 u269 u270 u271 u272 u273 u274 u275 u276 u277 u278 u279 u280 u281 u282 u283 u284 u285 u286 u287 u288 u289 u290 u291 u292 u293 u294 u295 u296 u297 u298 u299) a' w' → K a' w') :
    Code.wp Try.prog ((Try.f6.body.bind (blkN 2)).getD .skip) (Exit.then K Q) ⟨#[u0, u1, u2, .pointer (some ⟨q, 0, none⟩), .slice am nm cm, u5, .pointer (some ⟨sb, 0, none⟩), .int .i64 nm, u8, .int .i64 (fdI xs id), .bool ib, .int .i64 0, .int .i64 0, u13, u14, u15, u16, u17, u18, u19, u20, u21, u22, u23, u24, u25, u26, u27, u28, u29, u30, u31, u32, u33, u34, u35, u36, u37, u38, u39, u40, u41, u42, u43, u44, u45, u46, u47, u48, u49, u50, u51, u52, u53, u54, u55, u56, u57, u58, u59, .int .i64 sw, u61, u62, u63, u64, u65, u66, u67, u68, u69, u70, u71, u72, u73, u74, u75, u76, u77, u78, u79, u80, u81, u82, u83, u84, u85, u86, u87, u88, u89, u90, u91, u92, u93, u94, u95, u96, u97, u98, u99, u100, u101, u102, u103, u104, u105, u106, u107, u108, u109, u110, u111, u112, u113, u114, u115, u116, u117, u118, u119, u120, u121, u122, u123, u124, u125, u126, u127, u128, u129, u130, u131, u132, u133, u134, u135, u136, u137, u138, u139, u140, u141, u142, u143, u144, u145, u146, u147, u148, u149, u150, u151, u152, u153, u154, u155, u156, u157, u158, u159, u160, u161, u162, u163, u164, u165, u166, u167, u168, u169, u170, u171, u172, u173, u174, u175, u176, u177, u178, u179, u180, u181, u182, u183, u184, u185, u186, u187, u188, u189, u190, u191, u192, u193, u194, u195, u196, u197, u198, u199, u200, u201, u202, u203, u204, u205, u206, u207, u208, u209, u210, u211, u212, u213, u214, u215, u216, u217, u218, u219, u220, u221, u222, u223, u224, u225, u226, u227, u228, u229, u230, u231, u232, u233, u234, u235, u236, u237, u238, u239, u240, u241, u242, u243, u244, u245, u246, u247, u248, u249, u250, u251, u252, u253, u254, u255, u256, u257, u258, u259, u260, u261, u262, u263, u264, u265, u266, u267, u268, u269, u270, u271, u272, u273, u274, u275, u276, u277, u278, u279, u280, u281, u282, u283, u284, u285, u286, u287, u288, u289, u290, u291, u292, u293, u294, u295, u296, u297, u298, u299], []⟩ W := by
  have P := hide p
  have HC := hide (pxinsertAt_there si id p.ix p.wid hid)
  have c1 := p.c1
  have c3 := p.c3
  obtain ⟨k, hk⟩ : ∃ k : Nat, fdI xs id = k := ⟨xs.idxOf id, by unfold fdI; rw [if_pos hid]⟩
  have d0 : decide ((k : Int) ≥ 0) = true := decide_eq_true (by omega)
  have d0' : decide (0 ≤ (k : Int)) = true := decide_eq_true (by omega)
  unfold PyJ at hK
  rw [hk] at hK ⊢
  clear p hid hk
  conv => arg 2; whnf
  rcases hsw with rfl | rfl | rfl
  all_goals
    go_wp2_with fail
    refine HC.out.mono ?_
    rintro _ w1 ⟨rfl, hu1⟩
    have HU1 := hide hu1
    clear hu1 c1 c3
    dsimp only
    go_wp2
    refine Met.intro ?_
    (repeat apply Exists.intro)
    exact ⟨P.out.same HU1.out 72 (by omega), rfl⟩
set_option maxHeartbeats 8000000 in
theorem py_insnot (p : PyAt w q T M xs h n f am nm cm sb sw si sk id ib W) (hsw : sw = 0 ∨ sw = 1 ∨ sw = 2) (hid : id ∉ xs) (hj : si < 0 ∨ (nm : Int) < si) (u0 u1 u2 u5 u8 u13 u14 u15 u16 u17 u18 u19 u20 u21 u22 u23 u24 u25 u26 u27 u28 u29 u30 u31 u32 u33 u34 u35 u36 u37 u38 u39 u40 u41 u42 u43 u44 u45 u46 u47 u48 u49 u50 u51 u52 u53 u54 u55 u56 u57 u58 u59 u61 u62 u63 u64 u65 u66 u67 u68 u69 u70 u71 u72 u73 u74 u75 u76 u77 u78 u79 u80 u81 u82 u83 u84 u85 u86 u87 u88 u89 u90 u91 u92 u93 u94 u95 u96 u97 u98 u99 u100 u101 u102 u103 u104 u105 u106 u107 u108 u109 u110 u111 u112 u113 u114 u115 u116 u117 u118 u119 u120 u121 u122 u123 u124 u125 u126 u127 u128 u129 u130 u131 u132 u133 u134 u135 u136 u137 u138 u139 u140 u141 u142 u143 u144 u145 u146 u147 u148 u149 u150 u151 u152 u153 u154 u155 u156 u157 u158 u159 u160 u161 u162 u163 u164 u165 u166 u167 u168 u169 u170 u171 u172 u173 u174 u175 u176 u177 u178 u179 u180 u181 u182 u183 u184 u185 u186 u187 u188 u189 u190 u191 u192 u193 u194 u195 u196 u197 u198 u199 u200 u201 u202 u203 u204 u205 u206 u207 u208 u209 u210 u211 u212 u213 u214 u215 u216 u217 u218 u219 u220 u221 u222 u223 u224 u225 u226 u227 u228 u229 u230 u231 u232 u233 u234 u235 u236 u237 u238 u239 u240 u241 u242 u243 u244 u245 u246 u247 u248 u249 u250 u251 u252 u253 u254 u255 u256 u257 u258 u259 u260 u261 u262 u263 u264 u265 u266 u267 u268 u269 u270 u271 u272 u273 u274 u275 u276 u277 u278 u279 u280 u281 u282 u283 u284 u285 u286 u287 u288 u289 u290 u291 u292 u293 u294 u295 u296 u297 u298 u299 : Value) (K : Act → World → Prop) (Q : Exit → Act → World → Prop)
    (hK : ∀ a' w', Met (PyJ w q T M xs n nm sb id sw ib u0 u1 u2 u5 u8 u18 u19 u20 u21 u22 u23 u24 u25 u26 u27 u28 u29 u30 u31 u32 u33 u34 u35 u36 u37 u38 u39 u40 u41 u42 u43 u44 u45 u46 u47 u48 u49 u50 u51 u52 u53 u54 u55 u56 u57 u58 u59 u205 u206 u207 u208 u209 u210 u211 u212 u213 u214 u215 u216 u217 u218 u219 u220 u221 u222 u223 u224 u225 u226 u227 u228 u229 u230 u231 u232 u233 u234 u235 u236 u237 u238 u239 u240 u241 u242 u243 u244 u245 u246 u247 u248 u249 u250 u251 u252 u253 u254 u255 u256 u257 u258 u259 u260 u261 u262 u263 u264 u265 u266 u267 u268 u269 u270 u271 u272 u273 u274 u275 u276 u277 u278 u279 u280 u281 u282 u283 u284 u285 u286 u287 u288 u289 u290 u291 u292 u293 u294 u295 u296 u297 u298 u299) a' w' → K a' w') :
    Code.wp Try.prog ((Try.f6.body.bind (blkN 2)).getD .skip) (Exit.then K Q) ⟨#[u0, u1, u2, .pointer (some ⟨q, 0, none⟩), .slice am nm cm, u5, .pointer (some ⟨sb, 0, none⟩), .int .i64 nm, u8, .int .i64 (fdI xs id), .bool ib, .int .i64 0, .int .i64 0, u13, u14, u15, u16, u17, u18, u19, u20, u21, u22, u23, u24, u25, u26, u27, u28, u29, u30, u31, u32, u33, u34, u35, u36, u37, u38, u39, u40, u41, u42, u43, u44, u45, u46, u47, u48, u49, u50, u51, u52, u53, u54, u55, u56, u57, u58, u59, .int .i64 sw, u61, u62, u63, u64, u65, u66, u67, u68, u69, u70, u71, u72, u73, u74, u75, u76, u77, u78, u79, u80, u81, u82, u83, u84, u85, u86, u87, u88, u89, u90, u91, u92, u93, u94, u95, u96, u97, u98, u99, u100, u101, u102, u103, u104, u105, u106, u107, u108, u109, u110, u111, u112, u113, u114, u115, u116, u117, u118, u119, u120, u121, u122, u123, u124, u125, u126, u127, u128, u129, u130, u131, u132, u133, u134, u135, u136, u137, u138, u139, u140, u141, u142, u143, u144, u145, u146, u147, u148, u149, u150, u151, u152, u153, u154, u155, u156, u157, u158, u159, u160, u161, u162, u163, u164, u165, u166, u167, u168, u169, u170, u171, u172, u173, u174, u175, u176, u177, u178, u179, u180, u181, u182, u183, u184, u185, u186, u187, u188, u189, u190, u191, u192, u193, u194, u195, u196, u197, u198, u199, u200, u201, u202, u203, u204, u205, u206, u207, u208, u209, u210, u211, u212, u213, u214, u215, u216, u217, u218, u219, u220, u221, u222, u223, u224, u225, u226, u227, u228, u229, u230, u231, u232, u233, u234, u235, u236, u237, u238, u239, u240, u241, u242, u243, u244, u245, u246, u247, u248, u249, u250, u251, u252, u253, u254, u255, u256, u257, u258, u259, u260, u261, u262, u263, u264, u265, u266, u267, u268, u269, u270, u271, u272, u273, u274, u275, u276, u277, u278, u279, u280, u281, u282, u283, u284, u285, u286, u287, u288, u289, u290, u291, u292, u293, u294, u295, u296, u297, u298, u299], []⟩ W := by
  have P := hide p
  have HC := hide (pxinsertAt_not si id p.ix p.wid hid (by rw [← p.len]; exact hj))
  have c1 := p.c1
  have c3 := p.c3
  have hf := fdI_no hid
  have d0 : decide ((-1 : Int) ≥ 0) = false := decide_eq_false (by omega)
  unfold PyJ at hK
  rw [hf] at hK ⊢
  clear p hid hf
  conv => arg 2; whnf
  by_cases h0 : si < 0
  · have d1 : decide (si < 0) = true := decide_eq_true h0
    rcases hsw with rfl | rfl | rfl
    all_goals
      go_wp2_with fail
      refine HC.out.mono ?_
      rintro _ w1 ⟨rfl, hu1⟩
      have HU1 := hide hu1
      replace c1 := hu1.cell c1
      clear hu1 c3
      dsimp only
      go_wp2
      refine Met.intro ?_
      (repeat apply Exists.intro)
      exact ⟨P.out.same HU1.out 73 (by omega), rfl⟩
  · have d1 : decide (si < 0) = false := decide_eq_false h0
    have d2 : decide (si > (nm : Int)) = true := decide_eq_true (by omega)
    have d2' : decide ((nm : Int) < si) = true := decide_eq_true (by omega)
    have d3 : (nm : Int) < si := by omega
    rcases hsw with rfl | rfl | rfl
    all_goals
      go_wp2_with fail
      refine HC.out.mono ?_
      rintro _ w1 ⟨rfl, hu1⟩
      have HU1 := hide hu1
      replace c1 := hu1.cell c1
      clear hu1 c3
      dsimp only
      go_wp2
      refine Met.intro ?_
      (repeat apply Exists.intro)
      exact ⟨P.out.same HU1.out 73 (by omega), rfl⟩
end Go.Proofs.Ytbnkddnjfkagkaa
