/-
  TreePlays of rialtolaw11: one act, as its text runs.
-/
import Derived.Test.YtcaccbjolgjmkaaTrSam
import Derived.Test.YtcaccbjolgjmkaaTrStp
import Derived.Test.YtcaccbjolgjmkaaTrKnw
import Derived.Test.YtcaccbjolgjmkaaTrLog
import Derived.Deep.Cut
import Derived.BigRegion
import Derived.Deep.RegionLaw
import Derived.Deep.RegionHeld3
namespace Go.Proofs.Ytcaccbjolgjmkaa
open Go.ChangeShapes Go.WideShapes Go.ChangeAt Go.RowKit
set_option linter.unusedVariables false
set_option maxRecDepth 100000
attribute [local go_sem ↓] Go.wp_at_zero Go.wp_at_succ

/-- Own grows: a row that a call owns since W. -/
theorem own_below {α : Type} {e : TypeId} {enc : α → Value} {W w w' : World} {v : Value} {l : List α} (hu : Up W w) (ho : Own e enc w W.heap.size v l) (hg : w.grownBy w' v.ownBlock) : Up W w' :=
  Below.grown hu.below hg hu.size (fun k hk => (ho.lt k hk).1)
theorem step_append_row {α : Type} {P : Program} {t e : TypeId} {enc : α → Value} {z : Value} {bytes : Nat} (T : ElemT P t e enc z bytes) {X : Nat → Prop} {W w : World} {ops : Array Oper} {o : Oper} {a : Act} {K : Act → World → Prop} {Q : Exit → Act → World → Prop} {E : Prop}
    (hg : o.guard = none) (s x : Operand) (hop : o.op = .call { callee := .builtin .append, args := #[s, x], argTypes := #[t, t] }) (v u : Value) (l m : List α) (hd : a.eval s = v) (hx : a.eval x = u)
    (hu : Up W w) (hown : Own e enc w W.heap.size v l) (hr : Rd enc X w u m) (hlen : l.length + m.length ≤ 10000000)
    (hK : ∀ v' w', Own e enc w' W.heap.size v' (l ++ m) → Up W w' → K (a.put o.dst v') w') :
    if Region.wanted o (yielded ops a.tmps) = true then Oper.wp P o a w K Q else E := by
  obtain ⟨v', w', hrun, h2, h3, _⟩ := run_append_rd T w W.heap.size v u l m o.type hown hr hlen hu.size
  exact step_append_run hg s x t hop v u hd hx hrun (hK v' w' h2 (own_below hu hown h3))
theorem Rd.drop1 {α : Type} {enc : α → Value} {X : Nat → Prop} {w : World} {a : Option Addr} {n cap : Nat} {l : List α} (h : Rd enc X w (.slice a n cap) l) {m : Nat} (hm : m ≤ n) :
    Rd enc X w (.slice (if cap = m then a else Option.map (fun x => x.add m) a) (n - m) (cap - m)) (l.drop m) := by
  have := h.drop hm
  rw [Nat.mul_one] at this
  exact this
theorem rd_one {α : Type} {enc : α → Value} {X : Nat → Prop} {w : World} {g : Nat} {y : α} (hX : ¬ X g) (h : w.cell? ⟨g, 0, none⟩ = some (enc y)) : Rd enc X w (.slice (some ⟨g, 0, none⟩) 1 1) [y] := by
  refine ⟨some ⟨g, 0, none⟩, 1, rfl, Nat.le_refl _, by unfold maxLen; omega, .inr ⟨g, 0, rfl, hX, fun j u hj => ?_⟩⟩
  cases j with
  | zero => simp at hj; subst hj; exact h
  | succ j => simp at hj
theorem step_append_one {α : Type} {P : Program} {t e : TypeId} {enc : α → Value} {z : Value} {bytes : Nat} (T : ElemT P t e enc z bytes) {W w : World} {ops : Array Oper} {o : Oper} {a : Act} {K : Act → World → Prop} {Q : Exit → Act → World → Prop} {E : Prop}
    (hg : o.guard = none) (s x : Operand) (hop : o.op = .call { callee := .builtin .append, args := #[s, x], argTypes := #[t, t] }) (v : Value) (l : List α) (y : α) (g : Nat) (hd : a.eval s = v) (hx : a.eval x = .slice (some ⟨g, 0, none⟩) 1 1)
    (hnew : w.cell? ⟨g, 0, none⟩ = some (enc y)) (hu : Up W w) (hown : Own e enc w W.heap.size v l) (hlen : l.length + 1 ≤ 10000000)
    (hK : ∀ v' w', Own e enc w' W.heap.size v' (l ++ [y]) → Up W w' → K (a.put o.dst v') w') :
    if Region.wanted o (yielded ops a.tmps) = true then Oper.wp P o a w K Q else E :=
  step_append_row T (X := fun _ => False) hg s x hop v _ l [y] hd hx hu hown (rd_one (fun h => h) hnew) hlen hK
/-- The block with this number. -/
def blkN (n : Nat) : Code → Option Code
  | .block k c => if k == n then some (.block k c) else blkN n c
  | .seq a b => match blkN n a with
    | some c => some c
    | none => blkN n b
  | .loop c => blkN n c
  | .scope c => blkN n c
  | .cond _ a b => match blkN n a with
    | some c => some c
    | none => blkN n b
  | _ => none
/-- What an act leaves: the tree and the plain row hold the same. -/
def TpMid (w : World) (T : Nat) (xs : List Int) (n : Nat) (sb : Nat) (si : Int) (mv cv : Value) (wx : World) : Prop :=
  ∃ (zs : List Int) (h' k : Nat) (b : Bool), cv = .bool b ∧ TrI wx T zs h' (n + k) ∧ Rd (Value.int .i64) (fun y => y = T) wx mv zs ∧ zs.length ≤ xs.length + 1 ∧ (b = true → 1 ≤ k ∧ k ≤ 8 * bitsN (xs.length + 1)) ∧ (b = false → k = 0) ∧ Up w wx ∧ wx.cell? ⟨sb, 1, none⟩ = some (.int .i64 si)
set_option maxRecDepth 1000000 in
def TpJ (w : World) (T : Nat) (xs : List Int) (n nm sb : Nat) (si sw : Int) (ib : Bool) (u0 u1 u2 u5 u8 u19 u20 u21 u22 u23 u24 u25 u26 u27 u28 u29 u30 u31 u32 u33 u34 u35 u36 u37 u38 u39 u40 u41 u42 u43 u44 u45 u46 u47 u48 u49 u50 u51 u52 u209 u210 u211 u212 u213 u214 u215 u216 u217 u218 u219 u220 u221 u222 u223 u224 u225 u226 u227 u228 u229 u230 u231 u232 u233 u234 u235 u236 u237 u238 u239 u240 u241 u242 u243 u244 u245 u246 u247 u248 u249 u250 u251 u252 u253 u254 u255 u256 u257 u258 u259 u260 u261 u262 u263 u264 u265 u266 u267 u268 u269 u270 u271 u272 u273 u274 u275 u276 u277 u278 u279 u280 u281 u282 u283 u284 u285 u286 u287 u288 u289 u290 u291 u292 u293 u294 u295 u296 u297 u298 u299 u300 u301 u302 u303 u304 u305 u306 : Value) (a : Act) (wx : World) : Prop :=
  ∃ v4 v10 v11 v12 v13 v14 v15 v16 v17 v18 v54 v55 v56 v57 v58 v59 v60 v61 v62 v63 v64 v65 v66 v67 v68 v69 v70 v71 v72 v73 v74 v75 v76 v77 v78 v79 v80 v81 v82 v83 v84 v85 v86 v87 v88 v89 v90 v91 v92 v93 v94 v95 v96 v97 v98 v99 v100 v101 v102 v103 v104 v105 v106 v107 v108 v109 v110 v111 v112 v113 v114 v115 v116 v117 v118 v119 v120 v121 v122 v123 v124 v125 v126 v127 v128 v129 v130 v131 v132 v133 v134 v135 v136 v137 v138 v139 v140 v141 v142 v143 v144 v145 v146 v147 v148 v149 v150 v151 v152 v153 v154 v155 v156 v157 v158 v159 v160 v161 v162 v163 v164 v165 v166 v167 v168 v169 v170 v171 v172 v173 v174 v175 v176 v177 v178 v179 v180 v181 v182 v183 v184 v185 v186 v187 v188 v189 v190 v191 v192 v193 v194 v195 v196 v197 v198 v199 v200 v201 v202 v203 v204 v205 v206 v207 v208 : Value, TpMid w T xs n sb si v4 v10 wx ∧ a = ⟨#[u0, u1, u2, .pointer (some ⟨T, 0, none⟩), v4, u5, .pointer (some ⟨sb, 0, none⟩), .int .i64 nm, u8, .bool ib, v10, v11, v12, v13, v14, v15, v16, v17, v18, u19, u20, u21, u22, u23, u24, u25, u26, u27, u28, u29, u30, u31, u32, u33, u34, u35, u36, u37, u38, u39, u40, u41, u42, u43, u44, u45, u46, u47, u48, u49, u50, u51, u52, .int .i64 sw, v54, v55, v56, v57, v58, v59, v60, v61, v62, v63, v64, v65, v66, v67, v68, v69, v70, v71, v72, v73, v74, v75, v76, v77, v78, v79, v80, v81, v82, v83, v84, v85, v86, v87, v88, v89, v90, v91, v92, v93, v94, v95, v96, v97, v98, v99, v100, v101, v102, v103, v104, v105, v106, v107, v108, v109, v110, v111, v112, v113, v114, v115, v116, v117, v118, v119, v120, v121, v122, v123, v124, v125, v126, v127, v128, v129, v130, v131, v132, v133, v134, v135, v136, v137, v138, v139, v140, v141, v142, v143, v144, v145, v146, v147, v148, v149, v150, v151, v152, v153, v154, v155, v156, v157, v158, v159, v160, v161, v162, v163, v164, v165, v166, v167, v168, v169, v170, v171, v172, v173, v174, v175, v176, v177, v178, v179, v180, v181, v182, v183, v184, v185, v186, v187, v188, v189, v190, v191, v192, v193, v194, v195, v196, v197, v198, v199, v200, v201, v202, v203, v204, v205, v206, v207, v208, u209, u210, u211, u212, u213, u214, u215, u216, u217, u218, u219, u220, u221, u222, u223, u224, u225, u226, u227, u228, u229, u230, u231, u232, u233, u234, u235, u236, u237, u238, u239, u240, u241, u242, u243, u244, u245, u246, u247, u248, u249, u250, u251, u252, u253, u254, u255, u256, u257, u258, u259, u260, u261, u262, u263, u264, u265, u266, u267, u268, u269, u270, u271, u272, u273, u274, u275, u276, u277, u278, u279, u280, u281, u282, u283, u284, u285, u286, u287, u288, u289, u290, u291, u292, u293, u294, u295, u296, u297, u298, u299, u300, u301, u302, u303, u304, u305, u306], []⟩
/-- What stands where an act begins. -/
structure TpAt (w : World) (T : Nat) (xs : List Int) (h n : Nat) (am : Option Addr) (nm cm sb : Nat) (sw si sv : Int) (ib : Bool) (W : World) : Prop where
  c0 : W.cell? ⟨sb, 0, none⟩ = some (.int .i64 sw)
  c1 : W.cell? ⟨sb, 1, none⟩ = some (.int .i64 si)
  c2 : W.cell? ⟨sb, 2, none⟩ = some (.int .i64 sv)
  t : TrI W T xs h n
  rd : Rd (Value.int .i64) (fun y => y = T) W (.slice am nm cm) xs
  len : nm = xs.length
  lec : nm ≤ cm
  few : nm ≤ 150
  ww : n ≤ 100000
  hup : Up w W
  sT : sb ≠ T
  hT : w.heap.size ≤ T
  wi : -9223372036854775808 ≤ si ∧ si ≤ 9223372036854775807
  hib : ib = decide (0 ≤ si ∧ si < (nm : Int))
variable {w W : World} {T : Nat} {xs : List Int} {h n : Nat} {am : Option Addr} {nm cm sb : Nat} {sw si sv : Int} {ib : Bool}
/-- An act that changes nothing. -/
theorem TpAt.same (p : TpAt w T xs h n am nm cm sb sw si sv ib W) {w' : World} (hu : Up W w') : TpMid w T xs n sb si (.slice am nm cm) (.bool false) w' :=
  ⟨xs, h, 0, false, rfl, Tr.up p.t hu, p.rd.up hu, Nat.le_succ _, fun e => (by cases e), fun _ => rfl, p.hup.trans hu, hu.cell p.c1⟩
/-- One that changes. -/
theorem TpAt.done (p : TpAt w T xs h n am nm cm sb sw si sv ib W) {zs : List Int} {w1 w2 : World} (d : TrDoneI T n h zs W w1) (hu : Up w1 w2) {mv : Value} (hr : Rd (Value.int .i64) (fun y => y = T) w2 mv zs) (hz : zs.length ≤ xs.length + 1) :
    TpMid w T xs n sb si mv (.bool true) w2 := by
  obtain ⟨h', k, ht, h1, h2, hc⟩ := d
  have hl := (Tr.logs p.t).1
  have hup : Up w w1 := ((Chg.of_up (C := fun y => y = T) p.hup).trans hc (fun _ _ e => e)).up (fun x hx e => by have := p.hT; omega)
  exact ⟨zs, h', k, true, rfl, Tr.up ht hu, hr, hz, fun _ => ⟨h1, by omega⟩, fun e => (by cases e), hup.trans hu, hu.cell (hc.cell (p := ⟨sb, 1, none⟩) p.c1 p.sT)⟩

set_option maxHeartbeats 8000000 in
theorem tp_setnot (p : TpAt w T xs h n am nm cm sb sw si sv ib W) (hsw : sw = 7) (hno : ¬ (0 ≤ si ∧ si < (nm : Int))) (u0 u1 u2 u5 u8 u11 u12 u13 u14 u15 u16 u17 u18 u19 u20 u21 u22 u23 u24 u25 u26 u27 u28 u29 u30 u31 u32 u33 u34 u35 u36 u37 u38 u39 u40 u41 u42 u43 u44 u45 u46 u47 u48 u49 u50 u51 u52 u54 u55 u56 u57 u58 u59 u60 u61 u62 u63 u64 u65 u66 u67 u68 u69 u70 u71 u72 u73 u74 u75 u76 u77 u78 u79 u80 u81 u82 u83 u84 u85 u86 u87 u88 u89 u90 u91 u92 u93 u94 u95 u96 u97 u98 u99 u100 u101 u102 u103 u104 u105 u106 u107 u108 u109 u110 u111 u112 u113 u114 u115 u116 u117 u118 u119 u120 u121 u122 u123 u124 u125 u126 u127 u128 u129 u130 u131 u132 u133 u134 u135 u136 u137 u138 u139 u140 u141 u142 u143 u144 u145 u146 u147 u148 u149 u150 u151 u152 u153 u154 u155 u156 u157 u158 u159 u160 u161 u162 u163 u164 u165 u166 u167 u168 u169 u170 u171 u172 u173 u174 u175 u176 u177 u178 u179 u180 u181 u182 u183 u184 u185 u186 u187 u188 u189 u190 u191 u192 u193 u194 u195 u196 u197 u198 u199 u200 u201 u202 u203 u204 u205 u206 u207 u208 u209 u210 u211 u212 u213 u214 u215 u216 u217 u218 u219 u220 u221 u222 u223 u224 u225 u226 u227 u228 u229 u230 u231 u232 u233 u234 u235 u236 u237 u238 u239 u240 u241 u242 u243 u244 u245 u246 u247 u248 u249 u250 u251 u252 u253 u254 u255 u256 u257 u258 u259 u260 u261 u262 u263 u264 u265 u266 u267 u268 u269 u270 u271 u272 u273 u274 u275 u276 u277 u278 u279 u280 u281 u282 u283 u284 u285 u286 u287 u288 u289 u290 u291 u292 u293 u294 u295 u296 u297 u298 u299 u300 u301 u302 u303 u304 u305 u306 : Value) (K : Act → World → Prop) (Q : Exit → Act → World → Prop)
    (hK : ∀ a' w', Met (TpJ w T xs n nm sb si sw ib u0 u1 u2 u5 u8 u19 u20 u21 u22 u23 u24 u25 u26 u27 u28 u29 u30 u31 u32 u33 u34 u35 u36 u37 u38 u39 u40 u41 u42 u43 u44 u45 u46 u47 u48 u49 u50 u51 u52 u209 u210 u211 u212 u213 u214 u215 u216 u217 u218 u219 u220 u221 u222 u223 u224 u225 u226 u227 u228 u229 u230 u231 u232 u233 u234 u235 u236 u237 u238 u239 u240 u241 u242 u243 u244 u245 u246 u247 u248 u249 u250 u251 u252 u253 u254 u255 u256 u257 u258 u259 u260 u261 u262 u263 u264 u265 u266 u267 u268 u269 u270 u271 u272 u273 u274 u275 u276 u277 u278 u279 u280 u281 u282 u283 u284 u285 u286 u287 u288 u289 u290 u291 u292 u293 u294 u295 u296 u297 u298 u299 u300 u301 u302 u303 u304 u305 u306) a' w' → K a' w') :
    Code.wp Try.prog ((Try.f3.body.bind (blkN 2)).getD .skip) (Exit.then K Q) ⟨#[u0, u1, u2, .pointer (some ⟨T, 0, none⟩), .slice am nm cm, u5, .pointer (some ⟨sb, 0, none⟩), .int .i64 nm, u8, .bool ib, .bool false, u11, u12, u13, u14, u15, u16, u17, u18, u19, u20, u21, u22, u23, u24, u25, u26, u27, u28, u29, u30, u31, u32, u33, u34, u35, u36, u37, u38, u39, u40, u41, u42, u43, u44, u45, u46, u47, u48, u49, u50, u51, u52, .int .i64 sw, u54, u55, u56, u57, u58, u59, u60, u61, u62, u63, u64, u65, u66, u67, u68, u69, u70, u71, u72, u73, u74, u75, u76, u77, u78, u79, u80, u81, u82, u83, u84, u85, u86, u87, u88, u89, u90, u91, u92, u93, u94, u95, u96, u97, u98, u99, u100, u101, u102, u103, u104, u105, u106, u107, u108, u109, u110, u111, u112, u113, u114, u115, u116, u117, u118, u119, u120, u121, u122, u123, u124, u125, u126, u127, u128, u129, u130, u131, u132, u133, u134, u135, u136, u137, u138, u139, u140, u141, u142, u143, u144, u145, u146, u147, u148, u149, u150, u151, u152, u153, u154, u155, u156, u157, u158, u159, u160, u161, u162, u163, u164, u165, u166, u167, u168, u169, u170, u171, u172, u173, u174, u175, u176, u177, u178, u179, u180, u181, u182, u183, u184, u185, u186, u187, u188, u189, u190, u191, u192, u193, u194, u195, u196, u197, u198, u199, u200, u201, u202, u203, u204, u205, u206, u207, u208, u209, u210, u211, u212, u213, u214, u215, u216, u217, u218, u219, u220, u221, u222, u223, u224, u225, u226, u227, u228, u229, u230, u231, u232, u233, u234, u235, u236, u237, u238, u239, u240, u241, u242, u243, u244, u245, u246, u247, u248, u249, u250, u251, u252, u253, u254, u255, u256, u257, u258, u259, u260, u261, u262, u263, u264, u265, u266, u267, u268, u269, u270, u271, u272, u273, u274, u275, u276, u277, u278, u279, u280, u281, u282, u283, u284, u285, u286, u287, u288, u289, u290, u291, u292, u293, u294, u295, u296, u297, u298, u299, u300, u301, u302, u303, u304, u305, u306], []⟩ W := by
  have P := hide p
  have HC := hide (setAtI_not T h n si sv xs W p.t (by have := p.len; omega))
  have c1 := p.c1
  have c2 := p.c2
  obtain rfl : ib = false := by rw [p.hib]; exact decide_eq_false hno
  subst hsw
  unfold TpJ at hK
  clear p hno
  conv => arg 2; whnf
  go_wp2_with fail
  refine HC.out.mono ?_
  rintro _ w1 ⟨rfl, hu1⟩
  have HU1 := hide hu1
  clear hu1 c1 c2
  dsimp only
  go_wp2
  refine Met.intro ?_
  (repeat apply Exists.intro)
  exact ⟨P.out.same HU1.out, rfl⟩
end Go.Proofs.Ytcaccbjolgjmkaa
