/-
  SeqPlays of rialtolaw13: one act, as its text runs: Add, Erase, InsertAt.
-/
import Derived.Test.YtbnkddnjfkagkaaSqRow
import Derived.Test.YtbnkddnjfkagkaaSqPlG
import Derived.Test.YtbnkddnjfkagkaaQyStG
import Derived.Deep.Cut
import Derived.Deep.RegionHeld3
import Derived.Deep.RegionLawGrows
namespace Go.Proofs.Ytbnkddnjfkagkaa
open Go.ChangeShapes Go.WideShapes Go.ChangeAt Go.RowKit
set_option linter.unusedVariables false
set_option maxRecDepth 100000
attribute [local go_sem ↓] Go.wp_at_zero Go.wp_at_succ

/-- The block with this number. -/
def blkQ (n : Nat) : Code → Option Code
  | .block k c => if k == n then some (.block k c) else blkQ n c
  | .seq a b => match blkQ n a with
    | some c => some c
    | none => blkQ n b
  | .loop c => blkQ n c
  | .scope c => blkQ n c
  | .cond _ a b => match blkQ n a with
    | some c => some c
    | none => blkQ n b
  | _ => none
/-- append to a row that is full and need not be the call's own. -/
theorem step_append_full {α : Type} {P : Program} {t e : TypeId} {enc : α → Value} {z : Value} {bytes : Nat} (T : ElemT P t e enc z bytes) {X : Nat → Prop} {W w : World} {ops : Array Oper} {o : Oper} {a : Act} {K : Act → World → Prop} {Q : Exit → Act → World → Prop} {E : Prop}
    (hg : o.guard = none) (s x : Operand) (hop : o.op = .call { callee := .builtin .append, args := #[s, x], argTypes := #[t, t] }) (am : Option Addr) (n cm : Nat) (l : List α) (y : α) (g : Nat) (hd : a.eval s = .slice am n n) (hx : a.eval x = .slice (some ⟨g, 0, none⟩) 1 1)
    (hr : Rd enc X w (.slice am n cm) l) (hnew : w.cell? ⟨g, 0, none⟩ = some (enc y)) (hu : Up W w) (hlen : l.length + 1 ≤ 10000000)
    (hK : ∀ v' w', Own e enc w' W.heap.size v' (l ++ [y]) → Up W w' → K (a.put o.dst v') w') :
    if Region.wanted o (yielded ops a.tmps) = true then Oper.wp P o a w K Q else E := by
  obtain ⟨i0, hi, hz0, hz1, hz2⟩ := info_parts T.hi
  obtain ⟨a', cap', he, h2, h3, h4⟩ := hr
  cases he
  have hb := T.hb
  refine step_append_grows hg s x t hop e i0 z 1 bytes T.ht hi hz0 hz1 hz2 (by rw [T.zc]; rfl) (by decide) am l.length l.length (l.map enc) hd (fun hn => ?_) (by simp) (fun b hb j u hj => ?_) ⟨g, 0, none⟩ 1 1 [enc y] hx rfl (fun j u hj => ?_) (fun u hu => ?_) (by omega) (by unfold maxLen; omega) (by
    have : (l.length + 1) * bytes ≤ 10000000 * 64 := Nat.mul_le_mul hlen hb
    omega) fun v' w' h5 h6 => hK v' w' ?_ (hu.trans ((chg_row h6).up (fun x hx e => by cases e)))
  · rcases h4 with h4 | ⟨g', off, h5, _⟩
    · rw [h4]; exact ⟨rfl, rfl⟩
    · rw [hn] at h5; cases h5
  · rcases h4 with h4 | ⟨g', off, h5, _, h6⟩
    · rw [h4] at hj; simp at hj
    · rw [hb] at h5; cases h5
      rw [Addr.add_lit]; exact h6 j u hj
  · cases j with
    | zero => simp at hj; subst hj; rw [Addr.add_lit]; exact hnew
    | succ j => simp at hj
  · simp at hu; subst hu; exact T.one y
  · refine Own.base (base := w.heap.size) ?_ hu.size
    unfold Own
    rw [List.length_append, List.map_append]
    exact h5
/-- What an act leaves: its two errors are one, its two places too; the sequence and the plain row hold the same. -/
def QyMid (w : World) (q T M : Nat) (xs : List Int) (n : Nat) (sb : Nat) (id si : Int) (mv ev fv gv hv yv : Value) (wx : World) : Prop :=
  ∃ (zs : List Int) (h' k : Nat) (f' : Int → Option Nat) (c g : Int) (my : Nat), (ev = .int .i64 c ∧ fv = .int .i64 c ∧ gv = .int .i64 g ∧ hv = .int .i64 g ∧ yv = .int .i64 my) ∧ (0 ≤ c ∧ c ≤ 100) ∧ (1 ≤ my ∧ my ≤ 41) ∧ SqIx (fun _ => False) q T M zs h' (n + k) f' wx ∧ k ≤ my * (8 * bitsN (xs.length + 1)) ∧ (c ≠ 0 → k = 0) ∧
    Rd (Value.int .i64) (TM T M) wx mv zs ∧ zs.length ≤ xs.length + 1 ∧ Up w wx ∧ wx.cell? ⟨sb, 1, none⟩ = some (.int .i64 id) ∧ wx.cell? ⟨sb, 3, none⟩ = some (.int .i64 si)
set_option maxRecDepth 1000000 in
def QyJ (w : World) (q T M : Nat) (xs : List Int) (n nm sb : Nat) (id si sw : Int) (u0 u1 u2 u5 u8 u16 u17 u18 u19 u20 u21 u22 u23 u24 u25 u26 u27 u28 u29 u30 u31 u32 u33 u34 u35 u36 u37 u38 u39 u40 u41 u42 u43 u44 u45 u46 u47 u48 u49 u50 u51 u52 u53 u54 u55 u56 u57 u58 u59 u60 u61 u183 u184 u185 u186 u187 u188 u189 u190 u191 u192 u193 u194 u195 u196 u197 u198 u199 u200 u201 u202 u203 u204 u205 u206 u207 u208 u209 u210 u211 u212 u213 u214 u215 u216 u217 u218 u219 u220 u221 u222 u223 u224 u225 u226 u227 u228 u229 u230 u231 u232 u233 u234 u235 u236 u237 u238 u239 u240 u241 u242 u243 u244 u245 u246 u247 u248 u249 u250 u251 u252 u253 u254 u255 u256 u257 u258 u259 u260 u261 u262 u263 u264 u265 u266 u267 u268 u269 u270 u271 u272 u273 u274 u275 u276 u277 u278 u279 u280 u281 u282 u283 u284 u285 u286 : Value) (a : Act) (wx : World) : Prop :=
  ∃ v4 v10 v11 v12 v13 v14 v15 v63 v64 v65 v66 v67 v68 v69 v70 v71 v72 v73 v74 v75 v76 v77 v78 v79 v80 v81 v82 v83 v84 v85 v86 v87 v88 v89 v90 v91 v92 v93 v94 v95 v96 v97 v98 v99 v100 v101 v102 v103 v104 v105 v106 v107 v108 v109 v110 v111 v112 v113 v114 v115 v116 v117 v118 v119 v120 v121 v122 v123 v124 v125 v126 v127 v128 v129 v130 v131 v132 v133 v134 v135 v136 v137 v138 v139 v140 v141 v142 v143 v144 v145 v146 v147 v148 v149 v150 v151 v152 v153 v154 v155 v156 v157 v158 v159 v160 v161 v162 v163 v164 v165 v166 v167 v168 v169 v170 v171 v172 v173 v174 v175 v176 v177 v178 v179 v180 v181 v182 : Value, QyMid w q T M xs n sb id si v4 v10 v11 v12 v13 v14 wx ∧ a = ⟨#[u0, u1, u2, .pointer (some ⟨q, 0, none⟩), v4, u5, .pointer (some ⟨sb, 0, none⟩), .int .i64 nm, u8, .int .i64 (fdI xs id), v10, v11, v12, v13, v14, v15, u16, u17, u18, u19, u20, u21, u22, u23, u24, u25, u26, u27, u28, u29, u30, u31, u32, u33, u34, u35, u36, u37, u38, u39, u40, u41, u42, u43, u44, u45, u46, u47, u48, u49, u50, u51, u52, u53, u54, u55, u56, u57, u58, u59, u60, u61, .int .i64 sw, v63, v64, v65, v66, v67, v68, v69, v70, v71, v72, v73, v74, v75, v76, v77, v78, v79, v80, v81, v82, v83, v84, v85, v86, v87, v88, v89, v90, v91, v92, v93, v94, v95, v96, v97, v98, v99, v100, v101, v102, v103, v104, v105, v106, v107, v108, v109, v110, v111, v112, v113, v114, v115, v116, v117, v118, v119, v120, v121, v122, v123, v124, v125, v126, v127, v128, v129, v130, v131, v132, v133, v134, v135, v136, v137, v138, v139, v140, v141, v142, v143, v144, v145, v146, v147, v148, v149, v150, v151, v152, v153, v154, v155, v156, v157, v158, v159, v160, v161, v162, v163, v164, v165, v166, v167, v168, v169, v170, v171, v172, v173, v174, v175, v176, v177, v178, v179, v180, v181, v182, u183, u184, u185, u186, u187, u188, u189, u190, u191, u192, u193, u194, u195, u196, u197, u198, u199, u200, u201, u202, u203, u204, u205, u206, u207, u208, u209, u210, u211, u212, u213, u214, u215, u216, u217, u218, u219, u220, u221, u222, u223, u224, u225, u226, u227, u228, u229, u230, u231, u232, u233, u234, u235, u236, u237, u238, u239, u240, u241, u242, u243, u244, u245, u246, u247, u248, u249, u250, u251, u252, u253, u254, u255, u256, u257, u258, u259, u260, u261, u262, u263, u264, u265, u266, u267, u268, u269, u270, u271, u272, u273, u274, u275, u276, u277, u278, u279, u280, u281, u282, u283, u284, u285, u286], []⟩
/-- What stands where an act begins. -/
structure QyAt (w : World) (q T M : Nat) (xs : List Int) (h n : Nat) (f : Int → Option Nat) (am : Option Addr) (nm cm sb : Nat) (id bf si : Int) (ia : Option Addr) (inn ic : Nat) (ids : List Int) (W : World) : Prop where
  c1 : W.cell? ⟨sb, 1, none⟩ = some (.int .i64 id)
  c2 : W.cell? ⟨sb, 2, none⟩ = some (.int .i64 bf)
  c3 : W.cell? ⟨sb, 3, none⟩ = some (.int .i64 si)
  c4 : W.cell? ⟨sb, 4, none⟩ = some (.slice ia inn ic)
  ix : SqIx (fun _ => False) q T M xs h n f W
  rd : Rd (Value.int .i64) (TM T M) W (.slice am nm cm) xs
  len : nm = xs.length
  lec : nm ≤ cm
  few : nm ≤ 80
  ww : n ≤ 1000000
  wid : wf64 id
  wbf : wf64 bf
  nz : id ≠ 0
  rids : Rd (Value.int .i64) (fun y => W.heap.size ≤ y) W (.slice ia inn ic) ids
  idn : inn = ids.length
  id20 : inn ≤ 20
  widz : ∀ z ∈ ids, wf64 z ∧ z ≠ 0
  hup : Up w W
  sT : sb ≠ T
  sM : sb ≠ M
  hT : w.heap.size ≤ T
  hM : w.heap.size ≤ M
  ridw : Rd (Value.int .i64) (fun _ => False) w (.slice ia inn ic) ids
variable {w W : World} {q T M : Nat} {xs : List Int} {h n : Nat} {f : Int → Option Nat} {am : Option Addr} {nm cm sb : Nat} {sw si bf id : Int} {ia : Option Addr} {inn ic : Nat} {ids : List Int}
theorem QyAt.xl (p : QyAt w q T M xs h n f am nm cm sb id bf si ia inn ic ids W) : xs.length ≤ 80 := by have := p.len; have := p.few; omega
/-- An act that changes nothing. -/
theorem QyAt.same (p : QyAt w q T M xs h n f am nm cm sb id bf si ia inn ic ids W) {w' : World} (hu : Up W w') (c : Int) (hc : 0 ≤ c ∧ c ≤ 100) (my : Nat) (hm : 1 ≤ my ∧ my ≤ 41) : QyMid w q T M xs n sb id si (.slice am nm cm) (.int .i64 c) (.int .i64 c) (.int .i64 0) (.int .i64 0) (.int .i64 my) w' :=
  ⟨xs, h, 0, f, c, 0, my, ⟨rfl, rfl, rfl, rfl, rfl⟩, hc, hm, p.ix.up hu, Nat.zero_le _, fun _ => rfl, p.rd.up hu, Nat.le_succ _, p.hup.trans hu, hu.cell p.c1, hu.cell p.c3⟩
/-- A change that was done, and what the plain row is then. -/
theorem QyAt.done (p : QyAt w q T M xs h n f am nm cm sb id bf si ia inn ic ids W) {zs : List Int} {K : Nat} {w1 w2 : World} (d : SqDone (fun _ => False) q T M zs n K W w1) (my : Nat) (hm : 1 ≤ my ∧ my ≤ 41) (hK : K ≤ my * (8 * bitsN (xs.length + 1))) (g : Int) (hu : Up w1 w2) {mv : Value} (hr : Rd (Value.int .i64) (TM T M) w2 mv zs) (hz : zs.length ≤ xs.length + 1) :
    QyMid w q T M xs n sb id si mv (.int .i64 0) (.int .i64 0) (.int .i64 g) (.int .i64 g) (.int .i64 my) w2 := by
  obtain ⟨h', k, f', ix, hk, hc⟩ := d
  exact ⟨zs, h', k, f', 0, g, my, ⟨rfl, rfl, rfl, rfl, rfl⟩, by omega, hm, ix.up hu, by omega, fun e => absurd rfl e, hr, hz, (up_of_tm p.hup p.hT p.hM hc).trans hu, hu.cell (tm_cell2 hc p.c1 p.sT p.sM), hu.cell (tm_cell2 hc p.c3 p.sT p.sM)⟩
set_option maxHeartbeats 8000000 in
theorem qy_there (p : QyAt w q T M xs h n f am nm cm sb id bf si ia inn ic ids W) (hsw : sw = 0 ∨ sw = 1 ∨ sw = 2) (hid : id ∈ xs) (u0 u1 u2 u5 u8 u15 u16 u17 u18 u19 u20 u21 u22 u23 u24 u25 u26 u27 u28 u29 u30 u31 u32 u33 u34 u35 u36 u37 u38 u39 u40 u41 u42 u43 u44 u45 u46 u47 u48 u49 u50 u51 u52 u53 u54 u55 u56 u57 u58 u59 u60 u61 u63 u64 u65 u66 u67 u68 u69 u70 u71 u72 u73 u74 u75 u76 u77 u78 u79 u80 u81 u82 u83 u84 u85 u86 u87 u88 u89 u90 u91 u92 u93 u94 u95 u96 u97 u98 u99 u100 u101 u102 u103 u104 u105 u106 u107 u108 u109 u110 u111 u112 u113 u114 u115 u116 u117 u118 u119 u120 u121 u122 u123 u124 u125 u126 u127 u128 u129 u130 u131 u132 u133 u134 u135 u136 u137 u138 u139 u140 u141 u142 u143 u144 u145 u146 u147 u148 u149 u150 u151 u152 u153 u154 u155 u156 u157 u158 u159 u160 u161 u162 u163 u164 u165 u166 u167 u168 u169 u170 u171 u172 u173 u174 u175 u176 u177 u178 u179 u180 u181 u182 u183 u184 u185 u186 u187 u188 u189 u190 u191 u192 u193 u194 u195 u196 u197 u198 u199 u200 u201 u202 u203 u204 u205 u206 u207 u208 u209 u210 u211 u212 u213 u214 u215 u216 u217 u218 u219 u220 u221 u222 u223 u224 u225 u226 u227 u228 u229 u230 u231 u232 u233 u234 u235 u236 u237 u238 u239 u240 u241 u242 u243 u244 u245 u246 u247 u248 u249 u250 u251 u252 u253 u254 u255 u256 u257 u258 u259 u260 u261 u262 u263 u264 u265 u266 u267 u268 u269 u270 u271 u272 u273 u274 u275 u276 u277 u278 u279 u280 u281 u282 u283 u284 u285 u286 : Value) (K : Act → World → Prop) (Q : Exit → Act → World → Prop)
    (hK : ∀ a' w', Met (QyJ w q T M xs n nm sb id si sw u0 u1 u2 u5 u8 u16 u17 u18 u19 u20 u21 u22 u23 u24 u25 u26 u27 u28 u29 u30 u31 u32 u33 u34 u35 u36 u37 u38 u39 u40 u41 u42 u43 u44 u45 u46 u47 u48 u49 u50 u51 u52 u53 u54 u55 u56 u57 u58 u59 u60 u61 u183 u184 u185 u186 u187 u188 u189 u190 u191 u192 u193 u194 u195 u196 u197 u198 u199 u200 u201 u202 u203 u204 u205 u206 u207 u208 u209 u210 u211 u212 u213 u214 u215 u216 u217 u218 u219 u220 u221 u222 u223 u224 u225 u226 u227 u228 u229 u230 u231 u232 u233 u234 u235 u236 u237 u238 u239 u240 u241 u242 u243 u244 u245 u246 u247 u248 u249 u250 u251 u252 u253 u254 u255 u256 u257 u258 u259 u260 u261 u262 u263 u264 u265 u266 u267 u268 u269 u270 u271 u272 u273 u274 u275 u276 u277 u278 u279 u280 u281 u282 u283 u284 u285 u286) a' w' → K a' w') :
    Code.wp Try.prog ((Try.f3.body.bind (blkQ 2)).getD .skip) (Exit.then K Q) ⟨#[u0, u1, u2, .pointer (some ⟨q, 0, none⟩), .slice am nm cm, u5, .pointer (some ⟨sb, 0, none⟩), .int .i64 nm, u8, .int .i64 (fdI xs id), .int .i64 0, .int .i64 0, .int .i64 0, .int .i64 0, .int .i64 1, u15, u16, u17, u18, u19, u20, u21, u22, u23, u24, u25, u26, u27, u28, u29, u30, u31, u32, u33, u34, u35, u36, u37, u38, u39, u40, u41, u42, u43, u44, u45, u46, u47, u48, u49, u50, u51, u52, u53, u54, u55, u56, u57, u58, u59, u60, u61, .int .i64 sw, u63, u64, u65, u66, u67, u68, u69, u70, u71, u72, u73, u74, u75, u76, u77, u78, u79, u80, u81, u82, u83, u84, u85, u86, u87, u88, u89, u90, u91, u92, u93, u94, u95, u96, u97, u98, u99, u100, u101, u102, u103, u104, u105, u106, u107, u108, u109, u110, u111, u112, u113, u114, u115, u116, u117, u118, u119, u120, u121, u122, u123, u124, u125, u126, u127, u128, u129, u130, u131, u132, u133, u134, u135, u136, u137, u138, u139, u140, u141, u142, u143, u144, u145, u146, u147, u148, u149, u150, u151, u152, u153, u154, u155, u156, u157, u158, u159, u160, u161, u162, u163, u164, u165, u166, u167, u168, u169, u170, u171, u172, u173, u174, u175, u176, u177, u178, u179, u180, u181, u182, u183, u184, u185, u186, u187, u188, u189, u190, u191, u192, u193, u194, u195, u196, u197, u198, u199, u200, u201, u202, u203, u204, u205, u206, u207, u208, u209, u210, u211, u212, u213, u214, u215, u216, u217, u218, u219, u220, u221, u222, u223, u224, u225, u226, u227, u228, u229, u230, u231, u232, u233, u234, u235, u236, u237, u238, u239, u240, u241, u242, u243, u244, u245, u246, u247, u248, u249, u250, u251, u252, u253, u254, u255, u256, u257, u258, u259, u260, u261, u262, u263, u264, u265, u266, u267, u268, u269, u270, u271, u272, u273, u274, u275, u276, u277, u278, u279, u280, u281, u282, u283, u284, u285, u286], []⟩ W := by
  have P := hide p
  have HC := hide (sqadd_there id p.ix p.wid hid)
  have c1 := p.c1
  obtain ⟨k, hk⟩ := fdI_mem hid
  have d0 : decide ((k : Int) ≥ 0) = true := decide_eq_true (by omega)
  have d0' : decide (0 ≤ (k : Int)) = true := decide_eq_true (by omega)
  unfold QyJ at hK
  rw [hk] at hK ⊢
  clear p hid hk
  conv => arg 2; whnf
  rcases hsw with rfl | rfl | rfl
  all_goals
    go_wp2_with fail
    refine HC.out.mono ?_
    rintro _ w1 ⟨rfl, hu1⟩
    have HU1 := hide hu1
    clear hu1 c1
    dsimp only
    go_wp2
    refine Met.intro ?_
    (repeat apply Exists.intro)
    exact ⟨P.out.same HU1.out 72 (by omega) 1 (by omega), rfl⟩
set_option maxHeartbeats 8000000 in
theorem qy_add (p : QyAt w q T M xs h n f am nm cm sb id bf si ia inn ic ids W) (hsw : sw = 0 ∨ sw = 1 ∨ sw = 2) (hid : id ∉ xs) (u0 u1 u2 u5 u8 u15 u16 u17 u18 u19 u20 u21 u22 u23 u24 u25 u26 u27 u28 u29 u30 u31 u32 u33 u34 u35 u36 u37 u38 u39 u40 u41 u42 u43 u44 u45 u46 u47 u48 u49 u50 u51 u52 u53 u54 u55 u56 u57 u58 u59 u60 u61 u63 u64 u65 u66 u67 u68 u69 u70 u71 u72 u73 u74 u75 u76 u77 u78 u79 u80 u81 u82 u83 u84 u85 u86 u87 u88 u89 u90 u91 u92 u93 u94 u95 u96 u97 u98 u99 u100 u101 u102 u103 u104 u105 u106 u107 u108 u109 u110 u111 u112 u113 u114 u115 u116 u117 u118 u119 u120 u121 u122 u123 u124 u125 u126 u127 u128 u129 u130 u131 u132 u133 u134 u135 u136 u137 u138 u139 u140 u141 u142 u143 u144 u145 u146 u147 u148 u149 u150 u151 u152 u153 u154 u155 u156 u157 u158 u159 u160 u161 u162 u163 u164 u165 u166 u167 u168 u169 u170 u171 u172 u173 u174 u175 u176 u177 u178 u179 u180 u181 u182 u183 u184 u185 u186 u187 u188 u189 u190 u191 u192 u193 u194 u195 u196 u197 u198 u199 u200 u201 u202 u203 u204 u205 u206 u207 u208 u209 u210 u211 u212 u213 u214 u215 u216 u217 u218 u219 u220 u221 u222 u223 u224 u225 u226 u227 u228 u229 u230 u231 u232 u233 u234 u235 u236 u237 u238 u239 u240 u241 u242 u243 u244 u245 u246 u247 u248 u249 u250 u251 u252 u253 u254 u255 u256 u257 u258 u259 u260 u261 u262 u263 u264 u265 u266 u267 u268 u269 u270 u271 u272 u273 u274 u275 u276 u277 u278 u279 u280 u281 u282 u283 u284 u285 u286 : Value) (K : Act → World → Prop) (Q : Exit → Act → World → Prop)
    (hK : ∀ a' w', Met (QyJ w q T M xs n nm sb id si sw u0 u1 u2 u5 u8 u16 u17 u18 u19 u20 u21 u22 u23 u24 u25 u26 u27 u28 u29 u30 u31 u32 u33 u34 u35 u36 u37 u38 u39 u40 u41 u42 u43 u44 u45 u46 u47 u48 u49 u50 u51 u52 u53 u54 u55 u56 u57 u58 u59 u60 u61 u183 u184 u185 u186 u187 u188 u189 u190 u191 u192 u193 u194 u195 u196 u197 u198 u199 u200 u201 u202 u203 u204 u205 u206 u207 u208 u209 u210 u211 u212 u213 u214 u215 u216 u217 u218 u219 u220 u221 u222 u223 u224 u225 u226 u227 u228 u229 u230 u231 u232 u233 u234 u235 u236 u237 u238 u239 u240 u241 u242 u243 u244 u245 u246 u247 u248 u249 u250 u251 u252 u253 u254 u255 u256 u257 u258 u259 u260 u261 u262 u263 u264 u265 u266 u267 u268 u269 u270 u271 u272 u273 u274 u275 u276 u277 u278 u279 u280 u281 u282 u283 u284 u285 u286) a' w' → K a' w') :
    Code.wp Try.prog ((Try.f3.body.bind (blkQ 2)).getD .skip) (Exit.then K Q) ⟨#[u0, u1, u2, .pointer (some ⟨q, 0, none⟩), .slice am nm cm, u5, .pointer (some ⟨sb, 0, none⟩), .int .i64 nm, u8, .int .i64 (fdI xs id), .int .i64 0, .int .i64 0, .int .i64 0, .int .i64 0, .int .i64 1, u15, u16, u17, u18, u19, u20, u21, u22, u23, u24, u25, u26, u27, u28, u29, u30, u31, u32, u33, u34, u35, u36, u37, u38, u39, u40, u41, u42, u43, u44, u45, u46, u47, u48, u49, u50, u51, u52, u53, u54, u55, u56, u57, u58, u59, u60, u61, .int .i64 sw, u63, u64, u65, u66, u67, u68, u69, u70, u71, u72, u73, u74, u75, u76, u77, u78, u79, u80, u81, u82, u83, u84, u85, u86, u87, u88, u89, u90, u91, u92, u93, u94, u95, u96, u97, u98, u99, u100, u101, u102, u103, u104, u105, u106, u107, u108, u109, u110, u111, u112, u113, u114, u115, u116, u117, u118, u119, u120, u121, u122, u123, u124, u125, u126, u127, u128, u129, u130, u131, u132, u133, u134, u135, u136, u137, u138, u139, u140, u141, u142, u143, u144, u145, u146, u147, u148, u149, u150, u151, u152, u153, u154, u155, u156, u157, u158, u159, u160, u161, u162, u163, u164, u165, u166, u167, u168, u169, u170, u171, u172, u173, u174, u175, u176, u177, u178, u179, u180, u181, u182, u183, u184, u185, u186, u187, u188, u189, u190, u191, u192, u193, u194, u195, u196, u197, u198, u199, u200, u201, u202, u203, u204, u205, u206, u207, u208, u209, u210, u211, u212, u213, u214, u215, u216, u217, u218, u219, u220, u221, u222, u223, u224, u225, u226, u227, u228, u229, u230, u231, u232, u233, u234, u235, u236, u237, u238, u239, u240, u241, u242, u243, u244, u245, u246, u247, u248, u249, u250, u251, u252, u253, u254, u255, u256, u257, u258, u259, u260, u261, u262, u263, u264, u265, u266, u267, u268, u269, u270, u271, u272, u273, u274, u275, u276, u277, u278, u279, u280, u281, u282, u283, u284, u285, u286], []⟩ W := by
  have P := hide p
  have HC := hide (sqadd_ok id p.ix p.wid hid (by have := p.xl; omega) (by have := p.ww; omega))
  have c1 := p.c1
  have hf := fdI_no hid
  have d0 : decide ((-1 : Int) ≥ 0) = false := decide_eq_false (by omega)
  have hfew := p.few
  have n0 : (0 : Int) ≤ (nm : Int) := by omega
  have nc : (nm : Int) ≤ (cm : Int) := by have := p.lec; omega
  have HXL : Hid (xs.length ≤ 80) := p.xl
  unfold QyJ at hK
  rw [hf] at hK ⊢
  clear p hid hf
  conv => arg 2; whnf
  rcases hsw with rfl | rfl | rfl
  all_goals
    go_wp2_with fail
    refine HC.out.mono ?_
    rintro _ w1 ⟨rfl, hd1⟩
    have HD := hide hd1
    obtain ⟨h', k', f', ix1, hk1, hc1⟩ := hd1
    have hlt : Hid (T < w1.heap.size ∧ M < w1.heap.size) := ⟨ix1.ltT, ix1.ltM⟩
    have HM1 : Hid (Rd (Value.int .i64) (TM T M) w1 (.slice am nm cm) xs) := P.out.rd.chg hc1
    have y1 := tm_cell2 hc1 c1 P.out.sT P.out.sM
    clear c1 ix1 hk1 hc1
    dsimp only
    go_wp2_with fail
    --A1
    refine wp_region_noPanic ?_
    have HSK : Hid (∀ w', Up w1 w' → (Up w1 w' ∧ w'.cell? ⟨sb, 1, none⟩ = some (.int .i64 id))) := fun w' hu => ⟨hu, hu.cell y1⟩
    go_region_held3 (fun w' => Up w1 w' ∧ w'.cell? ⟨sb, 1, none⟩ = some (.int .i64 id)) (exact HSK.out _ (by repeat' (with_reducible first | assumption | exact Up.refl _ | apply Up.alloc | apply Up.drew)))
      (first
        | (refine step_append_full elemL (W := w1) rfl _ _ rfl am nm cm xs id _ rfl rfl (Rd.up HM1.out (by repeat' (with_reducible first | assumption | exact Up.refl _ | apply Up.alloc | apply Up.drew))) (by go_simp) (by repeat' (with_reducible first | assumption | exact Up.refl _ | apply Up.alloc | apply Up.drew)) (by have := HXL.out; omega) ?_; intro v5 w5 ho5 hu5))
    all_goals
      obtain ⟨a6, n6, c6, rfl, -, -⟩ := ho5.sliceN
      have HO6 := hide ho5
      have HU6 := hide hu5
      clear ho5 hu5
      go_wp2
      all_goals
        refine hK _ _ (Met.intro ?_)
        (repeat apply Exists.intro)
        refine ⟨P.out.done HD.out 1 (by omega) (by omega) 0 HU6.out (zs := xs ++ [id]) ?_ (by rw [List.length_append]; simp), rfl⟩
        exact Own.rd HO6.out (fun g hg e => by
          have := (Own.lt HO6.out g hg).1
          have := hlt.out
          rcases e with e | e <;> omega)
end Go.Proofs.Ytbnkddnjfkagkaa
