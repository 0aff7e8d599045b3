/-
  SeqPlays of rialtolaw13: one act, as its text runs: Move.
-/
import Derived.Test.YtbnkddnjfkagkaaQyArm
namespace Go.Proofs.Ytbnkddnjfkagkaa
open Go.ChangeShapes Go.WideShapes Go.ChangeAt Go.RowKit
set_option linter.unusedVariables false
set_option maxRecDepth 100000
attribute [local go_sem ↓] Go.wp_at_zero Go.wp_at_succ

variable {w W : World} {q T M : Nat} {xs : List Int} {h n : Nat} {f : Int → Option Nat} {am : Option Addr} {nm cm sb : Nat} {sw si bf id : Int} {ia : Option Addr} {inn ic : Nat} {ids : List Int}
set_option maxHeartbeats 8000000 in
theorem qy_movno (p : QyAt w q T M xs h n f am nm cm sb id bf si ia inn ic ids W) (hsw : sw = 4 ∨ sw = 5) (hno : id ∉ xs ∨ (bf ≠ 0 ∧ bf ∉ xs)) (u0 u1 u2 u5 u8 u15 u16 u17 u18 u19 u20 u21 u22 u23 u24 u25 u26 u27 u28 u29 u30 u31 u32 u33 u34 u35 u36 u37 u38 u39 u40 u41 u42 u43 u44 u45 u46 u47 u48 u49 u50 u51 u52 u53 u54 u55 u56 u57 u58 u59 u60 u61 u63 u64 u65 u66 u67 u68 u69 u70 u71 u72 u73 u74 u75 u76 u77 u78 u79 u80 u81 u82 u83 u84 u85 u86 u87 u88 u89 u90 u91 u92 u93 u94 u95 u96 u97 u98 u99 u100 u101 u102 u103 u104 u105 u106 u107 u108 u109 u110 u111 u112 u113 u114 u115 u116 u117 u118 u119 u120 u121 u122 u123 u124 u125 u126 u127 u128 u129 u130 u131 u132 u133 u134 u135 u136 u137 u138 u139 u140 u141 u142 u143 u144 u145 u146 u147 u148 u149 u150 u151 u152 u153 u154 u155 u156 u157 u158 u159 u160 u161 u162 u163 u164 u165 u166 u167 u168 u169 u170 u171 u172 u173 u174 u175 u176 u177 u178 u179 u180 u181 u182 u183 u184 u185 u186 u187 u188 u189 u190 u191 u192 u193 u194 u195 u196 u197 u198 u199 u200 u201 u202 u203 u204 u205 u206 u207 u208 u209 u210 u211 u212 u213 u214 u215 u216 u217 u218 u219 u220 u221 u222 u223 u224 u225 u226 u227 u228 u229 u230 u231 u232 u233 u234 u235 u236 u237 u238 u239 u240 u241 u242 u243 u244 u245 u246 u247 u248 u249 u250 u251 u252 u253 u254 u255 u256 u257 u258 u259 u260 u261 u262 u263 u264 u265 u266 u267 u268 u269 u270 u271 u272 u273 u274 u275 u276 u277 u278 u279 u280 u281 u282 u283 u284 u285 u286 : Value) (K : Act → World → Prop) (Q : Exit → Act → World → Prop)
    (hK : ∀ a' w', Met (QyJ w q T M xs n nm sb id si sw u0 u1 u2 u5 u8 u16 u17 u18 u19 u20 u21 u22 u23 u24 u25 u26 u27 u28 u29 u30 u31 u32 u33 u34 u35 u36 u37 u38 u39 u40 u41 u42 u43 u44 u45 u46 u47 u48 u49 u50 u51 u52 u53 u54 u55 u56 u57 u58 u59 u60 u61 u183 u184 u185 u186 u187 u188 u189 u190 u191 u192 u193 u194 u195 u196 u197 u198 u199 u200 u201 u202 u203 u204 u205 u206 u207 u208 u209 u210 u211 u212 u213 u214 u215 u216 u217 u218 u219 u220 u221 u222 u223 u224 u225 u226 u227 u228 u229 u230 u231 u232 u233 u234 u235 u236 u237 u238 u239 u240 u241 u242 u243 u244 u245 u246 u247 u248 u249 u250 u251 u252 u253 u254 u255 u256 u257 u258 u259 u260 u261 u262 u263 u264 u265 u266 u267 u268 u269 u270 u271 u272 u273 u274 u275 u276 u277 u278 u279 u280 u281 u282 u283 u284 u285 u286) a' w' → K a' w') :
    Code.wp Try.prog ((Try.f3.body.bind (blkQ 2)).getD .skip) (Exit.then K Q) ⟨#[u0, u1, u2, .pointer (some ⟨q, 0, none⟩), .slice am nm cm, u5, .pointer (some ⟨sb, 0, none⟩), .int .i64 nm, u8, .int .i64 (fdI xs id), .int .i64 0, .int .i64 0, .int .i64 0, .int .i64 0, .int .i64 1, u15, u16, u17, u18, u19, u20, u21, u22, u23, u24, u25, u26, u27, u28, u29, u30, u31, u32, u33, u34, u35, u36, u37, u38, u39, u40, u41, u42, u43, u44, u45, u46, u47, u48, u49, u50, u51, u52, u53, u54, u55, u56, u57, u58, u59, u60, u61, .int .i64 sw, u63, u64, u65, u66, u67, u68, u69, u70, u71, u72, u73, u74, u75, u76, u77, u78, u79, u80, u81, u82, u83, u84, u85, u86, u87, u88, u89, u90, u91, u92, u93, u94, u95, u96, u97, u98, u99, u100, u101, u102, u103, u104, u105, u106, u107, u108, u109, u110, u111, u112, u113, u114, u115, u116, u117, u118, u119, u120, u121, u122, u123, u124, u125, u126, u127, u128, u129, u130, u131, u132, u133, u134, u135, u136, u137, u138, u139, u140, u141, u142, u143, u144, u145, u146, u147, u148, u149, u150, u151, u152, u153, u154, u155, u156, u157, u158, u159, u160, u161, u162, u163, u164, u165, u166, u167, u168, u169, u170, u171, u172, u173, u174, u175, u176, u177, u178, u179, u180, u181, u182, u183, u184, u185, u186, u187, u188, u189, u190, u191, u192, u193, u194, u195, u196, u197, u198, u199, u200, u201, u202, u203, u204, u205, u206, u207, u208, u209, u210, u211, u212, u213, u214, u215, u216, u217, u218, u219, u220, u221, u222, u223, u224, u225, u226, u227, u228, u229, u230, u231, u232, u233, u234, u235, u236, u237, u238, u239, u240, u241, u242, u243, u244, u245, u246, u247, u248, u249, u250, u251, u252, u253, u254, u255, u256, u257, u258, u259, u260, u261, u262, u263, u264, u265, u266, u267, u268, u269, u270, u271, u272, u273, u274, u275, u276, u277, u278, u279, u280, u281, u282, u283, u284, u285, u286], []⟩ W := by
  have P := hide p
  have HC := hide (sqmove_no id bf p.ix p.wid p.wbf hno (by have := p.xl; omega))
  have HPU : Hid (∀ W', Up W W' → Calls Try.prog 16 #[.slice am nm cm, .int .i64 id, .int .i64 bf] W' fun e w' => e = .returned (.tuple #[.slice am nm cm, .int .i64 71]) ∧ w' = W') := fun W' hu => moved_none _ xs id bf (TM T M) W' (p.rd.up hu) (by have := p.xl; omega) hno
  have c1 := p.c1
  have c2 := p.c2
  unfold QyJ at hK
  clear p hno
  conv => arg 2; whnf
  rcases hsw with rfl | rfl
  all_goals
    go_wp2_with fail
    refine HC.out.mono ?_
    rintro _ w1 ⟨rfl, hu1⟩
    have HU1 := hide hu1
    replace c1 := hu1.cell c1
    replace c2 := hu1.cell c2
    clear hu1
    dsimp only
    go_wp2_with fail
    refine (HPU.out w1 HU1.out).mono ?_
    rintro _ w2 ⟨rfl, hw2⟩
    subst hw2
    dsimp only
    go_wp2
    refine Met.intro ?_
    (repeat apply Exists.intro)
    exact ⟨P.out.same HU1.out 71 (by omega) 2 (by omega), rfl⟩
set_option maxHeartbeats 8000000 in
theorem qy_mov (a t : Nat) (p : QyAt w q T M xs h n f am nm cm sb id bf si ia inn ic ids W) (hsw : sw = 4 ∨ sw = 5) (hid : xs[a]? = some id) (ht : TgtAt xs bf t) (u0 u1 u2 u5 u8 u15 u16 u17 u18 u19 u20 u21 u22 u23 u24 u25 u26 u27 u28 u29 u30 u31 u32 u33 u34 u35 u36 u37 u38 u39 u40 u41 u42 u43 u44 u45 u46 u47 u48 u49 u50 u51 u52 u53 u54 u55 u56 u57 u58 u59 u60 u61 u63 u64 u65 u66 u67 u68 u69 u70 u71 u72 u73 u74 u75 u76 u77 u78 u79 u80 u81 u82 u83 u84 u85 u86 u87 u88 u89 u90 u91 u92 u93 u94 u95 u96 u97 u98 u99 u100 u101 u102 u103 u104 u105 u106 u107 u108 u109 u110 u111 u112 u113 u114 u115 u116 u117 u118 u119 u120 u121 u122 u123 u124 u125 u126 u127 u128 u129 u130 u131 u132 u133 u134 u135 u136 u137 u138 u139 u140 u141 u142 u143 u144 u145 u146 u147 u148 u149 u150 u151 u152 u153 u154 u155 u156 u157 u158 u159 u160 u161 u162 u163 u164 u165 u166 u167 u168 u169 u170 u171 u172 u173 u174 u175 u176 u177 u178 u179 u180 u181 u182 u183 u184 u185 u186 u187 u188 u189 u190 u191 u192 u193 u194 u195 u196 u197 u198 u199 u200 u201 u202 u203 u204 u205 u206 u207 u208 u209 u210 u211 u212 u213 u214 u215 u216 u217 u218 u219 u220 u221 u222 u223 u224 u225 u226 u227 u228 u229 u230 u231 u232 u233 u234 u235 u236 u237 u238 u239 u240 u241 u242 u243 u244 u245 u246 u247 u248 u249 u250 u251 u252 u253 u254 u255 u256 u257 u258 u259 u260 u261 u262 u263 u264 u265 u266 u267 u268 u269 u270 u271 u272 u273 u274 u275 u276 u277 u278 u279 u280 u281 u282 u283 u284 u285 u286 : Value) (K : Act → World → Prop) (Q : Exit → Act → World → Prop)
    (hK : ∀ a' w', Met (QyJ w q T M xs n nm sb id si sw u0 u1 u2 u5 u8 u16 u17 u18 u19 u20 u21 u22 u23 u24 u25 u26 u27 u28 u29 u30 u31 u32 u33 u34 u35 u36 u37 u38 u39 u40 u41 u42 u43 u44 u45 u46 u47 u48 u49 u50 u51 u52 u53 u54 u55 u56 u57 u58 u59 u60 u61 u183 u184 u185 u186 u187 u188 u189 u190 u191 u192 u193 u194 u195 u196 u197 u198 u199 u200 u201 u202 u203 u204 u205 u206 u207 u208 u209 u210 u211 u212 u213 u214 u215 u216 u217 u218 u219 u220 u221 u222 u223 u224 u225 u226 u227 u228 u229 u230 u231 u232 u233 u234 u235 u236 u237 u238 u239 u240 u241 u242 u243 u244 u245 u246 u247 u248 u249 u250 u251 u252 u253 u254 u255 u256 u257 u258 u259 u260 u261 u262 u263 u264 u265 u266 u267 u268 u269 u270 u271 u272 u273 u274 u275 u276 u277 u278 u279 u280 u281 u282 u283 u284 u285 u286) a' w' → K a' w') :
    Code.wp Try.prog ((Try.f3.body.bind (blkQ 2)).getD .skip) (Exit.then K Q) ⟨#[u0, u1, u2, .pointer (some ⟨q, 0, none⟩), .slice am nm cm, u5, .pointer (some ⟨sb, 0, none⟩), .int .i64 nm, u8, .int .i64 (fdI xs id), .int .i64 0, .int .i64 0, .int .i64 0, .int .i64 0, .int .i64 1, u15, u16, u17, u18, u19, u20, u21, u22, u23, u24, u25, u26, u27, u28, u29, u30, u31, u32, u33, u34, u35, u36, u37, u38, u39, u40, u41, u42, u43, u44, u45, u46, u47, u48, u49, u50, u51, u52, u53, u54, u55, u56, u57, u58, u59, u60, u61, .int .i64 sw, u63, u64, u65, u66, u67, u68, u69, u70, u71, u72, u73, u74, u75, u76, u77, u78, u79, u80, u81, u82, u83, u84, u85, u86, u87, u88, u89, u90, u91, u92, u93, u94, u95, u96, u97, u98, u99, u100, u101, u102, u103, u104, u105, u106, u107, u108, u109, u110, u111, u112, u113, u114, u115, u116, u117, u118, u119, u120, u121, u122, u123, u124, u125, u126, u127, u128, u129, u130, u131, u132, u133, u134, u135, u136, u137, u138, u139, u140, u141, u142, u143, u144, u145, u146, u147, u148, u149, u150, u151, u152, u153, u154, u155, u156, u157, u158, u159, u160, u161, u162, u163, u164, u165, u166, u167, u168, u169, u170, u171, u172, u173, u174, u175, u176, u177, u178, u179, u180, u181, u182, u183, u184, u185, u186, u187, u188, u189, u190, u191, u192, u193, u194, u195, u196, u197, u198, u199, u200, u201, u202, u203, u204, u205, u206, u207, u208, u209, u210, u211, u212, u213, u214, u215, u216, u217, u218, u219, u220, u221, u222, u223, u224, u225, u226, u227, u228, u229, u230, u231, u232, u233, u234, u235, u236, u237, u238, u239, u240, u241, u242, u243, u244, u245, u246, u247, u248, u249, u250, u251, u252, u253, u254, u255, u256, u257, u258, u259, u260, u261, u262, u263, u264, u265, u266, u267, u268, u269, u270, u271, u272, u273, u274, u275, u276, u277, u278, u279, u280, u281, u282, u283, u284, u285, u286], []⟩ W := by
  have P := hide p
  obtain ⟨hax, hae⟩ := List.getElem?_eq_some_iff.1 hid
  have HC := hide (sqmove_ok a t id bf p.ix hax hae ht (by have := p.xl; omega) (by have := p.ww; omega))
  have hnd := p.ix.ok.nd
  have hxl := p.xl
  have HPU : Hid (∀ W', Chg (TM T M) W W' → Calls Try.prog 16 #[.slice am nm cm, .int .i64 id, .int .i64 bf] W' fun e w' => ∃ v', e = .returned (.tuple #[v', .int .i64 0]) ∧ Rd (Value.int .i64) (TM T M) w' v' (shL xs a t) ∧ Up W' w') := fun W' hc => moved_calls _ xs id bf a t (TM T M) W' (p.rd.chg hc) (fun y hy => by
    have h1 := p.ix.ltT
    have h2 := p.ix.ltM
    have := hc.size
    rcases hy with e | e <;> omega) (by omega) hnd hid ht p.nz
  have HML : Hid ((shL xs a t).length ≤ xs.length + 1) := by unfold Hid; rw [shL_len hax ht.le]; omega
  have c1 := p.c1
  have c2 := p.c2
  have hf := fdI_yes p.ix.ok.nd hid
  unfold QyJ at hK
  rw [hf] at hK ⊢
  clear p hid hf hax hae ht hnd hxl
  conv => arg 2; whnf
  rcases hsw with rfl | rfl
  all_goals
    go_wp2_with fail
    refine HC.out.mono ?_
    rintro _ w1 ⟨rfl, hd1⟩
    have HD := hide hd1
    obtain ⟨h', k', f', ix1, hk1, hc1⟩ := hd1
    replace c1 := tm_cell2 hc1 c1 P.out.sT P.out.sM
    replace c2 := tm_cell2 hc1 c2 P.out.sT P.out.sM
    have HP1 := hide (HPU.out w1 hc1)
    clear ix1 hk1 hc1
    dsimp only
    go_wp2_with fail
    refine HP1.out.mono ?_
    rintro _ w2 ⟨v2, rfl, hr2, hu2⟩
    have HR2 := hide hr2
    have HU2 := hide hu2
    obtain ⟨a6, n6, c6, rfl, -, -⟩ := hr2.sliceN
    clear hr2 hu2 c1 c2
    dsimp only
    go_wp2
    refine Met.intro ?_
    (repeat apply Exists.intro)
    exact ⟨P.out.done HD.out 2 (by omega) (by omega) (a : Int) HU2.out HR2.out HML.out, rfl⟩
end Go.Proofs.Ytbnkddnjfkagkaa
