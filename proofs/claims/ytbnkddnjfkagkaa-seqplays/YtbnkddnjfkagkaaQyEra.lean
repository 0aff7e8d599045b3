/-
  SeqPlays of rialtolaw13: one act, as its text runs: Erase, InsertAt.
-/
import Derived.Test.YtbnkddnjfkagkaaQyArm
namespace Go.Proofs.Ytbnkddnjfkagkaa
open Go.ChangeShapes Go.WideShapes Go.ChangeAt Go.RowKit
set_option linter.unusedVariables false
set_option maxRecDepth 100000
attribute [local go_sem ↓] Go.wp_at_zero Go.wp_at_succ

variable {w W : World} {q T M : Nat} {xs : List Int} {h n : Nat} {f : Int → Option Nat} {am : Option Addr} {nm cm sb : Nat} {sw si bf id : Int} {ia : Option Addr} {inn ic : Nat} {ids : List Int}
set_option maxHeartbeats 8000000 in
theorem qy_erano (p : QyAt w q T M xs h n f am nm cm sb id bf si ia inn ic ids W) (hsw : sw = 3) (hid : id ∉ xs) (u0 u1 u2 u5 u8 u15 u16 u17 u18 u19 u20 u21 u22 u23 u24 u25 u26 u27 u28 u29 u30 u31 u32 u33 u34 u35 u36 u37 u38 u39 u40 u41 u42 u43 u44 u45 u46 u47 u48 u49 u50 u51 u52 u53 u54 u55 u56 u57 u58 u59 u60 u61 u63 u64 u65 u66 u67 u68 u69 u70 u71 u72 u73 u74 u75 u76 u77 u78 u79 u80 u81 u82 u83 u84 u85 u86 u87 u88 u89 u90 u91 u92 u93 u94 u95 u96 u97 u98 u99 u100 u101 u102 u103 u104 u105 u106 u107 u108 u109 u110 u111 u112 u113 u114 u115 u116 u117 u118 u119 u120 u121 u122 u123 u124 u125 u126 u127 u128 u129 u130 u131 u132 u133 u134 u135 u136 u137 u138 u139 u140 u141 u142 u143 u144 u145 u146 u147 u148 u149 u150 u151 u152 u153 u154 u155 u156 u157 u158 u159 u160 u161 u162 u163 u164 u165 u166 u167 u168 u169 u170 u171 u172 u173 u174 u175 u176 u177 u178 u179 u180 u181 u182 u183 u184 u185 u186 u187 u188 u189 u190 u191 u192 u193 u194 u195 u196 u197 u198 u199 u200 u201 u202 u203 u204 u205 u206 u207 u208 u209 u210 u211 u212 u213 u214 u215 u216 u217 u218 u219 u220 u221 u222 u223 u224 u225 u226 u227 u228 u229 u230 u231 u232 u233 u234 u235 u236 u237 u238 u239 u240 u241 u242 u243 u244 u245 u246 u247 u248 u249 u250 u251 u252 u253 u254 u255 u256 u257 u258 u259 u260 u261 u262 u263 u264 u265 u266 u267 u268 u269 u270 u271 u272 u273 u274 u275 u276 u277 u278 u279 u280 u281 u282 u283 u284 u285 u286 : Value) (K : Act → World → Prop) (Q : Exit → Act → World → Prop)
    (hK : ∀ a' w', Met (QyJ w q T M xs n nm sb id si sw u0 u1 u2 u5 u8 u16 u17 u18 u19 u20 u21 u22 u23 u24 u25 u26 u27 u28 u29 u30 u31 u32 u33 u34 u35 u36 u37 u38 u39 u40 u41 u42 u43 u44 u45 u46 u47 u48 u49 u50 u51 u52 u53 u54 u55 u56 u57 u58 u59 u60 u61 u183 u184 u185 u186 u187 u188 u189 u190 u191 u192 u193 u194 u195 u196 u197 u198 u199 u200 u201 u202 u203 u204 u205 u206 u207 u208 u209 u210 u211 u212 u213 u214 u215 u216 u217 u218 u219 u220 u221 u222 u223 u224 u225 u226 u227 u228 u229 u230 u231 u232 u233 u234 u235 u236 u237 u238 u239 u240 u241 u242 u243 u244 u245 u246 u247 u248 u249 u250 u251 u252 u253 u254 u255 u256 u257 u258 u259 u260 u261 u262 u263 u264 u265 u266 u267 u268 u269 u270 u271 u272 u273 u274 u275 u276 u277 u278 u279 u280 u281 u282 u283 u284 u285 u286) a' w' → K a' w') :
    Code.wp Try.prog ((Try.f3.body.bind (blkQ 2)).getD .skip) (Exit.then K Q) ⟨#[u0, u1, u2, .pointer (some ⟨q, 0, none⟩), .slice am nm cm, u5, .pointer (some ⟨sb, 0, none⟩), .int .i64 nm, u8, .int .i64 (fdI xs id), .int .i64 0, .int .i64 0, .int .i64 0, .int .i64 0, .int .i64 1, u15, u16, u17, u18, u19, u20, u21, u22, u23, u24, u25, u26, u27, u28, u29, u30, u31, u32, u33, u34, u35, u36, u37, u38, u39, u40, u41, u42, u43, u44, u45, u46, u47, u48, u49, u50, u51, u52, u53, u54, u55, u56, u57, u58, u59, u60, u61, .int .i64 sw, u63, u64, u65, u66, u67, u68, u69, u70, u71, u72, u73, u74, u75, u76, u77, u78, u79, u80, u81, u82, u83, u84, u85, u86, u87, u88, u89, u90, u91, u92, u93, u94, u95, u96, u97, u98, u99, u100, u101, u102, u103, u104, u105, u106, u107, u108, u109, u110, u111, u112, u113, u114, u115, u116, u117, u118, u119, u120, u121, u122, u123, u124, u125, u126, u127, u128, u129, u130, u131, u132, u133, u134, u135, u136, u137, u138, u139, u140, u141, u142, u143, u144, u145, u146, u147, u148, u149, u150, u151, u152, u153, u154, u155, u156, u157, u158, u159, u160, u161, u162, u163, u164, u165, u166, u167, u168, u169, u170, u171, u172, u173, u174, u175, u176, u177, u178, u179, u180, u181, u182, u183, u184, u185, u186, u187, u188, u189, u190, u191, u192, u193, u194, u195, u196, u197, u198, u199, u200, u201, u202, u203, u204, u205, u206, u207, u208, u209, u210, u211, u212, u213, u214, u215, u216, u217, u218, u219, u220, u221, u222, u223, u224, u225, u226, u227, u228, u229, u230, u231, u232, u233, u234, u235, u236, u237, u238, u239, u240, u241, u242, u243, u244, u245, u246, u247, u248, u249, u250, u251, u252, u253, u254, u255, u256, u257, u258, u259, u260, u261, u262, u263, u264, u265, u266, u267, u268, u269, u270, u271, u272, u273, u274, u275, u276, u277, u278, u279, u280, u281, u282, u283, u284, u285, u286], []⟩ W := by
  have P := hide p
  have HC := hide (sqerase_not id p.ix p.wid hid)
  have c1 := p.c1
  have hf := fdI_no hid
  unfold QyJ at hK
  rw [hf] at hK ⊢
  subst hsw
  clear p hid hf
  conv => arg 2; whnf
  go_wp2_with fail
  refine HC.out.mono ?_
  rintro _ w1 ⟨rfl, hu1⟩
  have HU1 := hide hu1
  clear hu1 c1
  dsimp only
  go_wp2
  refine Met.intro ?_
  (repeat apply Exists.intro)
  exact ⟨P.out.same HU1.out 71 (by omega) 1 (by omega), rfl⟩
set_option maxHeartbeats 8000000 in
theorem qy_era (j : Nat) (p : QyAt w q T M xs h n f am nm cm sb id bf si ia inn ic ids W) (hsw : sw = 3) (hid : xs[j]? = some id) (u0 u1 u2 u5 u8 u15 u16 u17 u18 u19 u20 u21 u22 u23 u24 u25 u26 u27 u28 u29 u30 u31 u32 u33 u34 u35 u36 u37 u38 u39 u40 u41 u42 u43 u44 u45 u46 u47 u48 u49 u50 u51 u52 u53 u54 u55 u56 u57 u58 u59 u60 u61 u63 u64 u65 u66 u67 u68 u69 u70 u71 u72 u73 u74 u75 u76 u77 u78 u79 u80 u81 u82 u83 u84 u85 u86 u87 u88 u89 u90 u91 u92 u93 u94 u95 u96 u97 u98 u99 u100 u101 u102 u103 u104 u105 u106 u107 u108 u109 u110 u111 u112 u113 u114 u115 u116 u117 u118 u119 u120 u121 u122 u123 u124 u125 u126 u127 u128 u129 u130 u131 u132 u133 u134 u135 u136 u137 u138 u139 u140 u141 u142 u143 u144 u145 u146 u147 u148 u149 u150 u151 u152 u153 u154 u155 u156 u157 u158 u159 u160 u161 u162 u163 u164 u165 u166 u167 u168 u169 u170 u171 u172 u173 u174 u175 u176 u177 u178 u179 u180 u181 u182 u183 u184 u185 u186 u187 u188 u189 u190 u191 u192 u193 u194 u195 u196 u197 u198 u199 u200 u201 u202 u203 u204 u205 u206 u207 u208 u209 u210 u211 u212 u213 u214 u215 u216 u217 u218 u219 u220 u221 u222 u223 u224 u225 u226 u227 u228 u229 u230 u231 u232 u233 u234 u235 u236 u237 u238 u239 u240 u241 u242 u243 u244 u245 u246 u247 u248 u249 u250 u251 u252 u253 u254 u255 u256 u257 u258 u259 u260 u261 u262 u263 u264 u265 u266 u267 u268 u269 u270 u271 u272 u273 u274 u275 u276 u277 u278 u279 u280 u281 u282 u283 u284 u285 u286 : Value) (K : Act → World → Prop) (Q : Exit → Act → World → Prop)
    (hK : ∀ a' w', Met (QyJ w q T M xs n nm sb id si sw u0 u1 u2 u5 u8 u16 u17 u18 u19 u20 u21 u22 u23 u24 u25 u26 u27 u28 u29 u30 u31 u32 u33 u34 u35 u36 u37 u38 u39 u40 u41 u42 u43 u44 u45 u46 u47 u48 u49 u50 u51 u52 u53 u54 u55 u56 u57 u58 u59 u60 u61 u183 u184 u185 u186 u187 u188 u189 u190 u191 u192 u193 u194 u195 u196 u197 u198 u199 u200 u201 u202 u203 u204 u205 u206 u207 u208 u209 u210 u211 u212 u213 u214 u215 u216 u217 u218 u219 u220 u221 u222 u223 u224 u225 u226 u227 u228 u229 u230 u231 u232 u233 u234 u235 u236 u237 u238 u239 u240 u241 u242 u243 u244 u245 u246 u247 u248 u249 u250 u251 u252 u253 u254 u255 u256 u257 u258 u259 u260 u261 u262 u263 u264 u265 u266 u267 u268 u269 u270 u271 u272 u273 u274 u275 u276 u277 u278 u279 u280 u281 u282 u283 u284 u285 u286) a' w' → K a' w') :
    Code.wp Try.prog ((Try.f3.body.bind (blkQ 2)).getD .skip) (Exit.then K Q) ⟨#[u0, u1, u2, .pointer (some ⟨q, 0, none⟩), .slice am nm cm, u5, .pointer (some ⟨sb, 0, none⟩), .int .i64 nm, u8, .int .i64 (fdI xs id), .int .i64 0, .int .i64 0, .int .i64 0, .int .i64 0, .int .i64 1, u15, u16, u17, u18, u19, u20, u21, u22, u23, u24, u25, u26, u27, u28, u29, u30, u31, u32, u33, u34, u35, u36, u37, u38, u39, u40, u41, u42, u43, u44, u45, u46, u47, u48, u49, u50, u51, u52, u53, u54, u55, u56, u57, u58, u59, u60, u61, .int .i64 sw, u63, u64, u65, u66, u67, u68, u69, u70, u71, u72, u73, u74, u75, u76, u77, u78, u79, u80, u81, u82, u83, u84, u85, u86, u87, u88, u89, u90, u91, u92, u93, u94, u95, u96, u97, u98, u99, u100, u101, u102, u103, u104, u105, u106, u107, u108, u109, u110, u111, u112, u113, u114, u115, u116, u117, u118, u119, u120, u121, u122, u123, u124, u125, u126, u127, u128, u129, u130, u131, u132, u133, u134, u135, u136, u137, u138, u139, u140, u141, u142, u143, u144, u145, u146, u147, u148, u149, u150, u151, u152, u153, u154, u155, u156, u157, u158, u159, u160, u161, u162, u163, u164, u165, u166, u167, u168, u169, u170, u171, u172, u173, u174, u175, u176, u177, u178, u179, u180, u181, u182, u183, u184, u185, u186, u187, u188, u189, u190, u191, u192, u193, u194, u195, u196, u197, u198, u199, u200, u201, u202, u203, u204, u205, u206, u207, u208, u209, u210, u211, u212, u213, u214, u215, u216, u217, u218, u219, u220, u221, u222, u223, u224, u225, u226, u227, u228, u229, u230, u231, u232, u233, u234, u235, u236, u237, u238, u239, u240, u241, u242, u243, u244, u245, u246, u247, u248, u249, u250, u251, u252, u253, u254, u255, u256, u257, u258, u259, u260, u261, u262, u263, u264, u265, u266, u267, u268, u269, u270, u271, u272, u273, u274, u275, u276, u277, u278, u279, u280, u281, u282, u283, u284, u285, u286], []⟩ W := by
  have P := hide p
  obtain ⟨hjx, hje⟩ := List.getElem?_eq_some_iff.1 hid
  have HC := hide (sqerase_ok j id p.ix hjx hje (by have := p.xl; omega) (by have := p.ww; omega))
  have c1 := p.c1
  have hf := fdI_yes p.ix.ok.nd hid
  have hjn : j < nm := by rw [p.len]; exact hjx
  have hd0 : decide ((j : Int) < 0) = false := decide_eq_false (by omega)
  have j0' : ¬ ((j : Int) < 0) := by omega
  have j0 : (0 : Int) ≤ (j : Int) := by omega
  have jn : (j : Int) < (nm : Int) := by omega
  have jn' : (j : Int) ≤ (nm : Int) := by omega
  have hjc : j ≤ cm := by have := p.lec; omega
  have jc : (j : Int) ≤ (cm : Int) := by omega
  have hnc : (nm : Int) ≤ (cm : Int) := by have := p.lec; omega
  have hfew := p.few
  have j1 : (0 : Int) ≤ (j : Int) + 1 := by omega
  have j2 : (j : Int) + 1 ≤ (nm : Int) := by omega
  have j3 : (j : Int) + 1 ≤ (cm : Int) := by omega
  have jt : ((j : Int) + 1).toNat = j + 1 := by omega
  have e1 : IntKind.i64.wrap ((j : Int) + 1) = (j : Int) + 1 := by rw [IntKind.wrap_i64]; omega
  have HXL : Hid (xs.length ≤ 80) := p.xl
  have hJX := hide hjx
  subst hsw
  unfold QyJ at hK
  rw [hf] at hK ⊢
  clear p hid hf hje hjx
  conv => arg 2; whnf
  go_wp2_with fail
  refine HC.out.mono ?_
  rintro _ w1 ⟨rfl, hd1⟩
  have HD := hide hd1
  obtain ⟨h', k', f', ix1, hk1, hc1⟩ := hd1
  have hlt : Hid (T < w1.heap.size ∧ M < w1.heap.size) := ⟨ix1.ltT, ix1.ltM⟩
  have HM1 : Hid (Rd (Value.int .i64) (TM T M) w1 (.slice am nm cm) xs) := P.out.rd.chg hc1
  have HRT := hide (HM1.out.take (m := j) (by omega))
  have HRD := hide (HM1.out.drop1 (m := j + 1) (by omega))
  have HTL : Hid ((xs.take j).length ≤ 80 ∧ (xs.drop (j + 1)).length ≤ 80) := ⟨by rw [List.length_take]; have := HXL.out; omega, by rw [List.length_drop]; have := HXL.out; omega⟩
  clear ix1 hk1 hc1 c1
  dsimp only
  go_wp2_with fail
  refine wp_region_noPanic ?_
  go_region_held3 (fun w' => Up w1 w') (exact (by repeat' (with_reducible first | assumption | exact Up.refl _ | apply Up.alloc | apply Up.drew)))
    (first
      | (refine step_append_row elemL (W := w1) rfl _ _ rfl (.slice none 0 0) _ [] (xs.take j) rfl rfl (by repeat' (with_reducible first | assumption | exact Up.refl _ | apply Up.alloc | apply Up.drew)) (Own.nil _ _ _ _) (Rd.up HRT.out (by repeat' (with_reducible first | assumption | exact Up.refl _ | apply Up.alloc | apply Up.drew))) (by have := HTL.out; simp only [List.length_nil]; omega) ?_; intro v5 w5 ho5 hu5; try rw [List.nil_append] at ho5)
      | (refine step_append_row elemL (W := w1) rfl _ _ rfl _ _ (xs.take j) (xs.drop (j + 1)) rfl rfl (by repeat' (with_reducible first | assumption | exact Up.refl _ | apply Up.alloc | apply Up.drew)) (Own.up ho5 (by repeat' (with_reducible first | assumption | exact Up.refl _ | apply Up.alloc | apply Up.drew))) (Rd.up HRD.out (by repeat' (with_reducible first | assumption | exact Up.refl _ | apply Up.alloc | apply Up.drew))) (by have := HTL.out; omega) ?_; intro v6 w6 ho6 hu6))
  all_goals
    obtain ⟨a6, n6, c6, rfl, -, -⟩ := ho6.sliceN
    have HO6 := hide ho6
    have HU6 := hide hu6
    clear ho6 hu6 ho5 hu5
    go_wp2
    all_goals
      refine hK _ _ (Met.intro ?_)
      (repeat apply Exists.intro)
      refine ⟨P.out.done HD.out 1 (by omega) (by omega) (j : Int) HU6.out (zs := delL xs j) ?_ (by have := delL_len xs j hJX.out; omega), rfl⟩
      exact Own.rd HO6.out (fun g hg e => by
        have := (Own.lt HO6.out g hg).1
        have := hlt.out
        rcases e with e | e <;> omega)
set_option maxHeartbeats 8000000 in
theorem qy_insthere (p : QyAt w q T M xs h n f am nm cm sb id bf si ia inn ic ids W) (hsw : sw ≠ 0 ∧ sw ≠ 1 ∧ sw ≠ 2 ∧ sw ≠ 3 ∧ sw ≠ 4 ∧ sw ≠ 5 ∧ sw ≠ 6) (hid : id ∈ xs) (u0 u1 u2 u5 u8 u15 u16 u17 u18 u19 u20 u21 u22 u23 u24 u25 u26 u27 u28 u29 u30 u31 u32 u33 u34 u35 u36 u37 u38 u39 u40 u41 u42 u43 u44 u45 u46 u47 u48 u49 u50 u51 u52 u53 u54 u55 u56 u57 u58 u59 u60 u61 u63 u64 u65 u66 u67 u68 u69 u70 u71 u72 u73 u74 u75 u76 u77 u78 u79 u80 u81 u82 u83 u84 u85 u86 u87 u88 u89 u90 u91 u92 u93 u94 u95 u96 u97 u98 u99 u100 u101 u102 u103 u104 u105 u106 u107 u108 u109 u110 u111 u112 u113 u114 u115 u116 u117 u118 u119 u120 u121 u122 u123 u124 u125 u126 u127 u128 u129 u130 u131 u132 u133 u134 u135 u136 u137 u138 u139 u140 u141 u142 u143 u144 u145 u146 u147 u148 u149 u150 u151 u152 u153 u154 u155 u156 u157 u158 u159 u160 u161 u162 u163 u164 u165 u166 u167 u168 u169 u170 u171 u172 u173 u174 u175 u176 u177 u178 u179 u180 u181 u182 u183 u184 u185 u186 u187 u188 u189 u190 u191 u192 u193 u194 u195 u196 u197 u198 u199 u200 u201 u202 u203 u204 u205 u206 u207 u208 u209 u210 u211 u212 u213 u214 u215 u216 u217 u218 u219 u220 u221 u222 u223 u224 u225 u226 u227 u228 u229 u230 u231 u232 u233 u234 u235 u236 u237 u238 u239 u240 u241 u242 u243 u244 u245 u246 u247 u248 u249 u250 u251 u252 u253 u254 u255 u256 u257 u258 u259 u260 u261 u262 u263 u264 u265 u266 u267 u268 u269 u270 u271 u272 u273 u274 u275 u276 u277 u278 u279 u280 u281 u282 u283 u284 u285 u286 : Value) (K : Act → World → Prop) (Q : Exit → Act → World → Prop)
    (hK : ∀ a' w', Met (QyJ w q T M xs n nm sb id si sw u0 u1 u2 u5 u8 u16 u17 u18 u19 u20 u21 u22 u23 u24 u25 u26 u27 u28 u29 u30 u31 u32 u33 u34 u35 u36 u37 u38 u39 u40 u41 u42 u43 u44 u45 u46 u47 u48 u49 u50 u51 u52 u53 u54 u55 u56 u57 u58 u59 u60 u61 u183 u184 u185 u186 u187 u188 u189 u190 u191 u192 u193 u194 u195 u196 u197 u198 u199 u200 u201 u202 u203 u204 u205 u206 u207 u208 u209 u210 u211 u212 u213 u214 u215 u216 u217 u218 u219 u220 u221 u222 u223 u224 u225 u226 u227 u228 u229 u230 u231 u232 u233 u234 u235 u236 u237 u238 u239 u240 u241 u242 u243 u244 u245 u246 u247 u248 u249 u250 u251 u252 u253 u254 u255 u256 u257 u258 u259 u260 u261 u262 u263 u264 u265 u266 u267 u268 u269 u270 u271 u272 u273 u274 u275 u276 u277 u278 u279 u280 u281 u282 u283 u284 u285 u286) a' w' → K a' w') :
    Code.wp Try.prog ((Try.f3.body.bind (blkQ 2)).getD .skip) (Exit.then K Q) ⟨#[u0, u1, u2, .pointer (some ⟨q, 0, none⟩), .slice am nm cm, u5, .pointer (some ⟨sb, 0, none⟩), .int .i64 nm, u8, .int .i64 (fdI xs id), .int .i64 0, .int .i64 0, .int .i64 0, .int .i64 0, .int .i64 1, u15, u16, u17, u18, u19, u20, u21, u22, u23, u24, u25, u26, u27, u28, u29, u30, u31, u32, u33, u34, u35, u36, u37, u38, u39, u40, u41, u42, u43, u44, u45, u46, u47, u48, u49, u50, u51, u52, u53, u54, u55, u56, u57, u58, u59, u60, u61, .int .i64 sw, u63, u64, u65, u66, u67, u68, u69, u70, u71, u72, u73, u74, u75, u76, u77, u78, u79, u80, u81, u82, u83, u84, u85, u86, u87, u88, u89, u90, u91, u92, u93, u94, u95, u96, u97, u98, u99, u100, u101, u102, u103, u104, u105, u106, u107, u108, u109, u110, u111, u112, u113, u114, u115, u116, u117, u118, u119, u120, u121, u122, u123, u124, u125, u126, u127, u128, u129, u130, u131, u132, u133, u134, u135, u136, u137, u138, u139, u140, u141, u142, u143, u144, u145, u146, u147, u148, u149, u150, u151, u152, u153, u154, u155, u156, u157, u158, u159, u160, u161, u162, u163, u164, u165, u166, u167, u168, u169, u170, u171, u172, u173, u174, u175, u176, u177, u178, u179, u180, u181, u182, u183, u184, u185, u186, u187, u188, u189, u190, u191, u192, u193, u194, u195, u196, u197, u198, u199, u200, u201, u202, u203, u204, u205, u206, u207, u208, u209, u210, u211, u212, u213, u214, u215, u216, u217, u218, u219, u220, u221, u222, u223, u224, u225, u226, u227, u228, u229, u230, u231, u232, u233, u234, u235, u236, u237, u238, u239, u240, u241, u242, u243, u244, u245, u246, u247, u248, u249, u250, u251, u252, u253, u254, u255, u256, u257, u258, u259, u260, u261, u262, u263, u264, u265, u266, u267, u268, u269, u270, u271, u272, u273, u274, u275, u276, u277, u278, u279, u280, u281, u282, u283, u284, u285, u286], []⟩ W := by
  have P := hide p
  have HC := hide (sqinsertAt_there si id p.ix p.wid hid)
  have c1 := p.c1
  have c3 := p.c3
  obtain ⟨k, hk⟩ := fdI_mem hid
  have d0 : decide ((k : Int) ≥ 0) = true := decide_eq_true (by omega)
  have d0' : decide (0 ≤ (k : Int)) = true := decide_eq_true (by omega)
  obtain ⟨s0, s1, s2, s3, s4, s5, s6⟩ := hsw
  unfold QyJ at hK
  rw [hk] at hK ⊢
  clear p hid hk
  conv => arg 2; whnf
  go_wp2_with fail
  refine HC.out.mono ?_
  rintro _ w1 ⟨rfl, hu1⟩
  have HU1 := hide hu1
  clear hu1 c1 c3
  dsimp only
  go_wp2
  refine Met.intro ?_
  (repeat apply Exists.intro)
  exact ⟨P.out.same HU1.out 72 (by omega) 1 (by omega), rfl⟩
set_option maxHeartbeats 8000000 in
theorem qy_insnot (p : QyAt w q T M xs h n f am nm cm sb id bf si ia inn ic ids W) (hsw : sw ≠ 0 ∧ sw ≠ 1 ∧ sw ≠ 2 ∧ sw ≠ 3 ∧ sw ≠ 4 ∧ sw ≠ 5 ∧ sw ≠ 6) (hid : id ∉ xs) (hj : si < 0 ∨ (nm : Int) < si) (u0 u1 u2 u5 u8 u15 u16 u17 u18 u19 u20 u21 u22 u23 u24 u25 u26 u27 u28 u29 u30 u31 u32 u33 u34 u35 u36 u37 u38 u39 u40 u41 u42 u43 u44 u45 u46 u47 u48 u49 u50 u51 u52 u53 u54 u55 u56 u57 u58 u59 u60 u61 u63 u64 u65 u66 u67 u68 u69 u70 u71 u72 u73 u74 u75 u76 u77 u78 u79 u80 u81 u82 u83 u84 u85 u86 u87 u88 u89 u90 u91 u92 u93 u94 u95 u96 u97 u98 u99 u100 u101 u102 u103 u104 u105 u106 u107 u108 u109 u110 u111 u112 u113 u114 u115 u116 u117 u118 u119 u120 u121 u122 u123 u124 u125 u126 u127 u128 u129 u130 u131 u132 u133 u134 u135 u136 u137 u138 u139 u140 u141 u142 u143 u144 u145 u146 u147 u148 u149 u150 u151 u152 u153 u154 u155 u156 u157 u158 u159 u160 u161 u162 u163 u164 u165 u166 u167 u168 u169 u170 u171 u172 u173 u174 u175 u176 u177 u178 u179 u180 u181 u182 u183 u184 u185 u186 u187 u188 u189 u190 u191 u192 u193 u194 u195 u196 u197 u198 u199 u200 u201 u202 u203 u204 u205 u206 u207 u208 u209 u210 u211 u212 u213 u214 u215 u216 u217 u218 u219 u220 u221 u222 u223 u224 u225 u226 u227 u228 u229 u230 u231 u232 u233 u234 u235 u236 u237 u238 u239 u240 u241 u242 u243 u244 u245 u246 u247 u248 u249 u250 u251 u252 u253 u254 u255 u256 u257 u258 u259 u260 u261 u262 u263 u264 u265 u266 u267 u268 u269 u270 u271 u272 u273 u274 u275 u276 u277 u278 u279 u280 u281 u282 u283 u284 u285 u286 : Value) (K : Act → World → Prop) (Q : Exit → Act → World → Prop)
    (hK : ∀ a' w', Met (QyJ w q T M xs n nm sb id si sw u0 u1 u2 u5 u8 u16 u17 u18 u19 u20 u21 u22 u23 u24 u25 u26 u27 u28 u29 u30 u31 u32 u33 u34 u35 u36 u37 u38 u39 u40 u41 u42 u43 u44 u45 u46 u47 u48 u49 u50 u51 u52 u53 u54 u55 u56 u57 u58 u59 u60 u61 u183 u184 u185 u186 u187 u188 u189 u190 u191 u192 u193 u194 u195 u196 u197 u198 u199 u200 u201 u202 u203 u204 u205 u206 u207 u208 u209 u210 u211 u212 u213 u214 u215 u216 u217 u218 u219 u220 u221 u222 u223 u224 u225 u226 u227 u228 u229 u230 u231 u232 u233 u234 u235 u236 u237 u238 u239 u240 u241 u242 u243 u244 u245 u246 u247 u248 u249 u250 u251 u252 u253 u254 u255 u256 u257 u258 u259 u260 u261 u262 u263 u264 u265 u266 u267 u268 u269 u270 u271 u272 u273 u274 u275 u276 u277 u278 u279 u280 u281 u282 u283 u284 u285 u286) a' w' → K a' w') :
    Code.wp Try.prog ((Try.f3.body.bind (blkQ 2)).getD .skip) (Exit.then K Q) ⟨#[u0, u1, u2, .pointer (some ⟨q, 0, none⟩), .slice am nm cm, u5, .pointer (some ⟨sb, 0, none⟩), .int .i64 nm, u8, .int .i64 (fdI xs id), .int .i64 0, .int .i64 0, .int .i64 0, .int .i64 0, .int .i64 1, u15, u16, u17, u18, u19, u20, u21, u22, u23, u24, u25, u26, u27, u28, u29, u30, u31, u32, u33, u34, u35, u36, u37, u38, u39, u40, u41, u42, u43, u44, u45, u46, u47, u48, u49, u50, u51, u52, u53, u54, u55, u56, u57, u58, u59, u60, u61, .int .i64 sw, u63, u64, u65, u66, u67, u68, u69, u70, u71, u72, u73, u74, u75, u76, u77, u78, u79, u80, u81, u82, u83, u84, u85, u86, u87, u88, u89, u90, u91, u92, u93, u94, u95, u96, u97, u98, u99, u100, u101, u102, u103, u104, u105, u106, u107, u108, u109, u110, u111, u112, u113, u114, u115, u116, u117, u118, u119, u120, u121, u122, u123, u124, u125, u126, u127, u128, u129, u130, u131, u132, u133, u134, u135, u136, u137, u138, u139, u140, u141, u142, u143, u144, u145, u146, u147, u148, u149, u150, u151, u152, u153, u154, u155, u156, u157, u158, u159, u160, u161, u162, u163, u164, u165, u166, u167, u168, u169, u170, u171, u172, u173, u174, u175, u176, u177, u178, u179, u180, u181, u182, u183, u184, u185, u186, u187, u188, u189, u190, u191, u192, u193, u194, u195, u196, u197, u198, u199, u200, u201, u202, u203, u204, u205, u206, u207, u208, u209, u210, u211, u212, u213, u214, u215, u216, u217, u218, u219, u220, u221, u222, u223, u224, u225, u226, u227, u228, u229, u230, u231, u232, u233, u234, u235, u236, u237, u238, u239, u240, u241, u242, u243, u244, u245, u246, u247, u248, u249, u250, u251, u252, u253, u254, u255, u256, u257, u258, u259, u260, u261, u262, u263, u264, u265, u266, u267, u268, u269, u270, u271, u272, u273, u274, u275, u276, u277, u278, u279, u280, u281, u282, u283, u284, u285, u286], []⟩ W := by
  have P := hide p
  have HC := hide (sqinsertAt_not si id p.ix p.wid hid (by rw [← p.len]; exact hj))
  have c1 := p.c1
  have c3 := p.c3
  have hf := fdI_no hid
  have d0 : decide ((-1 : Int) ≥ 0) = false := decide_eq_false (by omega)
  obtain ⟨s0, s1, s2, s3, s4, s5, s6⟩ := hsw
  unfold QyJ at hK
  rw [hf] at hK ⊢
  clear p hid hf
  conv => arg 2; whnf
  by_cases h0 : si < 0
  · have d1 : decide (si < 0) = true := decide_eq_true h0
    go_wp2_with fail
    refine HC.out.mono ?_
    rintro _ w1 ⟨rfl, hu1⟩
    have HU1 := hide hu1
    replace c3 := hu1.cell c3
    clear hu1 c1
    dsimp only
    go_wp2
    refine Met.intro ?_
    (repeat apply Exists.intro)
    exact ⟨P.out.same HU1.out 73 (by omega) 1 (by omega), rfl⟩
  · have d1 : decide (si < 0) = false := decide_eq_false h0
    have d2 : decide (si > (nm : Int)) = true := decide_eq_true (by omega)
    have d2' : decide ((nm : Int) < si) = true := decide_eq_true (by omega)
    have d3 : (nm : Int) < si := by omega
    go_wp2_with fail
    refine HC.out.mono ?_
    rintro _ w1 ⟨rfl, hu1⟩
    have HU1 := hide hu1
    replace c3 := hu1.cell c3
    clear hu1 c1
    dsimp only
    go_wp2
    refine Met.intro ?_
    (repeat apply Exists.intro)
    exact ⟨P.out.same HU1.out 73 (by omega) 1 (by omega), rfl⟩
set_option maxHeartbeats 8000000 in
theorem qy_ins (j : Nat) (p : QyAt w q T M xs h n f am nm cm sb id bf j ia inn ic ids W) (hsw : sw ≠ 0 ∧ sw ≠ 1 ∧ sw ≠ 2 ∧ sw ≠ 3 ∧ sw ≠ 4 ∧ sw ≠ 5 ∧ sw ≠ 6) (hid : id ∉ xs) (hj : j ≤ nm) (u0 u1 u2 u5 u8 u15 u16 u17 u18 u19 u20 u21 u22 u23 u24 u25 u26 u27 u28 u29 u30 u31 u32 u33 u34 u35 u36 u37 u38 u39 u40 u41 u42 u43 u44 u45 u46 u47 u48 u49 u50 u51 u52 u53 u54 u55 u56 u57 u58 u59 u60 u61 u63 u64 u65 u66 u67 u68 u69 u70 u71 u72 u73 u74 u75 u76 u77 u78 u79 u80 u81 u82 u83 u84 u85 u86 u87 u88 u89 u90 u91 u92 u93 u94 u95 u96 u97 u98 u99 u100 u101 u102 u103 u104 u105 u106 u107 u108 u109 u110 u111 u112 u113 u114 u115 u116 u117 u118 u119 u120 u121 u122 u123 u124 u125 u126 u127 u128 u129 u130 u131 u132 u133 u134 u135 u136 u137 u138 u139 u140 u141 u142 u143 u144 u145 u146 u147 u148 u149 u150 u151 u152 u153 u154 u155 u156 u157 u158 u159 u160 u161 u162 u163 u164 u165 u166 u167 u168 u169 u170 u171 u172 u173 u174 u175 u176 u177 u178 u179 u180 u181 u182 u183 u184 u185 u186 u187 u188 u189 u190 u191 u192 u193 u194 u195 u196 u197 u198 u199 u200 u201 u202 u203 u204 u205 u206 u207 u208 u209 u210 u211 u212 u213 u214 u215 u216 u217 u218 u219 u220 u221 u222 u223 u224 u225 u226 u227 u228 u229 u230 u231 u232 u233 u234 u235 u236 u237 u238 u239 u240 u241 u242 u243 u244 u245 u246 u247 u248 u249 u250 u251 u252 u253 u254 u255 u256 u257 u258 u259 u260 u261 u262 u263 u264 u265 u266 u267 u268 u269 u270 u271 u272 u273 u274 u275 u276 u277 u278 u279 u280 u281 u282 u283 u284 u285 u286 : Value) (K : Act → World → Prop) (Q : Exit → Act → World → Prop)
    (hK : ∀ a' w', Met (QyJ w q T M xs n nm sb id j sw u0 u1 u2 u5 u8 u16 u17 u18 u19 u20 u21 u22 u23 u24 u25 u26 u27 u28 u29 u30 u31 u32 u33 u34 u35 u36 u37 u38 u39 u40 u41 u42 u43 u44 u45 u46 u47 u48 u49 u50 u51 u52 u53 u54 u55 u56 u57 u58 u59 u60 u61 u183 u184 u185 u186 u187 u188 u189 u190 u191 u192 u193 u194 u195 u196 u197 u198 u199 u200 u201 u202 u203 u204 u205 u206 u207 u208 u209 u210 u211 u212 u213 u214 u215 u216 u217 u218 u219 u220 u221 u222 u223 u224 u225 u226 u227 u228 u229 u230 u231 u232 u233 u234 u235 u236 u237 u238 u239 u240 u241 u242 u243 u244 u245 u246 u247 u248 u249 u250 u251 u252 u253 u254 u255 u256 u257 u258 u259 u260 u261 u262 u263 u264 u265 u266 u267 u268 u269 u270 u271 u272 u273 u274 u275 u276 u277 u278 u279 u280 u281 u282 u283 u284 u285 u286) a' w' → K a' w') :
    Code.wp Try.prog ((Try.f3.body.bind (blkQ 2)).getD .skip) (Exit.then K Q) ⟨#[u0, u1, u2, .pointer (some ⟨q, 0, none⟩), .slice am nm cm, u5, .pointer (some ⟨sb, 0, none⟩), .int .i64 nm, u8, .int .i64 (fdI xs id), .int .i64 0, .int .i64 0, .int .i64 0, .int .i64 0, .int .i64 1, u15, u16, u17, u18, u19, u20, u21, u22, u23, u24, u25, u26, u27, u28, u29, u30, u31, u32, u33, u34, u35, u36, u37, u38, u39, u40, u41, u42, u43, u44, u45, u46, u47, u48, u49, u50, u51, u52, u53, u54, u55, u56, u57, u58, u59, u60, u61, .int .i64 sw, u63, u64, u65, u66, u67, u68, u69, u70, u71, u72, u73, u74, u75, u76, u77, u78, u79, u80, u81, u82, u83, u84, u85, u86, u87, u88, u89, u90, u91, u92, u93, u94, u95, u96, u97, u98, u99, u100, u101, u102, u103, u104, u105, u106, u107, u108, u109, u110, u111, u112, u113, u114, u115, u116, u117, u118, u119, u120, u121, u122, u123, u124, u125, u126, u127, u128, u129, u130, u131, u132, u133, u134, u135, u136, u137, u138, u139, u140, u141, u142, u143, u144, u145, u146, u147, u148, u149, u150, u151, u152, u153, u154, u155, u156, u157, u158, u159, u160, u161, u162, u163, u164, u165, u166, u167, u168, u169, u170, u171, u172, u173, u174, u175, u176, u177, u178, u179, u180, u181, u182, u183, u184, u185, u186, u187, u188, u189, u190, u191, u192, u193, u194, u195, u196, u197, u198, u199, u200, u201, u202, u203, u204, u205, u206, u207, u208, u209, u210, u211, u212, u213, u214, u215, u216, u217, u218, u219, u220, u221, u222, u223, u224, u225, u226, u227, u228, u229, u230, u231, u232, u233, u234, u235, u236, u237, u238, u239, u240, u241, u242, u243, u244, u245, u246, u247, u248, u249, u250, u251, u252, u253, u254, u255, u256, u257, u258, u259, u260, u261, u262, u263, u264, u265, u266, u267, u268, u269, u270, u271, u272, u273, u274, u275, u276, u277, u278, u279, u280, u281, u282, u283, u284, u285, u286], []⟩ W := by
  have P := hide p
  have HC := hide (sqinsertAt_ok j id p.ix p.wid hid (by rw [← p.len]; exact hj) (by have := p.xl; omega) (by have := p.ww; omega))
  have c1 := p.c1
  have c3 := p.c3
  have hf := fdI_no hid
  have d0 : decide ((-1 : Int) ≥ 0) = false := decide_eq_false (by omega)
  have d1 : decide ((j : Int) < 0) = false := decide_eq_false (by omega)
  have d2 : decide ((j : Int) > (nm : Int)) = false := decide_eq_false (by omega)
  have d2' : decide (nm < j) = false := decide_eq_false (by omega)
  have d3 : ¬ (nm : Int) < (j : Int) := by omega
  have j0 : (0 : Int) ≤ (j : Int) := by omega
  have jn : (j : Int) ≤ (nm : Int) := by omega
  have hjc : j ≤ cm := by have := p.lec; omega
  have jc : (j : Int) ≤ (cm : Int) := by omega
  have hnc : (nm : Int) ≤ (cm : Int) := by have := p.lec; omega
  have hfew := p.few
  have hjl : Hid (j ≤ xs.length) := by have := p.len; show _ ≤ _; omega
  have HXL : Hid (xs.length ≤ 80) := p.xl
  obtain ⟨s0, s1, s2, s3, s4, s5, s6⟩ := hsw
  unfold QyJ at hK
  rw [hf] at hK ⊢
  clear p hid hf
  conv => arg 2; whnf
  go_wp2_with fail
  refine HC.out.mono ?_
  rintro _ w1 ⟨rfl, hd1⟩
  have HD := hide hd1
  obtain ⟨h', k', f', ix1, hk1, hc1⟩ := hd1
  have hlt : Hid (T < w1.heap.size ∧ M < w1.heap.size) := ⟨ix1.ltT, ix1.ltM⟩
  have HM1 : Hid (Rd (Value.int .i64) (TM T M) w1 (.slice am nm cm) xs) := P.out.rd.chg hc1
  have y1 := tm_cell2 hc1 c1 P.out.sT P.out.sM
  have y3 := tm_cell2 hc1 c3 P.out.sT P.out.sM
  have HRT := hide (HM1.out.take hj)
  have HRD := hide (HM1.out.drop1 hj)
  have HTL : Hid ((xs.take j).length ≤ 80 ∧ (xs.drop j).length ≤ 80) := ⟨by rw [List.length_take]; have := HXL.out; omega, by rw [List.length_drop]; have := HXL.out; omega⟩
  clear ix1 hk1 hc1 c1 c3
  dsimp only
  go_wp2_with (at_builtin; refine append_rd elemL rfl _ _ rfl w1.heap.size _ _ [] (xs.take j) rfl rfl (Own.nil _ _ _ _) HRT.out (by have := HTL.out.1; simp only [List.length_nil]; omega) (Nat.le_refl _) ?_)
  intro v2 w2 ho2 hg2 _
  try rw [List.nil_append] at ho2
  have hu2 := hide (own_below (e := 2) (enc := Value.int .i64) (l := []) (Up.refl w1) (Own.nil _ _ _ _) hg2)
  replace ho2 := hide ho2
  clear hg2
  obtain ⟨a2, n2, c2, rfl, -, -⟩ := ho2.out.sliceN
  have hv2 := hu2.out
  go_wp2_with fail
  refine wp_region_noPanic ?_
  have HSK : Hid (∀ w', Up w1 w' → (Up w1 w' ∧ w'.cell? ⟨sb, 1, none⟩ = some (.int .i64 id) ∧ w'.cell? ⟨sb, 3, none⟩ = some (.int .i64 j))) := fun w' hu => ⟨hu, hu.cell y1, hu.cell y3⟩
  go_region_held3 (fun w' => Up w1 w' ∧ w'.cell? ⟨sb, 1, none⟩ = some (.int .i64 id) ∧ w'.cell? ⟨sb, 3, none⟩ = some (.int .i64 j)) (exact HSK.out _ (by repeat' (with_reducible first | assumption | exact Up.refl _ | apply Up.alloc | apply Up.drew)))
    (first
      | (refine step_append_one elemL (W := w1) rfl _ _ rfl _ (xs.take j) id _ rfl rfl (by go_simp) (by repeat' (with_reducible first | assumption | exact Up.refl _ | apply Up.alloc | apply Up.drew)) (Own.up ho2.out (by repeat' (with_reducible first | assumption | exact Up.refl _ | apply Up.alloc | apply Up.drew))) (by have := HTL.out.1; omega) ?_; intro v5 w5 ho5 hu5)
      | (refine step_append_row elemL (W := w1) rfl _ _ rfl _ _ (xs.take j ++ [id]) (xs.drop j) rfl rfl (by repeat' (with_reducible first | assumption | exact Up.refl _ | apply Up.alloc | apply Up.drew)) (Own.up ho5 (by repeat' (with_reducible first | assumption | exact Up.refl _ | apply Up.alloc | apply Up.drew))) (Rd.up HRD.out (by repeat' (with_reducible first | assumption | exact Up.refl _ | apply Up.alloc | apply Up.drew))) (by have := HTL.out; rw [List.length_append]; simp only [List.length_singleton]; omega) ?_; intro v6 w6 ho6 hu6))
  all_goals
    obtain ⟨a6, n6, c6, rfl, -, -⟩ := ho6.sliceN
    have HO6 := hide ho6
    have HU6 := hide hu6
    clear ho6 hu6 ho5 hu5
    go_wp2
    all_goals
      refine hK _ _ (Met.intro ?_)
      (repeat apply Exists.intro)
      refine ⟨P.out.done HD.out 1 (by omega) (by omega) 0 HU6.out (zs := insL id xs j) ?_ (by rw [insL_len _ _ _ hjl.out]; omega), rfl⟩
      have e : insL id xs j = xs.take j ++ [id] ++ xs.drop j := by unfold insL; simp
      rw [e]
      exact Own.rd HO6.out (fun g hg e => by
        have := (Own.lt HO6.out g hg).1
        have := hlt.out
        rcases e with e | e <;> omega)
end Go.Proofs.Ytbnkddnjfkagkaa
