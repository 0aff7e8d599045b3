/-
  TriePlays of rialtolaw15: what is put in, and taken out, as its text runs.
-/
import Derived.Test.YtmbniakobhaomaaTyArm
namespace Go.Proofs.Ytmbniakobhaomaa
open Go.ChangeShapes Go.WideShapes Go.ChangeAt Go.RowKit
set_option linter.unusedVariables false
set_option maxRecDepth 100000
attribute [local go_sem ↓] Go.wp_at_zero Go.wp_at_succ

variable {w W : World} {T : Nat} {z : SZ} {kk : Nat} {am : Option Addr} {nm cm sb : Nat} {sw : Int} {ss : ByteArray} {si : Int} {at_ : Nat} {ib : Bool}
theorem RdP.drop1 {X : Nat → Prop} {w : World} {a : Option Addr} {n cap : Nat} {l : SZ} (h : RdP pC X w (.slice a n cap) l) {m : Nat} (hm : m ≤ n) : RdP pC X w (.slice (if cap = m then a else Option.map (fun x => x.add (m * 2)) a) (n - m) (cap - m)) (l.drop m) := h.drop hm
theorem insZ_str {z : SZ} {ss : ByteArray} {si : Int} {k : Nat} (h : ∀ p ∈ z, p.1.size ≤ 60) (hs : ss.size ≤ 60) : ∀ p ∈ insZ z k (ss, si), p.1.size ≤ 60 := by
  intro p hp
  unfold insZ at hp
  rcases List.mem_append.1 hp with hp | hp
  · rcases List.mem_append.1 hp with hp | hp
    · exact h p (List.mem_of_mem_take hp)
    · rw [List.mem_singleton.1 hp]; exact hs
  · exact h p (List.mem_of_mem_drop hp)
theorem delZ_str {z : SZ} {k : Nat} (h : ∀ p ∈ z, p.1.size ≤ 60) : ∀ p ∈ delZ z k, p.1.size ≤ 60 := by
  intro p hp
  unfold delZ at hp
  rcases List.mem_append.1 hp with hp | hp
  · exact h p (List.mem_of_mem_take hp)
  · exact h p (List.mem_of_mem_drop hp)
set_option maxHeartbeats 16000000 in
theorem ty_ins (p : TyAt w T z kk am nm cm sb sw ss si at_ ib W) (hsw : sw ≤ 3) (hib : ib = false) (u0 u1 u2 u5 u9 u10 u11 u12 u13 u14 u15 u16 u17 u18 u19 u20 u21 u22 u23 u24 u25 u26 u27 u28 u29 u30 u31 u32 u33 u34 u35 u36 u37 u38 u39 u40 u41 u42 u43 u44 u45 u46 u47 u48 u49 u50 u51 u52 u53 u54 u55 u56 u57 u58 u59 u60 u61 u62 u63 u64 u65 u66 u67 u68 u69 u70 u71 u72 u73 u74 u75 u76 u77 u78 u79 u80 u81 u82 u83 u84 u85 u86 u87 u88 u89 u90 u91 u92 u93 u94 u95 u96 u97 u98 u99 u100 u101 u102 u103 u104 u105 u106 u107 u108 u109 u110 u111 u112 u113 u114 u115 u116 u117 u118 u119 u120 u121 u122 u123 u124 u125 u126 u127 u128 u129 u130 u131 u132 u133 u134 u135 u136 u137 u138 u139 u140 u141 u142 u143 u144 u145 u146 u147 u148 u149 u150 u151 u152 u153 u154 u155 u156 u157 u158 u159 u160 u161 u162 u163 u164 u165 u166 u167 u168 u169 u170 u171 u172 u173 u174 u175 u176 u177 u178 u179 u180 u181 u182 u183 u184 u185 u186 u187 u188 u189 u190 u191 u192 u193 u194 u195 u196 u197 u198 u199 u200 u201 u202 u203 u204 u205 u206 u207 u208 u209 u210 u211 u212 u213 u214 u215 u216 u217 u218 u219 u220 u221 u222 u223 u224 u225 u226 u227 u228 u229 u230 u231 u232 u233 u234 u235 u236 u237 u238 u239 u240 u241 u242 u243 u244 u245 u246 u247 u248 u249 u250 u251 u252 u253 u254 u255 u256 u257 u258 u259 u260 u261 u262 u263 u264 u265 u266 u267 u268 u269 u270 u271 u272 u273 u274 u275 u276 u277 u278 u279 u280 u281 u282 u283 u284 u285 u286 u287 u288 u289 u290 u291 u292 u293 u294 u295 u296 u297 u298 u299 u300 u301 u302 u303 u304 u305 u306 u307 u308 u309 u310 u311 u312 u313 : Value) (K : Act → World → Prop) (Q : Exit → Act → World → Prop)
    (hK : ∀ a' w', Met (TyJ w T z.length kk sb at_ ss ib u0 u1 u2 u5 u10 u11 u12 u13 u14 u15 u16 u17 u18 u19 u20 u21 u22 u23 u24 u25 u26 u27 u28 u29 u30 u31 u32 u33 u34 u35 u36 u37 u38 u39 u40 u41 u42 u43 u44 u45 u46 u47 u48 u49 u50 u51 u52 u53 u54 u55 u56 u57 u58 u59 u60 u61 u62 u63 u64 u65 u66 u67 u68 u69 u70 u71 u72 u73 u74 u75 u76 u77 u78 u79 u80 u81 u82 u83 u84 u85 u86 u87 u88 u89 u90 u91 u92 u143 u144 u145 u146 u147 u148 u149 u150 u151 u152 u153 u154 u155 u156 u157 u158 u159 u160 u161 u162 u163 u164 u165 u166 u167 u168 u169 u170 u171 u172 u173 u174 u175 u176 u177 u178 u179 u180 u181 u182 u183 u184 u185 u186 u187 u188 u189 u190 u191 u192 u193 u194 u195 u196 u197 u198 u199 u200 u201 u202 u203 u204 u205 u206 u207 u208 u209 u210 u211 u212 u213 u214 u215 u216 u217 u218 u219 u220 u221 u222 u223 u224 u225 u226 u227 u228 u229 u230 u231 u232 u233 u234 u235 u236 u237 u238 u239 u240 u241 u242 u243 u244 u245 u246 u247 u248 u249 u250 u251 u252 u253 u254 u255 u256 u257 u258 u259 u260 u261 u262 u263 u264 u265 u266 u267 u268 u269 u270 u271 u272 u273 u274 u275 u276 u277 u278 u279 u280 u281 u282 u283 u284 u285 u286 u287 u288 u289 u290 u291 u292 u293 u294 u295 u296 u297 u298 u299 u300 u301 u302 u303 u304 u305 u306 u307 u308 u309 u310 u311 u312 u313) a' w' → K a' w') :
    Code.wp Try.prog ((Try.f4.body.bind (blkN 4)).getD .skip) (Exit.then K Q) ⟨#[u0, u1, u2, .pointer (some ⟨T, 0, none⟩), .slice am nm cm, u5, .pointer (some ⟨sb, 0, none⟩), .int .i64 at_, .bool ib, u9, u10, u11, u12, u13, u14, u15, u16, u17, u18, u19, u20, u21, u22, u23, u24, u25, u26, u27, u28, u29, u30, u31, u32, u33, u34, u35, u36, u37, u38, u39, u40, u41, u42, u43, u44, u45, u46, u47, u48, u49, u50, u51, u52, u53, u54, u55, u56, u57, u58, u59, u60, u61, u62, u63, u64, u65, u66, u67, u68, u69, u70, u71, u72, u73, u74, u75, u76, u77, u78, u79, u80, u81, u82, u83, u84, u85, u86, u87, u88, u89, u90, u91, u92, u93, u94, u95, u96, u97, u98, u99, u100, u101, u102, u103, u104, u105, u106, u107, u108, u109, u110, u111, u112, u113, u114, u115, u116, u117, u118, u119, u120, u121, u122, u123, u124, u125, u126, u127, u128, u129, u130, u131, u132, u133, u134, u135, u136, u137, u138, u139, u140, u141, u142, u143, u144, u145, u146, u147, u148, u149, u150, u151, u152, u153, u154, u155, u156, u157, u158, u159, u160, u161, u162, u163, u164, u165, u166, u167, u168, u169, u170, u171, u172, u173, u174, u175, u176, u177, u178, u179, u180, u181, u182, u183, u184, u185, u186, u187, u188, u189, u190, u191, u192, u193, u194, u195, u196, u197, u198, u199, u200, u201, u202, u203, u204, u205, u206, u207, u208, u209, u210, u211, u212, u213, u214, u215, u216, u217, u218, u219, u220, u221, u222, u223, u224, u225, u226, u227, u228, u229, u230, u231, u232, u233, u234, u235, u236, u237, u238, u239, u240, u241, u242, u243, u244, u245, u246, u247, u248, u249, u250, u251, u252, u253, u254, u255, u256, u257, u258, u259, u260, u261, u262, u263, u264, u265, u266, u267, u268, u269, u270, u271, u272, u273, u274, u275, u276, u277, u278, u279, u280, u281, u282, u283, u284, u285, u286, u287, u288, u289, u290, u291, u292, u293, u294, u295, u296, u297, u298, u299, u300, u301, u302, u303, u304, u305, u306, u307, u308, u309, u310, u311, u312, u313], []⟩ W := by
  have P := hide p
  have HC := hide (p.ins hib)
  have c0 := p.c0
  have c1 := p.c1
  have c2 := p.c2
  have d0 : decide (sw ≤ 3) = true := decide_eq_true hsw
  have hjn : at_ ≤ nm := by have := p.len; have := p.spot.le; omega
  have j0 : (0 : Int) ≤ (at_ : Int) := by omega
  have jn : (at_ : Int) ≤ (nm : Int) := by omega
  have hjc : at_ ≤ cm := by have := p.lec; omega
  have jc : (at_ : Int) ≤ (cm : Int) := by omega
  have hnc : (nm : Int) ≤ (cm : Int) := by have := p.lec; omega
  have hfew := p.few
  have HXL : Hid (z.length ≤ 80) := by have := p.len; show _ ≤ _; omega
  subst hib
  unfold TyJ at hK
  clear p
  conv => arg 2; whnf
  go_wp2_with fail
  refine HC.out.mono ?_
  rintro _ w1 ⟨rfl, hd1⟩
  have HD := hide hd1
  obtain ⟨O, k', h1, h2, h3, h4, h5, y1, y2⟩ := hd1
  have HRT := hide (h3.take (m := at_) hjn)
  have HRD := hide (h3.drop1 (m := at_) hjn)
  have HTL : Hid ((z.take at_).length ≤ 80 ∧ (z.drop at_).length ≤ 80) := ⟨by rw [List.length_take]; have := HXL.out; omega, by rw [List.length_drop]; have := HXL.out; omega⟩
  clear h1 h2 h3 h4 h5 c0 c1 c2
  dsimp only
  go_wp2_with (at_builtin; refine append_rdP elemQ rfl _ _ rfl w1.heap.size (.slice none 0 0) _ [] (z.take at_) rfl rfl (OwnP.nil _ _ _ _) HRT.out (by have := HTL.out.1; simp only [List.length_nil]; omega) (Nat.le_refl _) ?_)
  intro v2 w2 ho2 hg2 _
  try rw [List.nil_append] at ho2
  have hu2 := hide (ownP_below (e := 43) (cs := pC) (l := []) (Up.refl w1) (OwnP.nil _ _ _ _) hg2)
  replace ho2 := hide ho2
  clear hg2
  obtain ⟨a2, n2, c2, rfl, -, -⟩ := ho2.out.sliceN
  go_wp2_with fail
  have HSK : Hid (∀ w', Up w1 w' → (Up w1 w' ∧ w'.cell? ⟨sb, 1, none⟩ = some (.string ss) ∧ w'.cell? ⟨sb, 2, none⟩ = some (.int .i64 si))) := fun w' hu => ⟨hu, hu.cell y1, hu.cell y2⟩
  have hv2 := hu2.out
  refine wp_region_noPanic ?_
  go_region_held3 (fun w' => Up w1 w' ∧ w'.cell? ⟨sb, 1, none⟩ = some (.string ss) ∧ w'.cell? ⟨sb, 2, none⟩ = some (.int .i64 si)) (exact HSK.out _ (by repeat' (with_reducible first | assumption | exact Up.refl _ | apply Up.alloc | apply Up.drew)))
    (first
      | (refine step_append_oneP elemQ (W := w1) rfl _ _ rfl _ (z.take at_) (ss, si) _ rfl rfl rfl (by go_simp) (by go_simp) (by repeat' (with_reducible first | assumption | exact Up.refl _ | apply Up.alloc | apply Up.drew)) (OwnP.up ho2.out (by repeat' (with_reducible first | assumption | exact Up.refl _ | apply Up.alloc | apply Up.drew))) (by have := HTL.out.1; omega) ?_; intro v5 w5 ho5 hu5)
      | (refine step_append_rowP elemQ (W := w1) rfl _ _ rfl _ _ (z.take at_ ++ [(ss, si)]) (z.drop at_) rfl rfl (by repeat' (with_reducible first | assumption | exact Up.refl _ | apply Up.alloc | apply Up.drew)) (OwnP.up ho5 (by repeat' (with_reducible first | assumption | exact Up.refl _ | apply Up.alloc | apply Up.drew))) (RdP.up HRD.out (by repeat' (with_reducible first | assumption | exact Up.refl _ | apply Up.alloc | apply Up.drew))) (by have := HTL.out; rw [List.length_append]; simp only [List.length_singleton]; omega) ?_; intro v6 w6 ho6 hu6))
  all_goals
    obtain ⟨a6, n6, c6, rfl, -, -⟩ := ho6.sliceN
    have HO6 := hide ho6
    have HU6 := hide hu6
    clear ho6 hu6 ho5 hu5
    refine NoPanic.normal ?_
    generalize (if cm = at_ then am else Option.map (fun x => x.add (at_ * 2)) am) = zz
    go_wp2
    all_goals
      refine Met.intro ?_
      (repeat apply Exists.intro)
      have hx : (ss, si) ∉ z := fun h => by have := P.out.hib.2 h; cases this
      obtain ⟨q1, q2, q3⟩ := P.out.spot.ins P.out.srt hx
      exact ⟨P.out.done HD.out q1 (by omega) (insZ_str P.out.str P.out.s60) HO6.out HU6.out, rfl⟩
set_option maxHeartbeats 16000000 in
theorem ty_del (p : TyAt w T z kk am nm cm sb sw ss si at_ ib W) (hsw : ¬ sw ≤ 3) (hib : ib = true) (u0 u1 u2 u5 u9 u10 u11 u12 u13 u14 u15 u16 u17 u18 u19 u20 u21 u22 u23 u24 u25 u26 u27 u28 u29 u30 u31 u32 u33 u34 u35 u36 u37 u38 u39 u40 u41 u42 u43 u44 u45 u46 u47 u48 u49 u50 u51 u52 u53 u54 u55 u56 u57 u58 u59 u60 u61 u62 u63 u64 u65 u66 u67 u68 u69 u70 u71 u72 u73 u74 u75 u76 u77 u78 u79 u80 u81 u82 u83 u84 u85 u86 u87 u88 u89 u90 u91 u92 u93 u94 u95 u96 u97 u98 u99 u100 u101 u102 u103 u104 u105 u106 u107 u108 u109 u110 u111 u112 u113 u114 u115 u116 u117 u118 u119 u120 u121 u122 u123 u124 u125 u126 u127 u128 u129 u130 u131 u132 u133 u134 u135 u136 u137 u138 u139 u140 u141 u142 u143 u144 u145 u146 u147 u148 u149 u150 u151 u152 u153 u154 u155 u156 u157 u158 u159 u160 u161 u162 u163 u164 u165 u166 u167 u168 u169 u170 u171 u172 u173 u174 u175 u176 u177 u178 u179 u180 u181 u182 u183 u184 u185 u186 u187 u188 u189 u190 u191 u192 u193 u194 u195 u196 u197 u198 u199 u200 u201 u202 u203 u204 u205 u206 u207 u208 u209 u210 u211 u212 u213 u214 u215 u216 u217 u218 u219 u220 u221 u222 u223 u224 u225 u226 u227 u228 u229 u230 u231 u232 u233 u234 u235 u236 u237 u238 u239 u240 u241 u242 u243 u244 u245 u246 u247 u248 u249 u250 u251 u252 u253 u254 u255 u256 u257 u258 u259 u260 u261 u262 u263 u264 u265 u266 u267 u268 u269 u270 u271 u272 u273 u274 u275 u276 u277 u278 u279 u280 u281 u282 u283 u284 u285 u286 u287 u288 u289 u290 u291 u292 u293 u294 u295 u296 u297 u298 u299 u300 u301 u302 u303 u304 u305 u306 u307 u308 u309 u310 u311 u312 u313 : Value) (K : Act → World → Prop) (Q : Exit → Act → World → Prop)
    (hK : ∀ a' w', Met (TyJ w T z.length kk sb at_ ss ib u0 u1 u2 u5 u10 u11 u12 u13 u14 u15 u16 u17 u18 u19 u20 u21 u22 u23 u24 u25 u26 u27 u28 u29 u30 u31 u32 u33 u34 u35 u36 u37 u38 u39 u40 u41 u42 u43 u44 u45 u46 u47 u48 u49 u50 u51 u52 u53 u54 u55 u56 u57 u58 u59 u60 u61 u62 u63 u64 u65 u66 u67 u68 u69 u70 u71 u72 u73 u74 u75 u76 u77 u78 u79 u80 u81 u82 u83 u84 u85 u86 u87 u88 u89 u90 u91 u92 u143 u144 u145 u146 u147 u148 u149 u150 u151 u152 u153 u154 u155 u156 u157 u158 u159 u160 u161 u162 u163 u164 u165 u166 u167 u168 u169 u170 u171 u172 u173 u174 u175 u176 u177 u178 u179 u180 u181 u182 u183 u184 u185 u186 u187 u188 u189 u190 u191 u192 u193 u194 u195 u196 u197 u198 u199 u200 u201 u202 u203 u204 u205 u206 u207 u208 u209 u210 u211 u212 u213 u214 u215 u216 u217 u218 u219 u220 u221 u222 u223 u224 u225 u226 u227 u228 u229 u230 u231 u232 u233 u234 u235 u236 u237 u238 u239 u240 u241 u242 u243 u244 u245 u246 u247 u248 u249 u250 u251 u252 u253 u254 u255 u256 u257 u258 u259 u260 u261 u262 u263 u264 u265 u266 u267 u268 u269 u270 u271 u272 u273 u274 u275 u276 u277 u278 u279 u280 u281 u282 u283 u284 u285 u286 u287 u288 u289 u290 u291 u292 u293 u294 u295 u296 u297 u298 u299 u300 u301 u302 u303 u304 u305 u306 u307 u308 u309 u310 u311 u312 u313) a' w' → K a' w') :
    Code.wp Try.prog ((Try.f4.body.bind (blkN 4)).getD .skip) (Exit.then K Q) ⟨#[u0, u1, u2, .pointer (some ⟨T, 0, none⟩), .slice am nm cm, u5, .pointer (some ⟨sb, 0, none⟩), .int .i64 at_, .bool ib, u9, u10, u11, u12, u13, u14, u15, u16, u17, u18, u19, u20, u21, u22, u23, u24, u25, u26, u27, u28, u29, u30, u31, u32, u33, u34, u35, u36, u37, u38, u39, u40, u41, u42, u43, u44, u45, u46, u47, u48, u49, u50, u51, u52, u53, u54, u55, u56, u57, u58, u59, u60, u61, u62, u63, u64, u65, u66, u67, u68, u69, u70, u71, u72, u73, u74, u75, u76, u77, u78, u79, u80, u81, u82, u83, u84, u85, u86, u87, u88, u89, u90, u91, u92, u93, u94, u95, u96, u97, u98, u99, u100, u101, u102, u103, u104, u105, u106, u107, u108, u109, u110, u111, u112, u113, u114, u115, u116, u117, u118, u119, u120, u121, u122, u123, u124, u125, u126, u127, u128, u129, u130, u131, u132, u133, u134, u135, u136, u137, u138, u139, u140, u141, u142, u143, u144, u145, u146, u147, u148, u149, u150, u151, u152, u153, u154, u155, u156, u157, u158, u159, u160, u161, u162, u163, u164, u165, u166, u167, u168, u169, u170, u171, u172, u173, u174, u175, u176, u177, u178, u179, u180, u181, u182, u183, u184, u185, u186, u187, u188, u189, u190, u191, u192, u193, u194, u195, u196, u197, u198, u199, u200, u201, u202, u203, u204, u205, u206, u207, u208, u209, u210, u211, u212, u213, u214, u215, u216, u217, u218, u219, u220, u221, u222, u223, u224, u225, u226, u227, u228, u229, u230, u231, u232, u233, u234, u235, u236, u237, u238, u239, u240, u241, u242, u243, u244, u245, u246, u247, u248, u249, u250, u251, u252, u253, u254, u255, u256, u257, u258, u259, u260, u261, u262, u263, u264, u265, u266, u267, u268, u269, u270, u271, u272, u273, u274, u275, u276, u277, u278, u279, u280, u281, u282, u283, u284, u285, u286, u287, u288, u289, u290, u291, u292, u293, u294, u295, u296, u297, u298, u299, u300, u301, u302, u303, u304, u305, u306, u307, u308, u309, u310, u311, u312, u313], []⟩ W := by
  have P := hide p
  have HC := hide (p.era hib)
  have c0 := p.c0
  have c1 := p.c1
  have c2 := p.c2
  have d0 : decide (sw ≤ 3) = false := decide_eq_false hsw
  obtain ⟨hjz, -⟩ := (p.spot.mem p.srt).1 (p.hib.1 hib)
  have hjn : at_ + 1 ≤ nm := by have := p.len; omega
  clear hjz
  have j0 : (0 : Int) ≤ (at_ : Int) := by omega
  have jn : (at_ : Int) ≤ (nm : Int) := by omega
  have hjc : at_ ≤ cm := by have := p.lec; omega
  have jc : (at_ : Int) ≤ (cm : Int) := by omega
  have hnc : (nm : Int) ≤ (cm : Int) := by have := p.lec; omega
  have hfew := p.few
  have j1 : (0 : Int) ≤ (at_ : Int) + 1 := by omega
  have j2 : (at_ : Int) + 1 ≤ (nm : Int) := by omega
  have j3 : (at_ : Int) + 1 ≤ (cm : Int) := by omega
  have jt : ((at_ : Int) + 1).toNat = at_ + 1 := by omega
  have e1 : IntKind.i64.wrap ((at_ : Int) + 1) = (at_ : Int) + 1 := by rw [IntKind.wrap_i64]; omega
  have HXL : Hid (z.length ≤ 80) := by have := p.len; show _ ≤ _; omega
  have HJN := hide hjn
  subst hib
  unfold TyJ at hK
  clear p
  conv => arg 2; whnf
  go_wp2_with fail
  refine HC.out.mono ?_
  rintro _ w1 ⟨rfl, hd1⟩
  have HD := hide hd1
  obtain ⟨O, k', h1, h2, h3, h4, h5, y1, y2⟩ := hd1
  have HRT := hide (h3.take (m := at_) (by have := HJN.out; omega))
  have HRD := hide (h3.drop1 (m := at_ + 1) HJN.out)
  have HTL : Hid ((z.take at_).length ≤ 80 ∧ (z.drop (at_ + 1)).length ≤ 80) := ⟨by rw [List.length_take]; have := HXL.out; omega, by rw [List.length_drop]; have := HXL.out; omega⟩
  clear h1 h2 h3 h4 h5 c0 c1 c2
  dsimp only
  go_wp2_with fail
  refine wp_region_noPanic ?_
  have HSK : Hid (∀ w', Up w1 w' → (Up w1 w' ∧ w'.cell? ⟨sb, 1, none⟩ = some (.string ss))) := fun w' hu => ⟨hu, hu.cell y1⟩
  go_region_held3 (fun w' => Up w1 w' ∧ w'.cell? ⟨sb, 1, none⟩ = some (.string ss)) (exact HSK.out _ (by repeat' (with_reducible first | assumption | exact Up.refl _ | apply Up.alloc | apply Up.drew)))
    (first
      | (refine step_append_rowP elemQ (W := w1) rfl _ _ rfl (.slice none 0 0) _ [] (z.take at_) rfl rfl (by repeat' (with_reducible first | assumption | exact Up.refl _ | apply Up.alloc | apply Up.drew)) (OwnP.nil _ _ _ _) (RdP.up HRT.out (by repeat' (with_reducible first | assumption | exact Up.refl _ | apply Up.alloc | apply Up.drew))) (by have := HTL.out; simp only [List.length_nil]; omega) ?_; intro v5 w5 ho5 hu5; try rw [List.nil_append] at ho5)
      | (refine step_append_rowP elemQ (W := w1) rfl _ _ rfl _ _ (z.take at_) (z.drop (at_ + 1)) rfl rfl (by repeat' (with_reducible first | assumption | exact Up.refl _ | apply Up.alloc | apply Up.drew)) (OwnP.up ho5 (by repeat' (with_reducible first | assumption | exact Up.refl _ | apply Up.alloc | apply Up.drew))) (RdP.up HRD.out (by repeat' (with_reducible first | assumption | exact Up.refl _ | apply Up.alloc | apply Up.drew))) (by have := HTL.out; omega) ?_; intro v6 w6 ho6 hu6))
  all_goals
    obtain ⟨a6, n6, c6, rfl, -, -⟩ := ho6.sliceN
    have HO6 := hide ho6
    have HU6 := hide hu6
    clear ho6 hu6 ho5 hu5
    refine NoPanic.normal ?_
    generalize (if cm = at_ + 1 then am else Option.map (fun x => x.add ((at_ + 1) * 2)) am) = zz
    go_wp2
    all_goals
      refine Met.intro ?_
      (repeat apply Exists.intro)
      obtain ⟨q1, q2, q3⟩ := P.out.spot.del P.out.srt (P.out.hib.1 rfl)
      exact ⟨P.out.done HD.out q1 (by omega) (delZ_str P.out.str) HO6.out HU6.out, rfl⟩
end Go.Proofs.Ytmbniakobhaomaa
