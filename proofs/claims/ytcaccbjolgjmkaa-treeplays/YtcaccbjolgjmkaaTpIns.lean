/-
  TreePlays of rialtolaw11: a number that is put in, as its text runs.
-/
import Derived.Test.YtcaccbjolgjmkaaTpArm
namespace Go.Proofs.Ytcaccbjolgjmkaa
open Go.ChangeShapes Go.WideShapes Go.ChangeAt Go.RowKit
set_option linter.unusedVariables false
set_option maxRecDepth 100000
attribute [local go_sem ↓] Go.wp_at_zero Go.wp_at_succ

variable {w W : World} {T : Nat} {xs : List Int} {h n : Nat} {am : Option Addr} {nm cm sb : Nat} {sw si sv : Int} {ib : Bool}
set_option maxHeartbeats 8000000 in
/-- The place as it is told: none. -/
theorem tp_insnot (p : TpAt w T xs h n am nm cm sb sw si sv ib W) (hsw : sw = 0 ∨ sw = 1 ∨ ((sw = 2 ∨ sw = 3 ∨ sw = 4) ∧ nm = 0)) (hj : si < 0 ∨ (nm : Int) < si) (u0 u1 u2 u5 u8 u11 u12 u13 u14 u15 u16 u17 u18 u19 u20 u21 u22 u23 u24 u25 u26 u27 u28 u29 u30 u31 u32 u33 u34 u35 u36 u37 u38 u39 u40 u41 u42 u43 u44 u45 u46 u47 u48 u49 u50 u51 u52 u54 u55 u56 u57 u58 u59 u60 u61 u62 u63 u64 u65 u66 u67 u68 u69 u70 u71 u72 u73 u74 u75 u76 u77 u78 u79 u80 u81 u82 u83 u84 u85 u86 u87 u88 u89 u90 u91 u92 u93 u94 u95 u96 u97 u98 u99 u100 u101 u102 u103 u104 u105 u106 u107 u108 u109 u110 u111 u112 u113 u114 u115 u116 u117 u118 u119 u120 u121 u122 u123 u124 u125 u126 u127 u128 u129 u130 u131 u132 u133 u134 u135 u136 u137 u138 u139 u140 u141 u142 u143 u144 u145 u146 u147 u148 u149 u150 u151 u152 u153 u154 u155 u156 u157 u158 u159 u160 u161 u162 u163 u164 u165 u166 u167 u168 u169 u170 u171 u172 u173 u174 u175 u176 u177 u178 u179 u180 u181 u182 u183 u184 u185 u186 u187 u188 u189 u190 u191 u192 u193 u194 u195 u196 u197 u198 u199 u200 u201 u202 u203 u204 u205 u206 u207 u208 u209 u210 u211 u212 u213 u214 u215 u216 u217 u218 u219 u220 u221 u222 u223 u224 u225 u226 u227 u228 u229 u230 u231 u232 u233 u234 u235 u236 u237 u238 u239 u240 u241 u242 u243 u244 u245 u246 u247 u248 u249 u250 u251 u252 u253 u254 u255 u256 u257 u258 u259 u260 u261 u262 u263 u264 u265 u266 u267 u268 u269 u270 u271 u272 u273 u274 u275 u276 u277 u278 u279 u280 u281 u282 u283 u284 u285 u286 u287 u288 u289 u290 u291 u292 u293 u294 u295 u296 u297 u298 u299 u300 u301 u302 u303 u304 u305 u306 : Value) (K : Act → World → Prop) (Q : Exit → Act → World → Prop)
    (hK : ∀ a' w', Met (TpJ w T xs n nm sb si sw ib u0 u1 u2 u5 u8 u19 u20 u21 u22 u23 u24 u25 u26 u27 u28 u29 u30 u31 u32 u33 u34 u35 u36 u37 u38 u39 u40 u41 u42 u43 u44 u45 u46 u47 u48 u49 u50 u51 u52 u209 u210 u211 u212 u213 u214 u215 u216 u217 u218 u219 u220 u221 u222 u223 u224 u225 u226 u227 u228 u229 u230 u231 u232 u233 u234 u235 u236 u237 u238 u239 u240 u241 u242 u243 u244 u245 u246 u247 u248 u249 u250 u251 u252 u253 u254 u255 u256 u257 u258 u259 u260 u261 u262 u263 u264 u265 u266 u267 u268 u269 u270 u271 u272 u273 u274 u275 u276 u277 u278 u279 u280 u281 u282 u283 u284 u285 u286 u287 u288 u289 u290 u291 u292 u293 u294 u295 u296 u297 u298 u299 u300 u301 u302 u303 u304 u305 u306) a' w' → K a' w') :
    Code.wp Try.prog ((Try.f3.body.bind (blkN 2)).getD .skip) (Exit.then K Q) ⟨#[u0, u1, u2, .pointer (some ⟨T, 0, none⟩), .slice am nm cm, u5, .pointer (some ⟨sb, 0, none⟩), .int .i64 nm, u8, .bool ib, .bool false, u11, u12, u13, u14, u15, u16, u17, u18, u19, u20, u21, u22, u23, u24, u25, u26, u27, u28, u29, u30, u31, u32, u33, u34, u35, u36, u37, u38, u39, u40, u41, u42, u43, u44, u45, u46, u47, u48, u49, u50, u51, u52, .int .i64 sw, u54, u55, u56, u57, u58, u59, u60, u61, u62, u63, u64, u65, u66, u67, u68, u69, u70, u71, u72, u73, u74, u75, u76, u77, u78, u79, u80, u81, u82, u83, u84, u85, u86, u87, u88, u89, u90, u91, u92, u93, u94, u95, u96, u97, u98, u99, u100, u101, u102, u103, u104, u105, u106, u107, u108, u109, u110, u111, u112, u113, u114, u115, u116, u117, u118, u119, u120, u121, u122, u123, u124, u125, u126, u127, u128, u129, u130, u131, u132, u133, u134, u135, u136, u137, u138, u139, u140, u141, u142, u143, u144, u145, u146, u147, u148, u149, u150, u151, u152, u153, u154, u155, u156, u157, u158, u159, u160, u161, u162, u163, u164, u165, u166, u167, u168, u169, u170, u171, u172, u173, u174, u175, u176, u177, u178, u179, u180, u181, u182, u183, u184, u185, u186, u187, u188, u189, u190, u191, u192, u193, u194, u195, u196, u197, u198, u199, u200, u201, u202, u203, u204, u205, u206, u207, u208, u209, u210, u211, u212, u213, u214, u215, u216, u217, u218, u219, u220, u221, u222, u223, u224, u225, u226, u227, u228, u229, u230, u231, u232, u233, u234, u235, u236, u237, u238, u239, u240, u241, u242, u243, u244, u245, u246, u247, u248, u249, u250, u251, u252, u253, u254, u255, u256, u257, u258, u259, u260, u261, u262, u263, u264, u265, u266, u267, u268, u269, u270, u271, u272, u273, u274, u275, u276, u277, u278, u279, u280, u281, u282, u283, u284, u285, u286, u287, u288, u289, u290, u291, u292, u293, u294, u295, u296, u297, u298, u299, u300, u301, u302, u303, u304, u305, u306], []⟩ W := by
  have P := hide p
  have HC := hide (insertAtI_not T h n si sv xs W p.t (by rw [← p.len]; exact hj) (by have := p.len; have := p.few; omega))
  have c0 := p.c0
  have c1 := p.c1
  have c2 := p.c2
  unfold TpJ at hK
  clear p
  conv => arg 2; whnf
  rcases hj with h0 | h0
  · have d1 : ¬ 0 ≤ si := by omega
    rcases hsw with rfl | rfl | ⟨rfl | rfl | rfl, hn0⟩
    all_goals
      try (have hn0' : ¬ (0 : Int) < (nm : Int) := by omega)
      try clear hn0
      go_wp2_with fail
      refine HC.out.mono ?_
      rintro _ w1 ⟨rfl, hu1⟩
      have HU1 := hide hu1
      clear hu1 c0 c1 c2
      dsimp only
      go_wp2
      refine Met.intro ?_
      (repeat apply Exists.intro)
      exact ⟨P.out.same HU1.out, rfl⟩
  · have d1 : 0 ≤ si := by omega
    have d2 : ¬ si ≤ (nm : Int) := by omega
    rcases hsw with rfl | rfl | ⟨rfl | rfl | rfl, hn0⟩
    all_goals
      try (have hn0' : ¬ (0 : Int) < (nm : Int) := by omega)
      try clear hn0
      go_wp2_with fail
      refine HC.out.mono ?_
      rintro _ w1 ⟨rfl, hu1⟩
      have HU1 := hide hu1
      clear hu1 c0 c1 c2
      dsimp only
      go_wp2
      refine Met.intro ?_
      (repeat apply Exists.intro)
      exact ⟨P.out.same HU1.out, rfl⟩
set_option maxHeartbeats 16000000 in
/-- The place as it is told. -/
theorem tp_ins (j : Nat) (p : TpAt w T xs h n am nm cm sb sw j sv ib W) (hsw : sw = 0 ∨ sw = 1 ∨ ((sw = 2 ∨ sw = 3 ∨ sw = 4) ∧ nm = 0)) (hj : j ≤ nm) (u0 u1 u2 u5 u8 u11 u12 u13 u14 u15 u16 u17 u18 u19 u20 u21 u22 u23 u24 u25 u26 u27 u28 u29 u30 u31 u32 u33 u34 u35 u36 u37 u38 u39 u40 u41 u42 u43 u44 u45 u46 u47 u48 u49 u50 u51 u52 u54 u55 u56 u57 u58 u59 u60 u61 u62 u63 u64 u65 u66 u67 u68 u69 u70 u71 u72 u73 u74 u75 u76 u77 u78 u79 u80 u81 u82 u83 u84 u85 u86 u87 u88 u89 u90 u91 u92 u93 u94 u95 u96 u97 u98 u99 u100 u101 u102 u103 u104 u105 u106 u107 u108 u109 u110 u111 u112 u113 u114 u115 u116 u117 u118 u119 u120 u121 u122 u123 u124 u125 u126 u127 u128 u129 u130 u131 u132 u133 u134 u135 u136 u137 u138 u139 u140 u141 u142 u143 u144 u145 u146 u147 u148 u149 u150 u151 u152 u153 u154 u155 u156 u157 u158 u159 u160 u161 u162 u163 u164 u165 u166 u167 u168 u169 u170 u171 u172 u173 u174 u175 u176 u177 u178 u179 u180 u181 u182 u183 u184 u185 u186 u187 u188 u189 u190 u191 u192 u193 u194 u195 u196 u197 u198 u199 u200 u201 u202 u203 u204 u205 u206 u207 u208 u209 u210 u211 u212 u213 u214 u215 u216 u217 u218 u219 u220 u221 u222 u223 u224 u225 u226 u227 u228 u229 u230 u231 u232 u233 u234 u235 u236 u237 u238 u239 u240 u241 u242 u243 u244 u245 u246 u247 u248 u249 u250 u251 u252 u253 u254 u255 u256 u257 u258 u259 u260 u261 u262 u263 u264 u265 u266 u267 u268 u269 u270 u271 u272 u273 u274 u275 u276 u277 u278 u279 u280 u281 u282 u283 u284 u285 u286 u287 u288 u289 u290 u291 u292 u293 u294 u295 u296 u297 u298 u299 u300 u301 u302 u303 u304 u305 u306 : Value) (K : Act → World → Prop) (Q : Exit → Act → World → Prop)
    (hK : ∀ a' w', Met (TpJ w T xs n nm sb j sw ib u0 u1 u2 u5 u8 u19 u20 u21 u22 u23 u24 u25 u26 u27 u28 u29 u30 u31 u32 u33 u34 u35 u36 u37 u38 u39 u40 u41 u42 u43 u44 u45 u46 u47 u48 u49 u50 u51 u52 u209 u210 u211 u212 u213 u214 u215 u216 u217 u218 u219 u220 u221 u222 u223 u224 u225 u226 u227 u228 u229 u230 u231 u232 u233 u234 u235 u236 u237 u238 u239 u240 u241 u242 u243 u244 u245 u246 u247 u248 u249 u250 u251 u252 u253 u254 u255 u256 u257 u258 u259 u260 u261 u262 u263 u264 u265 u266 u267 u268 u269 u270 u271 u272 u273 u274 u275 u276 u277 u278 u279 u280 u281 u282 u283 u284 u285 u286 u287 u288 u289 u290 u291 u292 u293 u294 u295 u296 u297 u298 u299 u300 u301 u302 u303 u304 u305 u306) a' w' → K a' w') :
    Code.wp Try.prog ((Try.f3.body.bind (blkN 2)).getD .skip) (Exit.then K Q) ⟨#[u0, u1, u2, .pointer (some ⟨T, 0, none⟩), .slice am nm cm, u5, .pointer (some ⟨sb, 0, none⟩), .int .i64 nm, u8, .bool ib, .bool false, u11, u12, u13, u14, u15, u16, u17, u18, u19, u20, u21, u22, u23, u24, u25, u26, u27, u28, u29, u30, u31, u32, u33, u34, u35, u36, u37, u38, u39, u40, u41, u42, u43, u44, u45, u46, u47, u48, u49, u50, u51, u52, .int .i64 sw, u54, u55, u56, u57, u58, u59, u60, u61, u62, u63, u64, u65, u66, u67, u68, u69, u70, u71, u72, u73, u74, u75, u76, u77, u78, u79, u80, u81, u82, u83, u84, u85, u86, u87, u88, u89, u90, u91, u92, u93, u94, u95, u96, u97, u98, u99, u100, u101, u102, u103, u104, u105, u106, u107, u108, u109, u110, u111, u112, u113, u114, u115, u116, u117, u118, u119, u120, u121, u122, u123, u124, u125, u126, u127, u128, u129, u130, u131, u132, u133, u134, u135, u136, u137, u138, u139, u140, u141, u142, u143, u144, u145, u146, u147, u148, u149, u150, u151, u152, u153, u154, u155, u156, u157, u158, u159, u160, u161, u162, u163, u164, u165, u166, u167, u168, u169, u170, u171, u172, u173, u174, u175, u176, u177, u178, u179, u180, u181, u182, u183, u184, u185, u186, u187, u188, u189, u190, u191, u192, u193, u194, u195, u196, u197, u198, u199, u200, u201, u202, u203, u204, u205, u206, u207, u208, u209, u210, u211, u212, u213, u214, u215, u216, u217, u218, u219, u220, u221, u222, u223, u224, u225, u226, u227, u228, u229, u230, u231, u232, u233, u234, u235, u236, u237, u238, u239, u240, u241, u242, u243, u244, u245, u246, u247, u248, u249, u250, u251, u252, u253, u254, u255, u256, u257, u258, u259, u260, u261, u262, u263, u264, u265, u266, u267, u268, u269, u270, u271, u272, u273, u274, u275, u276, u277, u278, u279, u280, u281, u282, u283, u284, u285, u286, u287, u288, u289, u290, u291, u292, u293, u294, u295, u296, u297, u298, u299, u300, u301, u302, u303, u304, u305, u306], []⟩ W := by
  have P := hide p
  have HC := hide (insertAtI_ok T h n j sv xs W p.t (by rw [← p.len]; exact hj) (by have := p.len; have := p.few; omega) (by have := p.ww; omega))
  have c0 := p.c0
  have c1 := p.c1
  have c2 := p.c2
  have d1 : decide ((j : Int) < 0) = false := decide_eq_false (by omega)
  have d2 : decide ((j : Int) > (nm : Int)) = false := decide_eq_false (by omega)
  have d3 : ¬ (nm : Int) < (j : Int) := by omega
  have j0 : (0 : Int) ≤ (j : Int) := by omega
  have jn : (j : Int) ≤ (nm : Int) := by omega
  have hjc : j ≤ cm := by have := p.lec; omega
  have jc : (j : Int) ≤ (cm : Int) := by omega
  have hnc : (nm : Int) ≤ (cm : Int) := by have := p.lec; omega
  have hfew := p.few
  have hjl : Hid (j ≤ xs.length) := by have := p.len; show _ ≤ _; omega
  have HXL : Hid (xs.length ≤ 150) := by have := p.len; show _ ≤ _; omega
  unfold TpJ at hK
  clear p
  conv => arg 2; whnf
  rcases hsw with rfl | rfl | ⟨rfl | rfl | rfl, hn0⟩
  all_goals
    try (have hn0' : ¬ (0 : Int) < (nm : Int) := by omega)
    try clear hn0
    go_wp2_with fail
    refine HC.out.mono ?_
    rintro _ w1 ⟨rfl, hd1⟩
    have HD := hide hd1
    obtain ⟨h', k', ht1, hk1, hk2, hc1⟩ := hd1
    have hlt : Hid (T < w1.heap.size) := ht1.lt
    have HM1 : Hid (Rd (Value.int .i64) (fun y => y = T) w1 (.slice am nm cm) xs) := P.out.rd.chg hc1
    have y2 := hc1.cell (p := ⟨sb, 2, none⟩) c2 P.out.sT
    clear c0 c1 c2
    have HRT := hide (HM1.out.take hj)
    have HRD := hide (HM1.out.drop1 hj)
    have HTL : Hid ((xs.take j).length ≤ 150 ∧ (xs.drop j).length ≤ 150) := ⟨by rw [List.length_take]; have := HXL.out; omega, by rw [List.length_drop]; have := HXL.out; omega⟩
    clear ht1 hk1 hk2 hc1
    dsimp only
    go_wp2_with (at_builtin; refine append_rd elemI rfl _ _ rfl w1.heap.size (.slice none 0 0) _ [] (xs.take j) rfl rfl (Own.nil _ _ _ _) HRT.out (by have := HTL.out.1; simp only [List.length_nil]; omega) (Nat.le_refl _) ?_)
    intro v2 w2 ho2 hg2 _
    try rw [List.nil_append] at ho2
    have hu2 := hide (own_below (e := 3) (enc := Value.int .i64) (l := []) (Up.refl w1) (Own.nil _ _ _ _) hg2)
    replace ho2 := hide ho2
    clear hg2
    obtain ⟨a2, n2, c2, rfl, -, -⟩ := ho2.out.sliceN
    go_wp2_with fail
    have HSK : Hid (∀ w', Up w1 w' → (Up w1 w' ∧ w'.cell? ⟨sb, 2, none⟩ = some (.int .i64 sv))) := fun w' hu => ⟨hu, hu.cell y2⟩
    have hv2 := hu2.out
    refine wp_region_noPanic ?_
    go_region_held3 (fun w' => Up w1 w' ∧ w'.cell? ⟨sb, 2, none⟩ = some (.int .i64 sv)) (exact HSK.out _ (by repeat' (with_reducible first | assumption | exact Up.refl _ | apply Up.alloc | apply Up.drew)))
      (first
        | (refine step_append_one elemI (W := w1) rfl _ _ rfl _ (xs.take j) sv _ rfl rfl (by go_simp) (by repeat' (with_reducible first | assumption | exact Up.refl _ | apply Up.alloc | apply Up.drew)) (Own.up ho2.out (by repeat' (with_reducible first | assumption | exact Up.refl _ | apply Up.alloc | apply Up.drew))) (by have := HTL.out.1; omega) ?_; intro v5 w5 ho5 hu5)
        | (refine step_append_row elemI (W := w1) rfl _ _ rfl _ _ (xs.take j ++ [sv]) (xs.drop j) rfl rfl (by repeat' (with_reducible first | assumption | exact Up.refl _ | apply Up.alloc | apply Up.drew)) (Own.up ho5 (by repeat' (with_reducible first | assumption | exact Up.refl _ | apply Up.alloc | apply Up.drew))) (Rd.up HRD.out (by repeat' (with_reducible first | assumption | exact Up.refl _ | apply Up.alloc | apply Up.drew))) (by have := HTL.out; rw [List.length_append]; simp only [List.length_singleton]; omega) ?_; intro v6 w6 ho6 hu6))
    all_goals
      obtain ⟨a6, n6, c6, rfl, -, -⟩ := ho6.sliceN
      have HO6 := hide ho6
      have HU6 := hide hu6
      clear ho6 hu6 ho5 hu5
      rename_i hKK hHeld
      clear hHeld
      refine NoPanic.normal ?_
      simp only [Exit.then]
      refine hKK _ _ ?_
      clear hKK
      generalize (if cm = j then am else Option.map (fun x => x.add j) am) = zz
      go_wp2
      all_goals
        refine Met.intro ?_
        (repeat apply Exists.intro)
        refine ⟨P.out.done HD.out HU6.out (zs := insL sv xs j) ?_ (by rw [insL_len _ _ _ hjl.out]; omega), rfl⟩
        have e : insL sv xs j = xs.take j ++ [sv] ++ xs.drop j := by unfold insL; simp
        rw [e]
        exact Own.rd HO6.out (fun g hg e => by
          have := (Own.lt HO6.out g hg).1
          have := hlt.out
          omega)
end Go.Proofs.Ytcaccbjolgjmkaa
