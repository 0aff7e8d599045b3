/-
  SeqPlays of rialtolaw13: what is looked at behind an act, as its text runs.
-/
import Derived.Test.YtbnkddnjfkagkaaQyLfY
import Derived.Deep.CutBlock
import Derived.Test.YtbnkddnjfkagkaaQyLfN
namespace Go.Proofs.Ytbnkddnjfkagkaa
open Go.ChangeShapes Go.WideShapes Go.ChangeAt Go.RowKit
set_option linter.unusedVariables false
set_option maxRecDepth 100000
attribute [local go_sem ↓] Go.wp_at_zero Go.wp_at_succ

def endsQ (n : Nat) : Code → Bool
  | .block k _ => k == n
  | .seq _ b => endsQ n b
  | _ => false
/-- What stands behind the block with this number. -/
def aftQ (n : Nat) : Code → Option Code
  | .seq a b => if endsQ n a then some b else match aftQ n a with
    | some c => some c
    | none => aftQ n b
  | .block _ c => aftQ n c
  | .loop c => aftQ n c
  | .scope c => aftQ n c
  | .cond _ a b => match aftQ n a with
    | some c => some c
    | none => aftQ n b
  | _ => none
theorem bitsQ_mono1 : ∀ m : Nat, bitsN m ≤ bitsN (m + 1) := by
  intro m
  induction m using Nat.strongRecOn with
  | ind m ih =>
    by_cases h : m = 0
    · subst h; unfold bitsN; simp
    · rw [bitsN_pos h, bitsN_pos (m := m + 1) (by omega)]
      by_cases h2 : (m + 1) / 2 = m / 2
      · rw [h2]; exact Nat.le_refl _
      · have : (m + 1) / 2 = m / 2 + 1 := by omega
        rw [this]
        have := ih (m / 2) (by omega)
        omega
set_option maxRecDepth 1000000 in
def QyE (w : World) (q T M : Nat) (zs : List Int) (N n nm nz cm sb my : Nat) (am : Option Addr) (c g : Int) (u0 u1 u2 u5 u9 u15 u22 u23 u24 u25 u26 u27 u28 u29 u30 u31 u32 u33 u34 u35 u36 u37 u38 u39 u40 u41 u42 u43 u44 u45 u46 u47 u48 u49 u50 u51 u52 u53 u54 u55 u56 u57 u58 u59 u60 u61 u62 u63 u64 u65 u66 u67 u68 u69 u70 u71 u72 u73 u74 u75 u76 u77 u78 u79 u80 u81 u82 u83 u84 u85 u86 u87 u88 u89 u90 u91 u92 u93 u94 u95 u96 u97 u98 u99 u100 u101 u102 u103 u104 u105 u106 u107 u108 u109 u110 u111 u112 u113 u114 u115 u116 u117 u118 u119 u120 u121 u122 u123 u124 u125 u126 u127 u128 u129 u130 u131 u132 u133 u134 u135 u136 u137 u138 u139 u140 u141 u142 u143 u144 u145 u146 u147 u148 u149 u150 u151 u152 u153 u154 u155 u156 u157 u158 u159 u160 u161 u162 u163 u164 u165 u166 u167 u168 u169 u170 u171 u172 u173 u174 u175 u176 u177 u178 u179 u180 u181 u182 : Value) (a : Act) (wx : World) : Prop :=
  ∃ v16 v17 v18 v19 v20 v21 v183 v184 v185 v186 v187 v188 v189 v190 v191 v192 v193 v194 v195 v196 v197 v198 v199 v200 v201 v202 v203 v204 v205 v206 v207 v208 v209 v210 v211 v212 v213 v214 v215 v216 v217 v218 v219 v220 v221 v222 v223 v224 v225 v226 v227 v228 v229 v230 v231 v232 v233 v234 v235 v236 v237 v238 v239 v240 v241 v242 v243 v244 v245 v246 v247 v248 v249 v250 v251 v252 v253 v254 v255 v256 v257 v258 v259 v260 v261 v262 v263 v264 v265 v266 v267 v268 v269 v270 v271 v272 v273 v274 v275 v276 v277 v278 v279 v280 v281 v282 v283 v284 v285 v286 : Value, QyEnd w q T M zs N (.slice am nz cm) wx ∧ a = ⟨#[u0, u1, u2, .pointer (some ⟨q, 0, none⟩), .slice am nz cm, u5, .pointer (some ⟨sb, 0, none⟩), .int .i64 nm, .int .i64 n, u9, .int .i64 c, .int .i64 c, .int .i64 g, .int .i64 g, .int .i64 my, u15, v16, v17, v18, v19, v20, v21, u22, u23, u24, u25, u26, u27, u28, u29, u30, u31, u32, u33, u34, u35, u36, u37, u38, u39, u40, u41, u42, u43, u44, u45, u46, u47, u48, u49, u50, u51, u52, u53, u54, u55, u56, u57, u58, u59, u60, u61, u62, u63, u64, u65, u66, u67, u68, u69, u70, u71, u72, u73, u74, u75, u76, u77, u78, u79, u80, u81, u82, u83, u84, u85, u86, u87, u88, u89, u90, u91, u92, u93, u94, u95, u96, u97, u98, u99, u100, u101, u102, u103, u104, u105, u106, u107, u108, u109, u110, u111, u112, u113, u114, u115, u116, u117, u118, u119, u120, u121, u122, u123, u124, u125, u126, u127, u128, u129, u130, u131, u132, u133, u134, u135, u136, u137, u138, u139, u140, u141, u142, u143, u144, u145, u146, u147, u148, u149, u150, u151, u152, u153, u154, u155, u156, u157, u158, u159, u160, u161, u162, u163, u164, u165, u166, u167, u168, u169, u170, u171, u172, u173, u174, u175, u176, u177, u178, u179, u180, u181, u182, v183, v184, v185, v186, v187, v188, v189, v190, v191, v192, v193, v194, v195, v196, v197, v198, v199, v200, v201, v202, v203, v204, v205, v206, v207, v208, v209, v210, v211, v212, v213, v214, v215, v216, v217, v218, v219, v220, v221, v222, v223, v224, v225, v226, v227, v228, v229, v230, v231, v232, v233, v234, v235, v236, v237, v238, v239, v240, v241, v242, v243, v244, v245, v246, v247, v248, v249, v250, v251, v252, v253, v254, v255, v256, v257, v258, v259, v260, v261, v262, v263, v264, v265, v266, v267, v268, v269, v270, v271, v272, v273, v274, v275, v276, v277, v278, v279, v280, v281, v282, v283, v284, v285, v286], []⟩
variable {w W : World} {q T M : Nat} {xs zs : List Int} {h n k : Nat} {f : Int → Option Nat} {am : Option Addr} {nm nz cm sb my : Nat} {id si c g : Int}
set_option maxHeartbeats 32000000 in
theorem qy_rest (ix : SqIx (fun _ => False) q T M zs h (n + k) f W) (rd : Rd (Value.int .i64) (TM T M) W (.slice am nz cm) zs) (hu : Up w W) (c1 : W.cell? ⟨sb, 1, none⟩ = some (.int .i64 id)) (c3 : W.cell? ⟨sb, 3, none⟩ = some (.int .i64 si)) (hwid : wf64 id) (hm : 1 ≤ my ∧ my ≤ 41) (hk : k ≤ my * (8 * bitsN (xs.length + 1))) (hnm : nm = xs.length) (hn80 : nm ≤ 80) (hzl : zs.length ≤ xs.length + 1) (hn81 : n ≤ 10000000)
    (hc : (0 ≤ c ∧ c ≤ 100) ∧ (c ≠ 0 → k = 0)) (u0 u1 u2 u5 u9 u15 u16 u17 u18 u19 u20 u21 u22 u23 u24 u25 u26 u27 u28 u29 u30 u31 u32 u33 u34 u35 u36 u37 u38 u39 u40 u41 u42 u43 u44 u45 u46 u47 u48 u49 u50 u51 u52 u53 u54 u55 u56 u57 u58 u59 u60 u61 u62 u63 u64 u65 u66 u67 u68 u69 u70 u71 u72 u73 u74 u75 u76 u77 u78 u79 u80 u81 u82 u83 u84 u85 u86 u87 u88 u89 u90 u91 u92 u93 u94 u95 u96 u97 u98 u99 u100 u101 u102 u103 u104 u105 u106 u107 u108 u109 u110 u111 u112 u113 u114 u115 u116 u117 u118 u119 u120 u121 u122 u123 u124 u125 u126 u127 u128 u129 u130 u131 u132 u133 u134 u135 u136 u137 u138 u139 u140 u141 u142 u143 u144 u145 u146 u147 u148 u149 u150 u151 u152 u153 u154 u155 u156 u157 u158 u159 u160 u161 u162 u163 u164 u165 u166 u167 u168 u169 u170 u171 u172 u173 u174 u175 u176 u177 u178 u179 u180 u181 u182 u183 u184 u185 u186 u187 u188 u189 u190 u191 u192 u193 u194 u195 u196 u197 u198 u199 u200 u201 u202 u203 u204 u205 u206 u207 u208 u209 u210 u211 u212 u213 u214 u215 u216 u217 u218 u219 u220 u221 u222 u223 u224 u225 u226 u227 u228 u229 u230 u231 u232 u233 u234 u235 u236 u237 u238 u239 u240 u241 u242 u243 u244 u245 u246 u247 u248 u249 u250 u251 u252 u253 u254 u255 u256 u257 u258 u259 u260 u261 u262 u263 u264 u265 u266 u267 u268 u269 u270 u271 u272 u273 u274 u275 u276 u277 u278 u279 u280 u281 u282 u283 u284 u285 u286 : Value) (Q : Exit → Act → World → Prop)
    (hQ : ∀ a' w', Met (QyE w q T M zs (n + k) n nm nz cm sb my am c g u0 u1 u2 u5 u9 u15 u22 u23 u24 u25 u26 u27 u28 u29 u30 u31 u32 u33 u34 u35 u36 u37 u38 u39 u40 u41 u42 u43 u44 u45 u46 u47 u48 u49 u50 u51 u52 u53 u54 u55 u56 u57 u58 u59 u60 u61 u62 u63 u64 u65 u66 u67 u68 u69 u70 u71 u72 u73 u74 u75 u76 u77 u78 u79 u80 u81 u82 u83 u84 u85 u86 u87 u88 u89 u90 u91 u92 u93 u94 u95 u96 u97 u98 u99 u100 u101 u102 u103 u104 u105 u106 u107 u108 u109 u110 u111 u112 u113 u114 u115 u116 u117 u118 u119 u120 u121 u122 u123 u124 u125 u126 u127 u128 u129 u130 u131 u132 u133 u134 u135 u136 u137 u138 u139 u140 u141 u142 u143 u144 u145 u146 u147 u148 u149 u150 u151 u152 u153 u154 u155 u156 u157 u158 u159 u160 u161 u162 u163 u164 u165 u166 u167 u168 u169 u170 u171 u172 u173 u174 u175 u176 u177 u178 u179 u180 u181 u182) a' w' → Q .normal a' w') :
    Code.wp Try.prog ((Try.f3.body.bind (aftQ 2)).getD .skip) Q ⟨#[u0, u1, u2, .pointer (some ⟨q, 0, none⟩), .slice am nz cm, u5, .pointer (some ⟨sb, 0, none⟩), .int .i64 nm, .int .i64 n, u9, .int .i64 c, .int .i64 c, .int .i64 g, .int .i64 g, .int .i64 my, u15, u16, u17, u18, u19, u20, u21, u22, u23, u24, u25, u26, u27, u28, u29, u30, u31, u32, u33, u34, u35, u36, u37, u38, u39, u40, u41, u42, u43, u44, u45, u46, u47, u48, u49, u50, u51, u52, u53, u54, u55, u56, u57, u58, u59, u60, u61, u62, u63, u64, u65, u66, u67, u68, u69, u70, u71, u72, u73, u74, u75, u76, u77, u78, u79, u80, u81, u82, u83, u84, u85, u86, u87, u88, u89, u90, u91, u92, u93, u94, u95, u96, u97, u98, u99, u100, u101, u102, u103, u104, u105, u106, u107, u108, u109, u110, u111, u112, u113, u114, u115, u116, u117, u118, u119, u120, u121, u122, u123, u124, u125, u126, u127, u128, u129, u130, u131, u132, u133, u134, u135, u136, u137, u138, u139, u140, u141, u142, u143, u144, u145, u146, u147, u148, u149, u150, u151, u152, u153, u154, u155, u156, u157, u158, u159, u160, u161, u162, u163, u164, u165, u166, u167, u168, u169, u170, u171, u172, u173, u174, u175, u176, u177, u178, u179, u180, u181, u182, u183, u184, u185, u186, u187, u188, u189, u190, u191, u192, u193, u194, u195, u196, u197, u198, u199, u200, u201, u202, u203, u204, u205, u206, u207, u208, u209, u210, u211, u212, u213, u214, u215, u216, u217, u218, u219, u220, u221, u222, u223, u224, u225, u226, u227, u228, u229, u230, u231, u232, u233, u234, u235, u236, u237, u238, u239, u240, u241, u242, u243, u244, u245, u246, u247, u248, u249, u250, u251, u252, u253, u254, u255, u256, u257, u258, u259, u260, u261, u262, u263, u264, u265, u266, u267, u268, u269, u270, u271, u272, u273, u274, u275, u276, u277, u278, u279, u280, u281, u282, u283, u284, u285, u286], []⟩ W := by
  obtain ⟨a', n', c', he, hnz0, -⟩ := rd.sliceN
  cases he
  have hb := bitsN_le (m := xs.length + 1) (by omega)
  have hb2 := bitsQ_mono1 (xs.length + 1)
  have hb3 := bitsN_le (m := nm + 1 + 1) (by omega)
  rw [← hnm] at hb hb2 hk hzl
  have hz81 : Hid (zs.length ≤ 81) := by show _ ≤ _; omega
  have hz81' : nz ≤ 81 := by have := hnz0.out; have := hz81.out; omega
  have HNZ : Hid (nz = zs.length) := hnz0.out
  clear hnz0
  have HWR := hide (sqwrites_calls ix)
  have HLN : Hid (∀ W', Up W W' → Calls Try.prog 21 #[.pointer (some ⟨q, 0, none⟩)] W' fun e w' => e = .returned (.int .i64 nz) ∧ w' = W') := fun W' hu => by rw [HNZ.out]; exact sqlen_calls (ix.up hu)
  have HAL : Hid (∀ W', Up W W' → Calls Try.prog 23 #[.pointer (some ⟨q, 0, none⟩)] W' fun e w' => AppPost W' zs e w') := fun W' hu => sqall_calls (ix.up hu) (by have := hz81.out; omega)
  have HIX := hide ix
  have HRD := hide rd
  have HU := hide hu
  have HC1 := hide c1
  have HC3 := hide c3
  have HWI := hide hwid
  have HLG : Hid (∀ W', Calls Try.prog 20 #[.int .i64 ((nm : Int) + 1)] W' fun e w' => e = .returned (.int .i64 (bitsN (nm + 1 + 1) : Nat)) ∧ w' = W') := fun W' => logs_calls (nm + 1) (by omega) W'
  obtain ⟨lg, hlg⟩ : ∃ lg, lg = bitsN (nm + 1 + 1) := ⟨_, rfl⟩
  rw [← hlg] at HLG hb2 hb3
  obtain ⟨m8, hm8⟩ : ∃ m8, m8 = my * 8 := ⟨_, rfl⟩
  obtain ⟨ml, hml⟩ : ∃ ml, ml = m8 * lg := ⟨_, rfl⟩
  have hkl : k ≤ ml := by
    rw [hml, hm8]
    refine Nat.le_trans hk ?_
    rw [← Nat.mul_assoc]
    exact Nat.mul_le_mul_left _ hb2
  have hmls : ml ≤ 328 * 100 := by rw [hml]; exact Nat.mul_le_mul (by omega) hb3
  have e0 : IntKind.i64.wrap ((n : Int) + (k : Int) - (n : Int)) = (k : Int) := by rw [IntKind.wrap_i64]; omega
  have e0' : (n : Int) + (k : Int) - (n : Int) = (k : Int) := by omega
  have ek : IntKind.i64.wrap (k : Int) = (k : Int) := by rw [IntKind.wrap_i64]; omega
  have e1 : IntKind.i64.wrap ((nm : Int) + 1) = (nm : Int) + 1 := by rw [IntKind.wrap_i64]; omega
  have e2m : (my : Int) * 8 = (m8 : Int) := by rw [hm8]; simp
  have e2 : IntKind.i64.wrap (m8 : Int) = (m8 : Int) := by rw [IntKind.wrap_i64]; omega
  have e3m : (m8 : Int) * (lg : Int) = (ml : Int) := by rw [hml]; simp
  have e3 : IntKind.i64.wrap (ml : Int) = (ml : Int) := by rw [IntKind.wrap_i64]; omega
  have g1 : (c != c) = false := by simp
  have g1' : (g != g) = false := by simp
  have g2 : decide ((k : Int) < 0) = false := decide_eq_false (by omega)
  have g3 : decide ((k : Int) > (ml : Int)) = false := decide_eq_false (by omega)
  have g3' : decide ((ml : Int) < (k : Int)) = false := decide_eq_false (by omega)
  have g3n : decide (ml < k) = false := decide_eq_false (by omega)
  have g3'' : ¬ ((ml : Int) < (k : Int)) := by omega
  have g5 : ((nz : Int) != (nz : Int)) = false := by simp
  have g4 : (c != 0) = false ∨ ((c != 0) = true ∧ k = 0) := by
    by_cases h0 : c = 0
    · exact .inl (by simp [h0])
    · exact .inr ⟨by simp [h0], hc.2 h0⟩
  unfold QyE at hQ
  clear ix rd hu c1 c3 hwid hk hb hb2 hb3 hc hnm hzl hlg hm8 hml hkl hmls hm
  conv => arg 2; whnf
  --R0
  rcases g4 with g4 | ⟨g4, rfl⟩
  all_goals
    go_wp2_with fail
    refine HWR.out.mono ?_
    rintro _ w1 ⟨rfl, hw1⟩
    obtain rfl : W = w1 := hw1.symm
    dsimp only
    go_wp2_with fail
    refine (HLG.out _).mono ?_
    rintro _ w1 ⟨rfl, hw1⟩
    obtain rfl : W = w1 := hw1.symm
    dsimp only
    go_wp2_with fail
    refine (HLN.out _ (Up.refl _)).mono ?_
    rintro _ w1 ⟨rfl, hw1⟩
    obtain rfl : W = w1 := hw1.symm
    dsimp only
    go_wp2_with fail
    refine (HAL.out _ (Up.refl _)).mono ?_
    rintro _ w2 ⟨v2, rfl, ho2, hu2⟩
    have HO2 := hide ho2
    have HU2 := hide hu2
    obtain ⟨a2, n2, c2, rfl, -, -⟩ := ho2.sliceN
    clear ho2 hu2
    dsimp only
    go_wp2_with fail
    refine (ids_same (fun _ => False) (TM T M) _ _ zs w2 (Own.rd HO2.out (fun _ _ h => h)) (HRD.out.up HU2.out) (by have := hz81.out; omega)).mono ?_
    rintro _ w3 ⟨rfl, hu3⟩
    have HU3 := hide (HU2.out.trans hu3)
    have c1 := HU3.out.cell HC1.out
    have c3 := HU3.out.cell HC3.out
    clear hu3 HU2 HO2 HWR HLG HLN HAL
    dsimp only
    go_upto_region 53 with fail
    --R2
    have hfc : (∃ p : Nat, fdI zs id = p ∧ Calls Try.prog 24 #[.pointer (some ⟨q, 0, none⟩), .int .i64 id] w3 fun e w' => e = .returned (.tuple #[.int .i64 p, .bool true]) ∧ Up w3 w') ∨ (fdI zs id = -1 ∧ Calls Try.prog 24 #[.pointer (some ⟨q, 0, none⟩), .int .i64 id] w3 fun e w' => e = .returned (.tuple #[.int .i64 0, .bool false]) ∧ Up w3 w') := by
      rcases fdI_cases zs id with ⟨hid, hf⟩ | ⟨p, hp, hf, -, hpl⟩
      · exact .inr ⟨hf, sqplace_no id (HIX.out.up HU3.out) HWI.out hid⟩
      · exact .inl ⟨p, hf, sqplace_yes p id (HIX.out.up HU3.out) hpl (List.getElem?_eq_some_iff.1 hp).2 (by have := hz81.out; omega)⟩
    have HQQ : Hid (QyQ w q T M zs h _ f am nz cm sb id si w3) := ⟨HIX.out.up HU3.out, HRD.out.up HU3.out, HU.out.trans HU3.out, c1, c3, HWI.out, HNZ.out, hz81.out⟩
    rename_i hK1
    rcases hfc with ⟨p, hf, hpl⟩ | ⟨hf, hpl⟩
    · refine qy_leafY HQQ.out p hf hpl _ _ _ _ _ _ _ _ _ _ _ _ _ _ _ _ _ _ _ _ _ _ _ _ _ _ _ _ _ _ _ _ _ _ _ _ _ _ _ _ _ _ _ _ _ _ _ _ _ _ _ _ _ _ _ _ _ _ _ _ _ _ _ _ _ _ _ _ _ _ _ _ _ _ _ _ _ _ _ _ _ _ _ _ _ _ _ _ _ _ _ _ _ _ _ _ _ _ _ _ _ _ _ _ _ _ _ _ _ _ _ _ _ _ _ _ _ _ _ _ _ _ _ _ _ _ _ _ _ _ _ _ _ _ _ _ _ _ _ _ _ _ _ _ _ _ _ _ _ _ _ _ _ _ _ _ _ _ _ _ _ _ _ _ _ _ _ _ _ _ _ _ _ _ _ _ _ _ _ _ _ _ _ _ _ _ _ _ _ _ _ _ _ _ _ _ _ _ _ _ _ _ _ _ _ _ _ _ _ _ _ _ _ _ _ _ _ _ _ _ _ _ _ _ _ _ _ _ _ _ _ _ _ _ _ _ _ _ _ _ _ _ _ _ _ _ _ _ _ _ _ _ _ _ _ _ _ _ _ _ _ _ _ _ _ _ _ _ _ _ _ _ _ _ _ _ _ _ _ _ _ _ _ _ _ _ hK1 ?_
      intro a' w' hJ
      refine hQ _ _ ?_
      unfold Met QyF at hJ
      unfold Met
      obtain ⟨v17, hJ⟩ := hJ
      obtain ⟨v18, hJ⟩ := hJ
      obtain ⟨v19, hJ⟩ := hJ
      obtain ⟨v20, hJ⟩ := hJ
      obtain ⟨v21, hJ⟩ := hJ
      obtain ⟨v231, hJ⟩ := hJ
      obtain ⟨v232, hJ⟩ := hJ
      obtain ⟨v233, hJ⟩ := hJ
      obtain ⟨v234, hJ⟩ := hJ
      obtain ⟨v235, hJ⟩ := hJ
      obtain ⟨v236, hJ⟩ := hJ
      obtain ⟨v237, hJ⟩ := hJ
      obtain ⟨v238, hJ⟩ := hJ
      obtain ⟨v239, hJ⟩ := hJ
      obtain ⟨v240, hJ⟩ := hJ
      obtain ⟨v241, hJ⟩ := hJ
      obtain ⟨v242, hJ⟩ := hJ
      obtain ⟨v243, hJ⟩ := hJ
      obtain ⟨v244, hJ⟩ := hJ
      obtain ⟨v245, hJ⟩ := hJ
      obtain ⟨v246, hJ⟩ := hJ
      obtain ⟨v247, hJ⟩ := hJ
      obtain ⟨v248, hJ⟩ := hJ
      obtain ⟨v249, hJ⟩ := hJ
      obtain ⟨v250, hJ⟩ := hJ
      obtain ⟨v251, hJ⟩ := hJ
      obtain ⟨v252, hJ⟩ := hJ
      obtain ⟨v253, hJ⟩ := hJ
      obtain ⟨v254, hJ⟩ := hJ
      obtain ⟨v255, hJ⟩ := hJ
      obtain ⟨v256, hJ⟩ := hJ
      obtain ⟨v257, hJ⟩ := hJ
      obtain ⟨v258, hJ⟩ := hJ
      obtain ⟨v259, hJ⟩ := hJ
      obtain ⟨v260, hJ⟩ := hJ
      obtain ⟨v261, hJ⟩ := hJ
      obtain ⟨v262, hJ⟩ := hJ
      obtain ⟨v263, hJ⟩ := hJ
      obtain ⟨v264, hJ⟩ := hJ
      obtain ⟨v265, hJ⟩ := hJ
      obtain ⟨v266, hJ⟩ := hJ
      obtain ⟨v267, hJ⟩ := hJ
      obtain ⟨v268, hJ⟩ := hJ
      obtain ⟨v269, hJ⟩ := hJ
      obtain ⟨v270, hJ⟩ := hJ
      obtain ⟨v271, hJ⟩ := hJ
      obtain ⟨v272, hJ⟩ := hJ
      obtain ⟨v273, hJ⟩ := hJ
      obtain ⟨v274, hJ⟩ := hJ
      obtain ⟨v275, hJ⟩ := hJ
      obtain ⟨v276, hJ⟩ := hJ
      obtain ⟨v277, hJ⟩ := hJ
      obtain ⟨v278, hJ⟩ := hJ
      obtain ⟨v279, hJ⟩ := hJ
      obtain ⟨v280, hJ⟩ := hJ
      obtain ⟨v281, hJ⟩ := hJ
      obtain ⟨v282, hJ⟩ := hJ
      obtain ⟨v283, hJ⟩ := hJ
      obtain ⟨v284, hJ⟩ := hJ
      obtain ⟨v285, hJ⟩ := hJ
      obtain ⟨v286, hJ⟩ := hJ
      obtain ⟨hm, rfl⟩ := hJ
      (repeat apply Exists.intro)
      exact ⟨hm, rfl⟩
    · refine qy_leafN HQQ.out hf hpl _ _ _ _ _ _ _ _ _ _ _ _ _ _ _ _ _ _ _ _ _ _ _ _ _ _ _ _ _ _ _ _ _ _ _ _ _ _ _ _ _ _ _ _ _ _ _ _ _ _ _ _ _ _ _ _ _ _ _ _ _ _ _ _ _ _ _ _ _ _ _ _ _ _ _ _ _ _ _ _ _ _ _ _ _ _ _ _ _ _ _ _ _ _ _ _ _ _ _ _ _ _ _ _ _ _ _ _ _ _ _ _ _ _ _ _ _ _ _ _ _ _ _ _ _ _ _ _ _ _ _ _ _ _ _ _ _ _ _ _ _ _ _ _ _ _ _ _ _ _ _ _ _ _ _ _ _ _ _ _ _ _ _ _ _ _ _ _ _ _ _ _ _ _ _ _ _ _ _ _ _ _ _ _ _ _ _ _ _ _ _ _ _ _ _ _ _ _ _ _ _ _ _ _ _ _ _ _ _ _ _ _ _ _ _ _ _ _ _ _ _ _ _ _ _ _ _ _ _ _ _ _ _ _ _ _ _ _ _ _ _ _ _ _ _ _ _ _ _ _ _ _ _ _ _ _ _ _ _ _ _ _ _ _ _ _ _ _ _ _ _ _ _ _ _ _ _ _ _ _ _ _ _ _ _ _ hK1 ?_
      intro a' w' hJ
      refine hQ _ _ ?_
      unfold Met QyF at hJ
      unfold Met
      obtain ⟨v17, hJ⟩ := hJ
      obtain ⟨v18, hJ⟩ := hJ
      obtain ⟨v19, hJ⟩ := hJ
      obtain ⟨v20, hJ⟩ := hJ
      obtain ⟨v21, hJ⟩ := hJ
      obtain ⟨v231, hJ⟩ := hJ
      obtain ⟨v232, hJ⟩ := hJ
      obtain ⟨v233, hJ⟩ := hJ
      obtain ⟨v234, hJ⟩ := hJ
      obtain ⟨v235, hJ⟩ := hJ
      obtain ⟨v236, hJ⟩ := hJ
      obtain ⟨v237, hJ⟩ := hJ
      obtain ⟨v238, hJ⟩ := hJ
      obtain ⟨v239, hJ⟩ := hJ
      obtain ⟨v240, hJ⟩ := hJ
      obtain ⟨v241, hJ⟩ := hJ
      obtain ⟨v242, hJ⟩ := hJ
      obtain ⟨v243, hJ⟩ := hJ
      obtain ⟨v244, hJ⟩ := hJ
      obtain ⟨v245, hJ⟩ := hJ
      obtain ⟨v246, hJ⟩ := hJ
      obtain ⟨v247, hJ⟩ := hJ
      obtain ⟨v248, hJ⟩ := hJ
      obtain ⟨v249, hJ⟩ := hJ
      obtain ⟨v250, hJ⟩ := hJ
      obtain ⟨v251, hJ⟩ := hJ
      obtain ⟨v252, hJ⟩ := hJ
      obtain ⟨v253, hJ⟩ := hJ
      obtain ⟨v254, hJ⟩ := hJ
      obtain ⟨v255, hJ⟩ := hJ
      obtain ⟨v256, hJ⟩ := hJ
      obtain ⟨v257, hJ⟩ := hJ
      obtain ⟨v258, hJ⟩ := hJ
      obtain ⟨v259, hJ⟩ := hJ
      obtain ⟨v260, hJ⟩ := hJ
      obtain ⟨v261, hJ⟩ := hJ
      obtain ⟨v262, hJ⟩ := hJ
      obtain ⟨v263, hJ⟩ := hJ
      obtain ⟨v264, hJ⟩ := hJ
      obtain ⟨v265, hJ⟩ := hJ
      obtain ⟨v266, hJ⟩ := hJ
      obtain ⟨v267, hJ⟩ := hJ
      obtain ⟨v268, hJ⟩ := hJ
      obtain ⟨v269, hJ⟩ := hJ
      obtain ⟨v270, hJ⟩ := hJ
      obtain ⟨v271, hJ⟩ := hJ
      obtain ⟨v272, hJ⟩ := hJ
      obtain ⟨v273, hJ⟩ := hJ
      obtain ⟨v274, hJ⟩ := hJ
      obtain ⟨v275, hJ⟩ := hJ
      obtain ⟨v276, hJ⟩ := hJ
      obtain ⟨v277, hJ⟩ := hJ
      obtain ⟨v278, hJ⟩ := hJ
      obtain ⟨v279, hJ⟩ := hJ
      obtain ⟨v280, hJ⟩ := hJ
      obtain ⟨v281, hJ⟩ := hJ
      obtain ⟨v282, hJ⟩ := hJ
      obtain ⟨v283, hJ⟩ := hJ
      obtain ⟨v284, hJ⟩ := hJ
      obtain ⟨v285, hJ⟩ := hJ
      obtain ⟨v286, hJ⟩ := hJ
      obtain ⟨hm, rfl⟩ := hJ
      (repeat apply Exists.intro)
      exact ⟨hm, rfl⟩
end Go.Proofs.Ytbnkddnjfkagkaa
