/-
  TreePlays of rialtolaw11: what is looked at behind an act, as its text runs.
-/
import Derived.Test.YtcaccbjolgjmkaaTpArm
import Derived.Test.YtcaccbjolgjmkaaTrSli
import Derived.Deep.Cut
namespace Go.Proofs.Ytcaccbjolgjmkaa
open Go.ChangeShapes Go.WideShapes Go.ChangeAt Go.RowKit
set_option linter.unusedVariables false
set_option maxRecDepth 100000
attribute [local go_sem ↓] Go.wp_at_zero Go.wp_at_succ

def endsN (n : Nat) : Code → Bool
  | .block k _ => k == n
  | .seq _ b => endsN n b
  | _ => false
/-- What stands behind the block with this number. -/
def aftN (n : Nat) : Code → Option Code
  | .seq a b => if endsN n a then some b else match aftN n a with
    | some c => some c
    | none => aftN n b
  | .block _ c => aftN n c
  | .loop c => aftN n c
  | .scope c => aftN n c
  | .cond _ a b => match aftN n a with
    | some c => some c
    | none => aftN n b
  | _ => none
/-- What stands behind a round. -/
def TpEnd (w : World) (T : Nat) (zs : List Int) (N : Nat) (mv : Value) (wx : World) : Prop :=
  ∃ h' : Nat, TrI wx T zs h' N ∧ Rd (Value.int .i64) (fun y => y = T) wx mv zs ∧ Up w wx
set_option maxRecDepth 1000000 in
def TpE (w : World) (T : Nat) (zs : List Int) (N n nm nz cm sb : Nat) (am : Option Addr) (b : Bool) (u0 u1 u2 u5 u9 u11 u12 u13 u14 u15 u16 u17 u18 u23 u24 u25 u26 u27 u28 u29 u30 u31 u32 u33 u34 u35 u36 u37 u38 u39 u40 u41 u42 u43 u44 u45 u46 u47 u48 u49 u50 u51 u52 u53 u54 u55 u56 u57 u58 u59 u60 u61 u62 u63 u64 u65 u66 u67 u68 u69 u70 u71 u72 u73 u74 u75 u76 u77 u78 u79 u80 u81 u82 u83 u84 u85 u86 u87 u88 u89 u90 u91 u92 u93 u94 u95 u96 u97 u98 u99 u100 u101 u102 u103 u104 u105 u106 u107 u108 u109 u110 u111 u112 u113 u114 u115 u116 u117 u118 u119 u120 u121 u122 u123 u124 u125 u126 u127 u128 u129 u130 u131 u132 u133 u134 u135 u136 u137 u138 u139 u140 u141 u142 u143 u144 u145 u146 u147 u148 u149 u150 u151 u152 u153 u154 u155 u156 u157 u158 u159 u160 u161 u162 u163 u164 u165 u166 u167 u168 u169 u170 u171 u172 u173 u174 u175 u176 u177 u178 u179 u180 u181 u182 u183 u184 u185 u186 u187 u188 u189 u190 u191 u192 u193 u194 u195 u196 u197 u198 u199 u200 u201 u202 u203 u204 u205 u206 u207 u208 : Value) (a : Act) (wx : World) : Prop :=
  ∃ v19 v20 v21 v22 v209 v210 v211 v212 v213 v214 v215 v216 v217 v218 v219 v220 v221 v222 v223 v224 v225 v226 v227 v228 v229 v230 v231 v232 v233 v234 v235 v236 v237 v238 v239 v240 v241 v242 v243 v244 v245 v246 v247 v248 v249 v250 v251 v252 v253 v254 v255 v256 v257 v258 v259 v260 v261 v262 v263 v264 v265 v266 v267 v268 v269 v270 v271 v272 v273 v274 v275 v276 v277 v278 v279 v280 v281 v282 v283 v284 v285 v286 v287 v288 v289 v290 v291 v292 v293 v294 v295 v296 v297 v298 v299 v300 v301 v302 v303 v304 v305 v306 : Value, TpEnd w T zs N (.slice am nz cm) wx ∧ a = ⟨#[u0, u1, u2, .pointer (some ⟨T, 0, none⟩), .slice am nz cm, u5, .pointer (some ⟨sb, 0, none⟩), .int .i64 nm, .int .i64 n, u9, .bool b, u11, u12, u13, u14, u15, u16, u17, u18, v19, v20, v21, v22, u23, u24, u25, u26, u27, u28, u29, u30, u31, u32, u33, u34, u35, u36, u37, u38, u39, u40, u41, u42, u43, u44, u45, u46, u47, u48, u49, u50, u51, u52, u53, u54, u55, u56, u57, u58, u59, u60, u61, u62, u63, u64, u65, u66, u67, u68, u69, u70, u71, u72, u73, u74, u75, u76, u77, u78, u79, u80, u81, u82, u83, u84, u85, u86, u87, u88, u89, u90, u91, u92, u93, u94, u95, u96, u97, u98, u99, u100, u101, u102, u103, u104, u105, u106, u107, u108, u109, u110, u111, u112, u113, u114, u115, u116, u117, u118, u119, u120, u121, u122, u123, u124, u125, u126, u127, u128, u129, u130, u131, u132, u133, u134, u135, u136, u137, u138, u139, u140, u141, u142, u143, u144, u145, u146, u147, u148, u149, u150, u151, u152, u153, u154, u155, u156, u157, u158, u159, u160, u161, u162, u163, u164, u165, u166, u167, u168, u169, u170, u171, u172, u173, u174, u175, u176, u177, u178, u179, u180, u181, u182, u183, u184, u185, u186, u187, u188, u189, u190, u191, u192, u193, u194, u195, u196, u197, u198, u199, u200, u201, u202, u203, u204, u205, u206, u207, u208, v209, v210, v211, v212, v213, v214, v215, v216, v217, v218, v219, v220, v221, v222, v223, v224, v225, v226, v227, v228, v229, v230, v231, v232, v233, v234, v235, v236, v237, v238, v239, v240, v241, v242, v243, v244, v245, v246, v247, v248, v249, v250, v251, v252, v253, v254, v255, v256, v257, v258, v259, v260, v261, v262, v263, v264, v265, v266, v267, v268, v269, v270, v271, v272, v273, v274, v275, v276, v277, v278, v279, v280, v281, v282, v283, v284, v285, v286, v287, v288, v289, v290, v291, v292, v293, v294, v295, v296, v297, v298, v299, v300, v301, v302, v303, v304, v305, v306], []⟩
variable {w W : World} {T : Nat} {zs : List Int} {h n k : Nat} {am : Option Addr} {nm nz cm sb : Nat} {si : Int} {b : Bool}
theorem cutL_all (zs : List Int) : cutL zs 0 (zs.length : Int) = zs := by
  unfold cutL
  rw [Int.toNat_natCast, List.take_length]
  rfl
set_option maxHeartbeats 16000000 in
theorem tp_rest (t : TrI W T zs h (n + k)) (rd : Rd (Value.int .i64) (fun y => y = T) W (.slice am nz cm) zs) (hu : Up w W) (c1 : W.cell? ⟨sb, 1, none⟩ = some (.int .i64 si)) (hfew : nm ≤ 150) (hzl : zs.length ≤ nm + 1) (hb1 : b = true → 1 ≤ k ∧ k ≤ 8 * bitsN (nm + 1)) (hb0 : b = false → k = 0) (hn : n ≤ 100000)
    (u0 u1 u2 u5 u9 u11 u12 u13 u14 u15 u16 u17 u18 u19 u20 u21 u22 u23 u24 u25 u26 u27 u28 u29 u30 u31 u32 u33 u34 u35 u36 u37 u38 u39 u40 u41 u42 u43 u44 u45 u46 u47 u48 u49 u50 u51 u52 u53 u54 u55 u56 u57 u58 u59 u60 u61 u62 u63 u64 u65 u66 u67 u68 u69 u70 u71 u72 u73 u74 u75 u76 u77 u78 u79 u80 u81 u82 u83 u84 u85 u86 u87 u88 u89 u90 u91 u92 u93 u94 u95 u96 u97 u98 u99 u100 u101 u102 u103 u104 u105 u106 u107 u108 u109 u110 u111 u112 u113 u114 u115 u116 u117 u118 u119 u120 u121 u122 u123 u124 u125 u126 u127 u128 u129 u130 u131 u132 u133 u134 u135 u136 u137 u138 u139 u140 u141 u142 u143 u144 u145 u146 u147 u148 u149 u150 u151 u152 u153 u154 u155 u156 u157 u158 u159 u160 u161 u162 u163 u164 u165 u166 u167 u168 u169 u170 u171 u172 u173 u174 u175 u176 u177 u178 u179 u180 u181 u182 u183 u184 u185 u186 u187 u188 u189 u190 u191 u192 u193 u194 u195 u196 u197 u198 u199 u200 u201 u202 u203 u204 u205 u206 u207 u208 u209 u210 u211 u212 u213 u214 u215 u216 u217 u218 u219 u220 u221 u222 u223 u224 u225 u226 u227 u228 u229 u230 u231 u232 u233 u234 u235 u236 u237 u238 u239 u240 u241 u242 u243 u244 u245 u246 u247 u248 u249 u250 u251 u252 u253 u254 u255 u256 u257 u258 u259 u260 u261 u262 u263 u264 u265 u266 u267 u268 u269 u270 u271 u272 u273 u274 u275 u276 u277 u278 u279 u280 u281 u282 u283 u284 u285 u286 u287 u288 u289 u290 u291 u292 u293 u294 u295 u296 u297 u298 u299 u300 u301 u302 u303 u304 u305 u306 : Value) (Q : Exit → Act → World → Prop)
    (hQ : ∀ a' w', Met (TpE w T zs (n + k) n nm nz cm sb am b u0 u1 u2 u5 u9 u11 u12 u13 u14 u15 u16 u17 u18 u23 u24 u25 u26 u27 u28 u29 u30 u31 u32 u33 u34 u35 u36 u37 u38 u39 u40 u41 u42 u43 u44 u45 u46 u47 u48 u49 u50 u51 u52 u53 u54 u55 u56 u57 u58 u59 u60 u61 u62 u63 u64 u65 u66 u67 u68 u69 u70 u71 u72 u73 u74 u75 u76 u77 u78 u79 u80 u81 u82 u83 u84 u85 u86 u87 u88 u89 u90 u91 u92 u93 u94 u95 u96 u97 u98 u99 u100 u101 u102 u103 u104 u105 u106 u107 u108 u109 u110 u111 u112 u113 u114 u115 u116 u117 u118 u119 u120 u121 u122 u123 u124 u125 u126 u127 u128 u129 u130 u131 u132 u133 u134 u135 u136 u137 u138 u139 u140 u141 u142 u143 u144 u145 u146 u147 u148 u149 u150 u151 u152 u153 u154 u155 u156 u157 u158 u159 u160 u161 u162 u163 u164 u165 u166 u167 u168 u169 u170 u171 u172 u173 u174 u175 u176 u177 u178 u179 u180 u181 u182 u183 u184 u185 u186 u187 u188 u189 u190 u191 u192 u193 u194 u195 u196 u197 u198 u199 u200 u201 u202 u203 u204 u205 u206 u207 u208) a' w' → Q .normal a' w') :
    Code.wp Try.prog ((Try.f3.body.bind (aftN 2)).getD .skip) Q ⟨#[u0, u1, u2, .pointer (some ⟨T, 0, none⟩), .slice am nz cm, u5, .pointer (some ⟨sb, 0, none⟩), .int .i64 nm, .int .i64 n, u9, .bool b, u11, u12, u13, u14, u15, u16, u17, u18, u19, u20, u21, u22, u23, u24, u25, u26, u27, u28, u29, u30, u31, u32, u33, u34, u35, u36, u37, u38, u39, u40, u41, u42, u43, u44, u45, u46, u47, u48, u49, u50, u51, u52, u53, u54, u55, u56, u57, u58, u59, u60, u61, u62, u63, u64, u65, u66, u67, u68, u69, u70, u71, u72, u73, u74, u75, u76, u77, u78, u79, u80, u81, u82, u83, u84, u85, u86, u87, u88, u89, u90, u91, u92, u93, u94, u95, u96, u97, u98, u99, u100, u101, u102, u103, u104, u105, u106, u107, u108, u109, u110, u111, u112, u113, u114, u115, u116, u117, u118, u119, u120, u121, u122, u123, u124, u125, u126, u127, u128, u129, u130, u131, u132, u133, u134, u135, u136, u137, u138, u139, u140, u141, u142, u143, u144, u145, u146, u147, u148, u149, u150, u151, u152, u153, u154, u155, u156, u157, u158, u159, u160, u161, u162, u163, u164, u165, u166, u167, u168, u169, u170, u171, u172, u173, u174, u175, u176, u177, u178, u179, u180, u181, u182, u183, u184, u185, u186, u187, u188, u189, u190, u191, u192, u193, u194, u195, u196, u197, u198, u199, u200, u201, u202, u203, u204, u205, u206, u207, u208, u209, u210, u211, u212, u213, u214, u215, u216, u217, u218, u219, u220, u221, u222, u223, u224, u225, u226, u227, u228, u229, u230, u231, u232, u233, u234, u235, u236, u237, u238, u239, u240, u241, u242, u243, u244, u245, u246, u247, u248, u249, u250, u251, u252, u253, u254, u255, u256, u257, u258, u259, u260, u261, u262, u263, u264, u265, u266, u267, u268, u269, u270, u271, u272, u273, u274, u275, u276, u277, u278, u279, u280, u281, u282, u283, u284, u285, u286, u287, u288, u289, u290, u291, u292, u293, u294, u295, u296, u297, u298, u299, u300, u301, u302, u303, u304, u305, u306], []⟩ W := by
  obtain ⟨a', n', c', he, hnz0, -⟩ := rd.sliceN
  cases he
  have HNZ : Hid (nz = zs.length) := hnz0
  have hz151 : Hid (zs.length ≤ 151) := by show _ ≤ _; omega
  have hz' : nz ≤ 151 := by have := HNZ.out; have := hz151.out; omega
  have hbl := bitsN_le (m := nm + 1) (by omega)
  have hk : k ≤ 1000 := by
    cases b
    · have := hb0 rfl; omega
    · have := (hb1 rfl).2; omega
  have e0 : IntKind.i64.wrap ((n : Int) + (k : Int) - (n : Int)) = (k : Int) := by rw [IntKind.wrap_i64]; omega
  have e0' : (n : Int) + (k : Int) - (n : Int) = (k : Int) := by omega
  have ek : IntKind.i64.wrap (k : Int) = (k : Int) := by rw [IntKind.wrap_i64]; omega
  have g2 : decide ((k : Int) < 0) = false := decide_eq_false (by omega)
  have g5 : ((nz : Int) != (nz : Int)) = false := by simp
  have HWR := hide (twritesI_calls T h (n + k) zs W t)
  have HCS : Hid (b = true → Calls Try.prog 17 #[.int .i64 nm, .int .i64 k] W fun e w' => e = .returned (.bool true) ∧ w' = W) := hide (fun e => cost_calls nm k (by omega) (hb1 e).2 W)
  have HLN := hide (tlenI_calls T h (n + k) zs W t)
  rw [← HNZ.out] at HLN
  have HSL := hide (tslice_calls T h (n + k) zs 0 (zs.length : Int) W t (by have := hz151.out; omega))
  rw [cutL_all, ← HNZ.out] at HSL
  have HT := hide t
  have HRD := hide rd
  have HU := hide hu
  have HC1 := hide c1
  have HB0 := hide hb0
  unfold TpE at hQ
  clear t rd hu c1 hb1 hbl hzl hnz0 hb0
  conv => arg 2; whnf
  go_wp2_with fail
  refine HWR.out.mono ?_
  rintro _ w1 ⟨rfl, hw1⟩
  obtain rfl : W = w1 := hw1.symm
  dsimp only
  cases b
  · obtain rfl : k = 0 := HB0.out rfl
    go_wp2_with fail
    refine HLN.out.mono ?_
    rintro _ w1 ⟨rfl, hw1⟩
    obtain rfl : W = w1 := hw1.symm
    dsimp only
    go_wp2_with fail
    refine HSL.out.mono ?_
    rintro _ w2 ⟨v2, rfl, ho2, hu2⟩
    have HO2 := hide ho2
    have HU2 := hide hu2
    clear ho2 hu2
    dsimp only
    go_wp2_with fail
    refine (same11_calls (fun _ => False) (fun y => y = T) _ _ zs w2 (Own.rd HO2.out (fun _ _ h => h)) (HRD.out.up HU2.out) (by have := hz151.out; omega)).mono ?_
    rintro _ w3 ⟨rfl, hu3⟩
    have HU3 := hide (HU2.out.trans hu3)
    clear hu3 HU2 HO2
    dsimp only
    go_wp2_with fail
    refine (theight_any T h _ zs w3 (Tr.up HT.out HU3.out) (by have := hz151.out; omega)).mono ?_
    rintro _ w4 ⟨q, rfl, hq0, hq1, hq2, hu4⟩
    have HU4 := hide (HU3.out.trans hu4)
    clear hu4 HU3
    dsimp only
    by_cases hz : zs = []
    · have q0 : q = 0 := hq0.2 hz
      have hnz : nz = 0 := by rw [HNZ.out, hz]; rfl
      have hzn : Hid (zs.length = 0) := by rw [hz]; rfl
      have HA := hide (tatI_not T h _ si zs w4 (Tr.up HT.out HU4.out) (by have := hzn.out; omega))
      have c1 := HU4.out.cell HC1.out
      subst q0 hnz
      clear hq0 hq1 hq2 hz
      by_cases h0 : 0 ≤ si
      · have h1 : ¬ si < 0 := by omega
        go_wp2_with fail
        refine HA.out.mono ?_
        rintro _ w6 ⟨rfl, hu6⟩
        have HU6 := hide (HU4.out.trans hu6)
        replace c1 := hu6.cell c1
        clear hu6
        dsimp only
        go_wp2
        refine Met.intro ?_
        first
          | (refine ⟨⟨h, Tr.up HT.out HU6.out, HRD.out.up HU6.out, HU.out.trans HU6.out⟩, ?_⟩; (repeat apply Exists.intro); rfl)
          | ((repeat apply Exists.intro); exact ⟨⟨h, Tr.up HT.out HU6.out, HRD.out.up HU6.out, HU.out.trans HU6.out⟩, rfl⟩)
      · go_wp2_with fail
        refine HA.out.mono ?_
        rintro _ w6 ⟨rfl, hu6⟩
        have HU6 := hide (HU4.out.trans hu6)
        replace c1 := hu6.cell c1
        clear hu6
        dsimp only
        go_wp2
        refine Met.intro ?_
        first
          | (refine ⟨⟨h, Tr.up HT.out HU6.out, HRD.out.up HU6.out, HU.out.trans HU6.out⟩, ?_⟩; (repeat apply Exists.intro); rfl)
          | ((repeat apply Exists.intro); exact ⟨⟨h, Tr.up HT.out HU6.out, HRD.out.up HU6.out, HU.out.trans HU6.out⟩, rfl⟩)
    · have q0 : ¬ q = 0 := fun e => hz (hq0.1 e)
      have hnz : 0 < nz := by rw [HNZ.out]; exact List.length_pos_iff.2 hz
      have hnz0 : ¬ nz = 0 := by omega
      have hnzI : (0 : Int) < (nz : Int) := by omega
      have qI : ((q : Int) == 0) = false := by simp; exact q0
      have zI : ((nz : Int) == 0) = false := by simp; exact hnz0
      have HLG := hide (logs_calls nz (by omega) w4)
      rw [← HNZ.out] at hq1
      obtain ⟨lg, hlg⟩ : ∃ lg, lg = bitsN (nz + 1) := ⟨_, rfl⟩
      rw [← hlg] at HLG hq1
      have g6 : ¬ (lg : Int) < (q : Int) := by omega
      have c1 := HU4.out.cell HC1.out
      clear hq0 hq1 hq2 hz hlg
      go_wp2_with fail
      refine HLG.out.mono ?_
      rintro _ w5 ⟨rfl, hw5⟩
      obtain rfl : w4 = w5 := hw5.symm
      dsimp only
      by_cases h0 : 0 ≤ si ∧ si < (nz : Int)
      · obtain ⟨j, rfl⟩ : ∃ j : Nat, si = j := ⟨si.toNat, by omega⟩
        have hj : j < zs.length := by rw [← HNZ.out]; omega
        have j0 : (0 : Int) ≤ (j : Int) := by omega
        have jn : (j : Int) < (nz : Int) := h0.2
        obtain ⟨x, hx⟩ : ∃ x, x = zs.getD j 0 := ⟨_, rfl⟩
        have HA := hide (tatI_ok T h _ j 0 zs w4 (Tr.up HT.out HU4.out) hj (by have := hz151.out; omega))
        rw [← hx] at HA
        have hget : zs.getD j 0 = zs[j] := by rw [List.getD_eq_getElem?_getD, List.getElem?_eq_getElem hj]; rfl
        obtain ⟨g, o, rfl, hci⟩ := (HRD.out.up HU4.out).get (i := j) hj
        rw [← hget, ← hx] at hci
        have g7 : (x != x) = false := by simp
        clear hx hget hj h0
        go_wp2_with fail
        refine HA.out.mono ?_
        rintro _ w6 ⟨rfl, hu6⟩
        have HU6 := hide (HU4.out.trans hu6)
        replace c1 := hu6.cell c1
        replace hci := hu6.cell hci
        clear hu6
        dsimp only
        go_wp2
        refine Met.intro ?_
        first
          | (refine ⟨⟨h, Tr.up HT.out HU6.out, HRD.out.up HU6.out, HU.out.trans HU6.out⟩, ?_⟩; (repeat apply Exists.intro); rfl)
          | ((repeat apply Exists.intro); exact ⟨⟨h, Tr.up HT.out HU6.out, HRD.out.up HU6.out, HU.out.trans HU6.out⟩, rfl⟩)
      · have HA := hide (tatI_not T h _ si zs w4 (Tr.up HT.out HU4.out) (by rw [← HNZ.out]; omega))
        by_cases h1 : 0 ≤ si
        · have h2 : ¬ si < (nz : Int) := fun h => h0 ⟨h1, h⟩
          clear h0
          go_wp2_with fail
          refine HA.out.mono ?_
          rintro _ w6 ⟨rfl, hu6⟩
          have HU6 := hide (HU4.out.trans hu6)
          replace c1 := hu6.cell c1
          clear hu6
          dsimp only
          go_wp2
          refine Met.intro ?_
          first
            | (refine ⟨⟨h, Tr.up HT.out HU6.out, HRD.out.up HU6.out, HU.out.trans HU6.out⟩, ?_⟩; (repeat apply Exists.intro); rfl)
            | ((repeat apply Exists.intro); exact ⟨⟨h, Tr.up HT.out HU6.out, HRD.out.up HU6.out, HU.out.trans HU6.out⟩, rfl⟩)
        · clear h0
          go_wp2_with fail
          refine HA.out.mono ?_
          rintro _ w6 ⟨rfl, hu6⟩
          have HU6 := hide (HU4.out.trans hu6)
          replace c1 := hu6.cell c1
          clear hu6
          dsimp only
          go_wp2
          refine Met.intro ?_
          first
            | (refine ⟨⟨h, Tr.up HT.out HU6.out, HRD.out.up HU6.out, HU.out.trans HU6.out⟩, ?_⟩; (repeat apply Exists.intro); rfl)
            | ((repeat apply Exists.intro); exact ⟨⟨h, Tr.up HT.out HU6.out, HRD.out.up HU6.out, HU.out.trans HU6.out⟩, rfl⟩)
  · go_wp2_with fail
    refine (HCS.out (by simp)).mono ?_
    rintro _ w1 ⟨rfl, hw1⟩
    obtain rfl : W = w1 := hw1.symm
    dsimp only
    go_wp2_with fail
    refine HLN.out.mono ?_
    rintro _ w1 ⟨rfl, hw1⟩
    obtain rfl : W = w1 := hw1.symm
    dsimp only
    go_wp2_with fail
    refine HSL.out.mono ?_
    rintro _ w2 ⟨v2, rfl, ho2, hu2⟩
    have HO2 := hide ho2
    have HU2 := hide hu2
    clear ho2 hu2
    dsimp only
    go_wp2_with fail
    refine (same11_calls (fun _ => False) (fun y => y = T) _ _ zs w2 (Own.rd HO2.out (fun _ _ h => h)) (HRD.out.up HU2.out) (by have := hz151.out; omega)).mono ?_
    rintro _ w3 ⟨rfl, hu3⟩
    have HU3 := hide (HU2.out.trans hu3)
    clear hu3 HU2 HO2
    dsimp only
    go_wp2_with fail
    refine (theight_any T h _ zs w3 (Tr.up HT.out HU3.out) (by have := hz151.out; omega)).mono ?_
    rintro _ w4 ⟨q, rfl, hq0, hq1, hq2, hu4⟩
    have HU4 := hide (HU3.out.trans hu4)
    clear hu4 HU3
    dsimp only
    by_cases hz : zs = []
    · have q0 : q = 0 := hq0.2 hz
      have hnz : nz = 0 := by rw [HNZ.out, hz]; rfl
      have hzn : Hid (zs.length = 0) := by rw [hz]; rfl
      have HA := hide (tatI_not T h _ si zs w4 (Tr.up HT.out HU4.out) (by have := hzn.out; omega))
      have c1 := HU4.out.cell HC1.out
      subst q0 hnz
      clear hq0 hq1 hq2 hz
      by_cases h0 : 0 ≤ si
      · have h1 : ¬ si < 0 := by omega
        go_wp2_with fail
        refine HA.out.mono ?_
        rintro _ w6 ⟨rfl, hu6⟩
        have HU6 := hide (HU4.out.trans hu6)
        replace c1 := hu6.cell c1
        clear hu6
        dsimp only
        go_wp2
        refine Met.intro ?_
        first
          | (refine ⟨⟨h, Tr.up HT.out HU6.out, HRD.out.up HU6.out, HU.out.trans HU6.out⟩, ?_⟩; (repeat apply Exists.intro); rfl)
          | ((repeat apply Exists.intro); exact ⟨⟨h, Tr.up HT.out HU6.out, HRD.out.up HU6.out, HU.out.trans HU6.out⟩, rfl⟩)
      · go_wp2_with fail
        refine HA.out.mono ?_
        rintro _ w6 ⟨rfl, hu6⟩
        have HU6 := hide (HU4.out.trans hu6)
        replace c1 := hu6.cell c1
        clear hu6
        dsimp only
        go_wp2
        refine Met.intro ?_
        first
          | (refine ⟨⟨h, Tr.up HT.out HU6.out, HRD.out.up HU6.out, HU.out.trans HU6.out⟩, ?_⟩; (repeat apply Exists.intro); rfl)
          | ((repeat apply Exists.intro); exact ⟨⟨h, Tr.up HT.out HU6.out, HRD.out.up HU6.out, HU.out.trans HU6.out⟩, rfl⟩)
    · have q0 : ¬ q = 0 := fun e => hz (hq0.1 e)
      have hnz : 0 < nz := by rw [HNZ.out]; exact List.length_pos_iff.2 hz
      have hnz0 : ¬ nz = 0 := by omega
      have hnzI : (0 : Int) < (nz : Int) := by omega
      have qI : ((q : Int) == 0) = false := by simp; exact q0
      have zI : ((nz : Int) == 0) = false := by simp; exact hnz0
      have HLG := hide (logs_calls nz (by omega) w4)
      rw [← HNZ.out] at hq1
      obtain ⟨lg, hlg⟩ : ∃ lg, lg = bitsN (nz + 1) := ⟨_, rfl⟩
      rw [← hlg] at HLG hq1
      have g6 : ¬ (lg : Int) < (q : Int) := by omega
      have c1 := HU4.out.cell HC1.out
      clear hq0 hq1 hq2 hz hlg
      go_wp2_with fail
      refine HLG.out.mono ?_
      rintro _ w5 ⟨rfl, hw5⟩
      obtain rfl : w4 = w5 := hw5.symm
      dsimp only
      by_cases h0 : 0 ≤ si ∧ si < (nz : Int)
      · obtain ⟨j, rfl⟩ : ∃ j : Nat, si = j := ⟨si.toNat, by omega⟩
        have hj : j < zs.length := by rw [← HNZ.out]; omega
        have j0 : (0 : Int) ≤ (j : Int) := by omega
        have jn : (j : Int) < (nz : Int) := h0.2
        obtain ⟨x, hx⟩ : ∃ x, x = zs.getD j 0 := ⟨_, rfl⟩
        have HA := hide (tatI_ok T h _ j 0 zs w4 (Tr.up HT.out HU4.out) hj (by have := hz151.out; omega))
        rw [← hx] at HA
        have hget : zs.getD j 0 = zs[j] := by rw [List.getD_eq_getElem?_getD, List.getElem?_eq_getElem hj]; rfl
        obtain ⟨g, o, rfl, hci⟩ := (HRD.out.up HU4.out).get (i := j) hj
        rw [← hget, ← hx] at hci
        have g7 : (x != x) = false := by simp
        clear hx hget hj h0
        go_wp2_with fail
        refine HA.out.mono ?_
        rintro _ w6 ⟨rfl, hu6⟩
        have HU6 := hide (HU4.out.trans hu6)
        replace c1 := hu6.cell c1
        replace hci := hu6.cell hci
        clear hu6
        dsimp only
        go_wp2
        refine Met.intro ?_
        first
          | (refine ⟨⟨h, Tr.up HT.out HU6.out, HRD.out.up HU6.out, HU.out.trans HU6.out⟩, ?_⟩; (repeat apply Exists.intro); rfl)
          | ((repeat apply Exists.intro); exact ⟨⟨h, Tr.up HT.out HU6.out, HRD.out.up HU6.out, HU.out.trans HU6.out⟩, rfl⟩)
      · have HA := hide (tatI_not T h _ si zs w4 (Tr.up HT.out HU4.out) (by rw [← HNZ.out]; omega))
        by_cases h1 : 0 ≤ si
        · have h2 : ¬ si < (nz : Int) := fun h => h0 ⟨h1, h⟩
          clear h0
          go_wp2_with fail
          refine HA.out.mono ?_
          rintro _ w6 ⟨rfl, hu6⟩
          have HU6 := hide (HU4.out.trans hu6)
          replace c1 := hu6.cell c1
          clear hu6
          dsimp only
          go_wp2
          refine Met.intro ?_
          first
            | (refine ⟨⟨h, Tr.up HT.out HU6.out, HRD.out.up HU6.out, HU.out.trans HU6.out⟩, ?_⟩; (repeat apply Exists.intro); rfl)
            | ((repeat apply Exists.intro); exact ⟨⟨h, Tr.up HT.out HU6.out, HRD.out.up HU6.out, HU.out.trans HU6.out⟩, rfl⟩)
        · clear h0
          go_wp2_with fail
          refine HA.out.mono ?_
          rintro _ w6 ⟨rfl, hu6⟩
          have HU6 := hide (HU4.out.trans hu6)
          replace c1 := hu6.cell c1
          clear hu6
          dsimp only
          go_wp2
          refine Met.intro ?_
          first
            | (refine ⟨⟨h, Tr.up HT.out HU6.out, HRD.out.up HU6.out, HU.out.trans HU6.out⟩, ?_⟩; (repeat apply Exists.intro); rfl)
            | ((repeat apply Exists.intro); exact ⟨⟨h, Tr.up HT.out HU6.out, HRD.out.up HU6.out, HU.out.trans HU6.out⟩, rfl⟩)
end Go.Proofs.Ytcaccbjolgjmkaa
