/-
  PosPlays of rialtolaw14: what is looked at behind an act, as its text runs.
-/
import Derived.Test.YtbnkddnjfkagkaaPyArm
import Derived.Deep.Cut
import Derived.Deep.RegionHeld3
namespace Go.Proofs.Ytbnkddnjfkagkaa
open Go.ChangeShapes Go.WideShapes Go.ChangeAt Go.RowKit
set_option linter.unusedVariables false
set_option maxRecDepth 100000
attribute [local go_sem ↓] Go.wp_at_zero Go.wp_at_succ

def endsN (n : Nat) : Code → Bool
  | .block k _ => k == n
  | .seq _ b => endsN n b
  | _ => false
/-- What stands behind the block with this number. -/
def aftN (n : Nat) : Code → Option Code
  | .seq a b => if endsN n a then some b else match aftN n a with
    | some c => some c
    | none => aftN n b
  | .block _ c => aftN n c
  | .loop c => aftN n c
  | .scope c => aftN n c
  | .cond _ a b => match aftN n a with
    | some c => some c
    | none => aftN n b
  | _ => none
theorem bitsN_mono1 : ∀ m : Nat, bitsN m ≤ bitsN (m + 1) := by
  intro m
  induction m using Nat.strongRecOn with
  | ind m ih =>
    by_cases h : m = 0
    · subst h; unfold bitsN; simp
    · rw [bitsN_pos h, bitsN_pos (m := m + 1) (by omega)]
      by_cases h2 : (m + 1) / 2 = m / 2
      · rw [h2]; exact Nat.le_refl _
      · have : (m + 1) / 2 = m / 2 + 1 := by omega
        rw [this]
        have := ih (m / 2) (by omega)
        omega
/-- What stands behind a round. -/
def PyEnd (w : World) (q T M : Nat) (zs : List Int) (N : Nat) (mv : Value) (wx : World) : Prop :=
  ∃ (h' : Nat) (f' : Int → Option Nat), SqIx (fun _ => False) q T M zs h' N f' wx ∧ Rd (Value.int .i64) (TM T M) wx mv zs ∧ Up w wx
set_option maxRecDepth 1000000 in
def PyE (w : World) (q T M : Nat) (zs : List Int) (N n nm nz cm sb : Nat) (am : Option Addr) (c : Int) (u0 u1 u5 u9 u10 u13 u14 u15 u16 u17 u26 u27 u28 u29 u30 u31 u32 u33 u34 u35 u36 u37 u38 u39 u40 u41 u42 u43 u44 u45 u46 u47 u48 u49 u50 u51 u52 u53 u54 u55 u56 u57 u58 u59 u60 u61 u62 u63 u64 u65 u66 u67 u68 u69 u70 u71 u72 u73 u74 u75 u76 u77 u78 u79 u80 u81 u82 u83 u84 u85 u86 u87 u88 u89 u90 u91 u92 u93 u94 u95 u96 u97 u98 u99 u100 u101 u102 u103 u104 u105 u106 u107 u108 u109 u110 u111 u112 u113 u114 u115 u116 u117 u118 u119 u120 u121 u122 u123 u124 u125 u126 u127 u128 u129 u130 u131 u132 u133 u134 u135 u136 u137 u138 u139 u140 u141 u142 u143 u144 u145 u146 u147 u148 u149 u150 u151 u152 u153 u154 u155 u156 u157 u158 u159 u160 u161 u162 u163 u164 u165 u166 u167 u168 u169 u170 u171 u172 u173 u174 u175 u176 u177 u178 u179 u180 u181 u182 u183 u184 u185 u186 u187 u188 u189 u190 u191 u192 u193 u194 u195 u196 u197 u198 u199 u200 u201 u202 u203 u204 : Value) (a : Act) (wx : World) : Prop :=
  ∃ v2 v18 v19 v20 v21 v22 v23 v24 v25 v205 v206 v207 v208 v209 v210 v211 v212 v213 v214 v215 v216 v217 v218 v219 v220 v221 v222 v223 v224 v225 v226 v227 v228 v229 v230 v231 v232 v233 v234 v235 v236 v237 v238 v239 v240 v241 v242 v243 v244 v245 v246 v247 v248 v249 v250 v251 v252 v253 v254 v255 v256 v257 v258 v259 v260 v261 v262 v263 v264 v265 v266 v267 v268 v269 v270 v271 v272 v273 v274 v275 v276 v277 v278 v279 v280 v281 v282 v283 v284 v285 v286 v287 v288 v289 v290 v291 v292 v293 v294 v295 v296 v297 v298 v299 : Value, PyEnd w q T M zs N (.slice am nz cm) wx ∧ a = ⟨#[u0, u1, v2, .pointer (some ⟨q, 0, none⟩), .slice am nz cm, u5, .pointer (some ⟨sb, 0, none⟩), .int .i64 nm, .int .i64 n, u9, u10, .int .i64 c, .int .i64 c, u13, u14, u15, u16, u17, v18, v19, v20, v21, v22, v23, v24, v25, u26, u27, u28, u29, u30, u31, u32, u33, u34, u35, u36, u37, u38, u39, u40, u41, u42, u43, u44, u45, u46, u47, u48, u49, u50, u51, u52, u53, u54, u55, u56, u57, u58, u59, u60, u61, u62, u63, u64, u65, u66, u67, u68, u69, u70, u71, u72, u73, u74, u75, u76, u77, u78, u79, u80, u81, u82, u83, u84, u85, u86, u87, u88, u89, u90, u91, u92, u93, u94, u95, u96, u97, u98, u99, u100, u101, u102, u103, u104, u105, u106, u107, u108, u109, u110, u111, u112, u113, u114, u115, u116, u117, u118, u119, u120, u121, u122, u123, u124, u125, u126, u127, u128, u129, u130, u131, u132, u133, u134, u135, u136, u137, u138, u139, u140, u141, u142, u143, u144, u145, u146, u147, u148, u149, u150, u151, u152, u153, u154, u155, u156, u157, u158, u159, u160, u161, u162, u163, u164, u165, u166, u167, u168, u169, u170, u171, u172, u173, u174, u175, u176, u177, u178, u179, u180, u181, u182, u183, u184, u185, u186, u187, u188, u189, u190, u191, u192, u193, u194, u195, u196, u197, u198, u199, u200, u201, u202, u203, u204, v205, v206, v207, v208, v209, v210, v211, v212, v213, v214, v215, v216, v217, v218, v219, v220, v221, v222, v223, v224, v225, v226, v227, v228, v229, v230, v231, v232, v233, v234, v235, v236, v237, v238, v239, v240, v241, v242, v243, v244, v245, v246, v247, v248, v249, v250, v251, v252, v253, v254, v255, v256, v257, v258, v259, v260, v261, v262, v263, v264, v265, v266, v267, v268, v269, v270, v271, v272, v273, v274, v275, v276, v277, v278, v279, v280, v281, v282, v283, v284, v285, v286, v287, v288, v289, v290, v291, v292, v293, v294, v295, v296, v297, v298, v299], []⟩
variable {w W : World} {q T M : Nat} {xs zs : List Int} {h n k : Nat} {f : Int → Option Nat} {am : Option Addr} {nm nz cm sb : Nat} {id c : Int}
set_option maxHeartbeats 16000000 in
theorem py_rest (ix : SqIx (fun _ => False) q T M zs h (n + k) f W) (rd : Rd (Value.int .i64) (TM T M) W (.slice am nz cm) zs) (hu : Up w W) (c3 : W.cell? ⟨sb, 3, none⟩ = some (.int .i64 id)) (hwid : wf64 id) (hk : k ≤ 16 * bitsN (xs.length + 1)) (hnm : nm = xs.length) (hn80 : nm ≤ 80) (hzl : zs.length ≤ xs.length + 1) (hn81 : n ≤ 200000)
    (hc : (0 ≤ c ∧ c ≤ 100) ∧ (c ≠ 0 → k = 0)) (u0 u1 u2 u5 u9 u10 u13 u14 u15 u16 u17 u18 u19 u20 u21 u22 u23 u24 u25 u26 u27 u28 u29 u30 u31 u32 u33 u34 u35 u36 u37 u38 u39 u40 u41 u42 u43 u44 u45 u46 u47 u48 u49 u50 u51 u52 u53 u54 u55 u56 u57 u58 u59 u60 u61 u62 u63 u64 u65 u66 u67 u68 u69 u70 u71 u72 u73 u74 u75 u76 u77 u78 u79 u80 u81 u82 u83 u84 u85 u86 u87 u88 u89 u90 u91 u92 u93 u94 u95 u96 u97 u98 u99 u100 u101 u102 u103 u104 u105 u106 u107 u108 u109 u110 u111 u112 u113 u114 u115 u116 u117 u118 u119 u120 u121 u122 u123 u124 u125 u126 u127 u128 u129 u130 u131 u132 u133 u134 u135 u136 u137 u138 u139 u140 u141 u142 u143 u144 u145 u146 u147 u148 u149 u150 u151 u152 u153 u154 u155 u156 u157 u158 u159 u160 u161 u162 u163 u164 u165 u166 u167 u168 u169 u170 u171 u172 u173 u174 u175 u176 u177 u178 u179 u180 u181 u182 u183 u184 u185 u186 u187 u188 u189 u190 u191 u192 u193 u194 u195 u196 u197 u198 u199 u200 u201 u202 u203 u204 u205 u206 u207 u208 u209 u210 u211 u212 u213 u214 u215 u216 u217 u218 u219 u220 u221 u222 u223 u224 u225 u226 u227 u228 u229 u230 u231 u232 u233 u234 u235 u236 u237 u238 u239 u240 u241 u242 u243 u244 u245 u246 u247 u248 u249 u250 u251 u252 u253 u254 u255 u256 u257 u258 u259 u260 u261 u262 u263 u264 u265 u266 u267 u268 u269 u270 u271 u272 u273 u274 u275 u276 u277 u278 u279 u280 u281 u282 u283 u284 u285 u286 u287 u288 u289 u290 u291 u292 u293 u294 u295 u296 u297 u298 u299 : Value) (Q : Exit → Act → World → Prop)
    (hQ : ∀ a' w', Met (PyE w q T M zs (n + k) n nm nz cm sb am c u0 u1 u5 u9 u10 u13 u14 u15 u16 u17 u26 u27 u28 u29 u30 u31 u32 u33 u34 u35 u36 u37 u38 u39 u40 u41 u42 u43 u44 u45 u46 u47 u48 u49 u50 u51 u52 u53 u54 u55 u56 u57 u58 u59 u60 u61 u62 u63 u64 u65 u66 u67 u68 u69 u70 u71 u72 u73 u74 u75 u76 u77 u78 u79 u80 u81 u82 u83 u84 u85 u86 u87 u88 u89 u90 u91 u92 u93 u94 u95 u96 u97 u98 u99 u100 u101 u102 u103 u104 u105 u106 u107 u108 u109 u110 u111 u112 u113 u114 u115 u116 u117 u118 u119 u120 u121 u122 u123 u124 u125 u126 u127 u128 u129 u130 u131 u132 u133 u134 u135 u136 u137 u138 u139 u140 u141 u142 u143 u144 u145 u146 u147 u148 u149 u150 u151 u152 u153 u154 u155 u156 u157 u158 u159 u160 u161 u162 u163 u164 u165 u166 u167 u168 u169 u170 u171 u172 u173 u174 u175 u176 u177 u178 u179 u180 u181 u182 u183 u184 u185 u186 u187 u188 u189 u190 u191 u192 u193 u194 u195 u196 u197 u198 u199 u200 u201 u202 u203 u204) a' w' → Q .normal a' w') :
    Code.wp Try.prog ((Try.f6.body.bind (aftN 2)).getD .skip) Q ⟨#[u0, u1, u2, .pointer (some ⟨q, 0, none⟩), .slice am nz cm, u5, .pointer (some ⟨sb, 0, none⟩), .int .i64 nm, .int .i64 n, u9, u10, .int .i64 c, .int .i64 c, u13, u14, u15, u16, u17, u18, u19, u20, u21, u22, u23, u24, u25, u26, u27, u28, u29, u30, u31, u32, u33, u34, u35, u36, u37, u38, u39, u40, u41, u42, u43, u44, u45, u46, u47, u48, u49, u50, u51, u52, u53, u54, u55, u56, u57, u58, u59, u60, u61, u62, u63, u64, u65, u66, u67, u68, u69, u70, u71, u72, u73, u74, u75, u76, u77, u78, u79, u80, u81, u82, u83, u84, u85, u86, u87, u88, u89, u90, u91, u92, u93, u94, u95, u96, u97, u98, u99, u100, u101, u102, u103, u104, u105, u106, u107, u108, u109, u110, u111, u112, u113, u114, u115, u116, u117, u118, u119, u120, u121, u122, u123, u124, u125, u126, u127, u128, u129, u130, u131, u132, u133, u134, u135, u136, u137, u138, u139, u140, u141, u142, u143, u144, u145, u146, u147, u148, u149, u150, u151, u152, u153, u154, u155, u156, u157, u158, u159, u160, u161, u162, u163, u164, u165, u166, u167, u168, u169, u170, u171, u172, u173, u174, u175, u176, u177, u178, u179, u180, u181, u182, u183, u184, u185, u186, u187, u188, u189, u190, u191, u192, u193, u194, u195, u196, u197, u198, u199, u200, u201, u202, u203, u204, u205, u206, u207, u208, u209, u210, u211, u212, u213, u214, u215, u216, u217, u218, u219, u220, u221, u222, u223, u224, u225, u226, u227, u228, u229, u230, u231, u232, u233, u234, u235, u236, u237, u238, u239, u240, u241, u242, u243, u244, u245, u246, u247, u248, u249, u250, u251, u252, u253, u254, u255, u256, u257, u258, u259, u260, u261, u262, u263, u264, u265, u266, u267, u268, u269, u270, u271, u272, u273, u274, u275, u276, u277, u278, u279, u280, u281, u282, u283, u284, u285, u286, u287, u288, u289, u290, u291, u292, u293, u294, u295, u296, u297, u298, u299], []⟩ W := by
  obtain ⟨a', n', c', he, hnz0, -⟩ := rd.sliceN
  cases he
  have hb := bitsN_le (m := xs.length + 1) (by omega)
  have hb2 := bitsN_mono1 (xs.length + 1)
  have hb3 := bitsN_le (m := nm + 1 + 1) (by omega)
  rw [← hnm] at hb hb2 hk hzl
  have hz81 : Hid (zs.length ≤ 81) := by show _ ≤ _; omega
  have hz81' : nz ≤ 81 := by have := hnz0.out; have := hz81.out; omega
  have HNZ : Hid (nz = zs.length) := hnz0.out
  clear hnz0
  have HWR := hide (pxwrites_calls ix)
  have HLN : Hid (∀ W', Up W W' → Calls Try.prog 35 #[.pointer (some ⟨q, 0, none⟩)] W' fun e w' => e = .returned (.int .i64 nz) ∧ w' = W') := fun W' hu => by rw [HNZ.out]; exact pxlen_calls (ix.up hu)
  have HAL : Hid (∀ W', Up W W' → Calls Try.prog 36 #[.pointer (some ⟨q, 0, none⟩)] W' fun e w' => AppPost W' zs e w') := fun W' hu => pxall_calls (ix.up hu) (by have := hz81.out; omega)
  have HIX := hide ix
  have HRD := hide rd
  have HU := hide hu
  have HC3 := hide c3
  have HWI := hide hwid
  have HLG : Hid (∀ W', Calls Try.prog 20 #[.int .i64 ((nm : Int) + 1)] W' fun e w' => e = .returned (.int .i64 (bitsN (nm + 1 + 1) : Nat)) ∧ w' = W') := fun W' => logs_calls (nm + 1) (by omega) W'
  obtain ⟨lg, hlg⟩ : ∃ lg, lg = bitsN (nm + 1 + 1) := ⟨_, rfl⟩
  rw [← hlg] at HLG hb2 hb3
  have e0 : IntKind.i64.wrap ((n : Int) + (k : Int) - (n : Int)) = (k : Int) := by rw [IntKind.wrap_i64]; omega
  have e0' : (n : Int) + (k : Int) - (n : Int) = (k : Int) := by omega
  have ek : IntKind.i64.wrap (k : Int) = (k : Int) := by rw [IntKind.wrap_i64]; omega
  have e1 : IntKind.i64.wrap ((nm : Int) + 1) = (nm : Int) + 1 := by rw [IntKind.wrap_i64]; omega
  have e2 : IntKind.i64.wrap (16 * (lg : Int)) = 16 * (lg : Int) := by rw [IntKind.wrap_i64]; omega
  have g1 : (c != c) = false := by simp
  have g2 : decide ((k : Int) < 0) = false := decide_eq_false (by omega)
  have g3 : decide ((k : Int) > 16 * (lg : Int)) = false := decide_eq_false (by omega)
  have g3' : decide (16 * (lg : Int) < (k : Int)) = false := decide_eq_false (by omega)
  have g3'' : ¬ (16 * (lg : Int) < (k : Int)) := by omega
  have g5 : ((nz : Int) != (nz : Int)) = false := by simp
  have g4 : (c != 0) = false ∨ ((c != 0) = true ∧ k = 0) := by
    by_cases h0 : c = 0
    · exact .inl (by simp [h0])
    · exact .inr ⟨by simp [h0], hc.2 h0⟩
  unfold PyE at hQ
  clear ix rd hu c3 hwid hk hb hb2 hb3 hc hnm hzl hlg
  conv => arg 2; whnf
  --R0
  rcases g4 with g4 | ⟨g4, rfl⟩
  all_goals
    go_wp2_with fail
    refine HWR.out.mono ?_
    rintro _ w1 ⟨rfl, hw1⟩
    subst hw1
    dsimp only
    go_wp2_with fail
    refine (HLG.out _).mono ?_
    rintro _ w1 ⟨rfl, hw1⟩
    subst hw1
    dsimp only
    go_wp2_with fail
    refine (HLN.out _ (Up.refl _)).mono ?_
    rintro _ w1 ⟨rfl, hw1⟩
    subst hw1
    dsimp only
    go_wp2_with fail
    refine (HAL.out _ (Up.refl _)).mono ?_
    rintro _ w2 ⟨v2, rfl, ho2, hu2⟩
    have HO2 := hide ho2
    have HU2 := hide hu2
    obtain ⟨a2, n2, c2, rfl, -, -⟩ := ho2.sliceN
    clear ho2 hu2
    dsimp only
    go_wp2_with fail
    refine (ids_same (fun _ => False) (TM T M) _ _ zs w2 (Own.rd HO2.out (fun _ _ h => h)) (HRD.out.up HU2.out) (by have := hz81.out; omega)).mono ?_
    rintro _ w3 ⟨rfl, hu3⟩
    have HU3 := hide (HU2.out.trans hu3)
    clear hu3 HU2 HO2
    dsimp only
    go_wp2_with fail
    --R2
    go_loopw [19] (fun iv wr => ∃ i : Nat, i ≤ nz ∧ iv = .int .i64 i ∧ Hid (Up w1 wr)) (fun iv _ => nz - (intOf iv).toNat)
    case atStart => exact ⟨0, Nat.zero_le _, rfl, HU3⟩
    case round =>
      obtain ⟨i, hi, rfl, hui⟩ := hrel
      clear HU3
      by_cases hlt : i < nz
      · have hlt' : (i : Int) < (nz : Int) := by omega
        have i0 : (0 : Int) ≤ (i : Int) := by omega
        have hil : i < zs.length := by rw [← HNZ.out]; exact hlt
        obtain ⟨x, hx⟩ : ∃ x, zs[i]? = some x := ⟨_, List.getElem?_eq_getElem hil⟩
        have hxe := (List.getElem?_eq_some_iff.1 hx).2
        obtain ⟨g, o, rfl, hci⟩ := (HRD.out.up hui.out).get (i := i) hil
        rw [hxe] at hci
        have HPL := hide (pxplace_yes i x (HIX.out.up hui.out) hil hxe (by have := hz81.out; omega))
        have HAT : Hid (∀ W', Up wr W' → Calls Try.prog 38 #[.pointer (some ⟨q, 0, none⟩), .int .i64 i] W' fun e w' => e = .returned (.tuple #[.int .i64 x, .bool true]) ∧ Up W' w') := fun W' hu => by
          have := pxat_ok i (HIX.out.up (hui.out.trans hu)) hil (by have := hz81.out; omega)
          rw [getD_in zs hil, hxe] at this
          exact this
        have ei : IntKind.i64.wrap ((i : Int) + 1) = (i : Int) + 1 := by rw [IntKind.wrap_i64]; omega
        have g6 : ((i : Int) != (i : Int)) = false := by simp
        have g7 : (x != x) = false := by simp
        clear hx hxe hil
        go_wp2_with fail
        refine HPL.out.mono ?_
        rintro _ w4 ⟨rfl, hu4⟩
        replace hci := hu4.cell hci
        have HA4 := hide (HAT.out _ hu4)
        have HU4 := hide (hui.out.trans hu4)
        clear hu4 HPL HAT hui
        dsimp only
        go_wp2_with fail
        refine HA4.out.mono ?_
        rintro _ w5 ⟨rfl, hu5⟩
        replace hci := hu5.cell hci
        have HU5 := hide (HU4.out.trans hu5)
        clear hu5 HA4 HU4
        dsimp only
        go_wp2
        go_roundw
        case rel => exact ⟨i + 1, by omega, by simp, HU5⟩
        case measure => simp [intOf]; omega
      · obtain rfl : nz = i := by omega
        have hlt' : ¬ (nz : Int) < (nz : Int) := by omega
        have c3 := hui.out.cell HC3.out
        have HFN : Hid (∀ W', Up wr W' → Calls Try.prog 29 #[.slice am nz cm, .int .i64 id] W' fun e w' => e = .returned (.int .i64 (fdI zs id)) ∧ w' = W') := fun W' hu => find14_calls _ zs id (TM T M) W' (HRD.out.up (hui.out.trans hu)) (by have := hz81.out; omega)
        --R3
        rcases fdI_cases zs id with ⟨hid, hf⟩ | ⟨p, hp, hf, -, hpl⟩
        · have HPL := hide (pxplace_no id (HIX.out.up hui.out) HWI.out hid)
          rw [hf] at HFN
          have g8 : decide ((-1 : Int) ≥ 0) = false := decide_eq_false (by omega)
          clear hid hf
          go_wp2_with fail
          refine HPL.out.mono ?_
          rintro _ w4 ⟨rfl, hu4⟩
          replace c3 := hu4.cell c3
          have HF4 := hide (HFN.out _ hu4)
          have HU4 := hide (hui.out.trans hu4)
          clear hu4 HPL HFN hui
          dsimp only
          go_wp2_with fail
          refine HF4.out.mono ?_
          rintro _ w5 ⟨rfl, hw5⟩
          subst hw5
          dsimp only
          go_wp2
          refine Met.intro ?_
          (repeat apply Exists.intro)
          exact ⟨⟨h, f, HIX.out.up HU4.out, HRD.out.up HU4.out, HU.out.trans HU4.out⟩, rfl⟩
        · have HPL := hide (pxplace_yes p id (HIX.out.up hui.out) hpl (List.getElem?_eq_some_iff.1 hp).2 (by have := hz81.out; omega))
          rw [hf] at HFN
          have g8 : decide ((p : Int) ≥ 0) = true := decide_eq_true (by omega)
          have g8' : decide (0 ≤ (p : Int)) = true := decide_eq_true (by omega)
          have g9 : (0 : Int) ≤ (p : Int) := by omega
          clear hp hf hpl
          go_wp2_with fail
          refine HPL.out.mono ?_
          rintro _ w4 ⟨rfl, hu4⟩
          replace c3 := hu4.cell c3
          have HF4 := hide (HFN.out _ hu4)
          have HU4 := hide (hui.out.trans hu4)
          clear hu4 HPL HFN hui
          dsimp only
          go_wp2_with fail
          refine HF4.out.mono ?_
          rintro _ w5 ⟨rfl, hw5⟩
          subst hw5
          dsimp only
          go_wp2
          refine Met.intro ?_
          (repeat apply Exists.intro)
          exact ⟨⟨h, f, HIX.out.up HU4.out, HRD.out.up HU4.out, HU.out.trans HU4.out⟩, rfl⟩
end Go.Proofs.Ytbnkddnjfkagkaa
