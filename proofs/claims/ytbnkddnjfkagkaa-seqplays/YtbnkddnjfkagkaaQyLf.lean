/-
  SeqPlays of rialtolaw13: the last questions behind an act, as its text runs.
-/
import Derived.Test.YtbnkddnjfkagkaaQyArm
namespace Go.Proofs.Ytbnkddnjfkagkaa
open Go.ChangeShapes Go.WideShapes Go.ChangeAt Go.RowKit
set_option linter.unusedVariables false
set_option maxRecDepth 100000
attribute [local go_sem ↓] Go.wp_at_zero Go.wp_at_succ

def isReg (n : Nat) : Code → Bool
  | .region k _ _ => k == n
  | _ => false
/-- The region with this number. -/
def regQ (n : Nat) : Code → Option Code
  | .region k o d => if k == n then some (.region k o d) else none
  | .seq a b => match regQ n a with
    | some c => some c
    | none => regQ n b
  | .block _ c => regQ n c
  | .loop c => regQ n c
  | .scope c => regQ n c
  | .cond _ a b => match regQ n a with
    | some c => some c
    | none => regQ n b
  | _ => none
/-- What stands behind the region with this number. -/
def behQ (n : Nat) : Code → Option Code
  | .seq a b => if isReg n a then some b else match behQ n a with
    | some c => some c
    | none => behQ n b
  | .block _ c => behQ n c
  | .loop c => behQ n c
  | .scope c => behQ n c
  | .cond _ a b => match behQ n a with
    | some c => some c
    | none => behQ n b
  | _ => none
/-- What stands behind a round. -/
def QyEnd (w : World) (q T M : Nat) (zs : List Int) (N : Nat) (mv : Value) (wx : World) : Prop :=
  ∃ (h' : Nat) (f' : Int → Option Nat), SqIx (fun _ => False) q T M zs h' N f' wx ∧ Rd (Value.int .i64) (TM T M) wx mv zs ∧ Up w wx
set_option maxRecDepth 1000000 in
def QyF (w : World) (q T M : Nat) (zs : List Int) (N nz cm sb : Nat) (am : Option Addr) (u0 u1 u2 u5 u7 u8 u9 u10 u11 u12 u13 u14 u15 u16 u22 u23 u24 u25 u26 u27 u28 u29 u30 u31 u32 u33 u34 u35 u36 u37 u38 u39 u40 u41 u42 u43 u44 u45 u46 u47 u48 u49 u50 u51 u52 u53 u54 u55 u56 u57 u58 u59 u60 u61 u62 u63 u64 u65 u66 u67 u68 u69 u70 u71 u72 u73 u74 u75 u76 u77 u78 u79 u80 u81 u82 u83 u84 u85 u86 u87 u88 u89 u90 u91 u92 u93 u94 u95 u96 u97 u98 u99 u100 u101 u102 u103 u104 u105 u106 u107 u108 u109 u110 u111 u112 u113 u114 u115 u116 u117 u118 u119 u120 u121 u122 u123 u124 u125 u126 u127 u128 u129 u130 u131 u132 u133 u134 u135 u136 u137 u138 u139 u140 u141 u142 u143 u144 u145 u146 u147 u148 u149 u150 u151 u152 u153 u154 u155 u156 u157 u158 u159 u160 u161 u162 u163 u164 u165 u166 u167 u168 u169 u170 u171 u172 u173 u174 u175 u176 u177 u178 u179 u180 u181 u182 u183 u184 u185 u186 u187 u188 u189 u190 u191 u192 u193 u194 u195 u196 u197 u198 u199 u200 u201 u202 u203 u204 u205 u206 u207 u208 u209 u210 u211 u212 u213 u214 u215 u216 u217 u218 u219 u220 u221 u222 u223 u224 u225 u226 u227 u228 u229 u230 : Value) (a : Act) (wx : World) : Prop :=
  ∃ v17 v18 v19 v20 v21 v231 v232 v233 v234 v235 v236 v237 v238 v239 v240 v241 v242 v243 v244 v245 v246 v247 v248 v249 v250 v251 v252 v253 v254 v255 v256 v257 v258 v259 v260 v261 v262 v263 v264 v265 v266 v267 v268 v269 v270 v271 v272 v273 v274 v275 v276 v277 v278 v279 v280 v281 v282 v283 v284 v285 v286 : Value, QyEnd w q T M zs N (.slice am nz cm) wx ∧ a = ⟨#[u0, u1, u2, .pointer (some ⟨q, 0, none⟩), .slice am nz cm, u5, .pointer (some ⟨sb, 0, none⟩), u7, u8, u9, u10, u11, u12, u13, u14, u15, u16, v17, v18, v19, v20, v21, u22, u23, u24, u25, u26, u27, u28, u29, u30, u31, u32, u33, u34, u35, u36, u37, u38, u39, u40, u41, u42, u43, u44, u45, u46, u47, u48, u49, u50, u51, u52, u53, u54, u55, u56, u57, u58, u59, u60, u61, u62, u63, u64, u65, u66, u67, u68, u69, u70, u71, u72, u73, u74, u75, u76, u77, u78, u79, u80, u81, u82, u83, u84, u85, u86, u87, u88, u89, u90, u91, u92, u93, u94, u95, u96, u97, u98, u99, u100, u101, u102, u103, u104, u105, u106, u107, u108, u109, u110, u111, u112, u113, u114, u115, u116, u117, u118, u119, u120, u121, u122, u123, u124, u125, u126, u127, u128, u129, u130, u131, u132, u133, u134, u135, u136, u137, u138, u139, u140, u141, u142, u143, u144, u145, u146, u147, u148, u149, u150, u151, u152, u153, u154, u155, u156, u157, u158, u159, u160, u161, u162, u163, u164, u165, u166, u167, u168, u169, u170, u171, u172, u173, u174, u175, u176, u177, u178, u179, u180, u181, u182, u183, u184, u185, u186, u187, u188, u189, u190, u191, u192, u193, u194, u195, u196, u197, u198, u199, u200, u201, u202, u203, u204, u205, u206, u207, u208, u209, u210, u211, u212, u213, u214, u215, u216, u217, u218, u219, u220, u221, u222, u223, u224, u225, u226, u227, u228, u229, u230, v231, v232, v233, v234, v235, v236, v237, v238, v239, v240, v241, v242, v243, v244, v245, v246, v247, v248, v249, v250, v251, v252, v253, v254, v255, v256, v257, v258, v259, v260, v261, v262, v263, v264, v265, v266, v267, v268, v269, v270, v271, v272, v273, v274, v275, v276, v277, v278, v279, v280, v281, v282, v283, v284, v285, v286], []⟩
/-- What stands where the last questions begin. -/
structure QyQ (w : World) (q T M : Nat) (zs : List Int) (h N : Nat) (f : Int → Option Nat) (am : Option Addr) (nz cm sb : Nat) (id si : Int) (W : World) : Prop where
  ix : SqIx (fun _ => False) q T M zs h N f W
  rd : Rd (Value.int .i64) (TM T M) W (.slice am nz cm) zs
  up : Up w W
  c1 : W.cell? ⟨sb, 1, none⟩ = some (.int .i64 id)
  c3 : W.cell? ⟨sb, 3, none⟩ = some (.int .i64 si)
  wid : wf64 id
  len : nz = zs.length
  few : zs.length ≤ 81
variable {w W : World} {q T M : Nat} {zs : List Int} {h N : Nat} {f : Int → Option Nat} {am : Option Addr} {nz cm sb : Nat} {id si : Int}
end Go.Proofs.Ytbnkddnjfkagkaa
