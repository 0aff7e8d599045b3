/-
  SeqPlays of rialtolaw13: the last questions behind an act, as its text runs.
-/
import Derived.Test.YtbnkddnjfkagkaaQyLf
namespace Go.Proofs.Ytbnkddnjfkagkaa
open Go.ChangeShapes Go.WideShapes Go.ChangeAt Go.RowKit
set_option linter.unusedVariables false
set_option maxRecDepth 100000
attribute [local go_sem ↓] Go.wp_at_zero Go.wp_at_succ

variable {w W : World} {q T M : Nat} {zs : List Int} {h N : Nat} {f : Int → Option Nat} {am : Option Addr} {nz cm sb : Nat} {id si : Int}
set_option maxHeartbeats 32000000 in
theorem qy_leafN (P : QyQ w q T M zs h N f am nz cm sb id si W) (hf : fdI zs id = -1) (hpl : Calls Try.prog 24 #[.pointer (some ⟨q, 0, none⟩), .int .i64 id] W fun e w' => e = .returned (.tuple #[.int .i64 0, .bool false]) ∧ Up W w') (u0 u1 u2 u5 u7 u8 u9 u10 u11 u12 u13 u14 u15 u16 u17 u18 u19 u20 u21 u22 u23 u24 u25 u26 u27 u28 u29 u30 u31 u32 u33 u34 u35 u36 u37 u38 u39 u40 u41 u42 u43 u44 u45 u46 u47 u48 u49 u50 u51 u52 u53 u54 u55 u56 u57 u58 u59 u60 u61 u62 u63 u64 u65 u66 u67 u68 u69 u70 u71 u72 u73 u74 u75 u76 u77 u78 u79 u80 u81 u82 u83 u84 u85 u86 u87 u88 u89 u90 u91 u92 u93 u94 u95 u96 u97 u98 u99 u100 u101 u102 u103 u104 u105 u106 u107 u108 u109 u110 u111 u112 u113 u114 u115 u116 u117 u118 u119 u120 u121 u122 u123 u124 u125 u126 u127 u128 u129 u130 u131 u132 u133 u134 u135 u136 u137 u138 u139 u140 u141 u142 u143 u144 u145 u146 u147 u148 u149 u150 u151 u152 u153 u154 u155 u156 u157 u158 u159 u160 u161 u162 u163 u164 u165 u166 u167 u168 u169 u170 u171 u172 u173 u174 u175 u176 u177 u178 u179 u180 u181 u182 u183 u184 u185 u186 u187 u188 u189 u190 u191 u192 u193 u194 u195 u196 u197 u198 u199 u200 u201 u202 u203 u204 u205 u206 u207 u208 u209 u210 u211 u212 u213 u214 u215 u216 u217 u218 u219 u220 u221 u222 u223 u224 u225 u226 u227 u228 u229 u230 u231 u232 u233 u234 u235 u236 u237 u238 u239 u240 u241 u242 u243 u244 u245 u246 u247 u248 u249 u250 u251 u252 u253 u254 u255 u256 u257 u258 u259 u260 u261 u262 u263 u264 u265 u266 u267 u268 u269 u270 u271 u272 u273 u274 u275 u276 u277 u278 u279 u280 u281 u282 u283 u284 u285 u286 : Value) (K : Act → World → Prop) (Q : Exit → Act → World → Prop)
    (hKr : ∀ a' w', Code.wp Try.prog ((Try.f3.body.bind (behQ 53)).getD .skip) Q a' w' → K a' w')
    (hQ : ∀ a' w', Met (QyF w q T M zs N nz cm sb am u0 u1 u2 u5 u7 u8 u9 u10 u11 u12 u13 u14 u15 u16 u22 u23 u24 u25 u26 u27 u28 u29 u30 u31 u32 u33 u34 u35 u36 u37 u38 u39 u40 u41 u42 u43 u44 u45 u46 u47 u48 u49 u50 u51 u52 u53 u54 u55 u56 u57 u58 u59 u60 u61 u62 u63 u64 u65 u66 u67 u68 u69 u70 u71 u72 u73 u74 u75 u76 u77 u78 u79 u80 u81 u82 u83 u84 u85 u86 u87 u88 u89 u90 u91 u92 u93 u94 u95 u96 u97 u98 u99 u100 u101 u102 u103 u104 u105 u106 u107 u108 u109 u110 u111 u112 u113 u114 u115 u116 u117 u118 u119 u120 u121 u122 u123 u124 u125 u126 u127 u128 u129 u130 u131 u132 u133 u134 u135 u136 u137 u138 u139 u140 u141 u142 u143 u144 u145 u146 u147 u148 u149 u150 u151 u152 u153 u154 u155 u156 u157 u158 u159 u160 u161 u162 u163 u164 u165 u166 u167 u168 u169 u170 u171 u172 u173 u174 u175 u176 u177 u178 u179 u180 u181 u182 u183 u184 u185 u186 u187 u188 u189 u190 u191 u192 u193 u194 u195 u196 u197 u198 u199 u200 u201 u202 u203 u204 u205 u206 u207 u208 u209 u210 u211 u212 u213 u214 u215 u216 u217 u218 u219 u220 u221 u222 u223 u224 u225 u226 u227 u228 u229 u230) a' w' → Q .normal a' w') :
    Code.wp Try.prog ((Try.f3.body.bind (regQ 53)).getD .skip) (Exit.then K Q) ⟨#[u0, u1, u2, .pointer (some ⟨q, 0, none⟩), .slice am nz cm, u5, .pointer (some ⟨sb, 0, none⟩), u7, u8, u9, u10, u11, u12, u13, u14, u15, u16, u17, u18, u19, u20, u21, u22, u23, u24, u25, u26, u27, u28, u29, u30, u31, u32, u33, u34, u35, u36, u37, u38, u39, u40, u41, u42, u43, u44, u45, u46, u47, u48, u49, u50, u51, u52, u53, u54, u55, u56, u57, u58, u59, u60, u61, u62, u63, u64, u65, u66, u67, u68, u69, u70, u71, u72, u73, u74, u75, u76, u77, u78, u79, u80, u81, u82, u83, u84, u85, u86, u87, u88, u89, u90, u91, u92, u93, u94, u95, u96, u97, u98, u99, u100, u101, u102, u103, u104, u105, u106, u107, u108, u109, u110, u111, u112, u113, u114, u115, u116, u117, u118, u119, u120, u121, u122, u123, u124, u125, u126, u127, u128, u129, u130, u131, u132, u133, u134, u135, u136, u137, u138, u139, u140, u141, u142, u143, u144, u145, u146, u147, u148, u149, u150, u151, u152, u153, u154, u155, u156, u157, u158, u159, u160, u161, u162, u163, u164, u165, u166, u167, u168, u169, u170, u171, u172, u173, u174, u175, u176, u177, u178, u179, u180, u181, u182, u183, u184, u185, u186, u187, u188, u189, u190, u191, u192, u193, u194, u195, u196, u197, u198, u199, u200, u201, u202, u203, u204, u205, u206, u207, u208, u209, u210, u211, u212, u213, u214, u215, u216, u217, u218, u219, u220, u221, u222, u223, u224, u225, u226, u227, u228, u229, u230, u231, u232, u233, u234, u235, u236, u237, u238, u239, u240, u241, u242, u243, u244, u245, u246, u247, u248, u249, u250, u251, u252, u253, u254, u255, u256, u257, u258, u259, u260, u261, u262, u263, u264, u265, u266, u267, u268, u269, u270, u271, u272, u273, u274, u275, u276, u277, u278, u279, u280, u281, u282, u283, u284, u285, u286], []⟩ W := by
  have HIX := hide P.ix
  have HRD := hide P.rd
  have HU := hide P.up
  have c1 := P.c1
  have c3 := P.c3
  have hz81 : Hid (zs.length ≤ 81) := P.few
  have hz81' : nz ≤ 81 := by have := P.len; have := P.few; omega
  have HNZ : Hid (nz = zs.length) := P.len
  have hac : (si < 0 ∧ ∀ W', Up W W' → Calls Try.prog 25 #[.pointer (some ⟨q, 0, none⟩), .int .i64 si] W' fun e w' => e = .returned (.tuple #[.int .i64 0, .bool false]) ∧ Up W' w') ∨ ((0 ≤ si ∧ ¬ si < (nz : Int)) ∧ ∀ W', Up W W' → Calls Try.prog 25 #[.pointer (some ⟨q, 0, none⟩), .int .i64 si] W' fun e w' => e = .returned (.tuple #[.int .i64 0, .bool false]) ∧ Up W' w') ∨
      ∃ (j : Nat) (x : Int), si = j ∧ j < nz ∧ zs[j]? = some x ∧ ∀ W', Up W W' → Calls Try.prog 25 #[.pointer (some ⟨q, 0, none⟩), .int .i64 si] W' fun e w' => e = .returned (.tuple #[.int .i64 x, .bool true]) ∧ Up W' w' := by
    by_cases h0 : si < 0
    · exact .inl ⟨h0, fun W' hu => sqat_not si (HIX.out.up hu) (.inl h0)⟩
    · by_cases h1 : si < (nz : Int)
      · obtain ⟨j, rfl⟩ : ∃ j : Nat, si = j := ⟨si.toNat, by omega⟩
        have hjl : j < zs.length := by rw [← HNZ.out]; omega
        exact .inr (.inr ⟨j, zs[j], rfl, by omega, List.getElem?_eq_getElem hjl, fun W' hu => by
          have := sqat_ok j (HIX.out.up hu) hjl (by have := hz81.out; omega)
          rw [getD_in zs hjl] at this
          exact this⟩)
      · exact .inr (.inl ⟨⟨by omega, h1⟩, fun W' hu => sqat_not si (HIX.out.up hu) (.inr (by rw [← HNZ.out]; omega))⟩)
  have HFN : Hid (∀ W', Up W W' → Calls Try.prog 11 #[.slice am nz cm, .int .i64 id] W' fun e w' => e = .returned (.int .i64 (fdI zs id)) ∧ w' = W') := fun W' hu => find13_calls _ zs id (TM T M) W' (HRD.out.up hu) (by have := hz81.out; omega)
  unfold QyF at hQ
  clear P
  conv => arg 2; whnf
  have HPL := hide hpl
  rw [hf] at HFN
  clear hf hpl
  have d5 : decide ((-1 : Int) ≥ 0) = false := decide_eq_false (by omega)
  rcases hac with ⟨h0, hat⟩ | ⟨⟨h0, h1⟩, hat⟩ | ⟨j, x, rfl, hjn, hx, hat⟩
  · have HAT := hide hat
    have d7 : decide (si ≥ 0) = false := decide_eq_false (by omega)
    have d7' : decide (0 ≤ si) = false := decide_eq_false (by omega)
    clear hat
    go_wp2_with fail
    refine HPL.out.mono ?_
    rintro _ w4 ⟨rfl, hu4⟩
    replace c1 := hu4.cell c1
    replace c3 := hu4.cell c3
    have HU4 := hide (hu4)
    clear hu4 HPL
    dsimp only
    go_wp2_with fail
    conv => arg 2; whnf
    go_wp2_with fail
    refine (HAT.out _ HU4.out).mono ?_
    rintro _ w5 ⟨rfl, hu5⟩
    replace c1 := hu5.cell c1
    replace c3 := hu5.cell c3
    have HU5 := hide (HU4.out.trans hu5)
    clear hu5 HAT
    dsimp only
    go_wp2_with fail
    refine (HFN.out _ HU5.out).mono ?_
    rintro _ w6 ⟨rfl, hw6⟩
    obtain rfl : w5 = w6 := hw6.symm
    dsimp only
    go_wp2
    refine Met.intro ?_
    (repeat apply Exists.intro)
    exact ⟨⟨h, f, HIX.out.up HU5.out, HRD.out.up HU5.out, HU.out.trans HU5.out⟩, by first | rfl | ((repeat apply Exists.intro); rfl)⟩
  · have HAT := hide hat
    have d7 : decide (si ≥ 0) = true := decide_eq_true h0
    have d7' : decide (0 ≤ si) = true := decide_eq_true h0
    have d8 : decide (si < (nz : Int)) = false := decide_eq_false h1
    clear hat
    go_wp2_with fail
    refine HPL.out.mono ?_
    rintro _ w4 ⟨rfl, hu4⟩
    replace c1 := hu4.cell c1
    replace c3 := hu4.cell c3
    have HU4 := hide (hu4)
    clear hu4 HPL
    dsimp only
    go_wp2_with fail
    conv => arg 2; whnf
    go_wp2_with fail
    refine (HAT.out _ HU4.out).mono ?_
    rintro _ w5 ⟨rfl, hu5⟩
    replace c1 := hu5.cell c1
    replace c3 := hu5.cell c3
    have HU5 := hide (HU4.out.trans hu5)
    clear hu5 HAT
    dsimp only
    go_wp2_with fail
    refine (HFN.out _ HU5.out).mono ?_
    rintro _ w6 ⟨rfl, hw6⟩
    obtain rfl : w5 = w6 := hw6.symm
    dsimp only
    go_wp2
    refine Met.intro ?_
    (repeat apply Exists.intro)
    exact ⟨⟨h, f, HIX.out.up HU5.out, HRD.out.up HU5.out, HU.out.trans HU5.out⟩, by first | rfl | ((repeat apply Exists.intro); rfl)⟩
  · have HAT := hide hat
    have d7 : decide ((j : Int) ≥ 0) = true := decide_eq_true (by omega)
    have d7' : decide (0 ≤ (j : Int)) = true := decide_eq_true (by omega)
    have d8 : decide ((j : Int) < (nz : Int)) = true := decide_eq_true (by omega)
    have d8n : decide (j < nz) = true := decide_eq_true hjn
    have j0 : (0 : Int) ≤ (j : Int) := by omega
    have jn : (j : Int) < (nz : Int) := by omega
    have d9 : (x != x) = false := by simp
    obtain ⟨hjl, hxe⟩ := List.getElem?_eq_some_iff.1 hx
    obtain ⟨g9, o9, rfl, hcj⟩ := (HRD.out).get (i := j) hjl
    rw [hxe] at hcj
    clear hat hx hxe hjl
    go_wp2_with fail
    refine HPL.out.mono ?_
    rintro _ w4 ⟨rfl, hu4⟩
    replace c1 := hu4.cell c1
    replace c3 := hu4.cell c3
    replace hcj := hu4.cell hcj
    have HU4 := hide (hu4)
    clear hu4 HPL
    dsimp only
    go_wp2_with fail
    conv => arg 2; whnf
    go_wp2_with fail
    refine (HAT.out _ HU4.out).mono ?_
    rintro _ w5 ⟨rfl, hu5⟩
    replace c1 := hu5.cell c1
    replace c3 := hu5.cell c3
    replace hcj := hu5.cell hcj
    have HU5 := hide (HU4.out.trans hu5)
    clear hu5 HAT
    dsimp only
    go_wp2_with fail
    refine (HFN.out _ HU5.out).mono ?_
    rintro _ w6 ⟨rfl, hw6⟩
    obtain rfl : w5 = w6 := hw6.symm
    dsimp only
    go_wp2
    refine Met.intro ?_
    (repeat apply Exists.intro)
    exact ⟨⟨h, f, HIX.out.up HU5.out, HRD.out.up HU5.out, HU.out.trans HU5.out⟩, by first | rfl | ((repeat apply Exists.intro); rfl)⟩
end Go.Proofs.Ytbnkddnjfkagkaa
