/-
  TreePlays of rialtolaw11: no act, as its text runs.
-/
import Derived.Test.YtcaccbjolgjmkaaTpArm
namespace Go.Proofs.Ytcaccbjolgjmkaa
open Go.ChangeShapes Go.WideShapes Go.ChangeAt Go.RowKit
set_option linter.unusedVariables false
set_option maxRecDepth 100000
attribute [local go_sem ↓] Go.wp_at_zero Go.wp_at_succ

variable {w W : World} {T : Nat} {xs : List Int} {h n : Nat} {am : Option Addr} {nm cm sb : Nat} {sw si sv : Int} {ib : Bool}
set_option maxHeartbeats 16000000 in
theorem tp_none (p : TpAt w T xs h n am nm cm sb sw si sv ib W) (hsw : sw < 0 ∨ 7 < sw) (u0 u1 u2 u5 u8 u11 u12 u13 u14 u15 u16 u17 u18 u19 u20 u21 u22 u23 u24 u25 u26 u27 u28 u29 u30 u31 u32 u33 u34 u35 u36 u37 u38 u39 u40 u41 u42 u43 u44 u45 u46 u47 u48 u49 u50 u51 u52 u54 u55 u56 u57 u58 u59 u60 u61 u62 u63 u64 u65 u66 u67 u68 u69 u70 u71 u72 u73 u74 u75 u76 u77 u78 u79 u80 u81 u82 u83 u84 u85 u86 u87 u88 u89 u90 u91 u92 u93 u94 u95 u96 u97 u98 u99 u100 u101 u102 u103 u104 u105 u106 u107 u108 u109 u110 u111 u112 u113 u114 u115 u116 u117 u118 u119 u120 u121 u122 u123 u124 u125 u126 u127 u128 u129 u130 u131 u132 u133 u134 u135 u136 u137 u138 u139 u140 u141 u142 u143 u144 u145 u146 u147 u148 u149 u150 u151 u152 u153 u154 u155 u156 u157 u158 u159 u160 u161 u162 u163 u164 u165 u166 u167 u168 u169 u170 u171 u172 u173 u174 u175 u176 u177 u178 u179 u180 u181 u182 u183 u184 u185 u186 u187 u188 u189 u190 u191 u192 u193 u194 u195 u196 u197 u198 u199 u200 u201 u202 u203 u204 u205 u206 u207 u208 u209 u210 u211 u212 u213 u214 u215 u216 u217 u218 u219 u220 u221 u222 u223 u224 u225 u226 u227 u228 u229 u230 u231 u232 u233 u234 u235 u236 u237 u238 u239 u240 u241 u242 u243 u244 u245 u246 u247 u248 u249 u250 u251 u252 u253 u254 u255 u256 u257 u258 u259 u260 u261 u262 u263 u264 u265 u266 u267 u268 u269 u270 u271 u272 u273 u274 u275 u276 u277 u278 u279 u280 u281 u282 u283 u284 u285 u286 u287 u288 u289 u290 u291 u292 u293 u294 u295 u296 u297 u298 u299 u300 u301 u302 u303 u304 u305 u306 : Value) (K : Act → World → Prop) (Q : Exit → Act → World → Prop)
    (hK : ∀ a' w', Met (TpJ w T xs n nm sb si sw ib u0 u1 u2 u5 u8 u19 u20 u21 u22 u23 u24 u25 u26 u27 u28 u29 u30 u31 u32 u33 u34 u35 u36 u37 u38 u39 u40 u41 u42 u43 u44 u45 u46 u47 u48 u49 u50 u51 u52 u209 u210 u211 u212 u213 u214 u215 u216 u217 u218 u219 u220 u221 u222 u223 u224 u225 u226 u227 u228 u229 u230 u231 u232 u233 u234 u235 u236 u237 u238 u239 u240 u241 u242 u243 u244 u245 u246 u247 u248 u249 u250 u251 u252 u253 u254 u255 u256 u257 u258 u259 u260 u261 u262 u263 u264 u265 u266 u267 u268 u269 u270 u271 u272 u273 u274 u275 u276 u277 u278 u279 u280 u281 u282 u283 u284 u285 u286 u287 u288 u289 u290 u291 u292 u293 u294 u295 u296 u297 u298 u299 u300 u301 u302 u303 u304 u305 u306) a' w' → K a' w') :
    Code.wp Try.prog ((Try.f3.body.bind (blkN 2)).getD .skip) (Exit.then K Q) ⟨#[u0, u1, u2, .pointer (some ⟨T, 0, none⟩), .slice am nm cm, u5, .pointer (some ⟨sb, 0, none⟩), .int .i64 nm, u8, .bool ib, .bool false, u11, u12, u13, u14, u15, u16, u17, u18, u19, u20, u21, u22, u23, u24, u25, u26, u27, u28, u29, u30, u31, u32, u33, u34, u35, u36, u37, u38, u39, u40, u41, u42, u43, u44, u45, u46, u47, u48, u49, u50, u51, u52, .int .i64 sw, u54, u55, u56, u57, u58, u59, u60, u61, u62, u63, u64, u65, u66, u67, u68, u69, u70, u71, u72, u73, u74, u75, u76, u77, u78, u79, u80, u81, u82, u83, u84, u85, u86, u87, u88, u89, u90, u91, u92, u93, u94, u95, u96, u97, u98, u99, u100, u101, u102, u103, u104, u105, u106, u107, u108, u109, u110, u111, u112, u113, u114, u115, u116, u117, u118, u119, u120, u121, u122, u123, u124, u125, u126, u127, u128, u129, u130, u131, u132, u133, u134, u135, u136, u137, u138, u139, u140, u141, u142, u143, u144, u145, u146, u147, u148, u149, u150, u151, u152, u153, u154, u155, u156, u157, u158, u159, u160, u161, u162, u163, u164, u165, u166, u167, u168, u169, u170, u171, u172, u173, u174, u175, u176, u177, u178, u179, u180, u181, u182, u183, u184, u185, u186, u187, u188, u189, u190, u191, u192, u193, u194, u195, u196, u197, u198, u199, u200, u201, u202, u203, u204, u205, u206, u207, u208, u209, u210, u211, u212, u213, u214, u215, u216, u217, u218, u219, u220, u221, u222, u223, u224, u225, u226, u227, u228, u229, u230, u231, u232, u233, u234, u235, u236, u237, u238, u239, u240, u241, u242, u243, u244, u245, u246, u247, u248, u249, u250, u251, u252, u253, u254, u255, u256, u257, u258, u259, u260, u261, u262, u263, u264, u265, u266, u267, u268, u269, u270, u271, u272, u273, u274, u275, u276, u277, u278, u279, u280, u281, u282, u283, u284, u285, u286, u287, u288, u289, u290, u291, u292, u293, u294, u295, u296, u297, u298, u299, u300, u301, u302, u303, u304, u305, u306], []⟩ W := by
  have P := hide p
  have HSL : Hid (∀ W', Up W W' → Calls Try.prog 16 #[.pointer (some ⟨T, 0, none⟩), .int .i64 si, .int .i64 sv] W' fun e w' => AppPost W' (cutL xs si sv) e w') := fun W' hu => tslice_calls T h n xs si sv W' (Tr.up p.t hu) (by have := p.len; have := p.few; omega)
  have c1 := p.c1
  have c2 := p.c2
  have d0 : ¬ sw = 0 := by omega
  have d1 : ¬ sw = 1 := by omega
  have d2 : ¬ sw = 2 := by omega
  have d3 : ¬ sw = 3 := by omega
  have d4 : ¬ sw = 4 := by omega
  have d5 : ¬ sw = 5 := by omega
  have d6 : ¬ sw = 6 := by omega
  have d7 : ¬ sw = 7 := by omega
  have HXL : Hid (xs.length ≤ 150) := by have := p.len; have := p.few; show _ ≤ _; omega
  have HLN := hide p.len
  have HLC := hide p.lec
  unfold TpJ at hK
  clear p hsw
  obtain ⟨F, hF⟩ : ∃ F : Nat, (F : Int) = max si 0 := ⟨(max si 0).toNat, by omega⟩
  obtain ⟨G, hG⟩ : ∃ G, G = min sv (nm : Int) := ⟨_, rfl⟩
  have hF' := hF.symm
  have hG' := hG.symm
  have HFG := hide (⟨hF, hG⟩ : _ ∧ _)
  clear hF hG
  conv => arg 2; whnf
  by_cases hw : si < sv ∧ (F : Int) < G
  · obtain ⟨h1, h2⟩ := hw
    obtain ⟨g, rfl⟩ : ∃ g : Nat, G = (g : Int) := ⟨G.toNat, by omega⟩
    have g0 : (0 : Int) ≤ (F : Int) := by omega
    have g1 : (F : Int) ≤ (g : Int) := by omega
    have hgn : g ≤ nm := by have := HFG.out.2; omega
    have g2 : (g : Int) ≤ (cm : Int) := by have := HLC.out; omega
    have hcut : Hid (cutL xs si sv = (xs.take g).drop F) := by
      unfold Hid
      rw [← cutL_norm, ← HLN.out, ← HFG.out.1, ← HFG.out.2]
      unfold cutL
      simp
    go_wp2_with fail
    go_quiet (fail)
    have HU2 := hide ((Up.refl W).drewN nq)
    have c1' := HU2.out.cell c1
    have c2' := HU2.out.cell c2
    have HS := hide (HSL.out _ HU2.out)
    have HRD' : Hid (Rd (Value.int .i64) (fun y => y = T) (W.drewN nq) (.slice am nm cm) xs) := hide (P.out.rd.up HU2.out)
    generalize W.drewN nq = W2 at *
    clear c1 c2
    go_wp2_with fail
    refine HS.out.mono ?_
    rintro _ w3 ⟨v3, rfl, ho3, hu3⟩
    rw [hcut.out] at ho3
    have HO3 := hide ho3
    have HU3 := hide hu3
    clear ho3 hu3 HS
    have hRS : Hid (Rd (Value.int .i64) (fun y => y = T) w3 (.slice (Option.map (fun x => x.add F) am) (g - F) (cm - F)) ((xs.take g).drop F)) := by
      have h := ((HRD'.out.up HU3.out).take (m := g) hgn).drop1 (m := F) (by omega)
      have hFc : ¬ cm = F := by have := HLC.out; omega
      rw [if_neg hFc] at h
      exact hide h
    dsimp only
    go_wp2_with fail
    go_at_call 15
    refine (same11_calls (fun _ => False) (fun y => y = T) _ _ _ w3 (Own.rd HO3.out (fun _ _ h => h)) (hRS.out) (by have := HXL.out; rw [List.length_drop, List.length_take]; omega)).mono ?_
    rintro _ w4 ⟨rfl, hu4⟩
    have HU5 := hide ((HU2.out.trans HU3.out).trans hu4)
    clear hu4
    dsimp only
    go_wp2
    refine Met.intro ?_
    (repeat apply Exists.intro)
    exact ⟨P.out.same HU5.out, rfl⟩
  · have hcut : Hid (cutL xs si sv = []) := by
      unfold Hid cutL
      have h1 := HFG.out.1
      have h2 := HFG.out.2
      have hl : (xs.take sv.toNat).length ≤ si.toNat := by
        rw [List.length_take, ← HLN.out]
        omega
      exact List.drop_eq_nil_of_le hl
    by_cases h1 : si < sv
    · have h2 : ¬ (F : Int) < G := fun h => hw ⟨h1, h⟩
      clear hw
      go_wp2_with fail
      go_quiet (fail)
      have HU2 := hide ((Up.refl W).drewN nq)
      have c1' := HU2.out.cell c1
      have c2' := HU2.out.cell c2
      have HS := hide (HSL.out _ HU2.out)
      have HRD' : Hid (Rd (Value.int .i64) (fun y => y = T) (W.drewN nq) (.slice am nm cm) xs) := hide (P.out.rd.up HU2.out)
      generalize W.drewN nq = W2 at *
      clear c1 c2
      go_wp2_with fail
      refine HS.out.mono ?_
      rintro _ w3 ⟨v3, rfl, ho3, hu3⟩
      rw [hcut.out] at ho3
      have HO3 := hide ho3
      have HU3 := hide hu3
      clear ho3 hu3 HS
      dsimp only
      go_wp2_with fail
      go_at_call 15
      refine (same11_calls (fun _ => False) (fun y => y = T) _ _ _ w3 (Own.rd HO3.out (fun _ _ h => h)) (Rd.nil _ _ _) (by simp)).mono ?_
      rintro _ w4 ⟨rfl, hu4⟩
      have HU5 := hide ((HU2.out.trans HU3.out).trans hu4)
      clear hu4
      dsimp only
      go_wp2
      refine Met.intro ?_
      (repeat apply Exists.intro)
      exact ⟨P.out.same HU5.out, rfl⟩
    · clear hw
      go_wp2_with fail
      go_quiet (fail)
      have HU2 := hide ((Up.refl W).drewN nq)
      have c1' := HU2.out.cell c1
      have c2' := HU2.out.cell c2
      have HS := hide (HSL.out _ HU2.out)
      generalize W.drewN nq = W2 at *
      clear c1 c2
      go_wp2_with fail
      refine HS.out.mono ?_
      rintro _ w3 ⟨v3, rfl, ho3, hu3⟩
      rw [hcut.out] at ho3
      have HO3 := hide ho3
      have HU3 := hide hu3
      clear ho3 hu3 HS
      dsimp only
      go_wp2_with fail
      go_at_call 15
      refine (same11_calls (fun _ => False) (fun y => y = T) _ _ _ w3 (Own.rd HO3.out (fun _ _ h => h)) (Rd.nil _ _ _) (by simp)).mono ?_
      rintro _ w4 ⟨rfl, hu4⟩
      have HU5 := hide ((HU2.out.trans HU3.out).trans hu4)
      clear hu4
      dsimp only
      go_wp2
      refine Met.intro ?_
      (repeat apply Exists.intro)
      exact ⟨P.out.same HU5.out, rfl⟩
end Go.Proofs.Ytcaccbjolgjmkaa
