/-
  TreePlays of rialtolaw11: a place is set, as its text runs.
-/
import Derived.Test.YtcaccbjolgjmkaaTpArm
namespace Go.Proofs.Ytcaccbjolgjmkaa
open Go.ChangeShapes Go.WideShapes Go.ChangeAt Go.RowKit
set_option linter.unusedVariables false
set_option maxRecDepth 100000
attribute [local go_sem ↓] Go.wp_at_zero Go.wp_at_succ

variable {w W : World} {T : Nat} {xs : List Int} {h n : Nat} {am : Option Addr} {nm cm sb : Nat} {sw si sv : Int} {ib : Bool}
theorem Own.set {α : Type} {e : TypeId} {enc : α → Value} {w : World} {base g n cap : Nat} {l : List α} (h : Own e enc w base (.slice (some ⟨g, 0, none⟩) n cap) l) (k : Nat) (x : α) :
    Own e enc (w.setCell ⟨g, k, none⟩ (enc x)) base (.slice (some ⟨g, 0, none⟩) n cap) (l.set k x) := by
  obtain ⟨a, c, h0, _⟩ := h.slice
  obtain rfl : n = l.length := by injection h0
  have h1 := (World.ownsRow.stored h k (enc x)).1
  unfold Own
  rw [List.length_set, List.map_set]
  exact h1
theorem Own.at {α : Type} {e : TypeId} {enc : α → Value} {w : World} {base n cap : Nat} {a : Option Addr} {l : List α} (h : Own e enc w base (.slice a n cap) l) {i : Nat} (hi : i < l.length) :
    ∃ g, a = some ⟨g, 0, none⟩ ∧ w.cell? ⟨g, i, none⟩ = some (enc l[i]) ∧ w.frozen? ⟨g, i, none⟩ = false := by
  obtain ⟨g, cp, cur, hv, _, hg, _, _, h3, h4⟩ := h.block (by intro e; rw [e] at hi; simp at hi)
  refine ⟨g, by injection hv, ?_, by simp only [World.frozen?, hg]; simp⟩
  rw [cell_of hg, ← Array.getElem?_toList, ← List.getElem?_take_of_lt hi, h4, List.getElem?_map, List.getElem?_eq_getElem hi]
  rfl
set_option maxHeartbeats 8000000 in
theorem tp_set (j : Nat) (p : TpAt w T xs h n am nm cm sb sw j sv ib W) (hsw : sw = 7) (hj : j < nm) (u0 u1 u2 u5 u8 u11 u12 u13 u14 u15 u16 u17 u18 u19 u20 u21 u22 u23 u24 u25 u26 u27 u28 u29 u30 u31 u32 u33 u34 u35 u36 u37 u38 u39 u40 u41 u42 u43 u44 u45 u46 u47 u48 u49 u50 u51 u52 u54 u55 u56 u57 u58 u59 u60 u61 u62 u63 u64 u65 u66 u67 u68 u69 u70 u71 u72 u73 u74 u75 u76 u77 u78 u79 u80 u81 u82 u83 u84 u85 u86 u87 u88 u89 u90 u91 u92 u93 u94 u95 u96 u97 u98 u99 u100 u101 u102 u103 u104 u105 u106 u107 u108 u109 u110 u111 u112 u113 u114 u115 u116 u117 u118 u119 u120 u121 u122 u123 u124 u125 u126 u127 u128 u129 u130 u131 u132 u133 u134 u135 u136 u137 u138 u139 u140 u141 u142 u143 u144 u145 u146 u147 u148 u149 u150 u151 u152 u153 u154 u155 u156 u157 u158 u159 u160 u161 u162 u163 u164 u165 u166 u167 u168 u169 u170 u171 u172 u173 u174 u175 u176 u177 u178 u179 u180 u181 u182 u183 u184 u185 u186 u187 u188 u189 u190 u191 u192 u193 u194 u195 u196 u197 u198 u199 u200 u201 u202 u203 u204 u205 u206 u207 u208 u209 u210 u211 u212 u213 u214 u215 u216 u217 u218 u219 u220 u221 u222 u223 u224 u225 u226 u227 u228 u229 u230 u231 u232 u233 u234 u235 u236 u237 u238 u239 u240 u241 u242 u243 u244 u245 u246 u247 u248 u249 u250 u251 u252 u253 u254 u255 u256 u257 u258 u259 u260 u261 u262 u263 u264 u265 u266 u267 u268 u269 u270 u271 u272 u273 u274 u275 u276 u277 u278 u279 u280 u281 u282 u283 u284 u285 u286 u287 u288 u289 u290 u291 u292 u293 u294 u295 u296 u297 u298 u299 u300 u301 u302 u303 u304 u305 u306 : Value) (K : Act → World → Prop) (Q : Exit → Act → World → Prop)
    (hK : ∀ a' w', Met (TpJ w T xs n nm sb j sw ib u0 u1 u2 u5 u8 u19 u20 u21 u22 u23 u24 u25 u26 u27 u28 u29 u30 u31 u32 u33 u34 u35 u36 u37 u38 u39 u40 u41 u42 u43 u44 u45 u46 u47 u48 u49 u50 u51 u52 u209 u210 u211 u212 u213 u214 u215 u216 u217 u218 u219 u220 u221 u222 u223 u224 u225 u226 u227 u228 u229 u230 u231 u232 u233 u234 u235 u236 u237 u238 u239 u240 u241 u242 u243 u244 u245 u246 u247 u248 u249 u250 u251 u252 u253 u254 u255 u256 u257 u258 u259 u260 u261 u262 u263 u264 u265 u266 u267 u268 u269 u270 u271 u272 u273 u274 u275 u276 u277 u278 u279 u280 u281 u282 u283 u284 u285 u286 u287 u288 u289 u290 u291 u292 u293 u294 u295 u296 u297 u298 u299 u300 u301 u302 u303 u304 u305 u306) a' w' → K a' w') :
    Code.wp Try.prog ((Try.f3.body.bind (blkN 2)).getD .skip) (Exit.then K Q) ⟨#[u0, u1, u2, .pointer (some ⟨T, 0, none⟩), .slice am nm cm, u5, .pointer (some ⟨sb, 0, none⟩), .int .i64 nm, u8, .bool ib, .bool false, u11, u12, u13, u14, u15, u16, u17, u18, u19, u20, u21, u22, u23, u24, u25, u26, u27, u28, u29, u30, u31, u32, u33, u34, u35, u36, u37, u38, u39, u40, u41, u42, u43, u44, u45, u46, u47, u48, u49, u50, u51, u52, .int .i64 sw, u54, u55, u56, u57, u58, u59, u60, u61, u62, u63, u64, u65, u66, u67, u68, u69, u70, u71, u72, u73, u74, u75, u76, u77, u78, u79, u80, u81, u82, u83, u84, u85, u86, u87, u88, u89, u90, u91, u92, u93, u94, u95, u96, u97, u98, u99, u100, u101, u102, u103, u104, u105, u106, u107, u108, u109, u110, u111, u112, u113, u114, u115, u116, u117, u118, u119, u120, u121, u122, u123, u124, u125, u126, u127, u128, u129, u130, u131, u132, u133, u134, u135, u136, u137, u138, u139, u140, u141, u142, u143, u144, u145, u146, u147, u148, u149, u150, u151, u152, u153, u154, u155, u156, u157, u158, u159, u160, u161, u162, u163, u164, u165, u166, u167, u168, u169, u170, u171, u172, u173, u174, u175, u176, u177, u178, u179, u180, u181, u182, u183, u184, u185, u186, u187, u188, u189, u190, u191, u192, u193, u194, u195, u196, u197, u198, u199, u200, u201, u202, u203, u204, u205, u206, u207, u208, u209, u210, u211, u212, u213, u214, u215, u216, u217, u218, u219, u220, u221, u222, u223, u224, u225, u226, u227, u228, u229, u230, u231, u232, u233, u234, u235, u236, u237, u238, u239, u240, u241, u242, u243, u244, u245, u246, u247, u248, u249, u250, u251, u252, u253, u254, u255, u256, u257, u258, u259, u260, u261, u262, u263, u264, u265, u266, u267, u268, u269, u270, u271, u272, u273, u274, u275, u276, u277, u278, u279, u280, u281, u282, u283, u284, u285, u286, u287, u288, u289, u290, u291, u292, u293, u294, u295, u296, u297, u298, u299, u300, u301, u302, u303, u304, u305, u306], []⟩ W := by
  have P := hide p
  have hjx : j < xs.length := by rw [← p.len]; exact hj
  have HC := hide (setAtI_ok T h n j sv xs W p.t hjx (by have := p.len; have := p.few; omega) (by have := p.ww; omega))
  have c1 := p.c1
  have c2 := p.c2
  obtain rfl : ib = true := by rw [p.hib]; exact decide_eq_true ⟨by omega, by omega⟩
  have j0 : (0 : Int) ≤ (j : Int) := by omega
  have jn : (j : Int) < (nm : Int) := by omega
  have HLX := hide p.len
  have HXL : Hid (xs.length ≤ 150) := by have := p.len; have := p.few; show _ ≤ _; omega
  subst hsw
  unfold TpJ at hK
  clear p
  conv => arg 2; whnf
  go_wp2_with fail
  refine HC.out.mono ?_
  rintro _ w1 ⟨rfl, hd1⟩
  have HD := hide hd1
  obtain ⟨h', k', ht1, hk1, hk2, hc1⟩ := hd1
  have hlt : Hid (T < w1.heap.size) := ht1.lt
  have HM1 : Hid (Rd (Value.int .i64) (fun y => y = T) w1 (.slice am nm cm) xs) := P.out.rd.chg hc1
  have y1 := hc1.cell (p := ⟨sb, 1, none⟩) c1 P.out.sT
  have y2 := hc1.cell (p := ⟨sb, 2, none⟩) c2 P.out.sT
  have hsb1 : Hid (sb < w1.heap.size) := World.block_lt_of_cell? w1 ⟨sb, 1, none⟩ y1
  clear c1 c2 ht1 hk1 hk2 hc1 HC
  dsimp only
  go_wp2_with (at_builtin; refine append_rd elemI rfl _ _ rfl w1.heap.size (.slice none 0 0) _ [] xs rfl rfl (Own.nil _ _ _ _) HM1.out (by have := HXL.out; simp only [List.length_nil]; omega) (Nat.le_refl _) ?_)
  intro v2 w2 ho2 hg2 _
  try rw [List.nil_append] at ho2
  have hu2 := hide (own_below (e := 3) (enc := Value.int .i64) (l := []) (Up.refl w1) (Own.nil _ _ _ _) hg2)
  obtain ⟨a2, n2, c3, rfl, hn2, -⟩ := ho2.sliceN
  obtain rfl : n2 = nm := by rw [hn2.out, HLX.out]
  obtain ⟨g2, rfl, z1, z2⟩ := ho2.at hjx
  have c1 := hu2.out.cell y1
  have c2 := hu2.out.cell y2
  have hg2 : Hid (w1.heap.size ≤ g2) := (ho2.lt g2 rfl).1
  have ho3 := hide (ho2.set j sv)
  have hu3 := hide (hu2.out.setCell (p := ⟨g2, j, none⟩) hg2.out (.int .i64 sv))
  have hnsb : ¬ g2 = sb := by have := hg2.out; have := hsb1.out; omega
  clear ho2 hn2 y1 y2
  go_wp2
  refine Met.intro ?_
  (repeat apply Exists.intro)
  refine ⟨P.out.done HD.out hu3.out (zs := setL sv xs j) ?_ (by unfold setL; rw [List.length_set]; omega), rfl⟩
  exact Own.rd ho3.out (fun g hg e => by
    have := (Own.lt ho3.out g hg).1
    have := hlt.out
    omega)
end Go.Proofs.Ytcaccbjolgjmkaa
