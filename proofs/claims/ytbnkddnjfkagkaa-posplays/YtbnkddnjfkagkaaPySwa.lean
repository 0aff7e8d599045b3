/-
  PosPlays of rialtolaw14: two places the other way round, as its text runs.
-/
import Derived.Test.YtbnkddnjfkagkaaPyArm
import Derived.Deep.Cut
import Derived.BigRegion
import Derived.Deep.RegionHeld3
namespace Go.Proofs.Ytbnkddnjfkagkaa
open Go.ChangeShapes Go.WideShapes Go.ChangeAt Go.RowKit
set_option linter.unusedVariables false
set_option maxRecDepth 100000
attribute [local go_sem ↓] Go.wp_at_zero Go.wp_at_succ

variable {w W : World} {q T M : Nat} {xs : List Int} {h n : Nat} {f : Int → Option Nat} {am : Option Addr} {nm cm sb : Nat} {sw si sk id : Int} {ib : Bool}
theorem rd_swap {w : World} {g : Nat} {xs : List Int} {i k : Nat} (h : ∀ j u, (xs.map (Value.int .i64))[j]? = some u → w.cell? ⟨g, j, none⟩ = some u) {x y : Int} (hi : xs[i]? = some x) (hk : xs[k]? = some y) :
    ∀ j u, ((swL xs i k).map (Value.int .i64))[j]? = some u → ((w.setCell ⟨g, i, none⟩ (.int .i64 y)).setCell ⟨g, k, none⟩ (.int .i64 x)).cell? ⟨g, j, none⟩ = some u := by
  intro j u hj
  have hil := (List.getElem?_eq_some_iff.1 hi).1
  have hkl := (List.getElem?_eq_some_iff.1 hk).1
  rw [List.getElem?_map, swL_get xs hil hkl] at hj
  have ci : w.cell? ⟨g, i, none⟩ = some (.int .i64 x) := h i _ (by rw [List.getElem?_map, hi]; rfl)
  have ck : w.cell? ⟨g, k, none⟩ = some (.int .i64 y) := h k _ (by rw [List.getElem?_map, hk]; rfl)
  have hne : ∀ a b : Nat, a ≠ b → (⟨g, a, none⟩ : Addr) ≠ ⟨g, b, none⟩ := fun a b hab e => hab (by injection e)
  by_cases h1 : j = k
  · subst h1
    have hs : swN i j j = i := by unfold swN; split <;> simp_all
    rw [hs, hi] at hj
    obtain rfl : Value.int .i64 x = u := by simpa using hj
    by_cases h2 : i = j
    · subst h2; exact World.cell?_setCell_same _ _ _ (World.cell?_setCell_same _ _ _ ci)
    · exact World.cell?_setCell_same _ _ _ (u := .int .i64 y) (by rw [World.cell?_setCell_other _ _ _ _ (hne _ _ h2)]; exact ck)
  · rw [World.cell?_setCell_other _ _ _ _ (hne _ _ (Ne.symm h1))]
    by_cases h2 : j = i
    · subst h2
      have hs : swN j k j = k := by unfold swN; simp
      rw [hs, hk] at hj
      obtain rfl : Value.int .i64 y = u := by simpa using hj
      exact World.cell?_setCell_same _ _ _ ci
    · rw [World.cell?_setCell_other _ _ _ _ (hne _ _ (Ne.symm h2))]
      have hs : swN i k j = j := by unfold swN; rw [if_neg h2, if_neg h1]
      rw [hs] at hj
      exact h j u (by rw [List.getElem?_map]; exact hj)
set_option maxHeartbeats 8000000 in
theorem py_swpnot (p : PyAt w q T M xs h n f am nm cm sb sw si sk id ib W) (hsw : sw ≠ 0 ∧ sw ≠ 1 ∧ sw ≠ 2 ∧ sw ≠ 3 ∧ sw ≠ 4 ∧ sw ≠ 5) (hno : ¬ (0 ≤ si ∧ si < (nm : Int)) ∨ ¬ (0 ≤ sk ∧ sk < (nm : Int))) (u0 u1 u2 u5 u8 u13 u14 u15 u16 u17 u18 u19 u20 u21 u22 u23 u24 u25 u26 u27 u28 u29 u30 u31 u32 u33 u34 u35 u36 u37 u38 u39 u40 u41 u42 u43 u44 u45 u46 u47 u48 u49 u50 u51 u52 u53 u54 u55 u56 u57 u58 u59 u61 u62 u63 u64 u65 u66 u67 u68 u69 u70 u71 u72 u73 u74 u75 u76 u77 u78 u79 u80 u81 u82 u83 u84 u85 u86 u87 u88 u89 u90 u91 u92 u93 u94 u95 u96 u97 u98 u99 u100 u101 u102 u103 u104 u105 u106 u107 u108 u109 u110 u111 u112 u113 u114 u115 u116 u117 u118 u119 u120 u121 u122 u123 u124 u125 u126 u127 u128 u129 u130 u131 u132 u133 u134 u135 u136 u137 u138 u139 u140 u141 u142 u143 u144 u145 u146 u147 u148 u149 u150 u151 u152 u153 u154 u155 u156 u157 u158 u159 u160 u161 u162 u163 u164 u165 u166 u167 u168 u169 u170 u171 u172 u173 u174 u175 u176 u177 u178 u179 u180 u181 u182 u183 u184 u185 u186 u187 u188 u189 u190 u191 u192 u193 u194 u195 u196 u197 u198 u199 u200 u201 u202 u203 u204 u205 u206 u207 u208 u209 u210 u211 u212 u213 u214 u215 u216 u217 u218 u219 u220 u221 u222 u223 u224 u225 u226 u227 u228 u229 u230 u231 u232 u233 u234 u235 u236 u237 u238 u239 u240 u241 u242 u243 u244 u245 u246 u247 u248 u249 u250 u251 u252 u253 u254 u255 u256 u257 u258 u259 u260 u261 u262 u263 u264 u265 u266 u267 u268 u269 u270 u271 u272 u273 u274 u275 u276 u277 u278 u279 u280 u281 u282 u283 u284 u285 u286 u287 u288 u289 u290 u291 u292 u293 u294 u295 u296 u297 u298 u299 : Value) (K : Act → World → Prop) (Q : Exit → Act → World → Prop)
    (hK : ∀ a' w', Met (PyJ w q T M xs n nm sb id sw ib u0 u1 u2 u5 u8 u18 u19 u20 u21 u22 u23 u24 u25 u26 u27 u28 u29 u30 u31 u32 u33 u34 u35 u36 u37 u38 u39 u40 u41 u42 u43 u44 u45 u46 u47 u48 u49 u50 u51 u52 u53 u54 u55 u56 u57 u58 u59 u205 u206 u207 u208 u209 u210 u211 u212 u213 u214 u215 u216 u217 u218 u219 u220 u221 u222 u223 u224 u225 u226 u227 u228 u229 u230 u231 u232 u233 u234 u235 u236 u237 u238 u239 u240 u241 u242 u243 u244 u245 u246 u247 u248 u249 u250 u251 u252 u253 u254 u255 u256 u257 u258 u259 u260 u261 u262 u263 u264 u265 u266 u267 u268 u269 u270 u271 u272 u273 u274 u275 u276 u277 u278 u279 u280 u281 u282 u283 u284 u285 u286 u287 u288 u289 u290 u291 u292 u293 u294 u295 u296 u297 u298 u299) a' w' → K a' w') :
    Code.wp Try.prog ((Try.f6.body.bind (blkN 2)).getD .skip) (Exit.then K Q) ⟨#[u0, u1, u2, .pointer (some ⟨q, 0, none⟩), .slice am nm cm, u5, .pointer (some ⟨sb, 0, none⟩), .int .i64 nm, u8, .int .i64 (fdI xs id), .bool ib, .int .i64 0, .int .i64 0, u13, u14, u15, u16, u17, u18, u19, u20, u21, u22, u23, u24, u25, u26, u27, u28, u29, u30, u31, u32, u33, u34, u35, u36, u37, u38, u39, u40, u41, u42, u43, u44, u45, u46, u47, u48, u49, u50, u51, u52, u53, u54, u55, u56, u57, u58, u59, .int .i64 sw, u61, u62, u63, u64, u65, u66, u67, u68, u69, u70, u71, u72, u73, u74, u75, u76, u77, u78, u79, u80, u81, u82, u83, u84, u85, u86, u87, u88, u89, u90, u91, u92, u93, u94, u95, u96, u97, u98, u99, u100, u101, u102, u103, u104, u105, u106, u107, u108, u109, u110, u111, u112, u113, u114, u115, u116, u117, u118, u119, u120, u121, u122, u123, u124, u125, u126, u127, u128, u129, u130, u131, u132, u133, u134, u135, u136, u137, u138, u139, u140, u141, u142, u143, u144, u145, u146, u147, u148, u149, u150, u151, u152, u153, u154, u155, u156, u157, u158, u159, u160, u161, u162, u163, u164, u165, u166, u167, u168, u169, u170, u171, u172, u173, u174, u175, u176, u177, u178, u179, u180, u181, u182, u183, u184, u185, u186, u187, u188, u189, u190, u191, u192, u193, u194, u195, u196, u197, u198, u199, u200, u201, u202, u203, u204, u205, u206, u207, u208, u209, u210, u211, u212, u213, u214, u215, u216, u217, u218, u219, u220, u221, u222, u223, u224, u225, u226, u227, u228, u229, u230, u231, u232, u233, u234, u235, u236, u237, u238, u239, u240, u241, u242, u243, u244, u245, u246, u247, u248, u249, u250, u251, u252, u253, u254, u255, u256, u257, u258, u259, u260, u261, u262, u263, u264, u265, u266, u267, u268, u269, u270, u271, u272, u273, u274, u275, u276, u277, u278, u279, u280, u281, u282, u283, u284, u285, u286, u287, u288, u289, u290, u291, u292, u293, u294, u295, u296, u297, u298, u299], []⟩ W := by
  have P := hide p
  have HC := hide (pxswap_not si sk p.ix (by have := p.len; omega))
  have c1 := p.c1
  have c2 := p.c2
  obtain ⟨h0, h1, h2, h3, h4, h5⟩ := hsw
  unfold PyJ at hK
  by_cases hi : 0 ≤ si ∧ si < (nm : Int)
  · obtain rfl : ib = true := by rw [p.hib]; exact decide_eq_true hi
    have hk := hno.resolve_left (fun h => h hi)
    clear p hno hi
    conv => arg 2; whnf
    by_cases hk0 : sk < 0
    · have d1 : decide (sk < 0) = true := decide_eq_true hk0
      go_wp2_with fail
      refine HC.out.mono ?_
      rintro _ w1 ⟨rfl, hu1⟩
      have HU1 := hide hu1
      replace c2 := hu1.cell c2
      clear hu1 c1
      dsimp only
      go_wp2
      refine Met.intro ?_
      (repeat apply Exists.intro)
      exact ⟨P.out.same HU1.out 73 (by omega), rfl⟩
    · have d1 : decide (sk < 0) = false := decide_eq_false hk0
      have d2 : decide (sk ≥ (nm : Int)) = true := decide_eq_true (by omega)
      have d2' : decide ((nm : Int) ≤ sk) = true := decide_eq_true (by omega)
      have d3 : (nm : Int) ≤ sk := by omega
      go_wp2_with fail
      refine HC.out.mono ?_
      rintro _ w1 ⟨rfl, hu1⟩
      have HU1 := hide hu1
      replace c2 := hu1.cell c2
      clear hu1 c1
      dsimp only
      go_wp2
      refine Met.intro ?_
      (repeat apply Exists.intro)
      exact ⟨P.out.same HU1.out 73 (by omega), rfl⟩
  · obtain rfl : ib = false := by rw [p.hib]; exact decide_eq_false hi
    clear p hno hi
    conv => arg 2; whnf
    go_wp2_with fail
    refine HC.out.mono ?_
    rintro _ w1 ⟨rfl, hu1⟩
    have HU1 := hide hu1
    clear hu1 c1 c2
    dsimp only
    go_wp2
    refine Met.intro ?_
    (repeat apply Exists.intro)
    exact ⟨P.out.same HU1.out 73 (by omega), rfl⟩
set_option maxHeartbeats 8000000 in
theorem py_swp (j k : Nat) (p : PyAt w q T M xs h n f am nm cm sb sw j k id ib W) (hsw : sw ≠ 0 ∧ sw ≠ 1 ∧ sw ≠ 2 ∧ sw ≠ 3 ∧ sw ≠ 4 ∧ sw ≠ 5) (hj : j < nm) (hk : k < nm) (u0 u1 u2 u5 u8 u13 u14 u15 u16 u17 u18 u19 u20 u21 u22 u23 u24 u25 u26 u27 u28 u29 u30 u31 u32 u33 u34 u35 u36 u37 u38 u39 u40 u41 u42 u43 u44 u45 u46 u47 u48 u49 u50 u51 u52 u53 u54 u55 u56 u57 u58 u59 u61 u62 u63 u64 u65 u66 u67 u68 u69 u70 u71 u72 u73 u74 u75 u76 u77 u78 u79 u80 u81 u82 u83 u84 u85 u86 u87 u88 u89 u90 u91 u92 u93 u94 u95 u96 u97 u98 u99 u100 u101 u102 u103 u104 u105 u106 u107 u108 u109 u110 u111 u112 u113 u114 u115 u116 u117 u118 u119 u120 u121 u122 u123 u124 u125 u126 u127 u128 u129 u130 u131 u132 u133 u134 u135 u136 u137 u138 u139 u140 u141 u142 u143 u144 u145 u146 u147 u148 u149 u150 u151 u152 u153 u154 u155 u156 u157 u158 u159 u160 u161 u162 u163 u164 u165 u166 u167 u168 u169 u170 u171 u172 u173 u174 u175 u176 u177 u178 u179 u180 u181 u182 u183 u184 u185 u186 u187 u188 u189 u190 u191 u192 u193 u194 u195 u196 u197 u198 u199 u200 u201 u202 u203 u204 u205 u206 u207 u208 u209 u210 u211 u212 u213 u214 u215 u216 u217 u218 u219 u220 u221 u222 u223 u224 u225 u226 u227 u228 u229 u230 u231 u232 u233 u234 u235 u236 u237 u238 u239 u240 u241 u242 u243 u244 u245 u246 u247 u248 u249 u250 u251 u252 u253 u254 u255 u256 u257 u258 u259 u260 u261 u262 u263 u264 u265 u266 u267 u268 u269 u270 u271 u272 u273 u274 u275 u276 u277 u278 u279 u280 u281 u282 u283 u284 u285 u286 u287 u288 u289 u290 u291 u292 u293 u294 u295 u296 u297 u298 u299 : Value) (K : Act → World → Prop) (Q : Exit → Act → World → Prop)
    (hK : ∀ a' w', Met (PyJ w q T M xs n nm sb id sw ib u0 u1 u2 u5 u8 u18 u19 u20 u21 u22 u23 u24 u25 u26 u27 u28 u29 u30 u31 u32 u33 u34 u35 u36 u37 u38 u39 u40 u41 u42 u43 u44 u45 u46 u47 u48 u49 u50 u51 u52 u53 u54 u55 u56 u57 u58 u59 u205 u206 u207 u208 u209 u210 u211 u212 u213 u214 u215 u216 u217 u218 u219 u220 u221 u222 u223 u224 u225 u226 u227 u228 u229 u230 u231 u232 u233 u234 u235 u236 u237 u238 u239 u240 u241 u242 u243 u244 u245 u246 u247 u248 u249 u250 u251 u252 u253 u254 u255 u256 u257 u258 u259 u260 u261 u262 u263 u264 u265 u266 u267 u268 u269 u270 u271 u272 u273 u274 u275 u276 u277 u278 u279 u280 u281 u282 u283 u284 u285 u286 u287 u288 u289 u290 u291 u292 u293 u294 u295 u296 u297 u298 u299) a' w' → K a' w') :
    Code.wp Try.prog ((Try.f6.body.bind (blkN 2)).getD .skip) (Exit.then K Q) ⟨#[u0, u1, u2, .pointer (some ⟨q, 0, none⟩), .slice am nm cm, u5, .pointer (some ⟨sb, 0, none⟩), .int .i64 nm, u8, .int .i64 (fdI xs id), .bool ib, .int .i64 0, .int .i64 0, u13, u14, u15, u16, u17, u18, u19, u20, u21, u22, u23, u24, u25, u26, u27, u28, u29, u30, u31, u32, u33, u34, u35, u36, u37, u38, u39, u40, u41, u42, u43, u44, u45, u46, u47, u48, u49, u50, u51, u52, u53, u54, u55, u56, u57, u58, u59, .int .i64 sw, u61, u62, u63, u64, u65, u66, u67, u68, u69, u70, u71, u72, u73, u74, u75, u76, u77, u78, u79, u80, u81, u82, u83, u84, u85, u86, u87, u88, u89, u90, u91, u92, u93, u94, u95, u96, u97, u98, u99, u100, u101, u102, u103, u104, u105, u106, u107, u108, u109, u110, u111, u112, u113, u114, u115, u116, u117, u118, u119, u120, u121, u122, u123, u124, u125, u126, u127, u128, u129, u130, u131, u132, u133, u134, u135, u136, u137, u138, u139, u140, u141, u142, u143, u144, u145, u146, u147, u148, u149, u150, u151, u152, u153, u154, u155, u156, u157, u158, u159, u160, u161, u162, u163, u164, u165, u166, u167, u168, u169, u170, u171, u172, u173, u174, u175, u176, u177, u178, u179, u180, u181, u182, u183, u184, u185, u186, u187, u188, u189, u190, u191, u192, u193, u194, u195, u196, u197, u198, u199, u200, u201, u202, u203, u204, u205, u206, u207, u208, u209, u210, u211, u212, u213, u214, u215, u216, u217, u218, u219, u220, u221, u222, u223, u224, u225, u226, u227, u228, u229, u230, u231, u232, u233, u234, u235, u236, u237, u238, u239, u240, u241, u242, u243, u244, u245, u246, u247, u248, u249, u250, u251, u252, u253, u254, u255, u256, u257, u258, u259, u260, u261, u262, u263, u264, u265, u266, u267, u268, u269, u270, u271, u272, u273, u274, u275, u276, u277, u278, u279, u280, u281, u282, u283, u284, u285, u286, u287, u288, u289, u290, u291, u292, u293, u294, u295, u296, u297, u298, u299], []⟩ W := by
  have P := hide p
  have hjx : j < xs.length := by rw [← p.len]; exact hj
  have hkx : k < xs.length := by rw [← p.len]; exact hk
  have HC := hide (pxswap_ok j k p.ix hjx hkx (by have := p.len; have := p.few; omega) (by have := p.ww; omega))
  obtain ⟨x, hx⟩ : ∃ x, xs[j]? = some x := ⟨_, List.getElem?_eq_getElem hjx⟩
  obtain ⟨y, hy⟩ : ∃ x, xs[k]? = some x := ⟨_, List.getElem?_eq_getElem hkx⟩
  have HX := hide hx
  have HY := hide hy
  have c1 := p.c1
  have c2 := p.c2
  obtain ⟨h0, h1, h2, h3, h4, h5⟩ := hsw
  obtain rfl : ib = true := by rw [p.hib]; exact decide_eq_true ⟨by omega, by omega⟩
  have d1 : decide ((k : Int) < 0) = false := decide_eq_false (by omega)
  have d2 : decide ((k : Int) ≥ (nm : Int)) = false := decide_eq_false (by omega)
  have d2' : decide (nm ≤ k) = false := decide_eq_false (by omega)
  have d3 : ¬ (nm : Int) ≤ (k : Int) := by omega
  have j0 : (0 : Int) ≤ (j : Int) := by omega
  have k0 : (0 : Int) ≤ (k : Int) := by omega
  have jn : (j : Int) < (nm : Int) := by omega
  have kn : (k : Int) < (nm : Int) := by omega
  have hxl : Hid (xs.length ≤ 80 ∧ nm = xs.length) := ⟨by have := p.len; have := p.few; omega, p.len⟩
  unfold PyJ at hK
  clear p hx hy hjx hkx
  conv => arg 2; whnf
  go_wp2_with fail
  refine HC.out.mono ?_
  rintro _ w1 ⟨rfl, hd1⟩
  have HD := hide hd1
  obtain ⟨h', k', f', ix1, hk1, hc1⟩ := hd1
  have hlt : Hid (T < w1.heap.size ∧ M < w1.heap.size) := ⟨ix1.ltT, ix1.ltM⟩
  have HM1 : Hid (Rd (Value.int .i64) (TM T M) w1 (.slice am nm cm) xs) := P.out.rd.chg hc1
  have y1 := tm_cell hc1 c1 P.out.sT P.out.sM
  have y2 := tm_cell hc1 c2 P.out.sT P.out.sM
  clear c1 c2 ix1 hk1 hc1
  dsimp only
  go_wp2_with (at_builtin; refine append_rd elemL rfl _ _ rfl w1.heap.size _ _ [] xs rfl rfl (Own.nil _ _ _ _) HM1.out (by have := hxl.out; simp only [List.length_nil]; omega) (Nat.le_refl _) ?_)
  intro v2 w2 ho2 hg2 _
  try rw [List.nil_append] at ho2
  have hu2 := hide (own_below (e := 2) (enc := Value.int .i64) (l := []) (Up.refl w1) (Own.nil _ _ _ _) hg2)
  clear hg2
  have hsl : sb < w1.heap.size := World.block_lt_of_cell? w1 _ y1
  replace y1 := hu2.out.cell y1
  replace y2 := hu2.out.cell y2
  have hne : xs ≠ [] := fun e => by have := HX.out; rw [e] at this; simp at this
  obtain ⟨g, cap, cur, rfl, hgb, hheap, q1, q2, q3, q4⟩ := ho2.block hne
  have hall : ∀ j u, (xs.map (Value.int .i64))[j]? = some u → w2.cell? ⟨g, j, none⟩ = some u := fun j u hju => by
    have hlj : j < xs.length := by
      rcases Nat.lt_or_ge j xs.length with h | h
      · exact h
      · rw [List.getElem?_eq_none (by simpa using h)] at hju; cases hju
    rw [cell_of hheap, ← hju, ← q4, List.getElem?_take, if_pos hlj, Array.getElem?_toList]
  have r1 : w2.cell? ⟨g, j, none⟩ = some (.int .i64 x) := hall j _ (by rw [List.getElem?_map, HX.out]; rfl)
  have r2 : w2.cell? ⟨g, k, none⟩ = some (.int .i64 y) := hall k _ (by rw [List.getElem?_map, HY.out]; rfl)
  have f1 : w2.frozen? ⟨g, j, none⟩ = false := by simp [World.frozen?, hheap]
  have f2 : w2.frozen? ⟨g, k, none⟩ = false := by simp [World.frozen?, hheap]
  have r3 : ∃ u, (w2.setCell ⟨g, j, none⟩ (.int .i64 y)).cell? ⟨g, k, none⟩ = some u := by
    by_cases hjk : j = k
    · subst hjk; exact ⟨_, World.cell?_setCell_same _ _ _ r1⟩
    · exact ⟨_, (World.cell?_setCell_other _ _ _ _ (fun e => hjk (by injection e))).trans r2⟩
  obtain ⟨u, r3⟩ := r3
  have hsg : g ≠ sb := by omega
  have y1s : (w2.setCell ⟨g, j, none⟩ (.int .i64 y)).cell? ⟨sb, 1, none⟩ = some (.int .i64 j) := (World.cell?_setCell_other _ _ _ _ (fun e => hsg (by injection e))).trans y1
  have y2s : (w2.setCell ⟨g, j, none⟩ (.int .i64 y)).cell? ⟨sb, 2, none⟩ = some (.int .i64 k) := (World.cell?_setCell_other _ _ _ _ (fun e => hsg (by injection e))).trans y2
  have HSW := hide (rd_swap hall HX.out HY.out)
  have hgn : Hid (w1.heap.size ≤ g ∧ g < w2.heap.size ∧ xs.length ≤ cap ∧ cap ≤ maxLen) := ⟨hgb, (Array.getElem?_eq_some_iff.1 hheap).1, q1, q2⟩
  obtain ⟨W3, hW3⟩ : ∃ W3, W3 = (w2.setCell ⟨g, j, none⟩ (.int .i64 y)).setCell ⟨g, k, none⟩ (.int .i64 x) := ⟨_, rfl⟩
  have HF : Hid (Up w1 W3 ∧ Rd (Value.int .i64) (TM T M) W3 (.slice (some ⟨g, 0, none⟩) nm cap) (swL xs j k)) := by
    refine ⟨?_, some ⟨g, 0, none⟩, cap, by rw [swL_len, hxl.out.2], by rw [swL_len]; exact q1, q2, .inr ⟨g, 0, rfl, fun e => ?_, fun i u hi => ?_⟩⟩
    · rw [hW3]
      exact up_of_chg_new hu2.out (((Chg.refl (fun z => z = g) w2).set (C := fun z => z = g) (p := ⟨g, j, none⟩) (fun _ => rfl) _).set (C := fun z => z = g) (p := ⟨g, k, none⟩) (fun _ => rfl) _) hgb
    · have := hlt.out
      rcases e with e | e <;> omega
    · rw [hW3, Nat.zero_add]; exact HSW.out i u hi
  have HW3 := hide hW3
  rw [← hxl.out.2]
  clear hW3 hall hgb hheap q1 q2 q3 q4 hne hsg hsl
  --S1
  go_wp2_with fail
  --S2
  refine wp_region_noPanic ?_
  go_region
  --S3
  all_goals
    rw [← HW3.out]
    go_wp2
    all_goals
      refine hK _ _ (Met.intro ?_)
      (repeat apply Exists.intro)
      refine ⟨P.out.done HD.out (by omega) (zs := swL xs j k) ?_ (HF.out.2.up ?_) (by rw [swL_len]; omega), rfl⟩
      · exact HF.out.1.trans (by repeat' (with_reducible first | exact Up.refl _ | apply Up.drew | apply Up.drewN))
      · exact (by repeat' (with_reducible first | exact Up.refl _ | apply Up.drew | apply Up.drewN))
end Go.Proofs.Ytbnkddnjfkagkaa
