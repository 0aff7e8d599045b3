/-
  TriePlays of rialtolaw15: the loop that tells, of the plain row, what begins with a string and the like, as its text runs.
-/
import Derived.Test.YtmbniakobhaomaaTyArm
import Derived.Deep.CutRange
namespace Go.Proofs.Ytmbniakobhaomaa
open Go.ChangeShapes Go.WideShapes Go.ChangeAt Go.RowKit
set_option linter.unusedVariables false
set_option maxRecDepth 100000
attribute [local go_sem ↓] Go.wp_at_zero Go.wp_at_succ

/-- What the loop has told of the first ones. -/
structure TkR (W : World) (z : SZ) (ss : ByteArray) (k : Nat) (v10 v11 v12 v13 v14 : Value) (wr : World) : Prop where
  up : Up W wr
  ids : OwnR 2 (Value.int .i64) wr W.heap.size v10 (gE (z.take k) ss.data.toList)
  pre : OwnP 43 pC wr W.heap.size v11 (preZ (z.take k) ss.data.toList)
  e12 : v12 = .string (longZ ss (z.take k)).1
  e13 : v13 = .bool (longZ ss (z.take k)).2
  e14 : v14 = .int .i64 (headsZ z k).length
/-- Two rows that grow side by side. -/
theorem own_some {α : Type} {e : TypeId} {enc : α → Value} {w : World} {base : Nat} {v : Value} {l : List α} (h : OwnR e enc w base v l) {g : Nat} (hv : v.ownBlock = some g) : ∃ cur, w.heap[g]? = some (.cells cur e (0, 0)) := by
  rcases h.2 with ⟨rfl, _⟩ | ⟨g', cap, cur, rfl, _, h3, _⟩
  · cases hv
  · cases hv; exact ⟨cur, h3⟩
theorem ownp_some {α : Type} {e : TypeId} {cs : α → List Value} {w : World} {base : Nat} {v : Value} {l : List α} (h : OwnP e cs w base v l) {g : Nat} (hv : v.ownBlock = some g) : ∃ cur, w.heap[g]? = some (.cells cur e (0, 0)) := by
  rcases h.2 with ⟨rfl, _⟩ | ⟨g', cap, cur, rfl, _, h3, _⟩
  · cases hv
  · cases hv; exact ⟨cur, h3⟩
theorem grown_chg {w w' : World} {row : Option Nat} (hg : w.grownBy w' row) : Chg (fun y => row = some y) w w' := ⟨⟨hg.os, hg.tape, hg.output, hg.size, fun k hk => absurd hk (Nat.not_lt_zero _)⟩, fun x hx hn => hg.block x hx (fun e => hn e.symm)⟩
theorem ownP_keep {e e' : TypeId} (hne : e ≠ e') {w w' : World} {b b' : Nat} {v u : Value} {l : List Int} {m : SZ} (h : OwnP e' pC w b' u m) (h0 : OwnR e (Value.int .i64) w b v l) (hg : w.grownBy w' v.ownBlock) : OwnP e' pC w' b' u m :=
  h.chg (grown_chg hg) (fun g hu hv => by
    obtain ⟨c1, q1⟩ := ownp_some h hu
    obtain ⟨c2, q2⟩ := own_some h0 hv
    rw [q1] at q2
    cases q2
    exact hne rfl)
theorem ownR_keep {e e' : TypeId} (hne : e ≠ e') {w w' : World} {b b' : Nat} {v u : Value} {l : List Int} {m : SZ} (h : OwnR e (Value.int .i64) w b v l) (h0 : OwnP e' pC w b' u m) (hg : w.grownBy w' u.ownBlock) : OwnR e (Value.int .i64) w' b v l :=
  h.chg (grown_chg hg) (fun g hu hv => by
    obtain ⟨c1, q1⟩ := own_some h hu
    obtain ⟨c2, q2⟩ := ownp_some h0 hv
    rw [q1] at q2
    cases q2
    exact hne rfl)
structure Tk2 (W : World) (L : List Int) (M : SZ) (v10 v11 : Value) (wx : World) : Prop where
  up : Up W wx
  ids : OwnR 2 (Value.int .i64) wx W.heap.size v10 L
  pre : OwnP 43 pC wx W.heap.size v11 M
theorem Tk2.upw {W wx wy : World} {L : List Int} {M : SZ} {v10 v11 : Value} (h : Tk2 W L M v10 v11 wx) (hu : Up wx wy) : Tk2 W L M v10 v11 wy := ⟨h.up.trans hu, h.ids.up hu, h.pre.up hu⟩
set_option maxRecDepth 1000000 in
def TkJ (W : World) (T nz cm sb : Nat) (am : Option Addr) (z : SZ) (ss : ByteArray) (u0 u1 u2 u5 u7 u8 u9 u16 u17 u18 u19 u20 u21 u22 u23 u24 u25 u26 u27 u28 u29 u30 u31 u32 u33 u34 u35 u36 u37 u38 u39 u40 u41 u42 u43 u44 u45 u46 u47 u48 u49 u50 u51 u52 u53 u54 u55 u56 u57 u58 u59 u60 u61 u62 u63 u64 u65 u66 u67 u68 u69 u70 u71 u72 u73 u74 u75 u76 u77 u78 u79 u80 u81 u82 u83 u84 u85 u86 u87 u88 u89 u90 u91 u92 u93 u94 u95 u96 u97 u98 u99 u100 u101 u102 u103 u104 u105 u106 u107 u108 u109 u110 u111 u112 u113 u114 u115 u116 u117 u118 u119 u120 u121 u122 u123 u124 u125 u126 u127 u128 u129 u130 u131 u132 u133 u134 u135 u136 u137 u138 u139 u140 u141 u142 u226 u227 u228 u229 u230 u231 u232 u233 u234 u235 u236 u237 u238 u239 u240 u241 u242 u243 u244 u245 u246 u247 u248 u249 u250 u251 u252 u253 u254 u255 u256 u257 u258 u259 u260 u261 u262 u263 u264 u265 u266 u267 u268 u269 u270 u271 u272 u273 u274 u275 u276 u277 u278 u279 u280 u281 u282 u283 u284 u285 u286 u287 u288 u289 u290 u291 u292 u293 u294 u295 u296 u297 u298 u299 u300 u301 u302 u303 u304 u305 u306 u307 u308 u309 u310 u311 u312 u313 : Value) (a : Act) (wx : World) : Prop :=
  ∃ v10 v11 v12 v13 v14 v15 v143 v144 v145 v146 v147 v148 v149 v150 v151 v152 v153 v154 v155 v156 v157 v158 v159 v160 v161 v162 v163 v164 v165 v166 v167 v168 v169 v170 v171 v172 v173 v174 v175 v176 v177 v178 v179 v180 v181 v182 v183 v184 v185 v186 v187 v188 v189 v190 v191 v192 v193 v194 v195 v196 v197 v198 v199 v200 v201 v202 v203 v204 v205 v206 v207 v208 v209 v210 v211 v212 v213 v214 v215 v216 v217 v218 v219 v220 v221 v222 v223 v224 v225 : Value, TkR W z ss z.length v10 v11 v12 v13 v14 wx ∧ a = ⟨#[u0, u1, u2, .pointer (some ⟨T, 0, none⟩), .slice am nz cm, u5, .pointer (some ⟨sb, 0, none⟩), u7, u8, u9, v10, v11, v12, v13, v14, v15, u16, u17, u18, u19, u20, u21, u22, u23, u24, u25, u26, u27, u28, u29, u30, u31, u32, u33, u34, u35, u36, u37, u38, u39, u40, u41, u42, u43, u44, u45, u46, u47, u48, u49, u50, u51, u52, u53, u54, u55, u56, u57, u58, u59, u60, u61, u62, u63, u64, u65, u66, u67, u68, u69, u70, u71, u72, u73, u74, u75, u76, u77, u78, u79, u80, u81, u82, u83, u84, u85, u86, u87, u88, u89, u90, u91, u92, u93, u94, u95, u96, u97, u98, u99, u100, u101, u102, u103, u104, u105, u106, u107, u108, u109, u110, u111, u112, u113, u114, u115, u116, u117, u118, u119, u120, u121, u122, u123, u124, u125, u126, u127, u128, u129, u130, u131, u132, u133, u134, u135, u136, u137, u138, u139, u140, u141, u142, v143, v144, v145, v146, v147, v148, v149, v150, v151, v152, v153, v154, v155, v156, v157, v158, v159, v160, v161, v162, v163, v164, v165, v166, v167, v168, v169, v170, v171, v172, v173, v174, v175, v176, v177, v178, v179, v180, v181, v182, v183, v184, v185, v186, v187, v188, v189, v190, v191, v192, v193, v194, v195, v196, v197, v198, v199, v200, v201, v202, v203, v204, v205, v206, v207, v208, v209, v210, v211, v212, v213, v214, v215, v216, v217, v218, v219, v220, v221, v222, v223, v224, v225, u226, u227, u228, u229, u230, u231, u232, u233, u234, u235, u236, u237, u238, u239, u240, u241, u242, u243, u244, u245, u246, u247, u248, u249, u250, u251, u252, u253, u254, u255, u256, u257, u258, u259, u260, u261, u262, u263, u264, u265, u266, u267, u268, u269, u270, u271, u272, u273, u274, u275, u276, u277, u278, u279, u280, u281, u282, u283, u284, u285, u286, u287, u288, u289, u290, u291, u292, u293, u294, u295, u296, u297, u298, u299, u300, u301, u302, u303, u304, u305, u306, u307, u308, u309, u310, u311, u312, u313], []⟩
variable {W : World} {T : Nat} {z : SZ} {am : Option Addr} {nz cm sb : Nat} {ss : ByteArray} {X : Nat → Prop}
theorem gE_len (z : SZ) (s : List UInt8) : (gE z s).length ≤ z.length := by unfold gE; rw [List.length_map]; exact List.length_filter_le _ _
theorem preZ_len (z : SZ) (s : List UInt8) : (preZ z s).length ≤ z.length := List.length_filter_le _ _
theorem headsZ_len (z : SZ) : ∀ k, (headsZ z k).length ≤ k
  | 0 => Nat.le_refl _
  | k + 1 => by
    have := headsZ_len z k
    unfold headsZ
    split
    · omega
    · split
      · simp
      · split
        · omega
        · simp; omega
theorem heads_new {z : SZ} {k : Nat} (hk : k < z.length) (h : k = 0 ∨ ∃ h : k - 1 < z.length, z[k - 1].1 ≠ z[k].1) : (headsZ z (k + 1)).length = (headsZ z k).length + 1 := by
  rw [headsZ, List.getElem?_eq_getElem hk]
  simp only
  rcases h with rfl | ⟨h1, h2⟩
  · simp [headsZ]
  · split
    · rename_i h0
      subst h0
      exact absurd rfl h2
    · rw [List.getElem?_eq_getElem h1]
      simp only [Option.map_some, Option.some.injEq]
      rw [if_neg h2]
      simp
theorem heads_old {z : SZ} {k : Nat} (hk : k < z.length) (h0 : k ≠ 0) (h1 : k - 1 < z.length) (h : z[k - 1].1 = z[k].1) : headsZ z (k + 1) = headsZ z k := by
  rw [headsZ, List.getElem?_eq_getElem hk]
  simp only
  rw [if_neg h0, List.getElem?_eq_getElem h1]
  simp only [Option.map_some, Option.some.injEq]
  rw [if_pos h]
theorem heads_b {z : SZ} {k j : Nat} (hk : k < z.length) (hkj : k = j + 1) {s s' : ByteArray} {id : Int} (h : z[k]? = some (s, id)) (hj : j < z.length) (h' : s' = z[j].1) {b6 : Bool} (hb : b6 = true ↔ (headsZ z (k + 1)).length = (headsZ z k).length + 1) : (s'.toList != s.toList) = b6 := by
  subst hkj
  have HZK : z[j + 1] = (s, id) := by rw [List.getElem?_eq_getElem hk] at h; injection h
  have e0 : (s'.toList != s.toList) = !(s'.toList == s.toList) := rfl
  rw [e0, str_eq]
  by_cases hs : s' = s
  · rw [decide_eq_true hs]
    cases b6
    · rfl
    · exfalso
      have h1 := hb.1 rfl
      rw [heads_old hk (by omega) hj (by show z[j].1 = _; rw [HZK, ← h', hs])] at h1
      omega
  · rw [decide_eq_false hs]
    cases b6
    · exfalso
      have := hb.2 (heads_new hk (.inr ⟨hj, by show z[j].1 ≠ _; rw [HZK, ← h']; exact hs⟩))
      cases this
    · rfl
set_option maxHeartbeats 16000000 in
theorem ty_k (hm : RdP pC X W (.slice am nz cm) z) (h1 : W.cell? ⟨sb, 1, none⟩ = some (.string ss)) (hnz : nz ≤ 81) (hs : ∀ p ∈ z, p.1.size ≤ 60) (u0 u1 u2 u5 u7 u8 u9 u16 u17 u18 u19 u20 u21 u22 u23 u24 u25 u26 u27 u28 u29 u30 u31 u32 u33 u34 u35 u36 u37 u38 u39 u40 u41 u42 u43 u44 u45 u46 u47 u48 u49 u50 u51 u52 u53 u54 u55 u56 u57 u58 u59 u60 u61 u62 u63 u64 u65 u66 u67 u68 u69 u70 u71 u72 u73 u74 u75 u76 u77 u78 u79 u80 u81 u82 u83 u84 u85 u86 u87 u88 u89 u90 u91 u92 u93 u94 u95 u96 u97 u98 u99 u100 u101 u102 u103 u104 u105 u106 u107 u108 u109 u110 u111 u112 u113 u114 u115 u116 u117 u118 u119 u120 u121 u122 u123 u124 u125 u126 u127 u128 u129 u130 u131 u132 u133 u134 u135 u136 u137 u138 u139 u140 u141 u142 u143 u144 u145 u146 u147 u148 u149 u150 u151 u152 u153 u154 u155 u156 u157 u158 u159 u160 u161 u162 u163 u164 u165 u166 u167 u168 u169 u170 u171 u172 u173 u174 u175 u176 u177 u178 u179 u180 u181 u182 u183 u184 u185 u186 u187 u188 u189 u190 u191 u192 u193 u194 u195 u196 u197 u198 u199 u200 u201 u202 u203 u204 u205 u206 u207 u208 u209 u210 u211 u212 u213 u214 u215 u216 u217 u218 u219 u220 u221 u222 u223 u224 u225 u226 u227 u228 u229 u230 u231 u232 u233 u234 u235 u236 u237 u238 u239 u240 u241 u242 u243 u244 u245 u246 u247 u248 u249 u250 u251 u252 u253 u254 u255 u256 u257 u258 u259 u260 u261 u262 u263 u264 u265 u266 u267 u268 u269 u270 u271 u272 u273 u274 u275 u276 u277 u278 u279 u280 u281 u282 u283 u284 u285 u286 u287 u288 u289 u290 u291 u292 u293 u294 u295 u296 u297 u298 u299 u300 u301 u302 u303 u304 u305 u306 u307 u308 u309 u310 u311 u312 u313 : Value) (K : Act → World → Prop) (Q : Exit → Act → World → Prop)
    (hK : ∀ a' w', Met (TkJ W T nz cm sb am z ss u0 u1 u2 u5 u7 u8 u9 u16 u17 u18 u19 u20 u21 u22 u23 u24 u25 u26 u27 u28 u29 u30 u31 u32 u33 u34 u35 u36 u37 u38 u39 u40 u41 u42 u43 u44 u45 u46 u47 u48 u49 u50 u51 u52 u53 u54 u55 u56 u57 u58 u59 u60 u61 u62 u63 u64 u65 u66 u67 u68 u69 u70 u71 u72 u73 u74 u75 u76 u77 u78 u79 u80 u81 u82 u83 u84 u85 u86 u87 u88 u89 u90 u91 u92 u93 u94 u95 u96 u97 u98 u99 u100 u101 u102 u103 u104 u105 u106 u107 u108 u109 u110 u111 u112 u113 u114 u115 u116 u117 u118 u119 u120 u121 u122 u123 u124 u125 u126 u127 u128 u129 u130 u131 u132 u133 u134 u135 u136 u137 u138 u139 u140 u141 u142 u226 u227 u228 u229 u230 u231 u232 u233 u234 u235 u236 u237 u238 u239 u240 u241 u242 u243 u244 u245 u246 u247 u248 u249 u250 u251 u252 u253 u254 u255 u256 u257 u258 u259 u260 u261 u262 u263 u264 u265 u266 u267 u268 u269 u270 u271 u272 u273 u274 u275 u276 u277 u278 u279 u280 u281 u282 u283 u284 u285 u286 u287 u288 u289 u290 u291 u292 u293 u294 u295 u296 u297 u298 u299 u300 u301 u302 u303 u304 u305 u306 u307 u308 u309 u310 u311 u312 u313) a' w' → K a' w') :
    Code.wp Try.prog ((Try.f4.body.bind (blkN 5)).getD .skip) (Exit.then K Q) ⟨#[u0, u1, u2, .pointer (some ⟨T, 0, none⟩), .slice am nz cm, u5, .pointer (some ⟨sb, 0, none⟩), u7, u8, u9, .slice none 0 0, .slice none 0 0, .string ⟨#[]⟩, .bool false, .int .i64 0, .int .i64 0, u16, u17, u18, u19, u20, u21, u22, u23, u24, u25, u26, u27, u28, u29, u30, u31, u32, u33, u34, u35, u36, u37, u38, u39, u40, u41, u42, u43, u44, u45, u46, u47, u48, u49, u50, u51, u52, u53, u54, u55, u56, u57, u58, u59, u60, u61, u62, u63, u64, u65, u66, u67, u68, u69, u70, u71, u72, u73, u74, u75, u76, u77, u78, u79, u80, u81, u82, u83, u84, u85, u86, u87, u88, u89, u90, u91, u92, u93, u94, u95, u96, u97, u98, u99, u100, u101, u102, u103, u104, u105, u106, u107, u108, u109, u110, u111, u112, u113, u114, u115, u116, u117, u118, u119, u120, u121, u122, u123, u124, u125, u126, u127, u128, u129, u130, u131, u132, u133, u134, u135, u136, u137, u138, u139, u140, u141, u142, u143, u144, u145, u146, u147, u148, u149, u150, u151, u152, u153, u154, u155, u156, u157, u158, u159, u160, u161, u162, u163, u164, u165, u166, u167, u168, u169, u170, u171, u172, u173, u174, u175, u176, u177, u178, u179, u180, u181, u182, u183, u184, u185, u186, u187, u188, u189, u190, u191, u192, u193, u194, u195, u196, u197, u198, u199, u200, u201, u202, u203, u204, u205, u206, u207, u208, u209, u210, u211, u212, u213, u214, u215, u216, u217, u218, u219, u220, u221, u222, u223, u224, u225, u226, u227, u228, u229, u230, u231, u232, u233, u234, u235, u236, u237, u238, u239, u240, u241, u242, u243, u244, u245, u246, u247, u248, u249, u250, u251, u252, u253, u254, u255, u256, u257, u258, u259, u260, u261, u262, u263, u264, u265, u266, u267, u268, u269, u270, u271, u272, u273, u274, u275, u276, u277, u278, u279, u280, u281, u282, u283, u284, u285, u286, u287, u288, u289, u290, u291, u292, u293, u294, u295, u296, u297, u298, u299, u300, u301, u302, u303, u304, u305, u306, u307, u308, u309, u310, u311, u312, u313], []⟩ W := by
  have HM := hide hm
  have HN : Hid (nz = z.length) := by
    obtain ⟨_, _, h, _⟩ := hm
    injection h
  have HS := hide hs
  have H1 : Hid (∀ w', Up W w' → w'.cell? ⟨sb, 1, none⟩ = some (.string ss)) := hide (fun w' hu => hu.cell h1)
  unfold TkJ at hK
  clear hm hs h1
  conv => arg 2; whnf
  go_wp2_with fail
  go_loopw [10, 11, 12, 13, 14, 15] (fun v10 v11 v12 v13 v14 v15 wr => ∃ k : Nat, k ≤ nz ∧ v15 = .int .i64 k ∧ Hid (TkR W z ss k v10 v11 v12 v13 v14 wr)) (fun _ _ _ _ _ v15 _ => nz - (intOf v15).toNat)
  case atStart => exact ⟨0, Nat.zero_le _, rfl, hide ⟨Up.refl _, OwnR.nil _ _ _ _, OwnP.nil _ _ _ _, rfl, rfl, rfl⟩⟩
  case round =>
    obtain ⟨k, hk, rfl, hR⟩ := hrel
    have k0 : (0 : Int) ≤ (k : Int) := by omega
    by_cases hlt : k < nz
    · have k1 : (k : Int) < (nz : Int) := by omega
      have hkz : k < z.length := by rw [← HN.out]; exact hlt
      obtain ⟨p, hp⟩ : ∃ p, p = z[k] := ⟨_, rfl⟩
      obtain ⟨g, o, rfl, m0, m1⟩ := HM.out.pair hkz
      rw [← hp] at m0 m1
      have HTK : Hid (z.take (k + 1) = z.take k ++ [p]) := by unfold Hid; rw [take_snoc hkz, hp]
      have HKZ := hide hkz
      have HP : Hid (z[k]? = some p) := by unfold Hid; rw [List.getElem?_eq_getElem hkz, hp]
      obtain ⟨s, id⟩ := p
      have HC : Hid (∀ w', Up W w' → w'.cell? ⟨g, o + k * 2, none⟩ = some (.string s) ∧ w'.cell? ⟨g, o + k * 2 + 1, none⟩ = some (.int .i64 id)) := hide (fun w' hu => ⟨hu.cell m0, hu.cell m1⟩)
      clear hp m0 m1 hkz
      have ek : IntKind.i64.wrap (k : Int) = (k : Int) := by rw [IntKind.wrap_i64]; omega
      have ek1 : IntKind.i64.wrap ((k : Int) + 1) = (k : Int) + 1 := by rw [IntKind.wrap_i64]; omega
      obtain ⟨hu, ho10, ho11, rfl, rfl, rfl⟩ := hR.out
      obtain ⟨a10, n10, c10, rfl, -, -⟩ := ho10.sliceN
      obtain ⟨a11, n11, c11, rfl, -, -⟩ := ho11.sliceN
      have HT : Hid (Tk2 W (gE (z.take k) ss.data.toList) (preZ (z.take k) ss.data.toList) (.slice a10 n10 c10) (.slice a11 n11 c11) wr) := hide ⟨hu, ho10, ho11⟩
      clear hR hu ho10 ho11
      obtain ⟨lz, hlz⟩ : ∃ lz, lz = longZ ss (z.take k) := ⟨_, rfl⟩
      obtain ⟨ln, f⟩ := lz
      have HLZ := hide hlz
      rw [← hlz]
      obtain ⟨hn, hhn⟩ : ∃ hn, hn = (headsZ z k).length := ⟨_, rfl⟩
      have HHN := hide hhn
      rw [← hhn]
      clear hlz hhn
      --A
      go_upto_region 34 with fail
      obtain ⟨b1, hb1⟩ : ∃ b1, (s.toList == ss.toList) = b1 := ⟨_, rfl⟩
      have HB1 : Hid (b1 = decide (s = ss)) := by unfold Hid; rw [← hb1, str_eq]
      obtain ⟨m0, m1⟩ := HC.out _ HT.out.up
      have c1 := H1.out _ HT.out.up
      go_region
      clear hb1 m0 m1 c1
      obtain ⟨w1, hw1⟩ : ∃ w1, w1 = wr.drew := ⟨_, rfl⟩
      rw [← hw1]
      replace HT := hide (HT.out.upw (show Up wr w1 by rw [hw1]; exact (Up.refl _).drew))
      clear hw1
      go_upto_if 156 with fail
      go_cut [10] from 143 to 225 (fun v wx => ∃ a n c, v = .slice a n c ∧ Hid (Tk2 W (gE (z.take (k + 1)) ss.data.toList) (preZ (z.take k) ss.data.toList) v (.slice a11 n11 c11) wx))
      case first =>
        cases b1
        · have hne : ¬ s = ss := of_decide_eq_false HB1.out.symm
          have HE : Hid (gE (z.take (k + 1)) ss.data.toList = gE (z.take k) ss.data.toList) := hide (by rw [HTK.out, gE_snocZ, if_neg (fun e => hne (ByteArray.ext (Array.toList_inj.1 e)))])
          clear hne
          go_wp2
          go_meet
          exact ⟨_, _, _, rfl, hide (by rw [HE.out]; exact HT.out)⟩
        · have hee : s = ss := of_decide_eq_true HB1.out.symm
          have HE : Hid (gE (z.take (k + 1)) ss.data.toList = gE (z.take k) ss.data.toList ++ [id]) := hide (by rw [HTK.out, gE_snocZ, if_pos (by rw [hee])])
          clear hee
          obtain ⟨m0, m1⟩ := HC.out _ HT.out.up
          have HT2 := hide (HT.out.upw (show Up w1 (w1.alloc (.cells #[.int .i64 id] 2)) from (Up.refl _).alloc _))
          have HR2 : Hid (Rd (Value.int .i64) (fun _ => False) (w1.alloc (.cells #[.int .i64 id] 2)) (.slice (some ⟨w1.heap.size, 0, none⟩) 1 1) [id]) := rd_one (fun h => h) (by go_simp)
          have HLE : Hid ((gE (z.take k) ss.data.toList).length ≤ 81) := hide (by have := gE_len (z.take k) ss.data.toList; rw [List.length_take] at this; omega)
          go_wp2_with (at_builtin; refine append_rd elemL rfl _ _ rfl W.heap.size _ _ (gE (z.take k) ss.data.toList) [id] rfl rfl HT2.out.ids HR2.out (by have := HLE.out; simp; omega) HT2.out.up.size ?_)
          intro v' w' ho' hg' _
          obtain ⟨a', n', c', rfl, -, -⟩ := ho'.sliceN
          have HT3 : Hid (Tk2 W (gE (z.take (k + 1)) ss.data.toList) (preZ (z.take k) ss.data.toList) (.slice a' n' c') (.slice a11 n11 c11) w') := hide ⟨own_below HT2.out.up HT2.out.ids hg', by rw [HE.out]; exact ho', ownP_keep (by decide) HT2.out.pre HT2.out.ids hg'⟩
          clear ho' hg'
          go_wp2
          go_meet
          exact ⟨_, _, _, rfl, HT3⟩
      case rest =>
      obtain ⟨a10', n10', c10', rfl, HT1⟩ := hcut
      clear HT HB1
      go_upto_region 36 with fail
      obtain ⟨m0, m1⟩ := HC.out _ HT1.out.up
      have c1 := H1.out _ HT1.out.up
      obtain ⟨b2, hb2⟩ : ∃ b2, begB s ss = b2 := ⟨_, rfl⟩
      have HB2 := hide hb2
      have hbg2 := begins_calls s ss
      rw [hb2] at hbg2
      have HBG2 := hide hbg2
      clear hb2 hbg2
      go_quiet ((go_at_call 15; exact Calls.quiet_of_same (HBG2.out _)))
      clear m0 m1 c1 HBG2
      obtain ⟨w2, hw2⟩ : ∃ w2, w2 = wc.drewN nq := ⟨_, rfl⟩
      rw [← hw2]
      replace HT1 := hide (HT1.out.upw (show Up wc w2 by rw [hw2]; exact (Up.refl _).drewN _))
      clear hw2
      go_upto_if 172 with fail
      go_cut [11] from 143 to 225 (fun v wx => ∃ a n c, v = .slice a n c ∧ Hid (Tk2 W (gE (z.take (k + 1)) ss.data.toList) (preZ (z.take (k + 1)) ss.data.toList) (.slice a10' n10' c10') v wx))
      case first =>
        cases b2
        · have HE : Hid (preZ (z.take (k + 1)) ss.data.toList = preZ (z.take k) ss.data.toList) := hide (by
            have h := HB2.out
            unfold begB at h
            rw [HTK.out, preZ_snoc, if_neg (fun e => by rw [List.isPrefixOf_iff_prefix.2 e] at h; cases h)])
          go_wp2
          go_meet
          exact ⟨_, _, _, rfl, hide (by rw [HE.out]; exact HT1.out)⟩
        · have HE : Hid (preZ (z.take (k + 1)) ss.data.toList = preZ (z.take k) ss.data.toList ++ [(s, id)]) := hide (by
            have h := HB2.out
            unfold begB at h
            rw [HTK.out, preZ_snoc, if_pos (List.isPrefixOf_iff_prefix.1 h)])
          obtain ⟨m0, m1⟩ := HC.out _ HT1.out.up
          have HT2 := hide (HT1.out.upw (show Up w2 (w2.alloc (.cells #[.string s, .int .i64 id] 43)) from (Up.refl _).alloc _))
          have HR2 : Hid (RdP pC (fun _ => False) (w2.alloc (.cells #[.string s, .int .i64 id] 43)) (.slice (some ⟨w2.heap.size, 0, none⟩) 1 1) [(s, id)]) := rdP_one (fun h => h) rfl (by go_simp) (by go_simp)
          have HLE : Hid ((preZ (z.take k) ss.data.toList).length ≤ 81) := hide (by have := preZ_len (z.take k) ss.data.toList; rw [List.length_take] at this; omega)
          go_wp2_with (at_builtin; refine append_rdP elemQ rfl _ _ rfl W.heap.size _ _ (preZ (z.take k) ss.data.toList) [(s, id)] rfl rfl HT2.out.pre HR2.out (by have := HLE.out; simp; omega) HT2.out.up.size ?_)
          intro v' w' ho' hg' _
          obtain ⟨a', n', c', rfl, -, -⟩ := ho'.sliceN
          have HT3 : Hid (Tk2 W (gE (z.take (k + 1)) ss.data.toList) (preZ (z.take (k + 1)) ss.data.toList) (.slice a10' n10' c10') (.slice a' n' c') w') := hide ⟨ownP_below HT2.out.up HT2.out.pre hg', ownR_keep (by decide) HT2.out.ids HT2.out.pre hg', by rw [HE.out]; exact ho'⟩
          clear ho' hg'
          go_wp2
          go_meet
          exact ⟨_, _, _, rfl, HT3⟩
      case rest =>
      obtain ⟨a11', n11', c11', rfl, HT3⟩ := hcut
      clear HT1 HB2
      go_upto_region 38 with fail
      obtain ⟨m0, m1⟩ := HC.out _ HT3.out.up
      have c1 := H1.out _ HT3.out.up
      obtain ⟨b3, hb3⟩ : ∃ b3, begB ss s = b3 := ⟨_, rfl⟩
      obtain ⟨b4, hb4⟩ : ∃ b4, b4 = decide (ln.size < s.size) := ⟨_, rfl⟩
      have HB3 := hide hb3
      have HB4 := hide hb4
      go_cut [202] from 143 to 225 (fun v wx => v = .bool (b3 && (!f || b4)) ∧ Up wc wx)
      case first =>
        have hbg := begins_calls ss s
        rw [hb3] at hbg
        have HBG := hide hbg
        clear hb3 hbg HB3
        cases b3
        · go_quiet ((go_at_call 15; exact Calls.quiet_of_same (HBG.out _)))
          go_wp2
          go_meet
          exact ⟨rfl, by first | exact (Up.refl _).drewN _ | exact (Up.refl _).drew⟩
        · cases f
          · go_quiet ((go_at_call 15; exact Calls.quiet_of_same (HBG.out _)))
            go_wp2
            go_meet
            exact ⟨rfl, by first | exact (Up.refl _).drewN _ | exact (Up.refl _).drew⟩
          · by_cases hlt2 : ln.size < s.size
            · obtain rfl : b4 = true := by rw [hb4]; exact decide_eq_true hlt2
              have q1 : decide ((s.size : Int) > (ln.size : Int)) = true := decide_eq_true (by omega)
              have q2 : (ln.size : Int) < (s.size : Int) := by omega
              have q3 : decide ((ln.size : Int) < (s.size : Int)) = true := decide_eq_true (by omega)
              clear hb4 HB4 hlt2
              go_quiet ((go_at_call 15; exact Calls.quiet_of_same (HBG.out _)))
              go_wp2
              go_meet
              exact ⟨rfl, by first | exact (Up.refl _).drewN _ | exact (Up.refl _).drew⟩
            · obtain rfl : b4 = false := by rw [hb4]; exact decide_eq_false hlt2
              have q1 : decide ((s.size : Int) > (ln.size : Int)) = false := decide_eq_false (by omega)
              have q2 : ¬ (ln.size : Int) < (s.size : Int) := by omega
              have q3 : decide ((ln.size : Int) < (s.size : Int)) = false := decide_eq_false (by omega)
              clear hb4 HB4 hlt2
              go_quiet ((go_at_call 15; exact Calls.quiet_of_same (HBG.out _)))
              go_wp2
              go_meet
              exact ⟨rfl, by first | exact (Up.refl _).drewN _ | exact (Up.refl _).drew⟩
      case rest =>
      obtain ⟨rfl, hup4⟩ := hcut
      have HT4 := hide (HT3.out.upw hup4)
      clear hup4 HT3 m0 m1 c1
      obtain ⟨b5, hb5⟩ : ∃ b5, b5 = (b3 && (!f || b4)) := ⟨_, rfl⟩
      have HB5 := hide hb5
      rw [← hb5]
      clear hb3 hb4 hb5
      go_upto_if 202 with fail
      go_cut [12, 13] from 143 to 225 (fun v u wx => v = .string (longZ ss (z.take (k + 1))).1 ∧ u = .bool (longZ ss (z.take (k + 1))).2 ∧ Up wc wx)
      case first =>
        have HE : Hid (longZ ss (z.take (k + 1)) = if b5 = true then (s, true) else (ln, f)) := hide (by
          have h3 := HB3.out
          unfold begB at h3
          rw [HTK.out, longZ_snoc, ← HLZ.out, HB5.out, HB4.out, ← h3])
        cases b5
        · go_wp2
          go_meet
          exact ⟨by rw [HE.out]; rfl, by rw [HE.out]; rfl, Up.refl _⟩
        · obtain ⟨m0, m1⟩ := HC.out _ HT4.out.up
          go_wp2
          go_meet
          exact ⟨by rw [HE.out]; rfl, by rw [HE.out]; rfl, Up.refl _⟩
      case rest =>
      obtain ⟨rfl, rfl, hup5⟩ := hcut
      have HT5 := hide (HT4.out.upw hup5)
      clear hup5 HT4 HB3 HB4 HB5
      go_upto_region 40 with fail
      obtain ⟨b6, hb6⟩ : ∃ b6 : Bool, b6 = true ↔ (headsZ z (k + 1)).length = (headsZ z k).length + 1 := ⟨decide _, decide_eq_true_iff⟩
      have HB6 : Hid (b6 = false → (headsZ z (k + 1)).length = (headsZ z k).length ∧ k ≠ 0) := hide (fun hf => by
        have hn1 : ¬ (headsZ z (k + 1)).length = (headsZ z k).length + 1 := fun e => by rw [hb6.2 e] at hf; cases hf
        have hkz := HKZ.out
        by_cases h0 : k = 0
        · exact absurd (heads_new hkz (.inl h0)) hn1
        · by_cases h1 : z[k - 1].1 = z[k].1
          · exact ⟨by rw [heads_old hkz h0 (by omega) h1], h0⟩
          · exact absurd (heads_new hkz (.inr ⟨by omega, h1⟩)) hn1)
      have HB7 := hide hb6
      clear hb6
      go_cut [223] from 143 to 225 (fun v wx => v = .bool b6 ∧ Up wc wx)
      case first =>
        obtain ⟨m0, m1⟩ := HC.out _ HT5.out.up
        by_cases hk0 : k = 0
        · subst hk0
          obtain rfl : b6 = true := by
            cases b6
            · exact absurd rfl (HB6.out rfl).2
            · rfl
          go_quiet (fail)
          go_wp2
          go_meet
          exact ⟨rfl, by first | exact (Up.refl _).drewN _ | exact (Up.refl _).drew⟩
        · obtain ⟨j, hj⟩ : ∃ j, k = j + 1 := ⟨k - 1, by omega⟩
          have hjz : j < z.length := by have := HKZ.out; omega
          obtain ⟨g', o', q1, m2, m3⟩ := HM.out.pair hjz
          obtain ⟨rfl, rfl⟩ : g = g' ∧ o = o' := by injection q1 with q; injection q with q1 q2; exact ⟨q1, q2⟩
          have m2' := HT5.out.up.cell m2
          obtain ⟨s', hs'⟩ : ∃ s', s' = z[j].1 := ⟨_, rfl⟩
          rw [← hs'] at m2'
          have he : (s'.toList != s.toList) = b6 := heads_b HKZ.out hj HP.out hjz hs' HB7.out
          have j0 : (0 : Int) ≤ (j : Int) := by omega
          have j1 : (j : Int) < (nz : Int) := by omega
          have ekj : IntKind.i64.wrap ((k : Int) - 1) = (j : Int) := by rw [IntKind.wrap_i64]; omega
          have d0 : ((k : Int) == 0) = false := by simp; omega
          have HJ := hide hj
          clear m2 m3 q1 hs' hk0 hjz hj
          go_quiet (fail)
          go_wp2
          go_meet
          exact ⟨by first | rfl | (rw [← he]; rfl), by first | exact (Up.refl _).drewN _ | exact (Up.refl _).drew⟩
      case rest =>
      obtain ⟨rfl, hup6⟩ := hcut
      have HT6 := hide (HT5.out.upw hup6)
      clear hup6 HT5
      have hhl : hn ≤ k := by rw [HHN.out]; exact headsZ_len z k
      have eh : IntKind.i64.wrap ((hn : Int) + 1) = (hn : Int) + 1 := by rw [IntKind.wrap_i64]; omega
      have eh' : wrap64 ((hn : Int) + 1) = (hn : Int) + 1 := by rw [wrap64]; omega
      have ew : wrap64 ((k : Int) + 1) = (k : Int) + 1 := by rw [wrap64]; omega
      go_upto_if 223 with fail
      cases b6
      · have HE : Hid ((headsZ z (k + 1)).length = hn) := hide (by rw [(HB6.out rfl).1, HHN.out])
        have HRE : Hid (TkR W z ss (k + 1) (.slice a10' n10' c10') (.slice a11' n11' c11') (.string (longZ ss (z.take (k + 1))).1) (.bool (longZ ss (z.take (k + 1))).2) (.int .i64 hn) wc) := hide ⟨HT6.out.up, HT6.out.ids, HT6.out.pre, rfl, rfl, by rw [HE.out]⟩
        clear HB6 HB7 HE
        go_wp2
        go_roundw
        case rel => exact ⟨k + 1, by omega, by simp, HRE⟩
        case measure => simp [intOf]; omega
      · have HE : Hid ((headsZ z (k + 1)).length = hn + 1) := hide (by rw [HB7.out.1 rfl, HHN.out])
        have HRE : Hid (TkR W z ss (k + 1) (.slice a10' n10' c10') (.slice a11' n11' c11') (.string (longZ ss (z.take (k + 1))).1) (.bool (longZ ss (z.take (k + 1))).2) (.int .i64 ((hn : Int) + 1)) wc) := hide ⟨HT6.out.up, HT6.out.ids, HT6.out.pre, rfl, rfl, by rw [HE.out]; rfl⟩
        clear HB6 HB7 HE
        go_wp2
        go_roundw
        case rel => exact ⟨k + 1, by omega, by simp, by first | exact HRE | (rw [eh']; exact HRE)⟩
        case measure => simp [intOf]; omega
    · obtain rfl : nz = k := by omega
      have k1 : ¬ (nz : Int) < (nz : Int) := by omega
      obtain ⟨hu, ho10, ho11, rfl, rfl, rfl⟩ := hR.out
      have HR2 : Hid (TkR W z ss z.length u10 u11 (.string (longZ ss (z.take nz)).1) (.bool (longZ ss (z.take nz)).2) (.int .i64 (headsZ z nz).length) wr) := hide ⟨hu, by rw [← HN.out]; exact ho10, by rw [← HN.out]; exact ho11, by rw [← HN.out], by rw [← HN.out], by rw [← HN.out]⟩
      clear hR hu ho10 ho11
      go_wp2
      refine Met.intro ?_
      first
        | (refine ⟨HR2.out, ?_⟩; (repeat apply Exists.intro); rfl)
        | ((repeat apply Exists.intro); exact ⟨HR2.out, rfl⟩)
        | ((repeat apply Exists.intro); refine ⟨HR2.out, ?_⟩; (repeat apply Exists.intro); rfl)
end Go.Proofs.Ytmbniakobhaomaa
