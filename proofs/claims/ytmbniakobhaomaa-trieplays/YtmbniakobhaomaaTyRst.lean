/-
  TriePlays of rialtolaw15: what is looked at behind the loop, as its text runs.
-/
import Derived.Test.YtmbniakobhaomaaTyArm
import Derived.Deep.Cut
namespace Go.Proofs.Ytmbniakobhaomaa
open Go.ChangeShapes Go.WideShapes Go.ChangeAt Go.RowKit
set_option linter.unusedVariables false
set_option maxRecDepth 100000
attribute [local go_sem ↓] Go.wp_at_zero Go.wp_at_succ

def endsN (n : Nat) : Code → Bool
  | .block k _ => k == n
  | .seq _ b => endsN n b
  | _ => false
/-- What stands behind the block with this number. -/
def aftN (n : Nat) : Code → Option Code
  | .seq a b => if endsN n a then some b else match aftN n a with
    | some c => some c
    | none => aftN n b
  | .block _ c => aftN n c
  | .loop c => aftN n c
  | .scope c => aftN n c
  | .cond _ a b => match aftN n a with
    | some c => some c
    | none => aftN n b
  | _ => none
set_option maxRecDepth 1000000 in
def TyE (w : World) (T kk nz cm sb n10 c10 n11 c11 hn : Nat) (am a10 a11 : Option Addr) (ln : ByteArray) (f : Bool) (z : SZ) (u0 u1 u2 u5 u7 u8 u9 u15 u21 u22 u23 u24 u25 u26 u27 u28 u29 u30 u31 u32 u33 u34 u35 u36 u37 u38 u39 u40 u41 u42 u43 u44 u45 u46 u47 u48 u49 u50 u51 u52 u53 u54 u55 u56 u57 u58 u59 u60 u61 u62 u63 u64 u65 u66 u67 u68 u69 u70 u71 u72 u73 u74 u75 u76 u77 u78 u79 u80 u81 u82 u83 u84 u85 u86 u87 u88 u89 u90 u91 u92 u93 u94 u95 u96 u97 u98 u99 u100 u101 u102 u103 u104 u105 u106 u107 u108 u109 u110 u111 u112 u113 u114 u115 u116 u117 u118 u119 u120 u121 u122 u123 u124 u125 u126 u127 u128 u129 u130 u131 u132 u133 u134 u135 u136 u137 u138 u139 u140 u141 u142 u143 u144 u145 u146 u147 u148 u149 u150 u151 u152 u153 u154 u155 u156 u157 u158 u159 u160 u161 u162 u163 u164 u165 u166 u167 u168 u169 u170 u171 u172 u173 u174 u175 u176 u177 u178 u179 u180 u181 u182 u183 u184 u185 u186 u187 u188 u189 u190 u191 u192 u193 u194 u195 u196 u197 u198 u199 u200 u201 u202 u203 u204 u205 u206 u207 u208 u209 u210 u211 u212 u213 u214 u215 u216 u217 u218 u219 u220 u221 u222 u223 u224 u225 : Value) (a : Act) (wx : World) : Prop :=
  ∃ v16 v17 v18 v19 v20 v226 v227 v228 v229 v230 v231 v232 v233 v234 v235 v236 v237 v238 v239 v240 v241 v242 v243 v244 v245 v246 v247 v248 v249 v250 v251 v252 v253 v254 v255 v256 v257 v258 v259 v260 v261 v262 v263 v264 v265 v266 v267 v268 v269 v270 v271 v272 v273 v274 v275 v276 v277 v278 v279 v280 v281 v282 v283 v284 v285 v286 v287 v288 v289 v290 v291 v292 v293 v294 v295 v296 v297 v298 v299 v300 v301 v302 v303 v304 v305 v306 v307 v308 v309 v310 v311 v312 v313 : Value, TyIn w T z kk (.slice am nz cm) wx ∧ a = ⟨#[u0, u1, u2, .pointer (some ⟨T, 0, none⟩), .slice am nz cm, u5, .pointer (some ⟨sb, 0, none⟩), u7, u8, u9, .slice a10 n10 c10, .slice a11 n11 c11, .string ln, .bool f, .int .i64 hn, u15, v16, v17, v18, v19, v20, u21, u22, u23, u24, u25, u26, u27, u28, u29, u30, u31, u32, u33, u34, u35, u36, u37, u38, u39, u40, u41, u42, u43, u44, u45, u46, u47, u48, u49, u50, u51, u52, u53, u54, u55, u56, u57, u58, u59, u60, u61, u62, u63, u64, u65, u66, u67, u68, u69, u70, u71, u72, u73, u74, u75, u76, u77, u78, u79, u80, u81, u82, u83, u84, u85, u86, u87, u88, u89, u90, u91, u92, u93, u94, u95, u96, u97, u98, u99, u100, u101, u102, u103, u104, u105, u106, u107, u108, u109, u110, u111, u112, u113, u114, u115, u116, u117, u118, u119, u120, u121, u122, u123, u124, u125, u126, u127, u128, u129, u130, u131, u132, u133, u134, u135, u136, u137, u138, u139, u140, u141, u142, u143, u144, u145, u146, u147, u148, u149, u150, u151, u152, u153, u154, u155, u156, u157, u158, u159, u160, u161, u162, u163, u164, u165, u166, u167, u168, u169, u170, u171, u172, u173, u174, u175, u176, u177, u178, u179, u180, u181, u182, u183, u184, u185, u186, u187, u188, u189, u190, u191, u192, u193, u194, u195, u196, u197, u198, u199, u200, u201, u202, u203, u204, u205, u206, u207, u208, u209, u210, u211, u212, u213, u214, u215, u216, u217, u218, u219, u220, u221, u222, u223, u224, u225, v226, v227, v228, v229, v230, v231, v232, v233, v234, v235, v236, v237, v238, v239, v240, v241, v242, v243, v244, v245, v246, v247, v248, v249, v250, v251, v252, v253, v254, v255, v256, v257, v258, v259, v260, v261, v262, v263, v264, v265, v266, v267, v268, v269, v270, v271, v272, v273, v274, v275, v276, v277, v278, v279, v280, v281, v282, v283, v284, v285, v286, v287, v288, v289, v290, v291, v292, v293, v294, v295, v296, v297, v298, v299, v300, v301, v302, v303, v304, v305, v306, v307, v308, v309, v310, v311, v312, v313], []⟩
variable {w W : World} {T : Nat} {z : SZ} {kk : Nat} {am a10 a11 : Option Addr} {nz cm sb n10 c10 n11 c11 hn : Nat} {ss ln : ByteArray} {f : Bool}
theorem lenX {w : World} {v : Value} {lx : List EX} (h : OwnX w 0 v lx) : ∃ a c, v = .slice a lx.length c := by
  obtain ⟨a, c, h, _⟩ := h.ents.get
  exact ⟨a, c, h⟩
/-- What a trie answers: its parts. -/
structure TyAns (w : World) (T : Nat) (z : SZ) (ss : ByteArray) : Prop where
  long : ∀ w', Up w w' → Calls Try.prog 16 #[.pointer (some ⟨T, 0, none⟩), .string ss] w' fun e w2 => e = .returned (.tuple #[.string (longZ ss z).1, .bool (longZ ss z).2]) ∧ Up w' w2
  find : ∀ w', Up w w' → Calls Try.prog 13 #[.pointer (some ⟨T, 0, none⟩), .string ss] w' fun e w2 => ∃ v, e = .returned v ∧ RdJ w2 v (gE z ss.data.toList) ∧ Up w' w2
  pre : ∀ s, s.size ≤ 1000 → ∀ w', Up w w' → Calls Try.prog 11 #[.pointer (some ⟨T, 0, none⟩), .string s] w' fun e w2 => ∃ v lx, e = .returned v ∧ OwnX w2 0 v lx ∧ (∀ x ∈ lx, KeyX w2 x) ∧ lx.map prX = (preZ z s.data.toList).map pS ∧ Up w' w2
  all : ∀ w', Up w w' → Calls Try.prog 10 #[.pointer (some ⟨T, 0, none⟩)] w' fun e w2 => ∃ v lx, e = .returned v ∧ OwnX w2 0 v lx ∧ (∀ x ∈ lx, KeyX w2 x) ∧ lx.map prX = z.map pS ∧ Up w' w2
  len : ∀ w', Up w w' → Calls Try.prog 18 #[.pointer (some ⟨T, 0, none⟩)] w' fun e w2 => e = .returned (.int .i64 z.length) ∧ w2 = w'
  nodes : ∀ w', Up w w' → Calls Try.prog 19 #[.pointer (some ⟨T, 0, none⟩)] w' fun e w2 => ∃ nd : Nat, nd ≤ 2 * (headsZ z z.length).length + 1 ∧ e = .returned (.int .i64 nd) ∧ w2 = w'
theorem TyIn.ans {w wx : World} {T : Nat} {z : SZ} {kk : Nat} {mv : Value} (h : TyIn w T z kk mv wx) (hkk : kk ≤ 300) (hs : ss.size ≤ 60) : TyAns wx T z ss := by
  obtain ⟨O, h1, h2, h3⟩ := h.tr
  refine ⟨fun w' hu => ?_, fun w' hu => ?_, fun s hs' w' hu => ?_, fun w' hu => ?_, fun w' hu => trlen_calls T O _ _ kk w' (h1.up hu), fun w' hu => ?_⟩
  · refine (longest_calls T O _ _ kk ss w' (h1.up hu) (by omega)).mono ?_
    rintro e w2 ⟨t, f, rfl, hl, hu2⟩
    have := long_same hl
    rw [← this]
    exact ⟨rfl, hu2⟩
  · refine (find_calls T O _ _ kk ss w' (h1.up hu) (by omega)).mono ?_
    rintro e w' ⟨v, he, hv, hu⟩
    exact ⟨v, he, hv.rd, hu⟩
  · refine (prefix_calls 256 T O _ _ kk s w' sort_many (h1.up hu) (by omega) hs' kids_all).mono ?_
    rintro e w2 ⟨v, lx, he, hv, hk, hE, _, _, hu2⟩
    exact ⟨v, lx, he, hv, hk, h.srt.ents hE, hu2⟩
  · refine (all_calls 256 T O _ _ kk w' sort_many (h1.up hu) (by omega) kids_all).mono ?_
    rintro e w2 ⟨v, lx, he, hv, hk, hE, _, _, hu2⟩
    exact ⟨v, lx, he, hv, hk, by rw [h.srt.ents hE, preZ_nil], hu2⟩
  · refine (trnodes_calls T O _ _ kk w' (h1.up hu)).mono ?_
    rintro e w2 ⟨nd, q1, q2, he, hw⟩
    exact ⟨nd, few_heads q1, he, hw⟩
theorem ownR_J {w : World} {base : Nat} {v : Value} {l : List Int} (h : OwnR 2 (Value.int .i64) w base v l) : OwnJ w base v l := by
  have e : ∀ l : List Int, l.flatMap jC = l.map (Value.int .i64) := fun l => by
    induction l with
    | nil => rfl
    | cons x l ih => simp only [List.flatMap_cons, List.map_cons, ih]; rfl
  unfold OwnJ OwnG
  rw [e l]
  exact h
theorem preZ_len2 (z : SZ) (s : List UInt8) : (preZ z s).length ≤ z.length := List.length_filter_le _ _
theorem gE_short2 (z : SZ) (s : List UInt8) : (gE z s).length ≤ z.length := by unfold gE; rw [List.length_map]; exact List.length_filter_le _ _
set_option maxHeartbeats 16000000 in
theorem ty_rest (hi : TyIn w T z kk (.slice am nz cm) W) (hkk : kk ≤ 300) (hs60 : ss.size ≤ 60) (hnz : nz ≤ 81) (c1 : W.cell? ⟨sb, 1, none⟩ = some (.string ss))
    (hids : RdJ W (.slice a10 n10 c10) (gE z ss.data.toList)) (hpre : RdP pC (fun _ => False) W (.slice a11 n11 c11) (preZ z ss.data.toList)) (hl : (ln, f) = longZ ss z) (hhn : hn = (headsZ z z.length).length)
    (u0 u1 u2 u5 u7 u8 u9 u15 u16 u17 u18 u19 u20 u21 u22 u23 u24 u25 u26 u27 u28 u29 u30 u31 u32 u33 u34 u35 u36 u37 u38 u39 u40 u41 u42 u43 u44 u45 u46 u47 u48 u49 u50 u51 u52 u53 u54 u55 u56 u57 u58 u59 u60 u61 u62 u63 u64 u65 u66 u67 u68 u69 u70 u71 u72 u73 u74 u75 u76 u77 u78 u79 u80 u81 u82 u83 u84 u85 u86 u87 u88 u89 u90 u91 u92 u93 u94 u95 u96 u97 u98 u99 u100 u101 u102 u103 u104 u105 u106 u107 u108 u109 u110 u111 u112 u113 u114 u115 u116 u117 u118 u119 u120 u121 u122 u123 u124 u125 u126 u127 u128 u129 u130 u131 u132 u133 u134 u135 u136 u137 u138 u139 u140 u141 u142 u143 u144 u145 u146 u147 u148 u149 u150 u151 u152 u153 u154 u155 u156 u157 u158 u159 u160 u161 u162 u163 u164 u165 u166 u167 u168 u169 u170 u171 u172 u173 u174 u175 u176 u177 u178 u179 u180 u181 u182 u183 u184 u185 u186 u187 u188 u189 u190 u191 u192 u193 u194 u195 u196 u197 u198 u199 u200 u201 u202 u203 u204 u205 u206 u207 u208 u209 u210 u211 u212 u213 u214 u215 u216 u217 u218 u219 u220 u221 u222 u223 u224 u225 u226 u227 u228 u229 u230 u231 u232 u233 u234 u235 u236 u237 u238 u239 u240 u241 u242 u243 u244 u245 u246 u247 u248 u249 u250 u251 u252 u253 u254 u255 u256 u257 u258 u259 u260 u261 u262 u263 u264 u265 u266 u267 u268 u269 u270 u271 u272 u273 u274 u275 u276 u277 u278 u279 u280 u281 u282 u283 u284 u285 u286 u287 u288 u289 u290 u291 u292 u293 u294 u295 u296 u297 u298 u299 u300 u301 u302 u303 u304 u305 u306 u307 u308 u309 u310 u311 u312 u313 : Value) (Q : Exit → Act → World → Prop)
    (hQ : ∀ a' w', Met (TyE w T kk nz cm sb n10 c10 n11 c11 hn am a10 a11 ln f z u0 u1 u2 u5 u7 u8 u9 u15 u21 u22 u23 u24 u25 u26 u27 u28 u29 u30 u31 u32 u33 u34 u35 u36 u37 u38 u39 u40 u41 u42 u43 u44 u45 u46 u47 u48 u49 u50 u51 u52 u53 u54 u55 u56 u57 u58 u59 u60 u61 u62 u63 u64 u65 u66 u67 u68 u69 u70 u71 u72 u73 u74 u75 u76 u77 u78 u79 u80 u81 u82 u83 u84 u85 u86 u87 u88 u89 u90 u91 u92 u93 u94 u95 u96 u97 u98 u99 u100 u101 u102 u103 u104 u105 u106 u107 u108 u109 u110 u111 u112 u113 u114 u115 u116 u117 u118 u119 u120 u121 u122 u123 u124 u125 u126 u127 u128 u129 u130 u131 u132 u133 u134 u135 u136 u137 u138 u139 u140 u141 u142 u143 u144 u145 u146 u147 u148 u149 u150 u151 u152 u153 u154 u155 u156 u157 u158 u159 u160 u161 u162 u163 u164 u165 u166 u167 u168 u169 u170 u171 u172 u173 u174 u175 u176 u177 u178 u179 u180 u181 u182 u183 u184 u185 u186 u187 u188 u189 u190 u191 u192 u193 u194 u195 u196 u197 u198 u199 u200 u201 u202 u203 u204 u205 u206 u207 u208 u209 u210 u211 u212 u213 u214 u215 u216 u217 u218 u219 u220 u221 u222 u223 u224 u225) a' w' → Q .normal a' w') :
    Code.wp Try.prog ((Try.f4.body.bind (aftN 5)).getD .skip) Q ⟨#[u0, u1, u2, .pointer (some ⟨T, 0, none⟩), .slice am nz cm, u5, .pointer (some ⟨sb, 0, none⟩), u7, u8, u9, .slice a10 n10 c10, .slice a11 n11 c11, .string ln, .bool f, .int .i64 hn, u15, u16, u17, u18, u19, u20, u21, u22, u23, u24, u25, u26, u27, u28, u29, u30, u31, u32, u33, u34, u35, u36, u37, u38, u39, u40, u41, u42, u43, u44, u45, u46, u47, u48, u49, u50, u51, u52, u53, u54, u55, u56, u57, u58, u59, u60, u61, u62, u63, u64, u65, u66, u67, u68, u69, u70, u71, u72, u73, u74, u75, u76, u77, u78, u79, u80, u81, u82, u83, u84, u85, u86, u87, u88, u89, u90, u91, u92, u93, u94, u95, u96, u97, u98, u99, u100, u101, u102, u103, u104, u105, u106, u107, u108, u109, u110, u111, u112, u113, u114, u115, u116, u117, u118, u119, u120, u121, u122, u123, u124, u125, u126, u127, u128, u129, u130, u131, u132, u133, u134, u135, u136, u137, u138, u139, u140, u141, u142, u143, u144, u145, u146, u147, u148, u149, u150, u151, u152, u153, u154, u155, u156, u157, u158, u159, u160, u161, u162, u163, u164, u165, u166, u167, u168, u169, u170, u171, u172, u173, u174, u175, u176, u177, u178, u179, u180, u181, u182, u183, u184, u185, u186, u187, u188, u189, u190, u191, u192, u193, u194, u195, u196, u197, u198, u199, u200, u201, u202, u203, u204, u205, u206, u207, u208, u209, u210, u211, u212, u213, u214, u215, u216, u217, u218, u219, u220, u221, u222, u223, u224, u225, u226, u227, u228, u229, u230, u231, u232, u233, u234, u235, u236, u237, u238, u239, u240, u241, u242, u243, u244, u245, u246, u247, u248, u249, u250, u251, u252, u253, u254, u255, u256, u257, u258, u259, u260, u261, u262, u263, u264, u265, u266, u267, u268, u269, u270, u271, u272, u273, u274, u275, u276, u277, u278, u279, u280, u281, u282, u283, u284, u285, u286, u287, u288, u289, u290, u291, u292, u293, u294, u295, u296, u297, u298, u299, u300, u301, u302, u303, u304, u305, u306, u307, u308, u309, u310, u311, u312, u313], []⟩ W := by
  have HI := hide hi
  obtain ⟨O, t1, t2, rdm⟩ := hi.tr
  have HRD : Hid (RdP pC O W (.slice am nz cm) z) := rdm
  have HN : Hid (nz = z.length) := by
    obtain ⟨_, _, h, _⟩ := rdm
    injection h
  have HA : Hid (TyAns W T z ss) := hide (hi.ans hkk hs60)
  have HL := hide hl
  have HH := hide hhn
  have HIDS := hide hids
  have HPRE := hide hpre
  have HSTR := hide hi.str
  have HS6 := hide hs60
  have hh81 : hn ≤ 81 := by
    have h1 : ∀ k, (headsZ z k).length ≤ k := fun k => by
      induction k with
      | zero => exact Nat.le_refl _
      | succ k ih =>
        unfold headsZ
        split
        · omega
        · split
          · simp
          · split
            · omega
            · simp; omega
    rw [hhn]
    have := h1 z.length
    have := HN.out
    omega
  obtain ⟨hs, hhs⟩ : ∃ hs : Nat, hs = ss.size / 2 := ⟨_, rfl⟩
  have ews : wrap64 ((ss.size : Int) / 2) = (hs : Int) := by rw [wrap64]; omega
  have ews' : IntKind.i64.wrap ((ss.size : Int) / 2) = (hs : Int) := by rw [IntKind.wrap_i64]; omega
  have hs0 : (0 : Int) ≤ (hs : Int) := by omega
  have hs1 : (hs : Int) ≤ (ss.size : Int) := by omega
  clear hhs
  unfold TyE at hQ
  clear hi t1 t2 rdm hids hpre hl hhn hs60 hkk
  conv => arg 2; whnf
  go_wp2_with fail
  refine (HA.out.long W (Up.refl _)).mono ?_
  rintro _ w1 ⟨rfl, hu1⟩
  rw [← HL.out]
  have HU1 := hide hu1
  replace c1 := hu1.cell c1
  clear hu1
  dsimp only
  go_wp2_with fail
  refine (HA.out.find w1 HU1.out).mono ?_
  rintro _ w2 ⟨v2, rfl, hv2, hu2⟩
  have HU2 := hide (HU1.out.trans hu2)
  have HV2 := hide hv2
  replace c1 := hu2.cell c1
  clear hu2 hv2 HU1
  dsimp only
  go_wp2_with fail
  refine (ids_calls v2 _ _ _ w2 HV2.out (HIDS.out.up HU2.out) (by have := gE_short2 z ss.data.toList; have := HN.out; omega)).mono ?_
  rintro e3 w3 ⟨he3, hu3⟩
  rw [decide_eq_true rfl] at he3
  subst he3
  have HU3 := hide (HU2.out.trans hu3)
  replace c1 := hu3.cell c1
  clear hu3 HU2 HV2
  dsimp only
  go_wp2_with fail
  refine (HA.out.pre ss (by have := HS6.out; omega) w3 HU3.out).mono ?_
  rintro _ w4 ⟨v4, lx4, rfl, hv4, hk4, he4, hu4⟩
  obtain ⟨a4, cc4, rfl⟩ := lenX hv4
  have HU4 := hide (HU3.out.trans hu4)
  have HV4 := hide hv4
  have HK4 := hide hk4
  have HE4 := hide he4
  replace c1 := hu4.cell c1
  clear hu4 hv4 hk4 he4 HU3
  dsimp only
  go_wp2_with fail
  refine (told_calls _ _ lx4 (preZ z ss.data.toList) (fun _ => False) w4 HV4.out HK4.out (HPRE.out.up HU4.out) HE4.out (by have := preZ_len2 z ss.data.toList; have := HN.out; omega) (fun p hp => by have := HSTR.out p (List.mem_filter.1 hp).1; omega)).mono ?_
  rintro _ w5 ⟨rfl, hu5⟩
  have HU5 := hide (HU4.out.trans hu5)
  replace c1 := hu5.cell c1
  clear hu5 HU4 HV4 HK4 HE4
  have gf : (f != f) = false := by cases f <;> rfl
  have gn : ((nz : Int) != (nz : Int)) = false := by simp
  dsimp only
  go_wp2_with fail
  refine (HA.out.len w5 HU5.out).mono ?_
  rintro _ w6 ⟨rfl, hw6⟩
  obtain rfl : w5 = w6 := hw6.symm
  rw [← HN.out]
  dsimp only
  go_wp2_with fail
  refine (HA.out.all w5 HU5.out).mono ?_
  rintro _ w6 ⟨v6, lx6, rfl, hv6, hk6, he6, hu6⟩
  obtain ⟨a6, cc6, rfl⟩ := lenX hv6
  have HU6 := hide (HU5.out.trans hu6)
  have HV6 := hide hv6
  have HK6 := hide hk6
  have HE6 := hide he6
  replace c1 := hu6.cell c1
  clear hu6 hv6 hk6 he6 HU5
  dsimp only
  go_wp2_with fail
  refine (told_calls _ _ lx6 z O w6 HV6.out HK6.out (HRD.out.up HU6.out) HE6.out (by have := HN.out; omega) (fun p hp => by have := HSTR.out p hp; omega)).mono ?_
  rintro _ w7 ⟨rfl, hu7⟩
  have HU7 := hide (HU6.out.trans hu7)
  replace c1 := hu7.cell c1
  clear hu7 HU6 HV6 HK6 HE6
  dsimp only
  go_wp2_with fail
  refine (HA.out.nodes w7 HU7.out).mono ?_
  rintro _ w8 ⟨nd, hnd, rfl, hw8⟩
  obtain rfl : w7 = w8 := hw8.symm
  rw [← HH.out] at hnd
  have em : IntKind.i64.wrap (2 * (hn : Int)) = 2 * (hn : Int) := by rw [IntKind.wrap_i64]; omega
  have em1 : IntKind.i64.wrap (2 * (hn : Int) + 1) = 2 * (hn : Int) + 1 := by rw [IntKind.wrap_i64]; omega
  have em' : wrap64 (2 * (hn : Int)) = 2 * (hn : Int) := by rw [wrap64]; omega
  have em1' : wrap64 (2 * (hn : Int) + 1) = 2 * (hn : Int) + 1 := by rw [wrap64]; omega
  have d1 : ¬ (2 * (hn : Int) + 1) < (nd : Int) := by omega
  have HND := hide hnd
  clear hnd
  dsimp only
  go_wp2_with fail
  refine (HA.out.nodes w7 HU7.out).mono ?_
  rintro _ w8 ⟨nd2, hnd2, rfl, hw8⟩
  obtain rfl : w7 = w8 := hw8.symm
  have d2 : ¬ (nd2 : Int) < 0 := by omega
  clear hnd2 em em1 em' em1' d1
  dsimp only
  go_wp2_with fail
  obtain ⟨half, hhalf⟩ : ∃ half, half = ss.extract 0 hs := ⟨_, rfl⟩
  have HHF : Hid (half.size ≤ 1000) := hide (by rw [hhalf]; simp; have := HS6.out; omega)
  try simp only [Int.toNat_natCast]
  rw [← hhalf]
  clear hhalf
  have HTI := hide (HI.out.upw HU7.out)
  go_loopw [19, 20] (fun v19 v20 wr => ∃ k : Nat, k ≤ nz ∧ v20 = .int .i64 k ∧ v19 = .int .i64 ((preZ (z.take k) half.data.toList).length : Nat) ∧ wr = w7) (fun _ v20 _ => nz - (intOf v20).toNat)
  case atStart => exact ⟨0, Nat.zero_le _, rfl, rfl, rfl⟩
  case round =>
    obtain ⟨k, hk, rfl, rfl, rfl⟩ := hrel
    have k0 : (0 : Int) ≤ (k : Int) := by omega
    by_cases hlt : k < nz
    · have k1 : (k : Int) < (nz : Int) := by omega
      have hkz : k < z.length := by rw [← HN.out]; exact hlt
      obtain ⟨p, hp⟩ : ∃ p, p = z[k] := ⟨_, rfl⟩
      obtain ⟨g, o, rfl, m0, m1⟩ := (HRD.out.up HU7.out).pair hkz
      rw [← hp] at m0
      have HTK : Hid (z.take (k + 1) = z.take k ++ [p]) := by unfold Hid; rw [take_snoc hkz, hp]
      obtain ⟨s, id⟩ := p
      clear hp m1 hkz
      obtain ⟨pn, hpn⟩ : ∃ pn, pn = (preZ (z.take k) half.data.toList).length := ⟨_, rfl⟩
      have hpk : pn ≤ 81 := by rw [hpn]; have := preZ_len2 (z.take k) half.data.toList; rw [List.length_take] at this; omega
      rw [← hpn]
      have HPN := hide hpn
      clear hpn
      have ek1 : wrap64 ((k : Int) + 1) = (k : Int) + 1 := by rw [wrap64]; omega
      have ep1 : wrap64 ((pn : Int) + 1) = (pn : Int) + 1 := by rw [wrap64]; omega
      obtain ⟨b, hb⟩ : ∃ b, begB s half = b := ⟨_, rfl⟩
      have hbg := begins_calls s half
      rw [hb] at hbg
      have HBG := hide hbg
      have HB := hide hb
      clear hbg hb
      go_wp2_with fail
      refine (HBG.out _).mono ?_
      rintro _ wx ⟨rfl, hwx⟩
      obtain rfl : wr = wx := hwx.symm
      dsimp only
      --R1
      cases b
      · have HE : Hid ((preZ (z.take (k + 1)) half.data.toList).length = pn) := hide (by
          have h := HB.out
          unfold begB at h
          rw [HTK.out, preZ_snoc, if_neg (fun e => by rw [List.isPrefixOf_iff_prefix.2 e] at h; cases h), HPN.out])
        go_wp2
        go_roundw
        case rel => exact ⟨k + 1, by omega, by simp, by rw [HE.out], trivial⟩
        case measure => simp [intOf]; omega
      · have HE : Hid ((preZ (z.take (k + 1)) half.data.toList).length = pn + 1) := hide (by
          have h := HB.out
          unfold begB at h
          rw [HTK.out, preZ_snoc, if_pos (List.isPrefixOf_iff_prefix.1 h), List.length_append, ← HPN.out]; rfl)
        go_wp2
        go_roundw
        case rel => exact ⟨k + 1, by omega, by simp, by rw [HE.out]; exact congrArg (Value.int .i64) ep1, trivial⟩
        case measure => simp [intOf]; omega
    · obtain rfl : nz = k := by omega
      have k1 : ¬ (nz : Int) < (nz : Int) := by omega
      have hfull : z.take nz = z := by rw [HN.out, List.take_length]
      rw [hfull]
      obtain ⟨pn, hpn⟩ : ∃ pn, pn = (preZ z half.data.toList).length := ⟨_, rfl⟩
      have HPR := hide (HA.out.pre half HHF.out wr HU7.out)
      rw [← hpn]
      have HPN := hide hpn
      have gp : ((pn : Int) != (pn : Int)) = false := by simp
      clear hpn hfull
      --R2
      go_wp2_with fail
      --R3
      refine HPR.out.mono ?_
      rintro _ w9 ⟨v9, lx9, rfl, hv9, hk9, he9, hu9⟩
      obtain ⟨a9, cc9, rfl⟩ := lenX hv9
      have hl9 : lx9.length = pn := by have := congrArg List.length he9; rw [HPN.out]; simpa using this
      rw [hl9]
      have HTE := hide (HTI.out.upw hu9)
      clear hv9 hk9 he9 hu9 hl9
      dsimp only
      --R4
      go_wp2
      refine Met.intro ?_
      first
        | (refine ⟨HTE.out, ?_⟩; (repeat apply Exists.intro); rfl)
        | ((repeat apply Exists.intro); exact ⟨HTE.out, rfl⟩)
        | ((repeat apply Exists.intro); refine ⟨HTE.out, ?_⟩; (repeat apply Exists.intro); rfl)
end Go.Proofs.Ytmbniakobhaomaa
