/-
  TriePlays of rialtolaw15: one act, as its text runs.
-/
import Derived.Test.YtmbniakobhaomaaTyRow
import Derived.Test.YtmbniakobhaomaaTyStp
import Derived.Deep.Cut
import Derived.BigRegion
import Derived.Deep.RegionLaw
import Derived.Deep.RegionHeld3
namespace Go.Proofs.Ytmbniakobhaomaa
open Go.ChangeShapes Go.WideShapes Go.ChangeAt Go.RowKit
set_option linter.unusedVariables false
set_option maxRecDepth 100000
attribute [local go_sem ↓] Go.wp_at_zero Go.wp_at_succ

/-- The block with this number. -/
def blkN (n : Nat) : Code → Option Code
  | .block k c => if k == n then some (.block k c) else blkN n c
  | .seq a b => match blkN n a with
    | some c => some c
    | none => blkN n b
  | .loop c => blkN n c
  | .scope c => blkN n c
  | .cond _ a b => match blkN n a with
    | some c => some c
    | none => blkN n b
  | _ => none
/-- The trie and the plain row hold the same. -/
structure TyIn (w : World) (T : Nat) (z : SZ) (kk : Nat) (mv : Value) (wx : World) : Prop where
  tr : ∃ O, TrI wx T O (gE z) z.length kk ∧ (∀ y, O y → w.heap.size ≤ y) ∧ RdP pC O wx mv z
  srt : SrtP z
  str : ∀ p ∈ z, p.1.size ≤ 60
  up : Up w wx
theorem TyIn.upw {w wx wy : World} {T : Nat} {z : SZ} {kk : Nat} {mv : Value} (h : TyIn w T z kk mv wx) (hu : Up wx wy) : TyIn w T z kk mv wy := by
  obtain ⟨O, h1, h2, h3⟩ := h.tr
  exact ⟨⟨O, h1.up hu, h2, h3.up hu⟩, h.srt, h.str, h.up.trans hu⟩
/-- What an act leaves. -/
def TyMid (w : World) (T : Nat) (n kk : Nat) (sb : Nat) (ss : ByteArray) (mv : Value) (wx : World) : Prop :=
  ∃ (z : SZ) (k' : Nat), TyIn w T z k' mv wx ∧ z.length ≤ n + 1 ∧ k' ≤ kk + 2 ∧ wx.cell? ⟨sb, 1, none⟩ = some (.string ss)
set_option maxRecDepth 1000000 in
def TyJ (w : World) (T n kk sb at_ : Nat) (ss : ByteArray) (ib : Bool) (u0 u1 u2 u5 u10 u11 u12 u13 u14 u15 u16 u17 u18 u19 u20 u21 u22 u23 u24 u25 u26 u27 u28 u29 u30 u31 u32 u33 u34 u35 u36 u37 u38 u39 u40 u41 u42 u43 u44 u45 u46 u47 u48 u49 u50 u51 u52 u53 u54 u55 u56 u57 u58 u59 u60 u61 u62 u63 u64 u65 u66 u67 u68 u69 u70 u71 u72 u73 u74 u75 u76 u77 u78 u79 u80 u81 u82 u83 u84 u85 u86 u87 u88 u89 u90 u91 u92 u143 u144 u145 u146 u147 u148 u149 u150 u151 u152 u153 u154 u155 u156 u157 u158 u159 u160 u161 u162 u163 u164 u165 u166 u167 u168 u169 u170 u171 u172 u173 u174 u175 u176 u177 u178 u179 u180 u181 u182 u183 u184 u185 u186 u187 u188 u189 u190 u191 u192 u193 u194 u195 u196 u197 u198 u199 u200 u201 u202 u203 u204 u205 u206 u207 u208 u209 u210 u211 u212 u213 u214 u215 u216 u217 u218 u219 u220 u221 u222 u223 u224 u225 u226 u227 u228 u229 u230 u231 u232 u233 u234 u235 u236 u237 u238 u239 u240 u241 u242 u243 u244 u245 u246 u247 u248 u249 u250 u251 u252 u253 u254 u255 u256 u257 u258 u259 u260 u261 u262 u263 u264 u265 u266 u267 u268 u269 u270 u271 u272 u273 u274 u275 u276 u277 u278 u279 u280 u281 u282 u283 u284 u285 u286 u287 u288 u289 u290 u291 u292 u293 u294 u295 u296 u297 u298 u299 u300 u301 u302 u303 u304 u305 u306 u307 u308 u309 u310 u311 u312 u313 : Value) (a : Act) (wx : World) : Prop :=
  ∃ v4 v9 v93 v94 v95 v96 v97 v98 v99 v100 v101 v102 v103 v104 v105 v106 v107 v108 v109 v110 v111 v112 v113 v114 v115 v116 v117 v118 v119 v120 v121 v122 v123 v124 v125 v126 v127 v128 v129 v130 v131 v132 v133 v134 v135 v136 v137 v138 v139 v140 v141 v142 : Value, TyMid w T n kk sb ss v4 wx ∧ a = ⟨#[u0, u1, u2, .pointer (some ⟨T, 0, none⟩), v4, u5, .pointer (some ⟨sb, 0, none⟩), .int .i64 at_, .bool ib, v9, u10, u11, u12, u13, u14, u15, u16, u17, u18, u19, u20, u21, u22, u23, u24, u25, u26, u27, u28, u29, u30, u31, u32, u33, u34, u35, u36, u37, u38, u39, u40, u41, u42, u43, u44, u45, u46, u47, u48, u49, u50, u51, u52, u53, u54, u55, u56, u57, u58, u59, u60, u61, u62, u63, u64, u65, u66, u67, u68, u69, u70, u71, u72, u73, u74, u75, u76, u77, u78, u79, u80, u81, u82, u83, u84, u85, u86, u87, u88, u89, u90, u91, u92, v93, v94, v95, v96, v97, v98, v99, v100, v101, v102, v103, v104, v105, v106, v107, v108, v109, v110, v111, v112, v113, v114, v115, v116, v117, v118, v119, v120, v121, v122, v123, v124, v125, v126, v127, v128, v129, v130, v131, v132, v133, v134, v135, v136, v137, v138, v139, v140, v141, v142, u143, u144, u145, u146, u147, u148, u149, u150, u151, u152, u153, u154, u155, u156, u157, u158, u159, u160, u161, u162, u163, u164, u165, u166, u167, u168, u169, u170, u171, u172, u173, u174, u175, u176, u177, u178, u179, u180, u181, u182, u183, u184, u185, u186, u187, u188, u189, u190, u191, u192, u193, u194, u195, u196, u197, u198, u199, u200, u201, u202, u203, u204, u205, u206, u207, u208, u209, u210, u211, u212, u213, u214, u215, u216, u217, u218, u219, u220, u221, u222, u223, u224, u225, u226, u227, u228, u229, u230, u231, u232, u233, u234, u235, u236, u237, u238, u239, u240, u241, u242, u243, u244, u245, u246, u247, u248, u249, u250, u251, u252, u253, u254, u255, u256, u257, u258, u259, u260, u261, u262, u263, u264, u265, u266, u267, u268, u269, u270, u271, u272, u273, u274, u275, u276, u277, u278, u279, u280, u281, u282, u283, u284, u285, u286, u287, u288, u289, u290, u291, u292, u293, u294, u295, u296, u297, u298, u299, u300, u301, u302, u303, u304, u305, u306, u307, u308, u309, u310, u311, u312, u313], []⟩
/-- What stands where an act begins. -/
structure TyAt (w : World) (T : Nat) (z : SZ) (kk : Nat) (am : Option Addr) (nm cm sb : Nat) (sw : Int) (ss : ByteArray) (si : Int) (at_ : Nat) (ib : Bool) (W : World) : Prop where
  c0 : W.cell? ⟨sb, 0, none⟩ = some (.int .i64 sw)
  c1 : W.cell? ⟨sb, 1, none⟩ = some (.string ss)
  c2 : W.cell? ⟨sb, 2, none⟩ = some (.int .i64 si)
  tr : ∃ O, TrI W T O (gE z) z.length kk ∧ (∀ y, O y → w.heap.size ≤ y) ∧ RdP pC O W (.slice am nm cm) z ∧ ¬ O sb
  srt : SrtP z
  str : ∀ p ∈ z, p.1.size ≤ 60
  spot : Spot z (ss, si) at_
  hib : ib = true ↔ (ss, si) ∈ z
  len : nm = z.length
  lec : nm ≤ cm
  few : nm ≤ 80
  kks : kk ≤ 200
  s60 : ss.size ≤ 60
  hup : Up w W
variable {w W : World} {T : Nat} {z : SZ} {kk : Nat} {am : Option Addr} {nm cm sb : Nat} {sw : Int} {ss : ByteArray} {si : Int} {at_ : Nat} {ib : Bool}
/-- What the trie does of a step. -/
def TyDid (w : World) (T : Nat) (z z' : SZ) (kk : Nat) (am : Option Addr) (nm cm sb : Nat) (ss : ByteArray) (si : Int) (w1 : World) : Prop :=
  ∃ O k', TrI w1 T O (gE z') z'.length k' ∧ (∀ y, O y → w.heap.size ≤ y) ∧ RdP pC O w1 (.slice am nm cm) z ∧ k' ≤ kk + 2 ∧ Up w w1 ∧ w1.cell? ⟨sb, 1, none⟩ = some (.string ss) ∧ w1.cell? ⟨sb, 2, none⟩ = some (.int .i64 si)
theorem TyAt.did (p : TyAt w T z kk am nm cm sb sw ss si at_ ib W) {O : Nat → Prop} (h2 : ∀ y, O y → w.heap.size ≤ y) (h3 : RdP pC O W (.slice am nm cm) z) (h4 : ¬ O sb) {z' : SZ} {k' : Nat} {w1 : World} (d : TrDid W w1 T O (gE z') z'.length k') (hk : k' ≤ kk + 2) : TyDid w T z z' kk am nm cm sb ss si w1 := by
  obtain ⟨O', r1, r2, r3⟩ := d
  have hs := p.hup.size
  refine ⟨O', k', r1, fun y hy => ?_, ((h3.mono (Y := fun y => O y ∨ O' y) (fun y hy e => e.elim id (fun e => (r3 y e).elim id (fun e => by omega)))).chg (r2.mono (fun y _ h => .inl h))).mono (fun y hy e => .inr e), hk, ((Chg.of_up (C := O) p.hup).trans r2 (fun _ _ h => h)).up (fun x hx e => by have := h2 x e; omega), r2.cell (p := ⟨sb, 1, none⟩) p.c1 h4, r2.cell (p := ⟨sb, 2, none⟩) p.c2 h4⟩
  rcases r3 y hy with h | h
  · exact h2 y h
  · omega
theorem TyAt.ins (p : TyAt w T z kk am nm cm sb sw ss si at_ ib W) (hn : ib = false) :
    Calls Try.prog 9 #[.pointer (some ⟨T, 0, none⟩), .string ss, .int .i64 si] W fun e w' => e = .returned (.int .i64 0) ∧ TyDid w T z (insZ z at_ (ss, si)) kk am nm cm sb ss si w' := by
  obtain ⟨O, h1, h2, h3, h4⟩ := p.tr
  have hx : (ss, si) ∉ z := fun h => by have := p.hib.2 h; rw [hn] at this; cases this
  have hf := p.few
  have hl := p.len
  have h60 := p.s60
  have hkk := p.kks
  refine (insert_calls T O _ _ kk ss si W h1 (by omega) (by omega) (by omega)).mono ?_
  intro e w' ho
  unfold InsOut at ho
  rw [if_neg (fun e => hx (gE_memp.1 e))] at ho
  obtain ⟨q1, q2, q3⟩ := p.spot.ins p.srt hx
  refine ⟨ho.1, p.did h2 h3 h4 ?_ (Nat.le_refl _)⟩
  rw [q2, q3]
  exact_mod_cast ho.2
theorem TyAt.insThere (p : TyAt w T z kk am nm cm sb sw ss si at_ ib W) (hn : ib = true) :
    Calls Try.prog 9 #[.pointer (some ⟨T, 0, none⟩), .string ss, .int .i64 si] W fun e w' => e = .returned (.int .i64 72) ∧ TyDid w T z z kk am nm cm sb ss si w' := by
  obtain ⟨O, h1, h2, h3, h4⟩ := p.tr
  have hx : (ss, si) ∈ z := p.hib.1 hn
  have hf := p.few
  have hl := p.len
  have h60 := p.s60
  have hkk := p.kks
  refine (insert_calls T O _ _ kk ss si W h1 (by omega) (by omega) (by omega)).mono ?_
  intro e w' ho
  unfold InsOut at ho
  rw [if_pos (gE_memp.2 hx)] at ho
  exact ⟨ho.1, p.did h2 h3 h4 ho.2 (Nat.le_refl _)⟩
theorem TyAt.era (p : TyAt w T z kk am nm cm sb sw ss si at_ ib W) (hn : ib = true) :
    Calls Try.prog 14 #[.pointer (some ⟨T, 0, none⟩), .string ss, .int .i64 si] W fun e w' => e = .returned (.int .i64 0) ∧ TyDid w T z (delZ z at_) kk am nm cm sb ss si w' := by
  obtain ⟨O, h1, h2, h3, h4⟩ := p.tr
  have hx : (ss, si) ∈ z := p.hib.1 hn
  have hf := p.few
  have hl := p.len
  have hkk := p.kks
  refine (erase_calls T O _ _ kk ss si W h1 (by omega) (by omega)).mono ?_
  intro e w' ho
  unfold EraOut at ho
  rw [if_pos (gE_memp.2 hx)] at ho
  obtain ⟨q1, q2, q3⟩ := p.spot.del p.srt hx
  refine ⟨ho.1, p.did h2 h3 h4 (k' := kk) ?_ (by omega)⟩
  rw [q2, show (((delZ z at_).length : Nat) : Int) = (z.length : Int) - 1 by omega]
  exact ho.2
theorem TyAt.eraNot (p : TyAt w T z kk am nm cm sb sw ss si at_ ib W) (hn : ib = false) :
    Calls Try.prog 14 #[.pointer (some ⟨T, 0, none⟩), .string ss, .int .i64 si] W fun e w' => e = .returned (.int .i64 71) ∧ TyDid w T z z kk am nm cm sb ss si w' := by
  obtain ⟨O, h1, h2, h3, h4⟩ := p.tr
  have hx : (ss, si) ∉ z := fun h => by have := p.hib.2 h; rw [hn] at this; cases this
  have hf := p.few
  have hl := p.len
  have hkk := p.kks
  refine (erase_calls T O _ _ kk ss si W h1 (by omega) (by omega)).mono ?_
  intro e w' ho
  unfold EraOut at ho
  rw [if_neg (fun e => hx (gE_memp.1 e))] at ho
  exact ⟨ho.1, p.did h2 h3 h4 (k' := kk) ⟨O, h1.up ho.2, Chg.of_up ho.2, fun y hy => .inl hy⟩ (by omega)⟩
/-- The row as it was. -/
theorem TyAt.same (p : TyAt w T z kk am nm cm sb sw ss si at_ ib W) {w1 : World} (d : TyDid w T z z kk am nm cm sb ss si w1) : TyMid w T z.length kk sb ss (.slice am nm cm) w1 := by
  obtain ⟨O, k', h1, h2, h3, h4, h5, h6, _⟩ := d
  exact ⟨z, k', ⟨⟨O, h1, h2, h3⟩, p.srt, p.str, h5⟩, Nat.le_succ _, h4, h6⟩
/-- A new row. -/
theorem TyAt.done (p : TyAt w T z kk am nm cm sb sw ss si at_ ib W) {z' : SZ} {w1 w2 : World} (d : TyDid w T z z' kk am nm cm sb ss si w1) (hs : SrtP z') (hz : z'.length ≤ z.length + 1) (hp : ∀ p ∈ z', p.1.size ≤ 60) {mv : Value} (ho : OwnP 43 pC w2 w1.heap.size mv z') (hu : Up w1 w2) : TyMid w T z.length kk sb ss mv w2 := by
  obtain ⟨O, k', h1, h2, h3, h4, h5, h6, _⟩ := d
  refine ⟨z', k', ⟨⟨O, h1.up hu, h2, ho.rd (fun g hg e => ?_)⟩, hs, hp, h5.trans hu⟩, hz, h4, hu.cell h6⟩
  have := (ho.lt g hg).1
  have := h1.lt g e
  omega
set_option maxHeartbeats 8000000 in
theorem ty_insnot (p : TyAt w T z kk am nm cm sb sw ss si at_ ib W) (hsw : sw ≤ 3) (hib : ib = true) (u0 u1 u2 u5 u9 u10 u11 u12 u13 u14 u15 u16 u17 u18 u19 u20 u21 u22 u23 u24 u25 u26 u27 u28 u29 u30 u31 u32 u33 u34 u35 u36 u37 u38 u39 u40 u41 u42 u43 u44 u45 u46 u47 u48 u49 u50 u51 u52 u53 u54 u55 u56 u57 u58 u59 u60 u61 u62 u63 u64 u65 u66 u67 u68 u69 u70 u71 u72 u73 u74 u75 u76 u77 u78 u79 u80 u81 u82 u83 u84 u85 u86 u87 u88 u89 u90 u91 u92 u93 u94 u95 u96 u97 u98 u99 u100 u101 u102 u103 u104 u105 u106 u107 u108 u109 u110 u111 u112 u113 u114 u115 u116 u117 u118 u119 u120 u121 u122 u123 u124 u125 u126 u127 u128 u129 u130 u131 u132 u133 u134 u135 u136 u137 u138 u139 u140 u141 u142 u143 u144 u145 u146 u147 u148 u149 u150 u151 u152 u153 u154 u155 u156 u157 u158 u159 u160 u161 u162 u163 u164 u165 u166 u167 u168 u169 u170 u171 u172 u173 u174 u175 u176 u177 u178 u179 u180 u181 u182 u183 u184 u185 u186 u187 u188 u189 u190 u191 u192 u193 u194 u195 u196 u197 u198 u199 u200 u201 u202 u203 u204 u205 u206 u207 u208 u209 u210 u211 u212 u213 u214 u215 u216 u217 u218 u219 u220 u221 u222 u223 u224 u225 u226 u227 u228 u229 u230 u231 u232 u233 u234 u235 u236 u237 u238 u239 u240 u241 u242 u243 u244 u245 u246 u247 u248 u249 u250 u251 u252 u253 u254 u255 u256 u257 u258 u259 u260 u261 u262 u263 u264 u265 u266 u267 u268 u269 u270 u271 u272 u273 u274 u275 u276 u277 u278 u279 u280 u281 u282 u283 u284 u285 u286 u287 u288 u289 u290 u291 u292 u293 u294 u295 u296 u297 u298 u299 u300 u301 u302 u303 u304 u305 u306 u307 u308 u309 u310 u311 u312 u313 : Value) (K : Act → World → Prop) (Q : Exit → Act → World → Prop)
    (hK : ∀ a' w', Met (TyJ w T z.length kk sb at_ ss ib u0 u1 u2 u5 u10 u11 u12 u13 u14 u15 u16 u17 u18 u19 u20 u21 u22 u23 u24 u25 u26 u27 u28 u29 u30 u31 u32 u33 u34 u35 u36 u37 u38 u39 u40 u41 u42 u43 u44 u45 u46 u47 u48 u49 u50 u51 u52 u53 u54 u55 u56 u57 u58 u59 u60 u61 u62 u63 u64 u65 u66 u67 u68 u69 u70 u71 u72 u73 u74 u75 u76 u77 u78 u79 u80 u81 u82 u83 u84 u85 u86 u87 u88 u89 u90 u91 u92 u143 u144 u145 u146 u147 u148 u149 u150 u151 u152 u153 u154 u155 u156 u157 u158 u159 u160 u161 u162 u163 u164 u165 u166 u167 u168 u169 u170 u171 u172 u173 u174 u175 u176 u177 u178 u179 u180 u181 u182 u183 u184 u185 u186 u187 u188 u189 u190 u191 u192 u193 u194 u195 u196 u197 u198 u199 u200 u201 u202 u203 u204 u205 u206 u207 u208 u209 u210 u211 u212 u213 u214 u215 u216 u217 u218 u219 u220 u221 u222 u223 u224 u225 u226 u227 u228 u229 u230 u231 u232 u233 u234 u235 u236 u237 u238 u239 u240 u241 u242 u243 u244 u245 u246 u247 u248 u249 u250 u251 u252 u253 u254 u255 u256 u257 u258 u259 u260 u261 u262 u263 u264 u265 u266 u267 u268 u269 u270 u271 u272 u273 u274 u275 u276 u277 u278 u279 u280 u281 u282 u283 u284 u285 u286 u287 u288 u289 u290 u291 u292 u293 u294 u295 u296 u297 u298 u299 u300 u301 u302 u303 u304 u305 u306 u307 u308 u309 u310 u311 u312 u313) a' w' → K a' w') :
    Code.wp Try.prog ((Try.f4.body.bind (blkN 4)).getD .skip) (Exit.then K Q) ⟨#[u0, u1, u2, .pointer (some ⟨T, 0, none⟩), .slice am nm cm, u5, .pointer (some ⟨sb, 0, none⟩), .int .i64 at_, .bool ib, u9, u10, u11, u12, u13, u14, u15, u16, u17, u18, u19, u20, u21, u22, u23, u24, u25, u26, u27, u28, u29, u30, u31, u32, u33, u34, u35, u36, u37, u38, u39, u40, u41, u42, u43, u44, u45, u46, u47, u48, u49, u50, u51, u52, u53, u54, u55, u56, u57, u58, u59, u60, u61, u62, u63, u64, u65, u66, u67, u68, u69, u70, u71, u72, u73, u74, u75, u76, u77, u78, u79, u80, u81, u82, u83, u84, u85, u86, u87, u88, u89, u90, u91, u92, u93, u94, u95, u96, u97, u98, u99, u100, u101, u102, u103, u104, u105, u106, u107, u108, u109, u110, u111, u112, u113, u114, u115, u116, u117, u118, u119, u120, u121, u122, u123, u124, u125, u126, u127, u128, u129, u130, u131, u132, u133, u134, u135, u136, u137, u138, u139, u140, u141, u142, u143, u144, u145, u146, u147, u148, u149, u150, u151, u152, u153, u154, u155, u156, u157, u158, u159, u160, u161, u162, u163, u164, u165, u166, u167, u168, u169, u170, u171, u172, u173, u174, u175, u176, u177, u178, u179, u180, u181, u182, u183, u184, u185, u186, u187, u188, u189, u190, u191, u192, u193, u194, u195, u196, u197, u198, u199, u200, u201, u202, u203, u204, u205, u206, u207, u208, u209, u210, u211, u212, u213, u214, u215, u216, u217, u218, u219, u220, u221, u222, u223, u224, u225, u226, u227, u228, u229, u230, u231, u232, u233, u234, u235, u236, u237, u238, u239, u240, u241, u242, u243, u244, u245, u246, u247, u248, u249, u250, u251, u252, u253, u254, u255, u256, u257, u258, u259, u260, u261, u262, u263, u264, u265, u266, u267, u268, u269, u270, u271, u272, u273, u274, u275, u276, u277, u278, u279, u280, u281, u282, u283, u284, u285, u286, u287, u288, u289, u290, u291, u292, u293, u294, u295, u296, u297, u298, u299, u300, u301, u302, u303, u304, u305, u306, u307, u308, u309, u310, u311, u312, u313], []⟩ W := by
  have P := hide p
  have HC := hide (p.insThere hib)
  have c0 := p.c0
  have c1 := p.c1
  have c2 := p.c2
  have d0 : decide (sw ≤ 3) = true := decide_eq_true hsw
  subst hib
  unfold TyJ at hK
  clear p
  conv => arg 2; whnf
  go_wp2_with fail
  refine HC.out.mono ?_
  rintro _ w1 ⟨rfl, hd1⟩
  have HD := hide hd1
  clear hd1 c0 c1 c2
  dsimp only
  go_wp2
  refine Met.intro ?_
  (repeat apply Exists.intro)
  exact ⟨P.out.same HD.out, rfl⟩
set_option maxHeartbeats 8000000 in
theorem ty_delnot (p : TyAt w T z kk am nm cm sb sw ss si at_ ib W) (hsw : ¬ sw ≤ 3) (hib : ib = false) (u0 u1 u2 u5 u9 u10 u11 u12 u13 u14 u15 u16 u17 u18 u19 u20 u21 u22 u23 u24 u25 u26 u27 u28 u29 u30 u31 u32 u33 u34 u35 u36 u37 u38 u39 u40 u41 u42 u43 u44 u45 u46 u47 u48 u49 u50 u51 u52 u53 u54 u55 u56 u57 u58 u59 u60 u61 u62 u63 u64 u65 u66 u67 u68 u69 u70 u71 u72 u73 u74 u75 u76 u77 u78 u79 u80 u81 u82 u83 u84 u85 u86 u87 u88 u89 u90 u91 u92 u93 u94 u95 u96 u97 u98 u99 u100 u101 u102 u103 u104 u105 u106 u107 u108 u109 u110 u111 u112 u113 u114 u115 u116 u117 u118 u119 u120 u121 u122 u123 u124 u125 u126 u127 u128 u129 u130 u131 u132 u133 u134 u135 u136 u137 u138 u139 u140 u141 u142 u143 u144 u145 u146 u147 u148 u149 u150 u151 u152 u153 u154 u155 u156 u157 u158 u159 u160 u161 u162 u163 u164 u165 u166 u167 u168 u169 u170 u171 u172 u173 u174 u175 u176 u177 u178 u179 u180 u181 u182 u183 u184 u185 u186 u187 u188 u189 u190 u191 u192 u193 u194 u195 u196 u197 u198 u199 u200 u201 u202 u203 u204 u205 u206 u207 u208 u209 u210 u211 u212 u213 u214 u215 u216 u217 u218 u219 u220 u221 u222 u223 u224 u225 u226 u227 u228 u229 u230 u231 u232 u233 u234 u235 u236 u237 u238 u239 u240 u241 u242 u243 u244 u245 u246 u247 u248 u249 u250 u251 u252 u253 u254 u255 u256 u257 u258 u259 u260 u261 u262 u263 u264 u265 u266 u267 u268 u269 u270 u271 u272 u273 u274 u275 u276 u277 u278 u279 u280 u281 u282 u283 u284 u285 u286 u287 u288 u289 u290 u291 u292 u293 u294 u295 u296 u297 u298 u299 u300 u301 u302 u303 u304 u305 u306 u307 u308 u309 u310 u311 u312 u313 : Value) (K : Act → World → Prop) (Q : Exit → Act → World → Prop)
    (hK : ∀ a' w', Met (TyJ w T z.length kk sb at_ ss ib u0 u1 u2 u5 u10 u11 u12 u13 u14 u15 u16 u17 u18 u19 u20 u21 u22 u23 u24 u25 u26 u27 u28 u29 u30 u31 u32 u33 u34 u35 u36 u37 u38 u39 u40 u41 u42 u43 u44 u45 u46 u47 u48 u49 u50 u51 u52 u53 u54 u55 u56 u57 u58 u59 u60 u61 u62 u63 u64 u65 u66 u67 u68 u69 u70 u71 u72 u73 u74 u75 u76 u77 u78 u79 u80 u81 u82 u83 u84 u85 u86 u87 u88 u89 u90 u91 u92 u143 u144 u145 u146 u147 u148 u149 u150 u151 u152 u153 u154 u155 u156 u157 u158 u159 u160 u161 u162 u163 u164 u165 u166 u167 u168 u169 u170 u171 u172 u173 u174 u175 u176 u177 u178 u179 u180 u181 u182 u183 u184 u185 u186 u187 u188 u189 u190 u191 u192 u193 u194 u195 u196 u197 u198 u199 u200 u201 u202 u203 u204 u205 u206 u207 u208 u209 u210 u211 u212 u213 u214 u215 u216 u217 u218 u219 u220 u221 u222 u223 u224 u225 u226 u227 u228 u229 u230 u231 u232 u233 u234 u235 u236 u237 u238 u239 u240 u241 u242 u243 u244 u245 u246 u247 u248 u249 u250 u251 u252 u253 u254 u255 u256 u257 u258 u259 u260 u261 u262 u263 u264 u265 u266 u267 u268 u269 u270 u271 u272 u273 u274 u275 u276 u277 u278 u279 u280 u281 u282 u283 u284 u285 u286 u287 u288 u289 u290 u291 u292 u293 u294 u295 u296 u297 u298 u299 u300 u301 u302 u303 u304 u305 u306 u307 u308 u309 u310 u311 u312 u313) a' w' → K a' w') :
    Code.wp Try.prog ((Try.f4.body.bind (blkN 4)).getD .skip) (Exit.then K Q) ⟨#[u0, u1, u2, .pointer (some ⟨T, 0, none⟩), .slice am nm cm, u5, .pointer (some ⟨sb, 0, none⟩), .int .i64 at_, .bool ib, u9, u10, u11, u12, u13, u14, u15, u16, u17, u18, u19, u20, u21, u22, u23, u24, u25, u26, u27, u28, u29, u30, u31, u32, u33, u34, u35, u36, u37, u38, u39, u40, u41, u42, u43, u44, u45, u46, u47, u48, u49, u50, u51, u52, u53, u54, u55, u56, u57, u58, u59, u60, u61, u62, u63, u64, u65, u66, u67, u68, u69, u70, u71, u72, u73, u74, u75, u76, u77, u78, u79, u80, u81, u82, u83, u84, u85, u86, u87, u88, u89, u90, u91, u92, u93, u94, u95, u96, u97, u98, u99, u100, u101, u102, u103, u104, u105, u106, u107, u108, u109, u110, u111, u112, u113, u114, u115, u116, u117, u118, u119, u120, u121, u122, u123, u124, u125, u126, u127, u128, u129, u130, u131, u132, u133, u134, u135, u136, u137, u138, u139, u140, u141, u142, u143, u144, u145, u146, u147, u148, u149, u150, u151, u152, u153, u154, u155, u156, u157, u158, u159, u160, u161, u162, u163, u164, u165, u166, u167, u168, u169, u170, u171, u172, u173, u174, u175, u176, u177, u178, u179, u180, u181, u182, u183, u184, u185, u186, u187, u188, u189, u190, u191, u192, u193, u194, u195, u196, u197, u198, u199, u200, u201, u202, u203, u204, u205, u206, u207, u208, u209, u210, u211, u212, u213, u214, u215, u216, u217, u218, u219, u220, u221, u222, u223, u224, u225, u226, u227, u228, u229, u230, u231, u232, u233, u234, u235, u236, u237, u238, u239, u240, u241, u242, u243, u244, u245, u246, u247, u248, u249, u250, u251, u252, u253, u254, u255, u256, u257, u258, u259, u260, u261, u262, u263, u264, u265, u266, u267, u268, u269, u270, u271, u272, u273, u274, u275, u276, u277, u278, u279, u280, u281, u282, u283, u284, u285, u286, u287, u288, u289, u290, u291, u292, u293, u294, u295, u296, u297, u298, u299, u300, u301, u302, u303, u304, u305, u306, u307, u308, u309, u310, u311, u312, u313], []⟩ W := by
  have P := hide p
  have HC := hide (p.eraNot hib)
  have c0 := p.c0
  have c1 := p.c1
  have c2 := p.c2
  have d0 : decide (sw ≤ 3) = false := decide_eq_false hsw
  subst hib
  unfold TyJ at hK
  clear p
  conv => arg 2; whnf
  go_wp2_with fail
  refine HC.out.mono ?_
  rintro _ w1 ⟨rfl, hd1⟩
  have HD := hide hd1
  clear hd1 c0 c1 c2
  dsimp only
  go_wp2
  refine Met.intro ?_
  (repeat apply Exists.intro)
  exact ⟨P.out.same HD.out, rfl⟩
end Go.Proofs.Ytmbniakobhaomaa
