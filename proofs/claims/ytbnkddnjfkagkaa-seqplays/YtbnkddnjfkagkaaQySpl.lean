/-
  SeqPlays of rialtolaw13: one act, as its text runs: Splice.
-/
import Derived.Test.YtbnkddnjfkagkaaQyArm
namespace Go.Proofs.Ytbnkddnjfkagkaa
open Go.ChangeShapes Go.WideShapes Go.ChangeAt Go.RowKit
set_option linter.unusedVariables false
set_option maxRecDepth 100000
attribute [local go_sem ↓] Go.wp_at_zero Go.wp_at_succ

variable {w W : World} {q T M : Nat} {xs : List Int} {h n : Nat} {f : Int → Option Nat} {am : Option Addr} {nm cm sb : Nat} {sw si bf id : Int} {ia : Option Addr} {inn ic : Nat} {ids : List Int}
/-- What Splice and the plain row's own come to. -/
structure SpBoth (w W : World) (q T M : Nat) (xs : List Int) (n : Nat) (am : Option Addr) (nm cm : Nat) (bf : Int) (ia : Option Addr) (inn ic : Nat) (ids : List Int) (c : Int) (fin : List Int) (KK : Nat) : Prop where
  land : ∀ w' v', Up W w' → Rd (Value.int .i64) (TM T M) w' v' ids → Calls Try.prog 17 #[.pointer (some ⟨q, 0, none⟩), v', .int .i64 bf] w' fun e w'' => e = .returned (.int .i64 c) ∧ SqDone (fun _ => False) q T M fin n KK w' w''
  plain : ∀ w', Chg (TM T M) W w' → Calls Try.prog 18 #[.slice am nm cm, .slice ia inn ic, .int .i64 bf] w' fun e w'' => ∃ v', e = .returned (.tuple #[v', .int .i64 c]) ∧ Rd (Value.int .i64) (TM T M) w'' v' fin ∧ Up w' w''
  hc : 0 ≤ c ∧ c ≤ 100
  few : c ≠ 0 → KK = 0
  le : KK ≤ (2 * inn + 1) * (8 * bitsN (xs.length + 1))
  flen : fin.length ≤ xs.length + 1
theorem spBoth_of (p : QyAt w q T M xs h n f am nm cm sb id bf si ia inn ic ids W) : ∃ c fin KK, SpBoth w W q T M xs n am nm cm bf ia inn ic ids c fin KK := by
  have hxl := p.xl
  have hnd := p.ix.ok.nd
  have hil : ids.length ≤ 20 := by have := p.idn; have := p.id20; omega
  have htl : ∀ w', Chg (TM T M) W w' → ∀ y, TM T M y → y < w'.heap.size := fun w' hc y hy => by
    have h1 := p.ix.ltT
    have h2 := p.ix.ltM
    have := hc.size
    rcases hy with e | e <;> omega
  by_cases hb : bf ≠ 0 ∧ bf ∉ xs
  · refine ⟨71, xs, 0, ⟨fun w' v' hu hr => ?_, fun w' hc => ?_, by omega, fun _ => rfl, Nat.zero_le _, Nat.le_succ _⟩⟩
    · refine (splice_unknown v' ids bf (p.ix.up hu) hr p.wbf hb (by omega)).mono ?_
      rintro _ w'' ⟨rfl, h1⟩
      exact ⟨rfl, SqDone.same (p.ix.up hu) h1⟩
    · refine (spl_unknown _ _ xs ids bf (TM T M) (fun _ => False) w' (p.rd.chg hc) (p.ridw.up (up_of_tm p.hup p.hT p.hM hc)) (by omega) hb).mono ?_
      rintro _ w'' ⟨rfl, h1⟩
      exact ⟨_, rfl, (p.rd.chg hc).up h1, h1⟩
  · obtain ⟨t, ht⟩ : ∃ t, TgtAt xs bf t := by
      by_cases h0 : bf = 0
      · exact ⟨xs.length, .inl ⟨h0, rfl⟩⟩
      · have hm : bf ∈ xs := Classical.byContradiction (fun e => hb ⟨h0, e⟩)
        have hlt := List.idxOf_lt_length_of_mem hm
        exact ⟨xs.idxOf bf, .inr ⟨h0, by rw [List.getElem?_eq_getElem hlt, List.getElem_idxOf]⟩⟩
    have plain : ∀ (c : Int) (fin : List Int), SpRes xs ids bf (xs.take t) (xs.drop t) c fin → ∀ w', Chg (TM T M) W w' → Calls Try.prog 18 #[.slice am nm cm, .slice ia inn ic, .int .i64 bf] w' fun e w'' => ∃ v', e = .returned (.tuple #[v', .int .i64 c]) ∧ Rd (Value.int .i64) (TM T M) w'' v' fin ∧ Up w' w'' := fun c fin hres w' hc =>
      spl_calls _ _ xs ids bf t c fin (TM T M) w' (p.rd.chg hc) (htl w' hc) (p.ridw.up (up_of_tm p.hup p.hT p.hM hc)) (by omega) (by omega) hnd ht (fun z hz => (p.widz z hz).2) hres
    by_cases hin : ∀ z ∈ ids, z ∈ xs
    · by_cases hbad : bf ∈ ids ∨ ¬ ids.Nodup
      · refine ⟨72, xs, 0, ⟨fun w' v' hu hr => ?_, plain 72 xs (.inr (.inl ⟨hin, hbad, rfl, rfl⟩)), by omega, fun _ => rfl, Nat.zero_le _, Nat.le_succ _⟩⟩
        refine (splice_twice v' ids bf t (p.ix.up hu) hr (fun z hz => (p.widz z hz).1) ht hin hbad (by omega) (by omega)).mono ?_
        rintro _ w'' ⟨rfl, h1⟩
        exact ⟨rfl, SqDone.same (p.ix.up hu) h1⟩
      · have hb1 : bf ∉ ids := fun e => hbad (.inl e)
        have hb2 : ids.Nodup := Classical.byContradiction (fun e => hbad (.inr e))
        have hst := stp_all (A := xs.take t) (S := xs.drop t) (zs := ids) (by rw [List.take_append_drop]; exact hnd) hb2 (fun z hz => by rw [List.take_append_drop]; exact hin z hz)
        have htl2 : (xs.take t).length = t := by rw [List.length_take]; have := ht.le; omega
        rw [List.take_append_drop, htl2, ← frL_all] at hst
        have hfl := frL_len (A := xs.take t) (S := xs.drop t) (P := ids) (by rw [List.take_append_drop]; exact hnd) hb2 (fun z hz => by rw [List.take_append_drop]; exact hin z hz)
        rw [List.take_append_drop] at hfl
        refine ⟨0, frL (xs.take t) (xs.drop t) ids, ids.length * (16 * bitsN (xs.length + 1)), ⟨fun w' v' hu hr => ?_, plain 0 _ (.inr (.inr ⟨hin, hb1, hb2, rfl, rfl⟩)), by omega, fun e => absurd rfl e, ?_, by rw [hfl]; exact Nat.le_succ _⟩⟩
        · have h1 := splice_ok v' ids bf t (Y := fun _ => False) (fun y hy => hy.elim) (p.ix.up hu) hr (fun z hz => (p.widz z hz).1) ht p.wbf hin hb1 hb2 (by omega) (by omega) p.ww
          rw [hst] at h1
          exact h1
        · have e1 : (2 * inn + 1) * (8 * bitsN (xs.length + 1)) = inn * (16 * bitsN (xs.length + 1)) + 8 * bitsN (xs.length + 1) := by
            generalize bitsN (xs.length + 1) = b
            rw [Nat.add_mul, Nat.one_mul, show 16 * b = 2 * (8 * b) by omega, Nat.mul_comm 2 inn, Nat.mul_assoc]
          rw [e1, p.idn]
          exact Nat.le_add_right _ _
    · have hne : ∃ z ∈ ids, z ∉ xs := Classical.byContradiction (fun e => hin (fun z hz => Classical.byContradiction (fun h => e ⟨z, hz, h⟩)))
      refine ⟨71, xs, 0, ⟨fun w' v' hu hr => ?_, plain 71 xs (.inl ⟨hne, rfl, rfl⟩), by omega, fun _ => rfl, Nat.zero_le _, Nat.le_succ _⟩⟩
      refine (splice_lacks v' ids bf t (p.ix.up hu) hr (fun z hz => (p.widz z hz).1) ht hin (by omega) (by omega)).mono ?_
      rintro _ w'' ⟨rfl, h1⟩
      exact ⟨rfl, SqDone.same (p.ix.up hu) h1⟩
/-- A change that was done, or refused. -/
theorem QyAt.gen (p : QyAt w q T M xs h n f am nm cm sb id bf si ia inn ic ids W) {zs : List Int} {K : Nat} {w1 w2 : World} (d : SqDone (fun _ => False) q T M zs n K W w1) (my : Nat) (hm : 1 ≤ my ∧ my ≤ 41) (hK : K ≤ my * (8 * bitsN (xs.length + 1))) (c : Int) (hc : 0 ≤ c ∧ c ≤ 100) (hc0 : c ≠ 0 → K = 0) (hu : Up w1 w2) {mv yv : Value} (hy : yv = .int .i64 my) (hr : Rd (Value.int .i64) (TM T M) w2 mv zs) (hz : zs.length ≤ xs.length + 1) :
    QyMid w q T M xs n sb id si mv (.int .i64 c) (.int .i64 c) (.int .i64 0) (.int .i64 0) yv w2 := by
  obtain ⟨h', k, f', ix, hk, hch⟩ := d
  exact ⟨zs, h', k, f', c, 0, my, ⟨rfl, rfl, rfl, rfl, hy⟩, hc, hm, ix.up hu, by omega, fun e => by have := hc0 e; omega, hr, hz, (up_of_tm p.hup p.hT p.hM hch).trans hu, hu.cell (tm_cell2 hch p.c1 p.sT p.sM), hu.cell (tm_cell2 hch p.c3 p.sT p.sM)⟩
set_option maxHeartbeats 8000000 in
theorem qy_spl (p : QyAt w q T M xs h n f am nm cm sb id bf si ia inn ic ids W) (hsw : sw = 6) (u0 u1 u2 u5 u8 u15 u16 u17 u18 u19 u20 u21 u22 u23 u24 u25 u26 u27 u28 u29 u30 u31 u32 u33 u34 u35 u36 u37 u38 u39 u40 u41 u42 u43 u44 u45 u46 u47 u48 u49 u50 u51 u52 u53 u54 u55 u56 u57 u58 u59 u60 u61 u63 u64 u65 u66 u67 u68 u69 u70 u71 u72 u73 u74 u75 u76 u77 u78 u79 u80 u81 u82 u83 u84 u85 u86 u87 u88 u89 u90 u91 u92 u93 u94 u95 u96 u97 u98 u99 u100 u101 u102 u103 u104 u105 u106 u107 u108 u109 u110 u111 u112 u113 u114 u115 u116 u117 u118 u119 u120 u121 u122 u123 u124 u125 u126 u127 u128 u129 u130 u131 u132 u133 u134 u135 u136 u137 u138 u139 u140 u141 u142 u143 u144 u145 u146 u147 u148 u149 u150 u151 u152 u153 u154 u155 u156 u157 u158 u159 u160 u161 u162 u163 u164 u165 u166 u167 u168 u169 u170 u171 u172 u173 u174 u175 u176 u177 u178 u179 u180 u181 u182 u183 u184 u185 u186 u187 u188 u189 u190 u191 u192 u193 u194 u195 u196 u197 u198 u199 u200 u201 u202 u203 u204 u205 u206 u207 u208 u209 u210 u211 u212 u213 u214 u215 u216 u217 u218 u219 u220 u221 u222 u223 u224 u225 u226 u227 u228 u229 u230 u231 u232 u233 u234 u235 u236 u237 u238 u239 u240 u241 u242 u243 u244 u245 u246 u247 u248 u249 u250 u251 u252 u253 u254 u255 u256 u257 u258 u259 u260 u261 u262 u263 u264 u265 u266 u267 u268 u269 u270 u271 u272 u273 u274 u275 u276 u277 u278 u279 u280 u281 u282 u283 u284 u285 u286 : Value) (K : Act → World → Prop) (Q : Exit → Act → World → Prop)
    (hK : ∀ a' w', Met (QyJ w q T M xs n nm sb id si sw u0 u1 u2 u5 u8 u16 u17 u18 u19 u20 u21 u22 u23 u24 u25 u26 u27 u28 u29 u30 u31 u32 u33 u34 u35 u36 u37 u38 u39 u40 u41 u42 u43 u44 u45 u46 u47 u48 u49 u50 u51 u52 u53 u54 u55 u56 u57 u58 u59 u60 u61 u183 u184 u185 u186 u187 u188 u189 u190 u191 u192 u193 u194 u195 u196 u197 u198 u199 u200 u201 u202 u203 u204 u205 u206 u207 u208 u209 u210 u211 u212 u213 u214 u215 u216 u217 u218 u219 u220 u221 u222 u223 u224 u225 u226 u227 u228 u229 u230 u231 u232 u233 u234 u235 u236 u237 u238 u239 u240 u241 u242 u243 u244 u245 u246 u247 u248 u249 u250 u251 u252 u253 u254 u255 u256 u257 u258 u259 u260 u261 u262 u263 u264 u265 u266 u267 u268 u269 u270 u271 u272 u273 u274 u275 u276 u277 u278 u279 u280 u281 u282 u283 u284 u285 u286) a' w' → K a' w') :
    Code.wp Try.prog ((Try.f3.body.bind (blkQ 2)).getD .skip) (Exit.then K Q) ⟨#[u0, u1, u2, .pointer (some ⟨q, 0, none⟩), .slice am nm cm, u5, .pointer (some ⟨sb, 0, none⟩), .int .i64 nm, u8, .int .i64 (fdI xs id), .int .i64 0, .int .i64 0, .int .i64 0, .int .i64 0, .int .i64 1, u15, u16, u17, u18, u19, u20, u21, u22, u23, u24, u25, u26, u27, u28, u29, u30, u31, u32, u33, u34, u35, u36, u37, u38, u39, u40, u41, u42, u43, u44, u45, u46, u47, u48, u49, u50, u51, u52, u53, u54, u55, u56, u57, u58, u59, u60, u61, .int .i64 sw, u63, u64, u65, u66, u67, u68, u69, u70, u71, u72, u73, u74, u75, u76, u77, u78, u79, u80, u81, u82, u83, u84, u85, u86, u87, u88, u89, u90, u91, u92, u93, u94, u95, u96, u97, u98, u99, u100, u101, u102, u103, u104, u105, u106, u107, u108, u109, u110, u111, u112, u113, u114, u115, u116, u117, u118, u119, u120, u121, u122, u123, u124, u125, u126, u127, u128, u129, u130, u131, u132, u133, u134, u135, u136, u137, u138, u139, u140, u141, u142, u143, u144, u145, u146, u147, u148, u149, u150, u151, u152, u153, u154, u155, u156, u157, u158, u159, u160, u161, u162, u163, u164, u165, u166, u167, u168, u169, u170, u171, u172, u173, u174, u175, u176, u177, u178, u179, u180, u181, u182, u183, u184, u185, u186, u187, u188, u189, u190, u191, u192, u193, u194, u195, u196, u197, u198, u199, u200, u201, u202, u203, u204, u205, u206, u207, u208, u209, u210, u211, u212, u213, u214, u215, u216, u217, u218, u219, u220, u221, u222, u223, u224, u225, u226, u227, u228, u229, u230, u231, u232, u233, u234, u235, u236, u237, u238, u239, u240, u241, u242, u243, u244, u245, u246, u247, u248, u249, u250, u251, u252, u253, u254, u255, u256, u257, u258, u259, u260, u261, u262, u263, u264, u265, u266, u267, u268, u269, u270, u271, u272, u273, u274, u275, u276, u277, u278, u279, u280, u281, u282, u283, u284, u285, u286], []⟩ W := by
  have P := hide p
  obtain ⟨c, fin, KK, hsp⟩ := spBoth_of p
  have HSP := hide hsp
  have c2 := p.c2
  have c4 := p.c4
  have HRI : Hid (∀ w', Up W w' → Rd (Value.int .i64) (fun _ => False) w' (.slice ia inn ic) ids) := fun w' hu => p.ridw.up (p.hup.trans hu)
  have HIL : Hid (ids.length ≤ 20) := by show _ ≤ _; have := p.idn; have := p.id20; omega
  have hi20 := p.id20
  have HLT : Hid (T < W.heap.size ∧ M < W.heap.size) := ⟨p.ix.ltT, p.ix.ltM⟩
  have e1 : IntKind.i64.wrap (2 * (inn : Int)) = 2 * (inn : Int) := by rw [IntKind.wrap_i64]; omega
  have e2 : IntKind.i64.wrap (2 * (inn : Int) + 1) = 2 * (inn : Int) + 1 := by rw [IntKind.wrap_i64]; omega
  subst hsw
  unfold QyJ at hK
  clear p hsp
  conv => arg 2; whnf
  go_wp2_with fail
  --P1
  refine wp_region_noPanic ?_
  go_region_law
    (first
      | (refine step_append_row elemL (W := W) rfl _ _ rfl (.slice none 0 0) _ [] ids rfl rfl (by repeat' (with_reducible first | assumption | exact Up.refl _ | apply Up.alloc | apply Up.drew)) (Own.nil _ _ _ _) (HRI.out _ (by repeat' (with_reducible first | assumption | exact Up.refl _ | apply Up.alloc | apply Up.drew))) (by have := HIL.out; simp only [List.length_nil]; omega) ?_; intro v5 w5 ho5 hu5; try rw [List.nil_append] at ho5; have c25 := hu5.cell c2; have hr5 : Rd (Value.int .i64) (TM T M) w5 v5 ids := own_rd_tm ho5 HLT.out.1 HLT.out.2)
      | (go_simp; go_at_call 17; refine (HSP.out.land _ v5 (by first | assumption | exact Up.trans hu5 (by repeat' (with_reducible first | assumption | exact Up.refl _ | apply Up.alloc | apply Up.drew))) (Rd.up hr5 (by repeat' (with_reducible first | assumption | exact Up.refl _ | apply Up.alloc | apply Up.drew)))).mono ?_; rintro _ w6 ⟨rfl, hd6⟩; replace hd6 := hide (SqDone.after (w0 := W) (by first | assumption | exact Up.trans hu5 (by repeat' (with_reducible first | assumption | exact Up.refl _ | apply Up.alloc | apply Up.drew))) hd6); dsimp only))
  --P2
  all_goals
    obtain ⟨h', k', f', ix1, hk1, hc1⟩ := hd6.out
    have y2 := tm_cell2 hc1 c2 P.out.sT P.out.sM
    have y4 := tm_cell2 hc1 c4 P.out.sT P.out.sM
    have HPL := hide (HSP.out.plain _ hc1)
    clear ix1 hk1 hc1 c2 c4 ho5 hu5 c25 hr5
    refine NoPanic.normal ?_
    go_wp2_with fail
    refine HPL.out.mono ?_
    rintro _ w7 ⟨v7, rfl, hr7, hu7⟩
    replace y4 := hu7.cell y4
    have HR7 := hide hr7
    have HU7 := hide hu7
    obtain ⟨a6, n6, c6, rfl, -, -⟩ := hr7.sliceN
    clear hr7 hu7 y2
    dsimp only
    go_wp2
    all_goals
      refine Met.intro ?_
      (repeat apply Exists.intro)
      exact ⟨P.out.gen hd6.out (2 * inn + 1) (by omega) HSP.out.le c HSP.out.hc HSP.out.few HU7.out (by simp) HR7.out HSP.out.flen, rfl⟩
end Go.Proofs.Ytbnkddnjfkagkaa
