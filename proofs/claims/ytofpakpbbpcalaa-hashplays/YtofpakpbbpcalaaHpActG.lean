/-
  HashPlays of rialtolaw10: the acts that change nothing, and Erase, as their texts run.
  HashPlays of rialtolaw10: where an entry would stand, as its text runs.
  copy within a row that a call owns: from one place on, one further; no function of the program.
  HashPlays of rialtolaw10: Insert, as its text runs.
  HashPlays of rialtolaw10: what is put in, as its text runs.
-/
import Derived.Test.YtofpakpbbpcalaaHpInv
import Derived.Test.YtofpakpbbpcalaaHaHlp
import Derived.Test.YtofpakpbbpcalaaValHelp
import Derived.Test.YtofpakpbbpcalaaTgRoG
import Derived.Deep.Cut
import Derived.Deep.CutRange
import Derived.Deep.RegionLaw
import Derived.Deep.RegionHeld3
import Derived.BigQuiet
import Derived.Deep.QuietTactic
import Derived.Test.YtofpakpbbpcalaaHaEmp
import Derived.Test.YtofpakpbbpcalaaHpEnt
import Derived.Laws.CopyOwn
import Derived.Deep.CutBlock
namespace Go.Proofs.Ytofpakpbbpcalaa
open Go.ChangeShapes Go.WideShapes Go.ChangeAt Go.RowKit
set_option linter.unusedVariables false
set_option maxRecDepth 100000
attribute [local go_sem ↓] Go.wp_at_zero Go.wp_at_succ

theorem ownP_below {α : Type} {e : TypeId} {cs : α → List Value} {W w w' : World} {v : Value} {l : List α} (hu : Up W w) (ho : OwnP e cs w W.heap.size v l) (hg : w.grownBy w' v.ownBlock) : Up W w' :=
  Below.grown hu.below hg hu.size (fun k hk => (ho.lt k hk).1)
theorem step_append_rowP {α : Type} {P : Program} {t e : TypeId} {cs : α → List Value} {z z0 z1 : Value} {bytes : Nat} (T : ElemP P t e cs z z0 z1 bytes) {X : Nat → Prop} {W w : World} {ops : Array Oper} {o : Oper} {a : Act} {K : Act → World → Prop} {Q : Exit → Act → World → Prop} {E : Prop}
    (hg : o.guard = none) (s x : Operand) (hop : o.op = .call { callee := .builtin .append, args := #[s, x], argTypes := #[t, t] }) (v u : Value) (l m : List α) (hd : a.eval s = v) (hx : a.eval x = u)
    (hu : Up W w) (hown : OwnP e cs w W.heap.size v l) (hr : RdP cs X w u m) (hlen : l.length + m.length ≤ 10000000)
    (hK : ∀ v' w', OwnP e cs w' W.heap.size v' (l ++ m) → Up W w' → K (a.put o.dst v') w') :
    if Region.wanted o (yielded ops a.tmps) = true then Oper.wp P o a w K Q else E := by
  obtain ⟨v', w', hrun, h2, h3, _⟩ := run_append_rdP T w W.heap.size v u l m o.type hown hr hlen hu.size
  exact step_append_run hg s x t hop v u hd hx hrun (hK v' w' h2 (ownP_below hu hown h3))
theorem rdP_one {α : Type} {cs : α → List Value} {X : Nat → Prop} {w : World} {g : Nat} {y : α} (hX : ¬ X g) {c0 c1 : Value} (hy : cs y = [c0, c1]) (h0 : w.cell? ⟨g, 0, none⟩ = some c0) (h1 : w.cell? ⟨g, 1, none⟩ = some c1) : RdP cs X w (.slice (some ⟨g, 0, none⟩) 1 1) [y] := by
  refine ⟨some ⟨g, 0, none⟩, 1, rfl, Nat.le_refl _, by unfold maxLen; omega, .inr ⟨g, 0, rfl, ⟨hX, World.block_lt_of_cell? w _ h0⟩, fun j u hj => ?_⟩⟩
  simp only [List.flatMap_cons, List.flatMap_nil, List.append_nil, hy] at hj
  match j with
  | 0 => simp at hj; subst hj; exact h0
  | 1 => simp at hj; subst hj; exact h1
  | j + 2 => simp at hj
theorem step_append_oneP {α : Type} {P : Program} {t e : TypeId} {cs : α → List Value} {z z0 z1 : Value} {bytes : Nat} (T : ElemP P t e cs z z0 z1 bytes) {W w : World} {ops : Array Oper} {o : Oper} {a : Act} {K : Act → World → Prop} {Q : Exit → Act → World → Prop} {E : Prop}
    (hg : o.guard = none) (s x : Operand) (hop : o.op = .call { callee := .builtin .append, args := #[s, x], argTypes := #[t, t] }) (v : Value) (l : List α) (y : α) (g : Nat) (hd : a.eval s = v) (hx : a.eval x = .slice (some ⟨g, 0, none⟩) 1 1)
    {c0 c1 : Value} (hy : cs y = [c0, c1]) (h0 : w.cell? ⟨g, 0, none⟩ = some c0) (h1 : w.cell? ⟨g, 1, none⟩ = some c1) (hu : Up W w) (hown : OwnP e cs w W.heap.size v l) (hlen : l.length + 1 ≤ 10000000)
    (hK : ∀ v' w', OwnP e cs w' W.heap.size v' (l ++ [y]) → Up W w' → K (a.put o.dst v') w') :
    if Region.wanted o (yielded ops a.tmps) = true then Oper.wp P o a w K Q else E :=
  step_append_rowP T (X := fun _ => False) hg s x hop v _ l [y] hd hx hu hown (rdP_one (fun h => h) hy h0 h1) hlen hK

theorem elemEN : ElemP (α := ET) Try.prog 26 39 eC (.agg #[.slice none 0 0, .int .i64 0]) (.slice none 0 0) (.int .i64 0) 32 where
  ht := Try.underlying26
  hi := by kernel_rfl
  hb := by decide
  two := fun _ => rfl
  one := eC_one
  zc := rfl
  zo0 := rfl
  zo1 := rfl
/-- The block with this number. -/
def blkN (n : Nat) : Code → Option Code
  | .block k c => if k == n then some (.block k c) else blkN n c
  | .seq a b => match blkN n a with
    | some c => some c
    | none => blkN n b
  | .loop c => blkN n c
  | .scope c => blkN n c
  | .cond _ a b => match blkN n a with
    | some c => some c
    | none => blkN n b
  | _ => none
/-- What stands where an act begins. -/
structure HpAt (p Bs : Nat) (w W : World) (u : Bool) (es : List EN) (am : Option Addr) (nm cm : Nat) (k : List ET) (c : Nat) (O : Nat → Prop) (wh : Int) (sa : Option Addr) (sn sc : Nat) (key : List VT) (id : Int) : Prop where
  hi : HI p w W u es (.slice am nm cm) k c O
  b0 : W.cell? ⟨Bs, 0, none⟩ = some (.int .i64 wh)
  b1 : W.cell? ⟨Bs, 1, none⟩ = some (.slice sa sn sc)
  b2 : W.cell? ⟨Bs, 2, none⟩ = some (.int .i64 id)
  gk : GoodK key
  hv : Vals w sa sn key
  snc : sn ≤ sc
  scm : sc ≤ maxLen
  snl : sn ≤ 1000
  fe : es.length < 80
  fc : c < 80
  nO : ¬ O Bs
  nB : ∀ g, (Value.slice am nm cm).ownBlock = some g → ¬ g = Bs
  len : nm = k.length
  lec : nm ≤ cm
/-- What an act leaves. -/
def HpMid (p Bs : Nat) (w : World) (u : Bool) (ne c : Nat) (sa : Option Addr) (sn sc : Nat) (id : Int) (mv : Value) (wx : World) : Prop :=
  ∃ (es : List EN) (k : List ET) (c' : Nat) (O : Nat → Prop), HI p w wx u es mv k c' O ∧ c' ≤ c + 1 ∧ es.length ≤ ne + 1 ∧ wx.cell? ⟨Bs, 1, none⟩ = some (.slice sa sn sc) ∧ wx.cell? ⟨Bs, 2, none⟩ = some (.int .i64 id)
set_option maxRecDepth 1000000 in
def HpJ (p Bs : Nat) (w : World) (u : Bool) (ne c nids ic : Nat) (ia : Option Addr) (at_ : Int) (sa : Option Addr) (sn sc : Nat) (id : Int) (u1 u2 u3 u4 u7 u14 u15 u16 u17 u18 u19 u20 u21 u22 u23 u24 u25 u26 u27 u28 u29 u30 u31 u32 u33 u34 u35 u36 u37 u38 u39 u40 u41 u42 u43 u144 u145 u146 u147 u148 u149 u150 u151 u152 u153 u154 u155 u156 u157 u158 u159 u160 u161 u162 u163 u164 u165 u166 u167 u168 u169 u170 u171 u172 u173 u174 u175 u176 u177 u178 u179 u180 u181 u182 u183 u184 : Value) (a : Act) (wx : World) : Prop :=
  ∃ v6 v11 v12 v13 v44 v45 v46 v47 v48 v49 v50 v51 v52 v53 v54 v55 v56 v57 v58 v59 v60 v61 v62 v63 v64 v65 v66 v67 v68 v69 v70 v71 v72 v73 v74 v75 v76 v77 v78 v79 v80 v81 v82 v83 v84 v85 v86 v87 v88 v89 v90 v91 v92 v93 v94 v95 v96 v97 v98 v99 v100 v101 v102 v103 v104 v105 v106 v107 v108 v109 v110 v111 v112 v113 v114 v115 v116 v117 v118 v119 v120 v121 v122 v123 v124 v125 v126 v127 v128 v129 v130 v131 v132 v133 v134 v135 v136 v137 v138 v139 v140 v141 v142 v143 : Value, HpMid p Bs w u ne c sa sn sc id v6 wx ∧ a = ⟨#[.bool u, u1, u2, u3, u4, .pointer (some ⟨p, 0, none⟩), v6, u7, .pointer (some ⟨Bs, 0, none⟩), .slice ia nids ic, .int .i64 at_, v11, v12, v13, u14, u15, u16, u17, u18, u19, u20, u21, u22, u23, u24, u25, u26, u27, u28, u29, u30, u31, u32, u33, u34, u35, u36, u37, u38, u39, u40, u41, u42, u43, v44, v45, v46, v47, v48, v49, v50, v51, v52, v53, v54, v55, v56, v57, v58, v59, v60, v61, v62, v63, v64, v65, v66, v67, v68, v69, v70, v71, v72, v73, v74, v75, v76, v77, v78, v79, v80, v81, v82, v83, v84, v85, v86, v87, v88, v89, v90, v91, v92, v93, v94, v95, v96, v97, v98, v99, v100, v101, v102, v103, v104, v105, v106, v107, v108, v109, v110, v111, v112, v113, v114, v115, v116, v117, v118, v119, v120, v121, v122, v123, v124, v125, v126, v127, v128, v129, v130, v131, v132, v133, v134, v135, v136, v137, v138, v139, v140, v141, v142, v143, u144, u145, u146, u147, u148, u149, u150, u151, u152, u153, u154, u155, u156, u157, u158, u159, u160, u161, u162, u163, u164, u165, u166, u167, u168, u169, u170, u171, u172, u173, u174, u175, u176, u177, u178, u179, u180, u181, u182, u183, u184], []⟩
variable {p Bs : Nat} {w W : World} {u : Bool} {es : List EN} {am : Option Addr} {nm cm : Nat} {k : List ET} {c : Nat} {O : Nat → Prop} {wh : Int} {sa : Option Addr} {sn sc : Nat} {key : List VT} {id : Int} {ia : Option Addr} {nids ic : Nat} {at_ : Int}
theorem HpAt.same (P : HpAt p Bs w W u es am nm cm k c O wh sa sn sc key id) {wx : World} (hu : Up W wx) : HpMid p Bs w u es.length c sa sn sc id (.slice am nm cm) wx :=
  ⟨es, k, c, O, P.hi.upto hu, Nat.le_succ _, Nat.le_succ _, hu.cell P.b1, hu.cell P.b2⟩
set_option maxHeartbeats 8000000 in
theorem hp_eranot (P0 : HpAt p Bs w W u es am nm cm k c O wh sa sn sc key id) (hwh : ¬ wh ≤ 3) (hat : at_ = -1) (hno : (key, id) ∉ es) (u1 u2 u3 u4 u7 u11 u12 u13 u14 u15 u16 u17 u18 u19 u20 u21 u22 u23 u24 u25 u26 u27 u28 u29 u30 u31 u32 u33 u34 u35 u36 u37 u38 u39 u40 u41 u42 u43 u44 u45 u46 u47 u48 u49 u50 u51 u52 u53 u54 u55 u56 u57 u58 u59 u60 u61 u62 u63 u64 u65 u66 u67 u68 u69 u70 u71 u72 u73 u74 u75 u76 u77 u78 u79 u80 u81 u82 u83 u84 u85 u86 u87 u88 u89 u90 u91 u92 u93 u94 u95 u96 u97 u98 u99 u100 u101 u102 u103 u104 u105 u106 u107 u108 u109 u110 u111 u112 u113 u114 u115 u116 u117 u118 u119 u120 u121 u122 u123 u124 u125 u126 u127 u128 u129 u130 u131 u132 u133 u134 u135 u136 u137 u138 u139 u140 u141 u142 u143 u144 u145 u146 u147 u148 u149 u150 u151 u152 u153 u154 u155 u156 u157 u158 u159 u160 u161 u162 u163 u164 u165 u166 u167 u168 u169 u170 u171 u172 u173 u174 u175 u176 u177 u178 u179 u180 u181 u182 u183 u184 : Value) (K : Act → World → Prop) (Q : Exit → Act → World → Prop)
    (hK : ∀ a' w', Met (HpJ p Bs w u es.length c nids ic ia at_ sa sn sc id u1 u2 u3 u4 u7 u14 u15 u16 u17 u18 u19 u20 u21 u22 u23 u24 u25 u26 u27 u28 u29 u30 u31 u32 u33 u34 u35 u36 u37 u38 u39 u40 u41 u42 u43 u144 u145 u146 u147 u148 u149 u150 u151 u152 u153 u154 u155 u156 u157 u158 u159 u160 u161 u162 u163 u164 u165 u166 u167 u168 u169 u170 u171 u172 u173 u174 u175 u176 u177 u178 u179 u180 u181 u182 u183 u184) a' w' → K a' w') :
    Code.wp Try.prog ((Try.f3.body.bind (blkN 2)).getD .skip) (Exit.then K Q) ⟨#[.bool u, u1, u2, u3, u4, .pointer (some ⟨p, 0, none⟩), .slice am nm cm, u7, .pointer (some ⟨Bs, 0, none⟩), .slice ia nids ic, .int .i64 at_, u11, u12, u13, u14, u15, u16, u17, u18, u19, u20, u21, u22, u23, u24, u25, u26, u27, u28, u29, u30, u31, u32, u33, u34, u35, u36, u37, u38, u39, u40, u41, u42, u43, u44, u45, u46, u47, u48, u49, u50, u51, u52, u53, u54, u55, u56, u57, u58, u59, u60, u61, u62, u63, u64, u65, u66, u67, u68, u69, u70, u71, u72, u73, u74, u75, u76, u77, u78, u79, u80, u81, u82, u83, u84, u85, u86, u87, u88, u89, u90, u91, u92, u93, u94, u95, u96, u97, u98, u99, u100, u101, u102, u103, u104, u105, u106, u107, u108, u109, u110, u111, u112, u113, u114, u115, u116, u117, u118, u119, u120, u121, u122, u123, u124, u125, u126, u127, u128, u129, u130, u131, u132, u133, u134, u135, u136, u137, u138, u139, u140, u141, u142, u143, u144, u145, u146, u147, u148, u149, u150, u151, u152, u153, u154, u155, u156, u157, u158, u159, u160, u161, u162, u163, u164, u165, u166, u167, u168, u169, u170, u171, u172, u173, u174, u175, u176, u177, u178, u179, u180, u181, u182, u183, u184], []⟩ W := by
  have P := hide P0
  have HC := hide (erase_not p O u (idsF es) es.length c sa sn sc key id W P0.hi.idx P0.gk (P0.hv.up P0.hi.up) (fun h => hno (mem_idsF.1 h)))
  have b0 := P0.b0
  have b1 := P0.b1
  have b2 := P0.b2
  have t2 : decide (wh ≤ 3) = false := decide_eq_false hwh
  subst hat
  unfold HpJ at hK
  clear P0 hno hwh
  conv => arg 2; whnf
  go_wp2_with fail
  refine HC.out.mono ?_
  rintro _ w1 ⟨rfl, hu1⟩
  have HU1 := hide hu1
  clear hu1 b0 b1 b2
  dsimp only
  go_wp2
  refine Met.intro ?_
  (repeat apply Exists.intro)
  exact ⟨P.out.same HU1.out, rfl⟩
theorem delE_len {es : List EN} {q : Nat} (h : q < es.length) : (delE es q).length + 1 = es.length := by unfold delE; simp; omega
theorem entR_del {X : Nat → Prop} {w : World} {k : List ET} {es : List EN} (h : EntR X w k es) (q : Nat) : EntR X w (k.take q ++ k.drop (q + 1)) (delE es q) := by
  refine ⟨by unfold delE; simp [h.1], fun i x e h1 h2 => ?_⟩
  unfold delE at h2
  by_cases hq : i < q
  · by_cases hk : i < k.length
    · rw [List.getElem?_append_left (by rw [List.length_take]; omega), List.getElem?_take_of_lt hq] at h1
      rw [List.getElem?_append_left (by rw [List.length_take, ← h.1]; omega), List.getElem?_take_of_lt hq] at h2
      exact h.2 i x e h1 h2
    · have : i < (k.take q ++ k.drop (q + 1)).length := (List.getElem?_eq_some_iff.1 h1).1
      simp at this
      omega
  · by_cases hk : q < k.length
    · have e1 : (k.take q).length = q := by rw [List.length_take]; omega
      have e2 : (es.take q).length = q := by rw [List.length_take, ← h.1]; omega
      rw [List.getElem?_append_right (by omega), e1, List.getElem?_drop] at h1
      rw [List.getElem?_append_right (by omega), e2, List.getElem?_drop] at h2
      exact h.2 _ x e h1 h2
    · have : i < (k.take q ++ k.drop (q + 1)).length := (List.getElem?_eq_some_iff.1 h1).1
      simp at this
      omega
set_option maxHeartbeats 16000000 in
theorem hp_era (q : Nat) (P0 : HpAt p Bs w W u es am nm cm k c O wh sa sn sc key id) (hwh : ¬ wh ≤ 3) (hat : at_ = (q : Int)) (hq : es[q]? = some (key, id)) (u1 u2 u3 u4 u7 u11 u12 u13 u14 u15 u16 u17 u18 u19 u20 u21 u22 u23 u24 u25 u26 u27 u28 u29 u30 u31 u32 u33 u34 u35 u36 u37 u38 u39 u40 u41 u42 u43 u44 u45 u46 u47 u48 u49 u50 u51 u52 u53 u54 u55 u56 u57 u58 u59 u60 u61 u62 u63 u64 u65 u66 u67 u68 u69 u70 u71 u72 u73 u74 u75 u76 u77 u78 u79 u80 u81 u82 u83 u84 u85 u86 u87 u88 u89 u90 u91 u92 u93 u94 u95 u96 u97 u98 u99 u100 u101 u102 u103 u104 u105 u106 u107 u108 u109 u110 u111 u112 u113 u114 u115 u116 u117 u118 u119 u120 u121 u122 u123 u124 u125 u126 u127 u128 u129 u130 u131 u132 u133 u134 u135 u136 u137 u138 u139 u140 u141 u142 u143 u144 u145 u146 u147 u148 u149 u150 u151 u152 u153 u154 u155 u156 u157 u158 u159 u160 u161 u162 u163 u164 u165 u166 u167 u168 u169 u170 u171 u172 u173 u174 u175 u176 u177 u178 u179 u180 u181 u182 u183 u184 : Value) (K : Act → World → Prop) (Q : Exit → Act → World → Prop)
    (hK : ∀ a' w', Met (HpJ p Bs w u es.length c nids ic ia at_ sa sn sc id u1 u2 u3 u4 u7 u14 u15 u16 u17 u18 u19 u20 u21 u22 u23 u24 u25 u26 u27 u28 u29 u30 u31 u32 u33 u34 u35 u36 u37 u38 u39 u40 u41 u42 u43 u144 u145 u146 u147 u148 u149 u150 u151 u152 u153 u154 u155 u156 u157 u158 u159 u160 u161 u162 u163 u164 u165 u166 u167 u168 u169 u170 u171 u172 u173 u174 u175 u176 u177 u178 u179 u180 u181 u182 u183 u184) a' w' → K a' w') :
    Code.wp Try.prog ((Try.f3.body.bind (blkN 2)).getD .skip) (Exit.then K Q) ⟨#[.bool u, u1, u2, u3, u4, .pointer (some ⟨p, 0, none⟩), .slice am nm cm, u7, .pointer (some ⟨Bs, 0, none⟩), .slice ia nids ic, .int .i64 at_, u11, u12, u13, u14, u15, u16, u17, u18, u19, u20, u21, u22, u23, u24, u25, u26, u27, u28, u29, u30, u31, u32, u33, u34, u35, u36, u37, u38, u39, u40, u41, u42, u43, u44, u45, u46, u47, u48, u49, u50, u51, u52, u53, u54, u55, u56, u57, u58, u59, u60, u61, u62, u63, u64, u65, u66, u67, u68, u69, u70, u71, u72, u73, u74, u75, u76, u77, u78, u79, u80, u81, u82, u83, u84, u85, u86, u87, u88, u89, u90, u91, u92, u93, u94, u95, u96, u97, u98, u99, u100, u101, u102, u103, u104, u105, u106, u107, u108, u109, u110, u111, u112, u113, u114, u115, u116, u117, u118, u119, u120, u121, u122, u123, u124, u125, u126, u127, u128, u129, u130, u131, u132, u133, u134, u135, u136, u137, u138, u139, u140, u141, u142, u143, u144, u145, u146, u147, u148, u149, u150, u151, u152, u153, u154, u155, u156, u157, u158, u159, u160, u161, u162, u163, u164, u165, u166, u167, u168, u169, u170, u171, u172, u173, u174, u175, u176, u177, u178, u179, u180, u181, u182, u183, u184], []⟩ W := by
  have P := hide P0
  obtain ⟨hqe, -⟩ := List.getElem?_eq_some_iff.1 hq
  have hqk : q < nm := by rw [P0.len, P0.hi.rel.1]; exact hqe
  have HQ := hide hq
  have HQE := hide hqe
  have b0 := P0.b0
  have b1 := P0.b1
  have b2 := P0.b2
  have t2 : decide (wh ≤ 3) = false := decide_eq_false hwh
  have j0 : (0 : Int) ≤ (q : Int) := by omega
  have jd : decide ((q : Int) ≥ 0) = true := decide_eq_true (by omega)
  have jn : (q : Int) ≤ (nm : Int) := by omega
  have hjc : q ≤ cm := by have := P0.lec; omega
  have jc : (q : Int) ≤ (cm : Int) := by omega
  have hnc : (nm : Int) ≤ (cm : Int) := by have := P0.lec; omega
  have j1 : (0 : Int) ≤ (q : Int) + 1 := by omega
  have j2 : (q : Int) + 1 ≤ (nm : Int) := by omega
  have j3 : (q : Int) + 1 ≤ (cm : Int) := by omega
  have jt : ((q : Int) + 1).toNat = q + 1 := by omega
  have hn80 : nm ≤ 80 := by rw [P0.len, P0.hi.rel.1]; have := P0.fe; omega
  have e1 : IntKind.i64.wrap ((q : Int) + 1) = (q : Int) + 1 := by rw [IntKind.wrap_i64]; omega
  have HRK : Hid (RdP eC (fun _ => False) W (.slice am nm cm) k) := hide (OwnP.rd (e := 39) (cs := eC) P0.hi.own (fun _ _ h => h))
  have HRT := hide (HRK.out.take (m := q) (by omega))
  have HRD := hide (HRK.out.drop (m := q + 1) (by omega))
  have HTL : Hid ((k.take q).length ≤ 80 ∧ (k.drop (q + 1)).length ≤ 80) := ⟨by rw [List.length_take]; have := P0.len; omega, by rw [List.length_drop]; have := P0.len; omega⟩
  subst hat
  unfold HpJ at hK
  clear P0 hwh hq hqe HRK
  conv => arg 2; whnf
  go_upto_region 17 with fail
  refine wp_region_noPanic ?_
  have HSK : Hid (∀ w', Up W w' → Up W w') := fun w' hu => hu
  go_region_held3 (fun w' => Up W w') (exact HSK.out _ (by repeat' (with_reducible first | assumption | exact Up.refl _ | apply Up.alloc | apply Up.drew)))
    (first
      | (refine step_append_rowP elemEN (W := W) rfl _ _ rfl (.slice none 0 0) _ [] (k.take q) rfl rfl (by repeat' (with_reducible first | assumption | exact Up.refl _ | apply Up.alloc | apply Up.drew)) (OwnP.nil _ _ _ _) (RdP.up HRT.out (by repeat' (with_reducible first | assumption | exact Up.refl _ | apply Up.alloc | apply Up.drew))) (by have := HTL.out; simp only [List.length_nil]; omega) ?_; intro v5 w5 ho5 hu5; try rw [List.nil_append] at ho5)
      | (refine step_append_rowP elemEN (W := W) rfl _ _ rfl _ _ (k.take q) (k.drop (q + 1)) rfl rfl (by repeat' (with_reducible first | assumption | exact Up.refl _ | apply Up.alloc | apply Up.drew)) (OwnP.up ho5 (by repeat' (with_reducible first | assumption | exact Up.refl _ | apply Up.alloc | apply Up.drew))) (RdP.up HRD.out (by repeat' (with_reducible first | assumption | exact Up.refl _ | apply Up.alloc | apply Up.drew))) (by have := HTL.out; omega) ?_; intro v6 w6 ho6 hu6))
  all_goals
    obtain ⟨a6, n6, c6, rfl, -, -⟩ := ho6.sliceN
    have HO6 := hide ho6
    have HU6 := hide hu6
    clear ho6 hu6 ho5 hu5
    refine NoPanic.normal ?_
    generalize (if cm = q + 1 then am else Option.map (fun x => x.add ((q + 1) * 2)) am) = zz
    obtain ⟨len, hlen⟩ : ∃ len, es.length = len + 1 := ⟨es.length - 1, by have := HQE.out; omega⟩
    have HLEN := hide hlen
    have HC := hide ((P.out.hi.upto HU6.out).erase sa sn sc key id P.out.gk (P.out.hv.up (P.out.hi.up.trans HU6.out)) (List.mem_of_getElem? HQ.out) hlen (by have := P.out.fe; omega) (by have := P.out.fc; omega))
    have d0 := HU6.out.cell b0
    have d1 := HU6.out.cell b1
    have d2 := HU6.out.cell b2
    clear hlen b0 b1 b2
    go_wp2_with fail
    refine HC.out.mono ?_
    rintro _ w7 ⟨rfl, c', O', hc', hch, hO', hup, hidx, hnew, hown, hap⟩
    have HM : Hid (HpMid p Bs w u es.length c sa sn sc id (.slice a6 n6 c6) w7) := hide (by
      have hs := P.out.hi.up.size
      have hbO : ∀ g, (Value.slice a6 n6 c6).ownBlock = some g → ¬ O g := fun g hg e => by
        have := (HO6.out.lt g hg).1
        have := P.out.hi.idx.1 g e
        omega
      have ho7 : OwnE w7 W.heap.size (.slice a6 n6 c6) (k.take q ++ k.drop (q + 1)) := OwnG.chg HO6.out hch hbO
      have hBs : ¬ O Bs := P.out.nO
      refine ⟨delE es q, k.take q ++ k.drop (q + 1), c', O', ⟨hup, ?_, hnew, delE_ent P.out.hi.ent q, OwnP.base (e := 39) (cs := eC) ho7 hs, entR_del P.out.hi.rel q, fun g hg e => ?_⟩, by omega, by have := delE_len HQE.out; omega, hch.cell (p := ⟨Bs, 1, none⟩) d1 hBs, hch.cell (p := ⟨Bs, 2, none⟩) d2 hBs⟩
      · have e1 : len = (delE es q).length := by have := delE_len HQE.out; have := HLEN.out; omega
        rw [← idsF_del P.out.hi.ent HQ.out, ← e1]
        exact hidx
      · rcases hO' g e with h | h
        · exact hbO g hg h
        · have := (HO6.out.lt g hg).2
          omega)
    clear hc' hch hO' hup hidx hnew hown hap d0 d1 d2
    dsimp only
    go_wp2
    refine Met.intro ?_
    (repeat apply Exists.intro)
    exact ⟨HM.out, rfl⟩
end Go.Proofs.Ytofpakpbbpcalaa

namespace Go.Proofs.Ytofpakpbbpcalaa
open Go.ChangeShapes Go.WideShapes Go.ChangeAt Go.RowKit
set_option linter.unusedVariables false
set_option maxRecDepth 100000
attribute [local go_sem ↓] Go.wp_at_zero Go.wp_at_succ

/-- Where it would stand. -/
structure SpotE (es : List EN) (x : EN) (j : Nat) : Prop where
  le : j ≤ es.length
  lo : ∀ i e, i < j → es[i]? = some e → ltE e x
  at_ : ∀ e, es[j]? = some e → ¬ ltE e x
set_option maxRecDepth 1000000 in
def HlJ (Bs : Nat) (W : World) (es : List EN) (am : Option Addr) (nm cm : Nat) (key : List VT) (id : Int) (u0 u1 u2 u3 u4 u5 u7 u9 u10 u11 u13 u14 u15 u16 u17 u18 u19 u20 u21 u22 u23 u24 u25 u26 u27 u28 u29 u30 u31 u32 u33 u34 u35 u36 u37 u38 u39 u40 u41 u42 u43 u44 u45 u46 u47 u48 u49 u50 u51 u52 u53 u54 u55 u56 u57 u58 u59 u60 u61 u62 u63 u64 u65 u66 u67 u68 u69 u70 u71 u72 u73 u74 u75 u76 u77 u78 u79 u80 u81 u82 u83 u84 u85 u124 u125 u126 u127 u128 u129 u130 u131 u132 u133 u134 u135 u136 u137 u138 u139 u140 u141 u142 u143 u144 u145 u146 u147 u148 u149 u150 u151 u152 u153 u154 u155 u156 u157 u158 u159 u160 u161 u162 u163 u164 u165 u166 u167 u168 u169 u170 u171 u172 u173 u174 u175 u176 u177 u178 u179 u180 u181 u182 u183 u184 : Value) (a : Act) (wx : World) : Prop :=
  ∃ v12 v86 v87 v88 v89 v90 v91 v92 v93 v94 v95 v96 v97 v98 v99 v100 v101 v102 v103 v104 v105 v106 v107 v108 v109 v110 v111 v112 v113 v114 v115 v116 v117 v118 v119 v120 v121 v122 v123 : Value, (∃ j : Nat, v12 = .int .i64 j ∧ SpotE es (key, id) j ∧ Up W wx) ∧ a = ⟨#[u0, u1, u2, u3, u4, u5, .slice am nm cm, u7, .pointer (some ⟨Bs, 0, none⟩), u9, u10, u11, v12, u13, u14, u15, u16, u17, u18, u19, u20, u21, u22, u23, u24, u25, u26, u27, u28, u29, u30, u31, u32, u33, u34, u35, u36, u37, u38, u39, u40, u41, u42, u43, u44, u45, u46, u47, u48, u49, u50, u51, u52, u53, u54, u55, u56, u57, u58, u59, u60, u61, u62, u63, u64, u65, u66, u67, u68, u69, u70, u71, u72, u73, u74, u75, u76, u77, u78, u79, u80, u81, u82, u83, u84, u85, v86, v87, v88, v89, v90, v91, v92, v93, v94, v95, v96, v97, v98, v99, v100, v101, v102, v103, v104, v105, v106, v107, v108, v109, v110, v111, v112, v113, v114, v115, v116, v117, v118, v119, v120, v121, v122, v123, u124, u125, u126, u127, u128, u129, u130, u131, u132, u133, u134, u135, u136, u137, u138, u139, u140, u141, u142, u143, u144, u145, u146, u147, u148, u149, u150, u151, u152, u153, u154, u155, u156, u157, u158, u159, u160, u161, u162, u163, u164, u165, u166, u167, u168, u169, u170, u171, u172, u173, u174, u175, u176, u177, u178, u179, u180, u181, u182, u183, u184], []⟩
variable {Bs : Nat} {W : World} {es : List EN} {am : Option Addr} {nm cm : Nat} {k : List ET} {sa : Option Addr} {sn sc : Nat} {key : List VT} {id : Int} {X Y : Nat → Prop} {w : World}
set_option maxHeartbeats 16000000 in
theorem hp_loop (HRD : Hid (RdP eC X W (.slice am nm cm) k)) (HER : Hid (EntR Y W k es)) (HNM : Hid (nm = k.length)) (hn80 : nm ≤ 80) (HB : Hid (∀ w', Up W w' → w'.cell? ⟨Bs, 1, none⟩ = some (.slice sa sn sc) ∧ w'.cell? ⟨Bs, 2, none⟩ = some (.int .i64 id))) (HV : Hid (Vals W sa sn key)) (hsn : sn ≤ maxLen)
    (u0 u1 u2 u3 u4 u5 u7 u9 u10 u11 u13 u14 u15 u16 u17 u18 u19 u20 u21 u22 u23 u24 u25 u26 u27 u28 u29 u30 u31 u32 u33 u34 u35 u36 u37 u38 u39 u40 u41 u42 u43 u44 u45 u46 u47 u48 u49 u50 u51 u52 u53 u54 u55 u56 u57 u58 u59 u60 u61 u62 u63 u64 u65 u66 u67 u68 u69 u70 u71 u72 u73 u74 u75 u76 u77 u78 u79 u80 u81 u82 u83 u84 u85 u86 u87 u88 u89 u90 u91 u92 u93 u94 u95 u96 u97 u98 u99 u100 u101 u102 u103 u104 u105 u106 u107 u108 u109 u110 u111 u112 u113 u114 u115 u116 u117 u118 u119 u120 u121 u122 u123 u124 u125 u126 u127 u128 u129 u130 u131 u132 u133 u134 u135 u136 u137 u138 u139 u140 u141 u142 u143 u144 u145 u146 u147 u148 u149 u150 u151 u152 u153 u154 u155 u156 u157 u158 u159 u160 u161 u162 u163 u164 u165 u166 u167 u168 u169 u170 u171 u172 u173 u174 u175 u176 u177 u178 u179 u180 u181 u182 u183 u184 : Value) (K : Act → World → Prop) (Q : Exit → Act → World → Prop)
    (hK : ∀ a' w', Met (HlJ Bs W es am nm cm key id u0 u1 u2 u3 u4 u5 u7 u9 u10 u11 u13 u14 u15 u16 u17 u18 u19 u20 u21 u22 u23 u24 u25 u26 u27 u28 u29 u30 u31 u32 u33 u34 u35 u36 u37 u38 u39 u40 u41 u42 u43 u44 u45 u46 u47 u48 u49 u50 u51 u52 u53 u54 u55 u56 u57 u58 u59 u60 u61 u62 u63 u64 u65 u66 u67 u68 u69 u70 u71 u72 u73 u74 u75 u76 u77 u78 u79 u80 u81 u82 u83 u84 u85 u124 u125 u126 u127 u128 u129 u130 u131 u132 u133 u134 u135 u136 u137 u138 u139 u140 u141 u142 u143 u144 u145 u146 u147 u148 u149 u150 u151 u152 u153 u154 u155 u156 u157 u158 u159 u160 u161 u162 u163 u164 u165 u166 u167 u168 u169 u170 u171 u172 u173 u174 u175 u176 u177 u178 u179 u180 u181 u182 u183 u184) a' w' → K a' w') :
    Code.wp Try.prog ((Try.f3.body.bind (blkN 3)).getD .skip) (Exit.then K Q) ⟨#[u0, u1, u2, u3, u4, u5, .slice am nm cm, u7, .pointer (some ⟨Bs, 0, none⟩), u9, u10, u11, .int .i64 0, u13, u14, u15, u16, u17, u18, u19, u20, u21, u22, u23, u24, u25, u26, u27, u28, u29, u30, u31, u32, u33, u34, u35, u36, u37, u38, u39, u40, u41, u42, u43, u44, u45, u46, u47, u48, u49, u50, u51, u52, u53, u54, u55, u56, u57, u58, u59, u60, u61, u62, u63, u64, u65, u66, u67, u68, u69, u70, u71, u72, u73, u74, u75, u76, u77, u78, u79, u80, u81, u82, u83, u84, u85, u86, u87, u88, u89, u90, u91, u92, u93, u94, u95, u96, u97, u98, u99, u100, u101, u102, u103, u104, u105, u106, u107, u108, u109, u110, u111, u112, u113, u114, u115, u116, u117, u118, u119, u120, u121, u122, u123, u124, u125, u126, u127, u128, u129, u130, u131, u132, u133, u134, u135, u136, u137, u138, u139, u140, u141, u142, u143, u144, u145, u146, u147, u148, u149, u150, u151, u152, u153, u154, u155, u156, u157, u158, u159, u160, u161, u162, u163, u164, u165, u166, u167, u168, u169, u170, u171, u172, u173, u174, u175, u176, u177, u178, u179, u180, u181, u182, u183, u184], []⟩ W := by
  unfold HlJ at hK
  have HEL : Hid (nm = es.length) := hide (by rw [HNM.out]; exact HER.out.1)
  conv => arg 2; whnf
  go_wp2_with fail
  go_loopw [12] (fun v12 wr => ∃ j : Nat, j ≤ nm ∧ v12 = .int .i64 j ∧ Hid (Up W wr) ∧ Hid (∀ i e, i < j → es[i]? = some e → ltE e (key, id))) (fun v12 _ => nm - (intOf v12).toNat)
  case atStart => exact ⟨0, Nat.zero_le _, rfl, hide (Up.refl _), hide (fun i e h => absurd h (Nat.not_lt_zero _))⟩
  case round =>
    obtain ⟨j, hj, rfl, hU, hS⟩ := hrel
    have j0 : (0 : Int) ≤ (j : Int) := by omega
    obtain ⟨d1, d2⟩ := HB.out _ hU.out
    obtain ⟨b, hb⟩ : ∃ b : Bool, b = true ↔ ∃ e, es[j]? = some e ∧ ltE e (key, id) := by
      by_cases h : ∃ e, es[j]? = some e ∧ ltE e (key, id)
      · exact ⟨true, fun _ => h, fun _ => rfl⟩
      · exact ⟨false, fun e => (by cases e), fun e => absurd e h⟩
    have HBB := hide hb
    clear hb
    go_upto_region 30 with fail
    go_cut [121] from 86 to 123 (fun v wx => v = .bool b ∧ Up W wx)
    case first =>
      have ek0 : IntKind.i64.wrap (j : Int) = (j : Int) := by rw [IntKind.wrap_i64]; omega
      by_cases hjn : j < nm
      · have hjk : j < k.length := by rw [← HNM.out]; exact hjn
        have hje : j < es.length := by rw [← HEL.out]; exact hjn
        obtain ⟨g, o, rfl, hc⟩ := (HRD.out.up hU.out).get hjk
        have y0 := hc 0 _ rfl
        have y1 := hc 1 _ rfl
        rw [Nat.add_zero] at y0
        rw [← Nat.add_assoc] at y1
        have hid := HER.out.2 j k[j] es[j] (List.getElem?_eq_getElem hjk) (List.getElem?_eq_getElem hje)
        have HEE : Hid (es[j]? = some es[j]) := hide (List.getElem?_eq_getElem hje)
        generalize k[j] = x at y0 y1 hid
        generalize es[j] = e at hid HEE
        obtain ⟨xa, xn, xc, xi⟩ := x
        obtain ⟨ke, ei⟩ := e
        obtain ⟨hid, hxc, hxm, hxv⟩ := hid
        simp only at y0 y1 hid hxc hxm hxv
        subst hid
        have j1 : (j : Int) < (nm : Int) := by omega
        have j1' : decide ((j : Int) < (nm : Int)) = true := decide_eq_true j1
        obtain ⟨r, hr⟩ : ∃ r, r = rowsV ke key := ⟨_, rfl⟩
        have hcm : Hid (∀ w', Up wr w' → Calls Try.prog 13 #[.slice xa xn xc, .slice sa sn sc] w' fun e w'' => e = .returned (.int .i64 r) ∧ Up w' w'') := hide (fun w' hw => by rw [hr]; exact rvrows_calls xa sa xn sn xc sc ke key w' (by omega) hsn (hxv.1.up (hU.out.trans hw)) (HV.out.up (hU.out.trans hw)))
        have HBI : Hid (b = true ↔ (r < 0 ∨ (r = 0 ∧ xi < id))) := hide (by
          have hz : r = 0 ↔ ke = key := by
            rw [hr]
            constructor
            · exact fun h => rowsV_zero ke key (vals_fits hxv.1) (vals_fits HV.out) h
            · rintro rfl; exact rowsV_self _
          constructor
          · intro hb
            obtain ⟨e, h1, h2⟩ := HBB.out.1 hb
            rw [HEE.out] at h1
            cases h1
            rcases h2 with h2 | ⟨h2, h3⟩
            · left; rw [hr]; exact h2
            · right; exact ⟨hz.2 h2, h3⟩
          · rintro (h | ⟨h, h3⟩)
            · exact HBB.out.2 ⟨_, HEE.out, .inl (by rw [← hr]; exact h)⟩
            · exact HBB.out.2 ⟨_, HEE.out, .inr ⟨hz.1 h, h3⟩⟩)
        clear hr hxv hc hjk hje hxc hxm
        by_cases q1 : r < 0
        · obtain rfl : b = true := HBI.out.2 (.inl q1)
          have t3 : decide (r < 0) = true := decide_eq_true q1
          refine region_up (by kernel_rfl) (by kernel_rfl) ?_
          repeat (first
            | go_big_quiet_skip
            | (go_big_quiet_want; go_big_quiet_op; go_big_quiet_on)
            | (go_big_quiet_want
               apply Exists.intro
               refine ⟨fun w' hw' => ?_, ?_⟩
               (skip
                have y0 := hw'.cell y0
                have y1 := hw'.cell y1
                have d1 := hw'.cell d1
                have d2 := hw'.cell d2
                go_simp
                first
                | done
                | with_reducible rfl
                | (go_at_call 13; exact quiet_call hw' (hcm.out w' hw')))
               go_big_quiet_on
               try simp only [Act.put, List.setIfInBounds_toArray, List.set_cons_zero, List.set_cons_succ]))
          refine wpQuiet_nil ?_
          intro w6 hw6
          go_wp2
          go_meet
          exact ⟨rfl, hU.out.trans hw6⟩
        · have t3 : decide (r < 0) = false := decide_eq_false q1
          by_cases q2 : r = 0
          · have t4 : (r == 0) = true := by rw [q2]; rfl
            by_cases q3 : xi < id
            · obtain rfl : b = true := HBI.out.2 (.inr ⟨q2, q3⟩)
              have t5 : decide (xi < id) = true := decide_eq_true q3
              clear q2
              refine region_up (by kernel_rfl) (by kernel_rfl) ?_
              repeat (first
                | go_big_quiet_skip
                | (go_big_quiet_want; go_big_quiet_op; go_big_quiet_on)
                | (go_big_quiet_want
                   apply Exists.intro
                   refine ⟨fun w' hw' => ?_, ?_⟩
                   (skip
                    have y0 := hw'.cell y0
                    have y1 := hw'.cell y1
                    have d1 := hw'.cell d1
                    have d2 := hw'.cell d2
                    go_simp
                    first
                    | done
                    | with_reducible rfl
                    | (go_at_call 13; exact quiet_call hw' (hcm.out w' hw')))
                   go_big_quiet_on
                   try simp only [Act.put, List.setIfInBounds_toArray, List.set_cons_zero, List.set_cons_succ]))
              refine wpQuiet_nil ?_
              intro w6 hw6
              go_wp2
              go_meet
              exact ⟨rfl, hU.out.trans hw6⟩
            · obtain rfl : b = false := by
                cases b
                · rfl
                · rcases HBI.out.1 rfl with h | ⟨_, h⟩
                  · exact absurd h q1
                  · exact absurd h q3
              have t5 : decide (xi < id) = false := decide_eq_false q3
              clear q2
              refine region_up (by kernel_rfl) (by kernel_rfl) ?_
              repeat (first
                | go_big_quiet_skip
                | (go_big_quiet_want; go_big_quiet_op; go_big_quiet_on)
                | (go_big_quiet_want
                   apply Exists.intro
                   refine ⟨fun w' hw' => ?_, ?_⟩
                   (skip
                    have y0 := hw'.cell y0
                    have y1 := hw'.cell y1
                    have d1 := hw'.cell d1
                    have d2 := hw'.cell d2
                    go_simp
                    first
                    | done
                    | with_reducible rfl
                    | (go_at_call 13; exact quiet_call hw' (hcm.out w' hw')))
                   go_big_quiet_on
                   try simp only [Act.put, List.setIfInBounds_toArray, List.set_cons_zero, List.set_cons_succ]))
              refine wpQuiet_nil ?_
              intro w6 hw6
              go_wp2
              go_meet
              exact ⟨rfl, hU.out.trans hw6⟩
          · have t4 : (r == 0) = false := by simp; exact q2
            obtain rfl : b = false := by
              cases b
              · rfl
              · rcases HBI.out.1 rfl with h | ⟨h, _⟩
                · exact absurd h q1
                · exact absurd h q2
            refine region_up (by kernel_rfl) (by kernel_rfl) ?_
            repeat (first
              | go_big_quiet_skip
              | (go_big_quiet_want; go_big_quiet_op; go_big_quiet_on)
              | (go_big_quiet_want
                 apply Exists.intro
                 refine ⟨fun w' hw' => ?_, ?_⟩
                 (skip
                  have y0 := hw'.cell y0
                  have y1 := hw'.cell y1
                  have d1 := hw'.cell d1
                  have d2 := hw'.cell d2
                  go_simp
                  first
                  | done
                  | with_reducible rfl
                  | (go_at_call 13; exact quiet_call hw' (hcm.out w' hw')))
                 go_big_quiet_on
                 try simp only [Act.put, List.setIfInBounds_toArray, List.set_cons_zero, List.set_cons_succ]))
            refine wpQuiet_nil ?_
            intro w6 hw6
            go_wp2
            go_meet
            exact ⟨rfl, hU.out.trans hw6⟩
      · obtain rfl : b = false := by
          cases b
          · rfl
          · obtain ⟨e, h1, _⟩ := HBB.out.1 rfl
            have := (List.getElem?_eq_some_iff.1 h1).1
            have := HEL.out
            omega
        have j1 : ¬ (j : Int) < (nm : Int) := by omega
        have j1' : decide ((j : Int) < (nm : Int)) = false := decide_eq_false j1
        go_quiet (fail)
        go_wp2
        go_meet
        exact ⟨rfl, hU.out.trans (by first | exact (Up.refl _).drewN _ | exact (Up.refl _).drew)⟩
    case rest =>
    obtain ⟨rfl, hUc⟩ := hcut
    have HUC := hide hUc
    clear hUc hU d1 d2
    cases b
    · have HSP : Hid (SpotE es (key, id) j) := hide ⟨by rw [← HEL.out]; exact hj, hS.out, fun e h h' => by have := HBB.out.2 ⟨e, h, h'⟩; cases this⟩
      clear HBB hS
      go_wp2
      refine Met.intro ?_
      (repeat apply Exists.intro)
      exact ⟨⟨j, rfl, HSP.out, HUC.out⟩, rfl⟩
    · have ek1 : wrap64 ((j : Int) + 1) = (j : Int) + 1 := by rw [wrap64]; omega
      have HSN : Hid (j < nm ∧ ∀ i e, i < j + 1 → es[i]? = some e → ltE e (key, id)) := hide (by
        obtain ⟨e0, h1, h2⟩ := HBB.out.1 rfl
        have h3 := (List.getElem?_eq_some_iff.1 h1).1
        refine ⟨by rw [HEL.out]; exact h3, fun i e hi he => ?_⟩
        rcases Nat.lt_or_ge i j with h4 | h4
        · exact hS.out i e h4 he
        · obtain rfl : i = j := by omega
          rw [h1] at he
          cases he
          exact h2)
      clear HBB hS
      go_wp2
      go_roundw
      case rel => exact ⟨j + 1, HSN.out.1, by simp, HUC, hide HSN.out.2⟩
      case measure => have := HSN.out.1; simp [intOf]; omega
end Go.Proofs.Ytofpakpbbpcalaa

namespace Go.Proofs.Ytofpakpbbpcalaa
open Go.ChangeShapes Go.WideShapes Go.ChangeAt Go.RowKit

theorem flat_take {α : Type} {k : Nat} {cs : α → List Value} (hk : ∀ v, (cs v).length = k) : ∀ (l : List α) (m : Nat), (l.take m).flatMap cs = (l.flatMap cs).take (m * k)
  | [], m => by simp
  | x :: l, 0 => by simp
  | x :: l, m + 1 => by
    rw [List.take_succ_cons, List.flatMap_cons, List.flatMap_cons, flat_take hk l m, List.take_append, hk]
    rw [show (m + 1) * k - k = m * k by rw [Nat.add_mul]; omega, List.take_of_length_le (l := cs x) (by rw [hk, Nat.add_mul]; omega)]
theorem flat_drop {α : Type} {k : Nat} {cs : α → List Value} (hk : ∀ v, (cs v).length = k) : ∀ (l : List α) (m : Nat), (l.drop m).flatMap cs = (l.flatMap cs).drop (m * k)
  | [], m => by simp
  | x :: l, 0 => by simp
  | x :: l, m + 1 => by
    rw [List.drop_succ_cons, List.flatMap_cons, flat_drop hk l m, List.drop_append, hk]
    rw [show (m + 1) * k - k = m * k by rw [Nat.add_mul]; omega, show (cs x).drop ((m + 1) * k) = [] from List.drop_eq_nil_of_le (by rw [hk, Nat.add_mul]; omega), List.nil_append]

theorem run_copy_rowK {P : Program} (w : World) (dT ty elem : TypeId) (k g o dLen dCap : Nat) (a : Addr) (sLen sCap : Nat) (cur : Array Value) (t : TypeId) (cs : List Value)
    (hu : P.underlying dT = some (.slice elem)) (hs : (P.info? elem).map (·.size) = some k)
    (hg : w.heap[g]? = some (.cells cur t (0, 0))) (hn : cs.length = Nat.min sLen dLen * k)
    (hsrc : ∀ j v, cs[j]? = some v → w.cell? (a.add j) = some v) (hfit : o + cs.length ≤ cur.size) (h1 : ∀ v ∈ cs, v.oneCell' = true) :
    (Builtin.copy_ #[dT, dT] ty #[.slice (some ⟨g, o, none⟩) dLen dCap, .slice (some a) sLen sCap]).run P w =
      .ok (goInt (Nat.min sLen dLen)) (w.setRow g (cur.toList.take o ++ cs ++ cur.toList.drop (o + cs.length)).toArray) := by
  have hl := run_loadCells_list (P := P) w a cs hsrc
  have hst := run_storeCells_at P g o t cs 0 cur w hg (by simpa using hfit) h1
  cases hq : P.info? elem with
  | none => simp [hq] at hs
  | some i =>
    have hi : i.size = k := by simpa [hq] using hs
    simp [Builtin.copy_, run_underlying hu, Builtin.lenOf, Builtin.firstCells, sizeOf, typeInfo, hq, hi, ← hn, hl, hst]
theorem run_copy_noneK {P : Program} (w : World) (dT ty elem : TypeId) (k : Nat) (dp sp : Option Addr) (dCap sLen sCap : Nat)
    (hu : P.underlying dT = some (.slice elem)) (hs : (P.info? elem).map (·.size) = some k) :
    (Builtin.copy_ #[dT, dT] ty #[.slice dp 0 dCap, .slice sp sLen sCap]).run P w = .ok (goInt 0) w := by
  cases hq : P.info? elem with
  | none => simp [hq] at hs
  | some i =>
    have hl : ∀ a : Addr, (loadCells a 0).run P w = .ok #[] w := fun a => run_loadCells_list (P := P) w a [] (fun j v hv => by cases hv)
    cases dp <;> cases sp <;> simp [Builtin.copy_, run_underlying hu, Builtin.lenOf, Builtin.firstCells, sizeOf, typeInfo, hq, hl, storeCells]

/-- What stands from j on is copied one further. -/
def shiftL {α : Type} (l : List α) (j : Nat) : List α := l.take (j + 1) ++ (l.drop j).take (l.length - (j + 1))
theorem shiftL_length {α : Type} (l : List α) (j : Nat) (hj : j < l.length) : (shiftL l j).length = l.length := by
  unfold shiftL
  simp
  omega
theorem run_copy_shift {α : Type} {cs : α → List Value} {P : Program} {t e : TypeId} {k : Nat} (ht : P.underlying t = some (.slice e)) (hz : (P.info? e).map (·.size) = some k) (hk : ∀ v, (cs v).length = k) (hone : ∀ v, ∀ u ∈ cs v, u.oneCell' = true)
    {w : World} (base : Nat) (ty : TypeId) (dp sp : Option Addr) (dLen dCap sLen sCap : Nat)
    (g cap j : Nat) (l : List α) (hown : OwnG e k cs w base (.slice (some ⟨g, 0, none⟩) l.length cap) l) (hj : j < l.length) (hdl : dLen = l.length - (j + 1)) (hsl : sLen = l.length - j) (hdp : 0 < dLen → dp = some ⟨g, (j + 1) * k, none⟩) (hsp : 0 < dLen → sp = some ⟨g, j * k, none⟩) :
    ∃ w', (Builtin.copy_ #[t, t] ty #[.slice dp dLen dCap, .slice sp sLen sCap]).run P w = .ok (goInt dLen) w' ∧ OwnG e k cs w' base (.slice (some ⟨g, 0, none⟩) l.length cap) (shiftL l j) ∧ w.grownBy w' (some g) := by
  by_cases h0 : dLen = 0
  · subst h0
    refine ⟨w, run_copy_noneK (P := P) w t ty e k dp sp dCap sLen sCap ht hz, ?_, ⟨rfl, rfl, rfl, Nat.le_refl _, fun _ _ _ => rfl⟩⟩
    have e1 : shiftL l j = l := by
      unfold shiftL
      rw [← hdl, List.take_zero, List.append_nil, List.take_of_length_le (by omega)]
    rw [e1]
    exact hown
  · obtain rfl := hdp (by omega)
    obtain rfl := hsp (by omega)
    have hown0 := hown
    rcases hown.2 with ⟨h1, _⟩ | ⟨g', cap', cur, hv, hb, hg, h2, h3, h4, h5⟩
    · cases h1
    · cases hv
      obtain ⟨C, hC⟩ : ∃ C, C = ((l.drop j).take (l.length - (j + 1))).flatMap cs := ⟨_, rfl⟩
      have hCl : C.length = (l.length - (j + 1)) * k := by
        rw [hC, flatG_length hk]
        congr 1
        simp
        omega
      have hmin : Nat.min sLen dLen = l.length - (j + 1) := by rw [hdl, hsl]; show min _ _ = _; omega
      have hmul : (j + 1) * k + (l.length - (j + 1)) * k = l.length * k := by rw [← Nat.add_mul]; congr 1; omega
      have hcapk : l.length * k ≤ cap * k := Nat.mul_le_mul_right k h2
      have hrun := run_copy_rowK (P := P) w t ty e k g ((j + 1) * k) dLen dCap ⟨g, j * k, none⟩ sLen sCap cur e C ht hz hg (by rw [hCl, hmin]) (fun q v hq => by
          have hqk : q < C.length := by
            rcases Nat.lt_or_ge q C.length with h' | h'
            · exact h'
            · rw [List.getElem?_eq_none h'] at hq; cases hq
          have hjk : j * k + q < l.length * k := by
            have : (j + 1) * k = j * k + k := by rw [Nat.add_mul]; omega
            omega
          rw [show (⟨g, j * k, none⟩ : Addr).add q = ⟨g, j * k + q, none⟩ by unfold Addr.add; split <;> simp_all]
          rw [World.ownsRow.cellAt hown0 (j * k + q) hjk]
          rw [hC, flat_take hk, flat_drop hk, List.getElem?_take, List.getElem?_drop] at hq
          split at hq
          · exact hq
          · cases hq) (by rw [hCl]; omega) (fun v hv => by
          rw [hC] at hv
          obtain ⟨x, _, hx⟩ := List.mem_flatMap.1 hv
          exact hone x v hx)
      rw [hmin, ← hdl] at hrun
      rw [List.append_assoc] at hrun
      refine ⟨_, hrun, ⟨?_, .inr ⟨g, cap, _, by rw [shiftL_length l j hj], hb, setRow_heap w g cur _ e _ hg, by rw [shiftL_length l j hj]; exact h2, h3, ?_, ?_⟩⟩, ⟨rfl, rfl, rfl, by simp [World.setRow], fun y hy hne => setRow_other w g y _ (by intro e; subst e; exact hne rfl)⟩⟩
      · rw [flatG_length hk, shiftL_length l j hj]
      · simp
        omega
      · rw [shiftL_length l j hj]
        have e1 : (shiftL l j).flatMap cs = (cur.toList.take ((j + 1) * k)) ++ C := by
          unfold shiftL
          rw [List.flatMap_append, flat_take hk, ← h5, List.take_take, ← hC]
          congr 2
          omega
        rw [e1]
        have e2 : (cur.toList.take ((j + 1) * k)).length = (j + 1) * k := by rw [List.length_take]; simp; omega
        rw [← List.append_assoc, List.take_append_of_le_length (by rw [List.length_append, e2, hCl]; omega), List.take_of_length_le (by rw [List.length_append, e2, hCl]; omega)]

/-- A guard: the next operation is this one. -/
theorem step_at {P : Program} {ops : Array Oper} {o : Oper} {a : Act} {w : World} {K : Act → World → Prop} {Q : Exit → Act → World → Prop} {E : Prop} (p : Op) (_ : o.op = p) (h : if Region.wanted o (yielded ops a.tmps) = true then Oper.wp P o a w K Q else E) : if Region.wanted o (yielded ops a.tmps) = true then Oper.wp P o a w K Q else E := h

end Go.Proofs.Ytofpakpbbpcalaa

namespace Go.Proofs.Ytofpakpbbpcalaa
open Go.ChangeShapes Go.WideShapes Go.ChangeAt Go.RowKit
set_option linter.unusedVariables false
set_option maxRecDepth 100000
attribute [local go_sem ↓] Go.wp_at_zero Go.wp_at_succ

variable {p Bs : Nat} {w W : World} {u : Bool} {es : List EN} {am : Option Addr} {nm cm : Nat} {k : List ET} {c : Nat} {O : Nat → Prop} {wh : Int} {sa : Option Addr} {sn sc : Nat} {key : List VT} {id : Int} {ia : Option Addr} {nids ic : Nat} {at_ : Int}
set_option maxHeartbeats 16000000 in
/-- What is there already, or another one with its key. -/
theorem hp_insnot (want : Int) (P0 : HpAt p Bs w W u es am nm cm k c O wh sa sn sc key id) (hwh : wh ≤ 3) (hcs : (want = 72 ∧ (key, id) ∈ es ∧ ∃ q : Nat, at_ = (q : Int)) ∨ (want = 80 ∧ (key, id) ∉ es ∧ at_ = -1 ∧ u = true ∧ idsF es key ≠ [] ∧ 0 < nids)) (u1 u2 u3 u4 u7 u11 u12 u13 u14 u15 u16 u17 u18 u19 u20 u21 u22 u23 u24 u25 u26 u27 u28 u29 u30 u31 u32 u33 u34 u35 u36 u37 u38 u39 u40 u41 u42 u43 u44 u45 u46 u47 u48 u49 u50 u51 u52 u53 u54 u55 u56 u57 u58 u59 u60 u61 u62 u63 u64 u65 u66 u67 u68 u69 u70 u71 u72 u73 u74 u75 u76 u77 u78 u79 u80 u81 u82 u83 u84 u85 u86 u87 u88 u89 u90 u91 u92 u93 u94 u95 u96 u97 u98 u99 u100 u101 u102 u103 u104 u105 u106 u107 u108 u109 u110 u111 u112 u113 u114 u115 u116 u117 u118 u119 u120 u121 u122 u123 u124 u125 u126 u127 u128 u129 u130 u131 u132 u133 u134 u135 u136 u137 u138 u139 u140 u141 u142 u143 u144 u145 u146 u147 u148 u149 u150 u151 u152 u153 u154 u155 u156 u157 u158 u159 u160 u161 u162 u163 u164 u165 u166 u167 u168 u169 u170 u171 u172 u173 u174 u175 u176 u177 u178 u179 u180 u181 u182 u183 u184 : Value) (K : Act → World → Prop) (Q : Exit → Act → World → Prop)
    (hK : ∀ a' w', Met (HpJ p Bs w u es.length c nids ic ia at_ sa sn sc id u1 u2 u3 u4 u7 u14 u15 u16 u17 u18 u19 u20 u21 u22 u23 u24 u25 u26 u27 u28 u29 u30 u31 u32 u33 u34 u35 u36 u37 u38 u39 u40 u41 u42 u43 u144 u145 u146 u147 u148 u149 u150 u151 u152 u153 u154 u155 u156 u157 u158 u159 u160 u161 u162 u163 u164 u165 u166 u167 u168 u169 u170 u171 u172 u173 u174 u175 u176 u177 u178 u179 u180 u181 u182 u183 u184) a' w' → K a' w') :
    Code.wp Try.prog ((Try.f3.body.bind (blkN 2)).getD .skip) (Exit.then K Q) ⟨#[.bool u, u1, u2, u3, u4, .pointer (some ⟨p, 0, none⟩), .slice am nm cm, u7, .pointer (some ⟨Bs, 0, none⟩), .slice ia nids ic, .int .i64 at_, u11, u12, u13, u14, u15, u16, u17, u18, u19, u20, u21, u22, u23, u24, u25, u26, u27, u28, u29, u30, u31, u32, u33, u34, u35, u36, u37, u38, u39, u40, u41, u42, u43, u44, u45, u46, u47, u48, u49, u50, u51, u52, u53, u54, u55, u56, u57, u58, u59, u60, u61, u62, u63, u64, u65, u66, u67, u68, u69, u70, u71, u72, u73, u74, u75, u76, u77, u78, u79, u80, u81, u82, u83, u84, u85, u86, u87, u88, u89, u90, u91, u92, u93, u94, u95, u96, u97, u98, u99, u100, u101, u102, u103, u104, u105, u106, u107, u108, u109, u110, u111, u112, u113, u114, u115, u116, u117, u118, u119, u120, u121, u122, u123, u124, u125, u126, u127, u128, u129, u130, u131, u132, u133, u134, u135, u136, u137, u138, u139, u140, u141, u142, u143, u144, u145, u146, u147, u148, u149, u150, u151, u152, u153, u154, u155, u156, u157, u158, u159, u160, u161, u162, u163, u164, u165, u166, u167, u168, u169, u170, u171, u172, u173, u174, u175, u176, u177, u178, u179, u180, u181, u182, u183, u184], []⟩ W := by
  have P := hide P0
  have HVW : Hid (∀ w', Up W w' → Vals w' sa sn key) := hide (fun w' hu => P0.hv.up (P0.hi.up.trans hu))
  have HIN : Hid (∀ w' ca cc, Up W w' → Vals w' ca sn key → Calls Try.prog 11 #[.pointer (some ⟨p, 0, none⟩), .slice ca sn cc, .int .i64 id] w' fun e w2 => e = .returned (.int .i64 want) ∧ Up w' w2) := hide (fun w' ca cc hu hv => by
    rcases hcs with ⟨rfl, h1, _⟩ | ⟨rfl, h1, _, h2, h3, _⟩
    · have := insert_not p O u (idsF es) es.length c ca sn cc key id w' (P0.hi.idx.up hu) P0.gk hv (.inl (mem_idsF.2 h1))
      rw [if_pos (mem_idsF.2 h1)] at this
      exact this
    · have hni : id ∉ idsF es key := fun h => h1 (mem_idsF.1 h)
      have := insert_not p O u (idsF es) es.length c ca sn cc key id w' (P0.hi.idx.up hu) P0.gk hv (.inr ⟨hni, h3, h2⟩)
      rw [if_neg hni] at this
      exact this)
  have HB : Hid (∀ w', Up W w' → w'.cell? ⟨Bs, 1, none⟩ = some (.slice sa sn sc) ∧ w'.cell? ⟨Bs, 2, none⟩ = some (.int .i64 id)) := hide (fun w' hu => ⟨hu.cell P0.b1, hu.cell P0.b2⟩)
  have hsn := P0.snl
  have b0 := P0.b0
  have b1 := P0.b1
  have b2 := P0.b2
  have t2 : decide (wh ≤ 3) = true := decide_eq_true hwh
  unfold HpJ at hK
  clear P0 hwh
  conv => arg 2; whnf
  rcases hcs with ⟨rfl, -, q, rfl⟩ | ⟨rfl, -, rfl, rfl, -, hni⟩
  · have g1 : decide ((q : Int) ≥ 0) = true := decide_eq_true (by omega)
    have g2 : (0 : Int) ≤ (q : Int) := by omega
    go_upto_region 26 with fail
    refine wp_region_noPanic ?_
    go_region_held3 (fun w' => w'.cell? ⟨Bs, 1, none⟩ = some (.slice sa sn sc) ∧ w'.cell? ⟨Bs, 2, none⟩ = some (.int .i64 id))
      (first | exact HB.out _ ((huf.out.trans hui.out).trans (by repeat' (with_reducible first | assumption | exact Up.refl _ | apply Up.alloc | apply Up.drew))) | exact HB.out _ (huf.out.trans (by repeat' (with_reducible first | assumption | exact Up.refl _ | apply Up.alloc | apply Up.drew))) | exact HB.out _ (by repeat' (with_reducible first | assumption | exact Up.refl _ | apply Up.alloc | apply Up.drew)))
      (first
        | (go_at_call 12; refine (copyX_calls sa sn sc key _ hsn (HVW.out _ (by repeat' (with_reducible first | assumption | exact Up.refl _ | apply Up.alloc | apply Up.drew)))).mono ?_; rintro _ wf ⟨ca, cc, rfl, hvf, huf'⟩; have huf := hide (Up.trans (a := W) (by repeat' (with_reducible first | assumption | exact Up.refl _ | apply Up.alloc | apply Up.drew)) huf'); replace hvf := hide hvf; clear huf')
        | (go_at_call 11; refine (HIN.out _ ca cc (huf.out.trans (by repeat' (with_reducible first | assumption | exact Up.refl _ | apply Up.alloc | apply Up.drew))) (hvf.out.up (by repeat' (with_reducible first | assumption | exact Up.refl _ | apply Up.alloc | apply Up.drew)))).mono ?_; rintro _ wi ⟨rfl, hui'⟩; have hui := hide (Up.trans (a := wf) (by repeat' (with_reducible first | assumption | exact Up.refl _ | apply Up.alloc | apply Up.drew)) hui'); clear hui'))
    all_goals
      refine NoPanic.normal ?_
      go_wp2
      refine Met.intro ?_
      (repeat apply Exists.intro)
      exact ⟨P.out.same ((huf.out.trans hui.out).trans (by repeat' (with_reducible first | assumption | exact Up.refl _ | apply Up.alloc | apply Up.drew))), rfl⟩
  · have g1 : decide ((-1 : Int) ≥ 0) = false := by decide
    have g3 : (0 : Int) < (nids : Int) := by omega
    have g4 : decide ((nids : Int) > 0) = true := decide_eq_true g3
    go_upto_region 26 with fail
    refine wp_region_noPanic ?_
    go_region_held3 (fun w' => w'.cell? ⟨Bs, 1, none⟩ = some (.slice sa sn sc) ∧ w'.cell? ⟨Bs, 2, none⟩ = some (.int .i64 id))
      (first | exact HB.out _ ((huf.out.trans hui.out).trans (by repeat' (with_reducible first | assumption | exact Up.refl _ | apply Up.alloc | apply Up.drew))) | exact HB.out _ (huf.out.trans (by repeat' (with_reducible first | assumption | exact Up.refl _ | apply Up.alloc | apply Up.drew))) | exact HB.out _ (by repeat' (with_reducible first | assumption | exact Up.refl _ | apply Up.alloc | apply Up.drew)))
      (first
        | (go_at_call 12; refine (copyX_calls sa sn sc key _ hsn (HVW.out _ (by repeat' (with_reducible first | assumption | exact Up.refl _ | apply Up.alloc | apply Up.drew)))).mono ?_; rintro _ wf ⟨ca, cc, rfl, hvf, huf'⟩; have huf := hide (Up.trans (a := W) (by repeat' (with_reducible first | assumption | exact Up.refl _ | apply Up.alloc | apply Up.drew)) huf'); replace hvf := hide hvf; clear huf')
        | (go_at_call 11; refine (HIN.out _ ca cc (huf.out.trans (by repeat' (with_reducible first | assumption | exact Up.refl _ | apply Up.alloc | apply Up.drew))) (hvf.out.up (by repeat' (with_reducible first | assumption | exact Up.refl _ | apply Up.alloc | apply Up.drew)))).mono ?_; rintro _ wi ⟨rfl, hui'⟩; have hui := hide (Up.trans (a := wf) (by repeat' (with_reducible first | assumption | exact Up.refl _ | apply Up.alloc | apply Up.drew)) hui'); clear hui'))
    all_goals
      refine NoPanic.normal ?_
      go_wp2
      refine Met.intro ?_
      (repeat apply Exists.intro)
      exact ⟨P.out.same ((huf.out.trans hui.out).trans (by repeat' (with_reducible first | assumption | exact Up.refl _ | apply Up.alloc | apply Up.drew))), rfl⟩
/-- The index holds it, the row doesn't yet. -/
structure HpHalf (p Bs : Nat) (w wx : World) (u : Bool) (es : List EN) (mv : Value) (k : List ET) (c : Nat) (sa : Option Addr) (sn sc : Nat) (key : List VT) (id : Int) : Prop where
  idx : ∃ c' O', c' ≤ c + 1 ∧ Idx p O' wx u (setT (idsF es) key (insF (idsF es key) id)) ((es.length + 1 : Nat) : Int) c' ∧ (∀ x, O' x → w.heap.size ≤ x) ∧ ∀ g, mv.ownBlock = some g → ¬ O' g
  up : Up w wx
  own : OwnE wx w.heap.size mv k
  b1 : wx.cell? ⟨Bs, 1, none⟩ = some (.slice sa sn sc)
  b2 : wx.cell? ⟨Bs, 2, none⟩ = some (.int .i64 id)
theorem HpHalf.upw {wx wy : World} {mv : Value} (h : HpHalf p Bs w wx u es mv k c sa sn sc key id) (hu : Up wx wy) : HpHalf p Bs w wy u es mv k c sa sn sc key id := by
  obtain ⟨c', O', h1, h2, h3, h4⟩ := h.idx
  exact ⟨⟨c', O', h1, h2.up hu, h3, h4⟩, h.up.trans hu, h.own.up hu, hu.cell h.b1, hu.cell h.b2⟩
end Go.Proofs.Ytofpakpbbpcalaa

namespace Go.Proofs.Ytofpakpbbpcalaa
open Go.ChangeShapes Go.WideShapes Go.ChangeAt Go.RowKit
set_option linter.unusedVariables false
set_option maxRecDepth 100000
attribute [local go_sem ↓] Go.wp_at_zero Go.wp_at_succ

variable {p Bs : Nat} {w W : World} {u : Bool} {es : List EN} {am : Option Addr} {nm cm : Nat} {k : List ET} {c : Nat} {O : Nat → Prop} {wh : Int} {sa : Option Addr} {sn sc : Nat} {key : List VT} {id : Int} {ia : Option Addr} {nids ic : Nat} {at_ : Int}
theorem shift_set {α : Type} (out : List α) (z x : α) {k : Nat} (hk : k ≤ out.length) : (shiftL (out ++ [z]) k).set k x = out.take k ++ x :: out.drop k := by
  have h1 : (out ++ [z]).drop k = out.drop k ++ [z] := by rw [List.drop_append_of_le_length hk]
  have h2 : ((out ++ [z]).drop k).take ((out ++ [z]).length - (k + 1)) = out.drop k := by
    rw [h1, List.take_append_of_le_length (by simp), List.take_of_length_le (by simp)]
  have hk' : k < (out ++ [z]).length := by simp; omega
  have h3 : (out ++ [z]).take (k + 1) = out.take k ++ [(out ++ [z])[k]] := by
    rw [List.take_add_one, List.getElem?_eq_getElem hk', List.take_append_of_le_length hk]
    rfl
  have h4 : (out.take k).length = k := by rw [List.length_take]; omega
  unfold shiftL
  rw [h2, h3, List.append_assoc, List.set_append_right _ _ (by omega), h4, Nat.sub_self]
  rfl
theorem flat_setE : ∀ (l : List ET) (k : Nat) (x : ET), ((l.flatMap eC).set (k * 2) (.slice x.a x.n x.c)).set (k * 2 + 1) (.int .i64 x.id) = (l.set k x).flatMap eC
  | [], k, x => by simp
  | y :: l, 0, x => by simp [eC]
  | y :: l, k + 1, x => by
    have ih := flat_setE l k x
    rw [List.flatMap_cons, List.set_cons_succ, List.flatMap_cons, ← ih]
    have e1 : (k + 1) * 2 = k * 2 + 1 + 1 := by omega
    rw [e1]
    simp [eC]
/-- One entry is written into a row that a call owns. -/
theorem own_setE {w : World} {base g cap : Nat} {l : List ET} (h : OwnE w base (.slice (some ⟨g, 0, none⟩) l.length cap) l) (k : Nat) (x : ET) (w' : World) (e : w' = (w.setCell ⟨g, k * 2, none⟩ (.slice x.a x.n x.c)).setCell ⟨g, k * 2 + 1, none⟩ (.int .i64 x.id)) :
    OwnE w' base (.slice (some ⟨g, 0, none⟩) l.length cap) (l.set k x) := by
  have h1 := (World.ownsRow.stored (World.ownsRow.stored h (k * 2) (.slice x.a x.n x.c)).1 (k * 2 + 1) (.int .i64 x.id)).1
  rw [flat_setE] at h1
  rw [e]
  unfold OwnE OwnG
  rw [List.length_set]
  exact h1
theorem insE_len (es : List EN) {j : Nat} (hj : j ≤ es.length) (x : EN) : (insE es j x).length = es.length + 1 := by unfold insE; simp; omega
theorem entR_ins {X : Nat → Prop} {w : World} {k : List ET} {es : List EN} (h : EntR X w k es) {j : Nat} (hj : j ≤ es.length) {x : ET} {e : EN} (hx : x.id = e.2 ∧ x.n ≤ x.c ∧ x.c ≤ maxLen ∧ ValsO X w x.a x.n e.1) : EntR X w (k.take j ++ x :: k.drop j) (insE es j e) := by
  have hl := h.1
  have e1 : (k.take j).length = j := by rw [List.length_take]; omega
  have e2 : (es.take j).length = j := by rw [List.length_take]; omega
  refine ⟨by unfold insE; simp; omega, fun i y d h1 h2 => ?_⟩
  unfold insE at h2
  by_cases hi : i < j
  · rw [List.getElem?_append_left (by omega), List.getElem?_take_of_lt hi] at h1
    rw [List.getElem?_append_left (by omega), List.getElem?_take_of_lt hi] at h2
    exact h.2 i y d h1 h2
  · rw [List.getElem?_append_right (by omega), e1] at h1
    rw [List.getElem?_append_right (by omega), e2] at h2
    obtain ⟨q, hq⟩ : ∃ q, q = i - j := ⟨_, rfl⟩
    rw [← hq] at h1 h2
    cases q with
    | zero => cases h1; cases h2; exact hx
    | succ q =>
      rw [List.getElem?_cons_succ, List.getElem?_drop] at h1
      rw [List.getElem?_cons_succ, List.getElem?_drop] at h2
      exact h.2 _ y d h1 h2
theorem valsO_old {w : World} {a : Option Addr} {n : Nat} {key : List VT} (h : Vals w a n key) : ValsO (fun b => b < w.heap.size) w a n key := by
  refine ⟨h, ?_⟩
  rcases h.2.2 with h0 | ⟨b, off, ha, hx⟩
  · exact .inl h0
  · by_cases hn : n = 0
    · exact .inl hn
    · exact .inr ⟨b, off, ha, World.block_lt_of_cell? w _ (hx 0 (by omega)).1⟩
/-- The index holds it; the row has other cells. -/
theorem HpHalf.row {wx wy : World} {mv mv' : Value} {l l' : List ET} {C : Nat → Prop} (h : HpHalf p Bs w wx u es mv l c sa sn sc key id) (hc : Chg C wx wy) (hC : ∀ x, C x → mv.ownBlock = some x ∧ x ≠ Bs) (hw : ∀ x, C x → w.heap.size ≤ x) (ho : OwnE wy w.heap.size mv' l') (hb : ∀ g, mv'.ownBlock = some g → mv.ownBlock = some g ∨ wx.heap.size ≤ g) : HpHalf p Bs w wy u es mv' l' c sa sn sc key id := by
  obtain ⟨c', O', h1, h2, h3, h4⟩ := h.idx
  refine ⟨⟨c', O', h1, h2.chg hc (fun y hy e => h4 y (hC y e).1 hy), h3, fun g hg e => ?_⟩, h.up.thenChg2 hc (fun x hx e => by have := hw x e; omega), ho, hc.cell (p := ⟨Bs, 1, none⟩) h.b1 (fun e => (hC _ e).2 rfl), hc.cell (p := ⟨Bs, 2, none⟩) h.b2 (fun e => (hC _ e).2 rfl)⟩
  rcases hb g hg with h5 | h5
  · exact h4 g h5 e
  · have := h2.1 g e
    omega
set_option maxRecDepth 1000000 in
theorem hp_loop2 {W : World} {X Y : Nat → Prop} (HRD : Hid (RdP eC X W (.slice am nm cm) k)) (HER : Hid (EntR Y W k es)) (HNM : Hid (nm = k.length)) (hn80 : nm ≤ 80) (HB : Hid (∀ w', Up W w' → w'.cell? ⟨Bs, 1, none⟩ = some (.slice sa sn sc) ∧ w'.cell? ⟨Bs, 2, none⟩ = some (.int .i64 id))) (HV : Hid (Vals W sa sn key)) (hsn : sn ≤ maxLen)
    (u0 u1 u2 u3 u4 u5 u7 u9 u10 u11 u13 u14 u15 u16 u17 u18 u19 u20 u21 u22 u23 u24 u25 u26 u27 u28 u29 u30 u31 u32 u33 u34 u35 u36 u37 u38 u39 u40 u41 u42 u43 u44 u45 u46 u47 u48 u49 u50 u51 u52 u53 u54 u55 u56 u57 u58 u59 u60 u61 u62 u63 u64 u65 u66 u67 u68 u69 u70 u71 u72 u73 u74 u75 u76 u77 u78 u79 u80 u81 u82 u83 u84 u85 u86 u87 u88 u89 u90 u91 u92 u93 u94 u95 u96 u97 u98 u99 u100 u101 u102 u103 u104 u105 u106 u107 u108 u109 u110 u111 u112 u113 u114 u115 u116 u117 u118 u119 u120 u121 u122 u123 u124 u125 u126 u127 u128 u129 u130 u131 u132 u133 u134 u135 u136 u137 u138 u139 u140 u141 u142 u143 u144 u145 u146 u147 u148 u149 u150 u151 u152 u153 u154 u155 u156 u157 u158 u159 u160 u161 u162 u163 u164 u165 u166 u167 u168 u169 u170 u171 u172 u173 u174 u175 u176 u177 u178 u179 u180 u181 u182 u183 u184 : Value) (K : Act → World → Prop) (Q : Exit → Act → World → Prop)
    (hK0 : ∀ (v12 v86 v87 v88 v89 v90 v91 v92 v93 v94 v95 v96 v97 v98 v99 v100 v101 v102 v103 v104 v105 v106 v107 v108 v109 v110 v111 v112 v113 v114 v115 v116 v117 v118 v119 v120 v121 v122 v123 : Value) (wx : World), (∃ j : Nat, v12 = .int .i64 j ∧ SpotE es (key, id) j ∧ Up W wx) → K ⟨#[u0, u1, u2, u3, u4, u5, .slice am nm cm, u7, .pointer (some ⟨Bs, 0, none⟩), u9, u10, u11, v12, u13, u14, u15, u16, u17, u18, u19, u20, u21, u22, u23, u24, u25, u26, u27, u28, u29, u30, u31, u32, u33, u34, u35, u36, u37, u38, u39, u40, u41, u42, u43, u44, u45, u46, u47, u48, u49, u50, u51, u52, u53, u54, u55, u56, u57, u58, u59, u60, u61, u62, u63, u64, u65, u66, u67, u68, u69, u70, u71, u72, u73, u74, u75, u76, u77, u78, u79, u80, u81, u82, u83, u84, u85, v86, v87, v88, v89, v90, v91, v92, v93, v94, v95, v96, v97, v98, v99, v100, v101, v102, v103, v104, v105, v106, v107, v108, v109, v110, v111, v112, v113, v114, v115, v116, v117, v118, v119, v120, v121, v122, v123, u124, u125, u126, u127, u128, u129, u130, u131, u132, u133, u134, u135, u136, u137, u138, u139, u140, u141, u142, u143, u144, u145, u146, u147, u148, u149, u150, u151, u152, u153, u154, u155, u156, u157, u158, u159, u160, u161, u162, u163, u164, u165, u166, u167, u168, u169, u170, u171, u172, u173, u174, u175, u176, u177, u178, u179, u180, u181, u182, u183, u184], []⟩ wx) :
    Code.wp Try.prog ((Try.f3.body.bind (blkN 3)).getD .skip) (Exit.then K Q) ⟨#[u0, u1, u2, u3, u4, u5, .slice am nm cm, u7, .pointer (some ⟨Bs, 0, none⟩), u9, u10, u11, .int .i64 0, u13, u14, u15, u16, u17, u18, u19, u20, u21, u22, u23, u24, u25, u26, u27, u28, u29, u30, u31, u32, u33, u34, u35, u36, u37, u38, u39, u40, u41, u42, u43, u44, u45, u46, u47, u48, u49, u50, u51, u52, u53, u54, u55, u56, u57, u58, u59, u60, u61, u62, u63, u64, u65, u66, u67, u68, u69, u70, u71, u72, u73, u74, u75, u76, u77, u78, u79, u80, u81, u82, u83, u84, u85, u86, u87, u88, u89, u90, u91, u92, u93, u94, u95, u96, u97, u98, u99, u100, u101, u102, u103, u104, u105, u106, u107, u108, u109, u110, u111, u112, u113, u114, u115, u116, u117, u118, u119, u120, u121, u122, u123, u124, u125, u126, u127, u128, u129, u130, u131, u132, u133, u134, u135, u136, u137, u138, u139, u140, u141, u142, u143, u144, u145, u146, u147, u148, u149, u150, u151, u152, u153, u154, u155, u156, u157, u158, u159, u160, u161, u162, u163, u164, u165, u166, u167, u168, u169, u170, u171, u172, u173, u174, u175, u176, u177, u178, u179, u180, u181, u182, u183, u184], []⟩ W := by
  refine hp_loop HRD HER HNM hn80 HB HV hsn u0 u1 u2 u3 u4 u5 u7 u9 u10 u11 u13 u14 u15 u16 u17 u18 u19 u20 u21 u22 u23 u24 u25 u26 u27 u28 u29 u30 u31 u32 u33 u34 u35 u36 u37 u38 u39 u40 u41 u42 u43 u44 u45 u46 u47 u48 u49 u50 u51 u52 u53 u54 u55 u56 u57 u58 u59 u60 u61 u62 u63 u64 u65 u66 u67 u68 u69 u70 u71 u72 u73 u74 u75 u76 u77 u78 u79 u80 u81 u82 u83 u84 u85 u86 u87 u88 u89 u90 u91 u92 u93 u94 u95 u96 u97 u98 u99 u100 u101 u102 u103 u104 u105 u106 u107 u108 u109 u110 u111 u112 u113 u114 u115 u116 u117 u118 u119 u120 u121 u122 u123 u124 u125 u126 u127 u128 u129 u130 u131 u132 u133 u134 u135 u136 u137 u138 u139 u140 u141 u142 u143 u144 u145 u146 u147 u148 u149 u150 u151 u152 u153 u154 u155 u156 u157 u158 u159 u160 u161 u162 u163 u164 u165 u166 u167 u168 u169 u170 u171 u172 u173 u174 u175 u176 u177 u178 u179 u180 u181 u182 u183 u184 K Q ?_
  intro a' w' hJ
  unfold Met HlJ at hJ
  obtain ⟨v12, hJ⟩ := hJ
  obtain ⟨v86, hJ⟩ := hJ
  obtain ⟨v87, hJ⟩ := hJ
  obtain ⟨v88, hJ⟩ := hJ
  obtain ⟨v89, hJ⟩ := hJ
  obtain ⟨v90, hJ⟩ := hJ
  obtain ⟨v91, hJ⟩ := hJ
  obtain ⟨v92, hJ⟩ := hJ
  obtain ⟨v93, hJ⟩ := hJ
  obtain ⟨v94, hJ⟩ := hJ
  obtain ⟨v95, hJ⟩ := hJ
  obtain ⟨v96, hJ⟩ := hJ
  obtain ⟨v97, hJ⟩ := hJ
  obtain ⟨v98, hJ⟩ := hJ
  obtain ⟨v99, hJ⟩ := hJ
  obtain ⟨v100, hJ⟩ := hJ
  obtain ⟨v101, hJ⟩ := hJ
  obtain ⟨v102, hJ⟩ := hJ
  obtain ⟨v103, hJ⟩ := hJ
  obtain ⟨v104, hJ⟩ := hJ
  obtain ⟨v105, hJ⟩ := hJ
  obtain ⟨v106, hJ⟩ := hJ
  obtain ⟨v107, hJ⟩ := hJ
  obtain ⟨v108, hJ⟩ := hJ
  obtain ⟨v109, hJ⟩ := hJ
  obtain ⟨v110, hJ⟩ := hJ
  obtain ⟨v111, hJ⟩ := hJ
  obtain ⟨v112, hJ⟩ := hJ
  obtain ⟨v113, hJ⟩ := hJ
  obtain ⟨v114, hJ⟩ := hJ
  obtain ⟨v115, hJ⟩ := hJ
  obtain ⟨v116, hJ⟩ := hJ
  obtain ⟨v117, hJ⟩ := hJ
  obtain ⟨v118, hJ⟩ := hJ
  obtain ⟨v119, hJ⟩ := hJ
  obtain ⟨v120, hJ⟩ := hJ
  obtain ⟨v121, hJ⟩ := hJ
  obtain ⟨v122, hJ⟩ := hJ
  obtain ⟨v123, hJ⟩ := hJ
  obtain ⟨hm, rfl⟩ := hJ
  exact hK0 v12 v86 v87 v88 v89 v90 v91 v92 v93 v94 v95 v96 v97 v98 v99 v100 v101 v102 v103 v104 v105 v106 v107 v108 v109 v110 v111 v112 v113 v114 v115 v116 v117 v118 v119 v120 v121 v122 v123 w' hm
set_option maxHeartbeats 16000000 in
theorem hp_ins (P0 : HpAt p Bs w W u es am nm cm k c O wh sa sn sc key id) (hwh : wh ≤ 3) (hat : at_ = -1) (hno : (key, id) ∉ es) (hun : u = false ∨ (idsF es key = [] ∧ nids = 0)) (u1 u2 u3 u4 u7 u11 u12 u13 u14 u15 u16 u17 u18 u19 u20 u21 u22 u23 u24 u25 u26 u27 u28 u29 u30 u31 u32 u33 u34 u35 u36 u37 u38 u39 u40 u41 u42 u43 u44 u45 u46 u47 u48 u49 u50 u51 u52 u53 u54 u55 u56 u57 u58 u59 u60 u61 u62 u63 u64 u65 u66 u67 u68 u69 u70 u71 u72 u73 u74 u75 u76 u77 u78 u79 u80 u81 u82 u83 u84 u85 u86 u87 u88 u89 u90 u91 u92 u93 u94 u95 u96 u97 u98 u99 u100 u101 u102 u103 u104 u105 u106 u107 u108 u109 u110 u111 u112 u113 u114 u115 u116 u117 u118 u119 u120 u121 u122 u123 u124 u125 u126 u127 u128 u129 u130 u131 u132 u133 u134 u135 u136 u137 u138 u139 u140 u141 u142 u143 u144 u145 u146 u147 u148 u149 u150 u151 u152 u153 u154 u155 u156 u157 u158 u159 u160 u161 u162 u163 u164 u165 u166 u167 u168 u169 u170 u171 u172 u173 u174 u175 u176 u177 u178 u179 u180 u181 u182 u183 u184 : Value) (K : Act → World → Prop) (Q : Exit → Act → World → Prop)
    (hK : ∀ a' w', Met (HpJ p Bs w u es.length c nids ic ia at_ sa sn sc id u1 u2 u3 u4 u7 u14 u15 u16 u17 u18 u19 u20 u21 u22 u23 u24 u25 u26 u27 u28 u29 u30 u31 u32 u33 u34 u35 u36 u37 u38 u39 u40 u41 u42 u43 u144 u145 u146 u147 u148 u149 u150 u151 u152 u153 u154 u155 u156 u157 u158 u159 u160 u161 u162 u163 u164 u165 u166 u167 u168 u169 u170 u171 u172 u173 u174 u175 u176 u177 u178 u179 u180 u181 u182 u183 u184) a' w' → K a' w') :
    Code.wp Try.prog ((Try.f3.body.bind (blkN 2)).getD .skip) (Exit.then K Q) ⟨#[.bool u, u1, u2, u3, u4, .pointer (some ⟨p, 0, none⟩), .slice am nm cm, u7, .pointer (some ⟨Bs, 0, none⟩), .slice ia nids ic, .int .i64 at_, u11, u12, u13, u14, u15, u16, u17, u18, u19, u20, u21, u22, u23, u24, u25, u26, u27, u28, u29, u30, u31, u32, u33, u34, u35, u36, u37, u38, u39, u40, u41, u42, u43, u44, u45, u46, u47, u48, u49, u50, u51, u52, u53, u54, u55, u56, u57, u58, u59, u60, u61, u62, u63, u64, u65, u66, u67, u68, u69, u70, u71, u72, u73, u74, u75, u76, u77, u78, u79, u80, u81, u82, u83, u84, u85, u86, u87, u88, u89, u90, u91, u92, u93, u94, u95, u96, u97, u98, u99, u100, u101, u102, u103, u104, u105, u106, u107, u108, u109, u110, u111, u112, u113, u114, u115, u116, u117, u118, u119, u120, u121, u122, u123, u124, u125, u126, u127, u128, u129, u130, u131, u132, u133, u134, u135, u136, u137, u138, u139, u140, u141, u142, u143, u144, u145, u146, u147, u148, u149, u150, u151, u152, u153, u154, u155, u156, u157, u158, u159, u160, u161, u162, u163, u164, u165, u166, u167, u168, u169, u170, u171, u172, u173, u174, u175, u176, u177, u178, u179, u180, u181, u182, u183, u184], []⟩ W := by
  have P := hide P0
  have HVW : Hid (∀ w', Up W w' → Vals w' sa sn key) := hide (fun w' hu => P0.hv.up (P0.hi.up.trans hu))
  have HIN : Hid (∀ w' ca cc, Up W w' → Vals w' ca sn key → Calls Try.prog 11 #[.pointer (some ⟨p, 0, none⟩), .slice ca sn cc, .int .i64 id] w' fun e w2 => e = .returned (.int .i64 0) ∧ HpHalf p Bs w w2 u es (.slice am nm cm) k c sa sn sc key id) := hide (fun w' ca cc hu hv => by
    refine ((P0.hi.upto hu).insert ca sn cc key id P0.gk hv hno (hun.imp (fun h => h) (fun h => h.1)) (by have := P0.fe; omega) (by have := P0.fc; omega)).mono ?_
    rintro e w2 ⟨rfl, c', O', h1, h2, h3, h4, h5, h6, h7, h8⟩
    exact ⟨rfl, ⟨c', O', h1, h5, h6, h8⟩, h4, h7, h2.cell (p := ⟨Bs, 1, none⟩) (hu.cell P0.b1) P0.nO, h2.cell (p := ⟨Bs, 2, none⟩) (hu.cell P0.b2) P0.nO⟩)
  have HB : Hid (∀ w', Up W w' → w'.cell? ⟨Bs, 1, none⟩ = some (.slice sa sn sc) ∧ w'.cell? ⟨Bs, 2, none⟩ = some (.int .i64 id)) := hide (fun w' hu => ⟨hu.cell P0.b1, hu.cell P0.b2⟩)
  have hsn := P0.snl
  have b0 := P0.b0
  have b1 := P0.b1
  have b2 := P0.b2
  have t2 : decide (wh ≤ 3) = true := decide_eq_true hwh
  have g1 : decide ((-1 : Int) ≥ 0) = false := by decide
  have HNM : Hid (nm = k.length) := P0.len
  have hn80 : nm ≤ 80 := by rw [P0.len, P0.hi.rel.1]; have := P0.fe; omega
  have hgd : u = false ∨ nids = 0 := hun.imp (fun h => h) (fun h => h.2)
  have HGD := hide hgd
  have HNO := hide hno
  obtain ⟨gd, hgd'⟩ : ∃ gd : Bool, gd = (u && decide ((nids : Int) > 0)) := ⟨_, rfl⟩
  subst hat
  unfold HpJ at hK
  clear P0 hwh hgd hun hgd' hno
  conv => arg 2; whnf
  go_upto_region 24 with fail
  go_cut [74] from 44 to 143 (fun v wx => v = .bool false ∧ wx = W)
  case first =>
    rcases HGD.out with rfl | rfl
    · go_wp2
      go_meet
      exact ⟨rfl, rfl⟩
    · cases u
      · go_wp2
        go_meet
        exact ⟨rfl, rfl⟩
      · go_wp2
        go_meet
        exact ⟨rfl, rfl⟩
  case rest =>
  obtain ⟨rfl, rfl⟩ := hcut
  go_upto_region 26 with fail
  go_cut [83] from 44 to 143 (fun v wx => v = .bool false ∧ Hid (HpHalf p Bs w wx u es (.slice am nm cm) k c sa sn sc key id))
  case first =>
    refine wp_region_noPanic ?_
    go_region_held3 (fun w' => w'.cell? ⟨Bs, 1, none⟩ = some (.slice sa sn sc) ∧ w'.cell? ⟨Bs, 2, none⟩ = some (.int .i64 id))
      (first | exact HCI.out _ (by repeat' (with_reducible first | assumption | exact Up.refl _ | apply Up.alloc | apply Up.drew)) | exact HB.out _ (huf.out.trans (by repeat' (with_reducible first | assumption | exact Up.refl _ | apply Up.alloc | apply Up.drew))) | exact HB.out _ (by repeat' (with_reducible first | assumption | exact Up.refl _ | apply Up.alloc | apply Up.drew)))
      (first
        | (go_at_call 12; refine (copyX_calls sa sn sc key _ hsn (HVW.out _ (by repeat' (with_reducible first | assumption | exact Up.refl _ | apply Up.alloc | apply Up.drew)))).mono ?_; rintro _ wf ⟨ca, cc, rfl, hvf, huf'⟩; have huf := hide (Up.trans (a := wc) (by repeat' (with_reducible first | assumption | exact Up.refl _ | apply Up.alloc | apply Up.drew)) huf'); replace hvf := hide hvf; clear huf')
        | (go_at_call 11; refine (HIN.out _ ca cc (huf.out.trans (by repeat' (with_reducible first | assumption | exact Up.refl _ | apply Up.alloc | apply Up.drew))) (hvf.out.up (by repeat' (with_reducible first | assumption | exact Up.refl _ | apply Up.alloc | apply Up.drew)))).mono ?_; rintro _ wi ⟨rfl, hha⟩; have HHA := hide hha; have HCI : Hid (∀ w', Up wi w' → w'.cell? ⟨Bs, 1, none⟩ = some (.slice sa sn sc) ∧ w'.cell? ⟨Bs, 2, none⟩ = some (.int .i64 id)) := hide (fun w' hu => ⟨hu.cell HHA.out.b1, hu.cell HHA.out.b2⟩); clear hha))
    all_goals
      refine NoPanic.normal ?_
      go_wp2
      go_meet
      exact ⟨rfl, hide (HHA.out.upw (by repeat' (with_reducible first | assumption | exact Up.refl _ | apply Up.alloc | apply Up.drew)))⟩
  case rest =>
  obtain ⟨rfl, HH⟩ := hcut
  rename_i W0
  clear b0 b1 b2
  go_upto_block 3 with fail
  refine hp_loop2 (X := fun _ => False) (Y := fun b => b < w.heap.size) (hide (OwnP.rd (e := 39) (cs := eC) HH.out.own (fun _ _ h => h))) (hide (P.out.hi.rel.chg (Chg.of_up (C := fun _ => False) HH.out.up) (fun _ _ h => h))) HNM hn80 (hide (fun w' hu => ⟨hu.cell HH.out.b1, hu.cell HH.out.b2⟩)) (hide (P.out.hv.up HH.out.up)) (by unfold maxLen; omega) _ _ _ _ _ _ _ _ _ _ _ _ _ _ _ _ _ _ _ _ _ _ _ _ _ _ _ _ _ _ _ _ _ _ _ _ _ _ _ _ _ _ _ _ _ _ _ _ _ _ _ _ _ _ _ _ _ _ _ _ _ _ _ _ _ _ _ _ _ _ _ _ _ _ _ _ _ _ _ _ _ _ _ _ _ _ _ _ _ _ _ _ _ _ _ _ _ _ _ _ _ _ _ _ _ _ _ _ _ _ _ _ _ _ _ _ _ _ _ _ _ _ _ _ _ _ _ _ _ _ _ _ _ _ _ _ _ _ _ _ _ _ _ _ _ _ _ _ _ _ _ _ _ _ _ _ _ _ _ _ _ _ _ _ _ _ _ _ _ _ _ _ _ _ _ _ _ _ _ _ _ _ _ _ ?_
  intro v12 v86 v87 v88 v89 v90 v91 v92 v93 v94 v95 v96 v97 v98 v99 v100 v101 v102 v103 v104 v105 v106 v107 v108 v109 v110 v111 v112 v113 v114 v115 v116 v117 v118 v119 v120 v121 v122 v123 wx hme
  obtain ⟨j, rfl, hsp, hux⟩ := hme
  have HX := hide (HH.out.upw hux)
  have HSP := hide hsp
  have hjn : j ≤ nm := by have := hsp.le; rw [HNM.out, P.out.hi.rel.1]; exact this
  have HNB : Hid (∀ g, (Value.slice am nm cm).ownBlock = some g → ¬ g = Bs) := hide P.out.nB
  have hbx := HX.out.up.size
  clear hsp hux HH HB HIN HVW
  rename_i hK2
  refine hK2 _ _ ?_
  have hcl : Hid (∀ q v, ([zeroET].flatMap eC)[q]? = some v → (wx.alloc (.cells #[.slice none 0 0, .int .i64 0] 39)).cell? ((⟨wx.heap.size, 0, none⟩ : Addr).add q) = some v) := hide (fun q v h => cells_ent_new zeroET q v (by simpa using h))
  have hbd : Hid (k.length + [zeroET].length ≤ 10000000) := hide (by have := HNM.out; simp; omega)
  have hba : Hid (w.heap.size ≤ (wx.alloc (.cells #[.slice none 0 0, .int .i64 0] 39)).heap.size) := hide (by simp; omega)
  go_wp2_with (at_builtin; refine append_ents rfl (.tmp 124) (.tmp 126) rfl w.heap.size _ k rfl (OwnG.alloc HX.out.own _) ⟨wx.heap.size, 0, none⟩ 1 1 [zeroET] rfl rfl hcl.out hbd.out hba.out ?_)
  intro v3 w3 ho3 hg3 hor3
  have hl3 : Hid ((k ++ [zeroET]).length = nm + 1) := hide (by simp [HNM.out])
  have HX3 : Hid (HpHalf p Bs w w3 u es v3 (k ++ [zeroET]) c sa sn sc key id) := hide ((HX.out.upw ((Up.refl _).alloc _)).row (chg_grown hg3) (fun x hx => ⟨hx, HNB.out x hx⟩) (fun x hx => (HX.out.own.lt x hx).1) ho3 (fun g' h => by
    rcases hor3 with h5 | h5
    · left; rw [← h5]; exact h
    · right
      rw [h5] at h
      cases h
      simp))
  have HO3 := hide ho3
  have HG3 : Hid (∀ g, v3.ownBlock = some g → g ≠ Bs) := hide (fun g hg => by
    rcases hor3 with h5 | h5
    · rw [h5] at hg; exact HNB.out g hg
    · rw [h5] at hg
      cases hg
      have hlt : Bs < wx.heap.size := World.block_lt_of_cell? wx _ HX.out.b1
      intro e
      have h6 : wx.heap.size + 1 = Bs := by simpa using e
      omega)
  rcases ho3.2 with ⟨_, hn0⟩ | ⟨g, cap3, cur, rfl, hgb, _, hc3, hm3, _⟩
  · exact absurd hn0 (by rw [hl3.out]; omega)
  have HGB : Hid (g ≠ Bs) := hide (HG3.out g rfl)
  have hc3' : nm + 1 ≤ cap3 := by rw [← hl3.out]; exact hc3
  clear ho3 hg3 hor3 hc3 HX HG3
  have hw1 : IntKind.i64.wrap ((j : Int) + 1) = (j : Int) + 1 := by rw [IntKind.wrap_i64]; omega
  have hw2 : (0 : Int) ≤ (j : Int) + 1 := by omega
  have hw3 : (j : Int) + 1 ≤ (nm : Int) + 1 := by omega
  have hw4 : ((j : Int) + 1).toNat = j + 1 := by omega
  have hw5 : (0 : Int) ≤ (j : Int) := by omega
  have hw6 : (j : Int) ≤ (nm : Int) + 1 := by omega
  have hw8 : (j : Int) < (nm : Int) + 1 := by omega
  have hcj : ¬ cap3 = j := by omega
  by_cases hcap : cap3 = j + 1
  · subst hcap
    clear hcj
    have hcj' : ¬ j + 1 = j := by omega
    obtain ⟨w4, hrun, ho4, hg4⟩ := run_copy_shift (w := w3.drew) Try.underlying26 (show (Try.prog.info? 39).map (·.size) = some 2 by kernel_rfl) (fun _ => rfl) eC_one w.heap.size 3 (some ⟨g, 0, none⟩) (some ⟨g, j * 2, none⟩) 0 0 (nm + 1 - j) 1 g (j + 1) j (k ++ [zeroET]) (World.ownsRow.drew HO3.out) (by have := hl3.out; omega) (by have := hl3.out; omega) (by have := hl3.out; omega) (fun hpos => absurd hpos (by have := hl3.out; omega)) (fun hpos => absurd hpos (by have := hl3.out; omega))
    have HU4 : Hid (Up w w4) := hide (Below.grown (show Below w.heap.size w w3.drew from HX3.out.up.drew) hg4 HX3.out.up.size (fun g' hk' => by cases hk'; exact hgb))
    have HX4 : Hid (HpHalf p Bs w w4 u es (.slice (some ⟨g, 0, none⟩) (k ++ [zeroET]).length (j + 1)) (shiftL (k ++ [zeroET]) j) c sa sn sc key id) := hide ((HX3.out.upw (show Up w3 w3.drew from (Up.refl _).drew)).row (chg_grown (v := .slice (some ⟨g, 0, none⟩) 0 0) hg4) (fun x hx => by cases hx; exact ⟨rfl, HGB.out⟩) (fun x hx => by cases hx; exact hgb) ho4 (fun g' h => .inl h))
    have d1 := HX4.out.b1
    have d2 := HX4.out.b2
    have hl4 : (shiftL (k ++ [zeroET]) j).length = (k ++ [zeroET]).length := shiftL_length _ _ (by have := hl3.out; omega)
    rw [← hl4] at ho4
    have f0 := World.ownsRow.frozenAt ho4 (j * 2)
    have f1 := World.ownsRow.frozenAt ho4 (j * 2 + 1)
    have hlf : ((shiftL (k ++ [zeroET]) j).flatMap eC).length = (nm + 1) * 2 := by rw [flatG_length (cs := eC) (k := 2) (fun _ => rfl), hl4, hl3.out]
    have z0 := World.ownsRow.cellAt ho4 (j * 2) (by rw [hl4, hl3.out]; omega)
    have z1 := World.ownsRow.cellAt ho4 (j * 2 + 1) (by rw [hl4, hl3.out]; omega)
    rw [List.getElem?_eq_getElem (by rw [hlf]; omega)] at z0 z1
    generalize ((shiftL (k ++ [zeroET]) j).flatMap eC)[j * 2] = zz0 at z0
    generalize ((shiftL (k ++ [zeroET]) j).flatMap eC)[j * 2 + 1] = zz1 at z1
    obtain ⟨W5, hW5⟩ : ∃ W5, W5 = (w4.setCell ⟨g, j * 2, none⟩ (.slice sa sn sc)).setCell ⟨g, j * 2 + 1, none⟩ (.int .i64 id) := ⟨_, rfl⟩
    have HM : Hid (HpMid p Bs w u es.length c sa sn sc id (.slice (some ⟨g, 0, none⟩) (nm + 1) (j + 1)) W5) := hide (by
      have h9 := own_setE ho4 j ⟨sa, sn, sc, id⟩ W5 hW5
      rw [hl4, shift_set k zeroET ⟨sa, sn, sc, id⟩ (by rw [← HNM.out]; exact hjn), hl3.out] at h9
      have hx4 := HX4.out
      rw [hl3.out] at hx4
      have hc5 : Chg (fun y => y = g) w4 W5 := by rw [hW5]; exact ((Chg.refl (fun y => y = g) w4).set (C := fun y => y = g) (p := ⟨g, j * 2, none⟩) (fun _ => rfl) _).set (C := fun y => y = g) (p := ⟨g, j * 2 + 1, none⟩) (fun _ => rfl) _
      have hx5 := hx4.row hc5 (fun x hx => by cases hx; exact ⟨rfl, HGB.out⟩) (fun x hx => by cases hx; exact hgb) h9 (fun g' h => .inl h)
      obtain ⟨c', O', q1, q2, q3, q4⟩ := hx5.idx
      have hent : Ent (insE es j (key, id)) := insE_ent P.out.hi.ent P.out.gk HNO.out HSP.out.lo HSP.out.le HSP.out.at_
      refine ⟨insE es j (key, id), _, c', O', ⟨hx5.up, ?_, q3, hent, hx5.own, entR_ins P.out.hi.rel HSP.out.le ⟨rfl, P.out.snc, P.out.scm, valsO_old P.out.hv⟩, q4⟩, q1, by rw [insE_len es HSP.out.le]; exact Nat.le_refl _, hx5.b1, hx5.b2⟩
      rw [← idsF_ins P.out.hi.ent hent HNO.out, insE_len es HSP.out.le]
      exact q2)
    have hW5' := hW5.symm
    rw [hl3.out] at *
    clear ho4 hg4 hl4 hlf HU4 HX4 HX3 hW5
    go_wp2_with fail
    go_region
    all_goals
      go_wp2
      refine Met.intro ?_
      (repeat apply Exists.intro)
      exact ⟨HM.out, rfl⟩
  · obtain ⟨w4, hrun, ho4, hg4⟩ := run_copy_shift (w := w3.drew) Try.underlying26 (show (Try.prog.info? 39).map (·.size) = some 2 by kernel_rfl) (fun _ => rfl) eC_one w.heap.size 3 (some ⟨g, (j + 1) * 2, none⟩) (some ⟨g, j * 2, none⟩) (nm - j) (cap3 - (j + 1)) (nm + 1 - j) (cap3 - j) g cap3 j (k ++ [zeroET]) (World.ownsRow.drew HO3.out) (by have := hl3.out; omega) (by have := hl3.out; omega) (by have := hl3.out; omega) (fun _ => by first | rfl | simp) (fun _ => by first | rfl | simp)
    have HU4 : Hid (Up w w4) := hide (Below.grown (show Below w.heap.size w w3.drew from HX3.out.up.drew) hg4 HX3.out.up.size (fun g' hk' => by cases hk'; exact hgb))
    have HX4 : Hid (HpHalf p Bs w w4 u es (.slice (some ⟨g, 0, none⟩) (k ++ [zeroET]).length cap3) (shiftL (k ++ [zeroET]) j) c sa sn sc key id) := hide ((HX3.out.upw (show Up w3 w3.drew from (Up.refl _).drew)).row (chg_grown (v := .slice (some ⟨g, 0, none⟩) 0 0) hg4) (fun x hx => by cases hx; exact ⟨rfl, HGB.out⟩) (fun x hx => by cases hx; exact hgb) ho4 (fun g' h => .inl h))
    have d1 := HX4.out.b1
    have d2 := HX4.out.b2
    have hl4 : (shiftL (k ++ [zeroET]) j).length = (k ++ [zeroET]).length := shiftL_length _ _ (by have := hl3.out; omega)
    rw [← hl4] at ho4
    have f0 := World.ownsRow.frozenAt ho4 (j * 2)
    have f1 := World.ownsRow.frozenAt ho4 (j * 2 + 1)
    have hlf : ((shiftL (k ++ [zeroET]) j).flatMap eC).length = (nm + 1) * 2 := by rw [flatG_length (cs := eC) (k := 2) (fun _ => rfl), hl4, hl3.out]
    have z0 := World.ownsRow.cellAt ho4 (j * 2) (by rw [hl4, hl3.out]; omega)
    have z1 := World.ownsRow.cellAt ho4 (j * 2 + 1) (by rw [hl4, hl3.out]; omega)
    rw [List.getElem?_eq_getElem (by rw [hlf]; omega)] at z0 z1
    generalize ((shiftL (k ++ [zeroET]) j).flatMap eC)[j * 2] = zz0 at z0
    generalize ((shiftL (k ++ [zeroET]) j).flatMap eC)[j * 2 + 1] = zz1 at z1
    obtain ⟨W5, hW5⟩ : ∃ W5, W5 = (w4.setCell ⟨g, j * 2, none⟩ (.slice sa sn sc)).setCell ⟨g, j * 2 + 1, none⟩ (.int .i64 id) := ⟨_, rfl⟩
    have HM : Hid (HpMid p Bs w u es.length c sa sn sc id (.slice (some ⟨g, 0, none⟩) (nm + 1) cap3) W5) := hide (by
      have h9 := own_setE ho4 j ⟨sa, sn, sc, id⟩ W5 hW5
      rw [hl4, shift_set k zeroET ⟨sa, sn, sc, id⟩ (by rw [← HNM.out]; exact hjn), hl3.out] at h9
      have hx4 := HX4.out
      rw [hl3.out] at hx4
      have hc5 : Chg (fun y => y = g) w4 W5 := by rw [hW5]; exact ((Chg.refl (fun y => y = g) w4).set (C := fun y => y = g) (p := ⟨g, j * 2, none⟩) (fun _ => rfl) _).set (C := fun y => y = g) (p := ⟨g, j * 2 + 1, none⟩) (fun _ => rfl) _
      have hx5 := hx4.row hc5 (fun x hx => by cases hx; exact ⟨rfl, HGB.out⟩) (fun x hx => by cases hx; exact hgb) h9 (fun g' h => .inl h)
      obtain ⟨c', O', q1, q2, q3, q4⟩ := hx5.idx
      have hent : Ent (insE es j (key, id)) := insE_ent P.out.hi.ent P.out.gk HNO.out HSP.out.lo HSP.out.le HSP.out.at_
      refine ⟨insE es j (key, id), _, c', O', ⟨hx5.up, ?_, q3, hent, hx5.own, entR_ins P.out.hi.rel HSP.out.le ⟨rfl, P.out.snc, P.out.scm, valsO_old P.out.hv⟩, q4⟩, q1, by rw [insE_len es HSP.out.le]; exact Nat.le_refl _, hx5.b1, hx5.b2⟩
      rw [← idsF_ins P.out.hi.ent hent HNO.out, insE_len es HSP.out.le]
      exact q2)
    have hW5' := hW5.symm
    rw [hl3.out] at *
    clear ho4 hg4 hl4 hlf HU4 HX4 HX3 hW5
    go_wp2_with fail
    go_region
    all_goals
      go_wp2
      refine Met.intro ?_
      (repeat apply Exists.intro)
      exact ⟨HM.out, rfl⟩
end Go.Proofs.Ytofpakpbbpcalaa
