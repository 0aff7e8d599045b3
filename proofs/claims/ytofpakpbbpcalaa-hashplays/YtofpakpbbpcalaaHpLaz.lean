/-
  HashPlays of rialtolaw10, as its text runs.
-/
import Derived.Test.YtofpakpbbpcalaaHpActG
import Derived.Test.YtofpakpbbpcalaaValHelp
import Derived.Deep.CutRange
import Derived.Deep.CutBlock
namespace Go.Proofs.Ytofpakpbbpcalaa
open Go.ChangeShapes Go.WideShapes Go.ChangeAt Go.RowKit
set_option linter.unusedVariables false
set_option maxRecDepth 100000


set_option maxRecDepth 1000000 in
theorem hp_act {p Bs : Nat} {w W : World} {u : Bool} {es : List EN} {am : Option Addr} {nm cm : Nat} {k : List ET} {c : Nat} {O : Nat → Prop} {wh : Int} {sa : Option Addr} {sn sc : Nat} {key : List VT} {id : Int} {ia : Option Addr} {nids ic : Nat} {at_ : Int} (P : HpAt p Bs w W u es am nm cm k c O wh sa sn sc key id) (hat : at_ = atN es key id es.length) (hids : nids = (idsF es key).length) (u1 u2 u3 u4 u7 u11 u12 u13 u14 u15 u16 u17 u18 u19 u20 u21 u22 u23 u24 u25 u26 u27 u28 u29 u30 u31 u32 u33 u34 u35 u36 u37 u38 u39 u40 u41 u42 u43 u44 u45 u46 u47 u48 u49 u50 u51 u52 u53 u54 u55 u56 u57 u58 u59 u60 u61 u62 u63 u64 u65 u66 u67 u68 u69 u70 u71 u72 u73 u74 u75 u76 u77 u78 u79 u80 u81 u82 u83 u84 u85 u86 u87 u88 u89 u90 u91 u92 u93 u94 u95 u96 u97 u98 u99 u100 u101 u102 u103 u104 u105 u106 u107 u108 u109 u110 u111 u112 u113 u114 u115 u116 u117 u118 u119 u120 u121 u122 u123 u124 u125 u126 u127 u128 u129 u130 u131 u132 u133 u134 u135 u136 u137 u138 u139 u140 u141 u142 u143 u144 u145 u146 u147 u148 u149 u150 u151 u152 u153 u154 u155 u156 u157 u158 u159 u160 u161 u162 u163 u164 u165 u166 u167 u168 u169 u170 u171 u172 u173 u174 u175 u176 u177 u178 u179 u180 u181 u182 u183 u184 : Value) (K : Act → World → Prop) (Q : Exit → Act → World → Prop)
    (hK0 : ∀ (v6 v11 v12 v13 v44 v45 v46 v47 v48 v49 v50 v51 v52 v53 v54 v55 v56 v57 v58 v59 v60 v61 v62 v63 v64 v65 v66 v67 v68 v69 v70 v71 v72 v73 v74 v75 v76 v77 v78 v79 v80 v81 v82 v83 v84 v85 v86 v87 v88 v89 v90 v91 v92 v93 v94 v95 v96 v97 v98 v99 v100 v101 v102 v103 v104 v105 v106 v107 v108 v109 v110 v111 v112 v113 v114 v115 v116 v117 v118 v119 v120 v121 v122 v123 v124 v125 v126 v127 v128 v129 v130 v131 v132 v133 v134 v135 v136 v137 v138 v139 v140 v141 v142 v143 : Value) (wx : World), HpMid p Bs w u es.length c sa sn sc id v6 wx → K ⟨#[.bool u, u1, u2, u3, u4, .pointer (some ⟨p, 0, none⟩), v6, u7, .pointer (some ⟨Bs, 0, none⟩), .slice ia nids ic, .int .i64 at_, v11, v12, v13, u14, u15, u16, u17, u18, u19, u20, u21, u22, u23, u24, u25, u26, u27, u28, u29, u30, u31, u32, u33, u34, u35, u36, u37, u38, u39, u40, u41, u42, u43, v44, v45, v46, v47, v48, v49, v50, v51, v52, v53, v54, v55, v56, v57, v58, v59, v60, v61, v62, v63, v64, v65, v66, v67, v68, v69, v70, v71, v72, v73, v74, v75, v76, v77, v78, v79, v80, v81, v82, v83, v84, v85, v86, v87, v88, v89, v90, v91, v92, v93, v94, v95, v96, v97, v98, v99, v100, v101, v102, v103, v104, v105, v106, v107, v108, v109, v110, v111, v112, v113, v114, v115, v116, v117, v118, v119, v120, v121, v122, v123, v124, v125, v126, v127, v128, v129, v130, v131, v132, v133, v134, v135, v136, v137, v138, v139, v140, v141, v142, v143, u144, u145, u146, u147, u148, u149, u150, u151, u152, u153, u154, u155, u156, u157, u158, u159, u160, u161, u162, u163, u164, u165, u166, u167, u168, u169, u170, u171, u172, u173, u174, u175, u176, u177, u178, u179, u180, u181, u182, u183, u184], []⟩ wx) :
    Code.wp Try.prog ((Try.f3.body.bind (blkN 2)).getD .skip) (Exit.then K Q) ⟨#[.bool u, u1, u2, u3, u4, .pointer (some ⟨p, 0, none⟩), .slice am nm cm, u7, .pointer (some ⟨Bs, 0, none⟩), .slice ia nids ic, .int .i64 at_, u11, u12, u13, u14, u15, u16, u17, u18, u19, u20, u21, u22, u23, u24, u25, u26, u27, u28, u29, u30, u31, u32, u33, u34, u35, u36, u37, u38, u39, u40, u41, u42, u43, u44, u45, u46, u47, u48, u49, u50, u51, u52, u53, u54, u55, u56, u57, u58, u59, u60, u61, u62, u63, u64, u65, u66, u67, u68, u69, u70, u71, u72, u73, u74, u75, u76, u77, u78, u79, u80, u81, u82, u83, u84, u85, u86, u87, u88, u89, u90, u91, u92, u93, u94, u95, u96, u97, u98, u99, u100, u101, u102, u103, u104, u105, u106, u107, u108, u109, u110, u111, u112, u113, u114, u115, u116, u117, u118, u119, u120, u121, u122, u123, u124, u125, u126, u127, u128, u129, u130, u131, u132, u133, u134, u135, u136, u137, u138, u139, u140, u141, u142, u143, u144, u145, u146, u147, u148, u149, u150, u151, u152, u153, u154, u155, u156, u157, u158, u159, u160, u161, u162, u163, u164, u165, u166, u167, u168, u169, u170, u171, u172, u173, u174, u175, u176, u177, u178, u179, u180, u181, u182, u183, u184], []⟩ W := by
  have hK : ∀ a' w', Met (HpJ p Bs w u es.length c nids ic ia at_ sa sn sc id u1 u2 u3 u4 u7 u14 u15 u16 u17 u18 u19 u20 u21 u22 u23 u24 u25 u26 u27 u28 u29 u30 u31 u32 u33 u34 u35 u36 u37 u38 u39 u40 u41 u42 u43 u144 u145 u146 u147 u148 u149 u150 u151 u152 u153 u154 u155 u156 u157 u158 u159 u160 u161 u162 u163 u164 u165 u166 u167 u168 u169 u170 u171 u172 u173 u174 u175 u176 u177 u178 u179 u180 u181 u182 u183 u184) a' w' → K a' w' := by
    intro a' w' hJ
    unfold Met HpJ at hJ
    obtain ⟨v6, hJ⟩ := hJ
    obtain ⟨v11, hJ⟩ := hJ
    obtain ⟨v12, hJ⟩ := hJ
    obtain ⟨v13, hJ⟩ := hJ
    obtain ⟨v44, hJ⟩ := hJ
    obtain ⟨v45, hJ⟩ := hJ
    obtain ⟨v46, hJ⟩ := hJ
    obtain ⟨v47, hJ⟩ := hJ
    obtain ⟨v48, hJ⟩ := hJ
    obtain ⟨v49, hJ⟩ := hJ
    obtain ⟨v50, hJ⟩ := hJ
    obtain ⟨v51, hJ⟩ := hJ
    obtain ⟨v52, hJ⟩ := hJ
    obtain ⟨v53, hJ⟩ := hJ
    obtain ⟨v54, hJ⟩ := hJ
    obtain ⟨v55, hJ⟩ := hJ
    obtain ⟨v56, hJ⟩ := hJ
    obtain ⟨v57, hJ⟩ := hJ
    obtain ⟨v58, hJ⟩ := hJ
    obtain ⟨v59, hJ⟩ := hJ
    obtain ⟨v60, hJ⟩ := hJ
    obtain ⟨v61, hJ⟩ := hJ
    obtain ⟨v62, hJ⟩ := hJ
    obtain ⟨v63, hJ⟩ := hJ
    obtain ⟨v64, hJ⟩ := hJ
    obtain ⟨v65, hJ⟩ := hJ
    obtain ⟨v66, hJ⟩ := hJ
    obtain ⟨v67, hJ⟩ := hJ
    obtain ⟨v68, hJ⟩ := hJ
    obtain ⟨v69, hJ⟩ := hJ
    obtain ⟨v70, hJ⟩ := hJ
    obtain ⟨v71, hJ⟩ := hJ
    obtain ⟨v72, hJ⟩ := hJ
    obtain ⟨v73, hJ⟩ := hJ
    obtain ⟨v74, hJ⟩ := hJ
    obtain ⟨v75, hJ⟩ := hJ
    obtain ⟨v76, hJ⟩ := hJ
    obtain ⟨v77, hJ⟩ := hJ
    obtain ⟨v78, hJ⟩ := hJ
    obtain ⟨v79, hJ⟩ := hJ
    obtain ⟨v80, hJ⟩ := hJ
    obtain ⟨v81, hJ⟩ := hJ
    obtain ⟨v82, hJ⟩ := hJ
    obtain ⟨v83, hJ⟩ := hJ
    obtain ⟨v84, hJ⟩ := hJ
    obtain ⟨v85, hJ⟩ := hJ
    obtain ⟨v86, hJ⟩ := hJ
    obtain ⟨v87, hJ⟩ := hJ
    obtain ⟨v88, hJ⟩ := hJ
    obtain ⟨v89, hJ⟩ := hJ
    obtain ⟨v90, hJ⟩ := hJ
    obtain ⟨v91, hJ⟩ := hJ
    obtain ⟨v92, hJ⟩ := hJ
    obtain ⟨v93, hJ⟩ := hJ
    obtain ⟨v94, hJ⟩ := hJ
    obtain ⟨v95, hJ⟩ := hJ
    obtain ⟨v96, hJ⟩ := hJ
    obtain ⟨v97, hJ⟩ := hJ
    obtain ⟨v98, hJ⟩ := hJ
    obtain ⟨v99, hJ⟩ := hJ
    obtain ⟨v100, hJ⟩ := hJ
    obtain ⟨v101, hJ⟩ := hJ
    obtain ⟨v102, hJ⟩ := hJ
    obtain ⟨v103, hJ⟩ := hJ
    obtain ⟨v104, hJ⟩ := hJ
    obtain ⟨v105, hJ⟩ := hJ
    obtain ⟨v106, hJ⟩ := hJ
    obtain ⟨v107, hJ⟩ := hJ
    obtain ⟨v108, hJ⟩ := hJ
    obtain ⟨v109, hJ⟩ := hJ
    obtain ⟨v110, hJ⟩ := hJ
    obtain ⟨v111, hJ⟩ := hJ
    obtain ⟨v112, hJ⟩ := hJ
    obtain ⟨v113, hJ⟩ := hJ
    obtain ⟨v114, hJ⟩ := hJ
    obtain ⟨v115, hJ⟩ := hJ
    obtain ⟨v116, hJ⟩ := hJ
    obtain ⟨v117, hJ⟩ := hJ
    obtain ⟨v118, hJ⟩ := hJ
    obtain ⟨v119, hJ⟩ := hJ
    obtain ⟨v120, hJ⟩ := hJ
    obtain ⟨v121, hJ⟩ := hJ
    obtain ⟨v122, hJ⟩ := hJ
    obtain ⟨v123, hJ⟩ := hJ
    obtain ⟨v124, hJ⟩ := hJ
    obtain ⟨v125, hJ⟩ := hJ
    obtain ⟨v126, hJ⟩ := hJ
    obtain ⟨v127, hJ⟩ := hJ
    obtain ⟨v128, hJ⟩ := hJ
    obtain ⟨v129, hJ⟩ := hJ
    obtain ⟨v130, hJ⟩ := hJ
    obtain ⟨v131, hJ⟩ := hJ
    obtain ⟨v132, hJ⟩ := hJ
    obtain ⟨v133, hJ⟩ := hJ
    obtain ⟨v134, hJ⟩ := hJ
    obtain ⟨v135, hJ⟩ := hJ
    obtain ⟨v136, hJ⟩ := hJ
    obtain ⟨v137, hJ⟩ := hJ
    obtain ⟨v138, hJ⟩ := hJ
    obtain ⟨v139, hJ⟩ := hJ
    obtain ⟨v140, hJ⟩ := hJ
    obtain ⟨v141, hJ⟩ := hJ
    obtain ⟨v142, hJ⟩ := hJ
    obtain ⟨v143, hJ⟩ := hJ
    obtain ⟨hm, rfl⟩ := hJ
    exact hK0 v6 v11 v12 v13 v44 v45 v46 v47 v48 v49 v50 v51 v52 v53 v54 v55 v56 v57 v58 v59 v60 v61 v62 v63 v64 v65 v66 v67 v68 v69 v70 v71 v72 v73 v74 v75 v76 v77 v78 v79 v80 v81 v82 v83 v84 v85 v86 v87 v88 v89 v90 v91 v92 v93 v94 v95 v96 v97 v98 v99 v100 v101 v102 v103 v104 v105 v106 v107 v108 v109 v110 v111 v112 v113 v114 v115 v116 v117 v118 v119 v120 v121 v122 v123 v124 v125 v126 v127 v128 v129 v130 v131 v132 v133 v134 v135 v136 v137 v138 v139 v140 v141 v142 v143 w' hm
  clear hK0
  rcases at_cases es key id with ⟨ha1, ha2⟩ | ⟨q, ha0, ha1, ha2⟩
  · rw [ha1] at hat
    by_cases hwh : wh ≤ 3
    · by_cases hd : u = true ∧ idsF es key ≠ []
      · exact hp_insnot 80 P hwh (.inr ⟨rfl, ha2, hat, hd.1, hd.2, by rw [hids]; exact List.length_pos_iff.2 hd.2⟩) u1 u2 u3 u4 u7 u11 u12 u13 u14 u15 u16 u17 u18 u19 u20 u21 u22 u23 u24 u25 u26 u27 u28 u29 u30 u31 u32 u33 u34 u35 u36 u37 u38 u39 u40 u41 u42 u43 u44 u45 u46 u47 u48 u49 u50 u51 u52 u53 u54 u55 u56 u57 u58 u59 u60 u61 u62 u63 u64 u65 u66 u67 u68 u69 u70 u71 u72 u73 u74 u75 u76 u77 u78 u79 u80 u81 u82 u83 u84 u85 u86 u87 u88 u89 u90 u91 u92 u93 u94 u95 u96 u97 u98 u99 u100 u101 u102 u103 u104 u105 u106 u107 u108 u109 u110 u111 u112 u113 u114 u115 u116 u117 u118 u119 u120 u121 u122 u123 u124 u125 u126 u127 u128 u129 u130 u131 u132 u133 u134 u135 u136 u137 u138 u139 u140 u141 u142 u143 u144 u145 u146 u147 u148 u149 u150 u151 u152 u153 u154 u155 u156 u157 u158 u159 u160 u161 u162 u163 u164 u165 u166 u167 u168 u169 u170 u171 u172 u173 u174 u175 u176 u177 u178 u179 u180 u181 u182 u183 u184 K Q hK
      · refine hp_ins P hwh hat ha2 ?_ u1 u2 u3 u4 u7 u11 u12 u13 u14 u15 u16 u17 u18 u19 u20 u21 u22 u23 u24 u25 u26 u27 u28 u29 u30 u31 u32 u33 u34 u35 u36 u37 u38 u39 u40 u41 u42 u43 u44 u45 u46 u47 u48 u49 u50 u51 u52 u53 u54 u55 u56 u57 u58 u59 u60 u61 u62 u63 u64 u65 u66 u67 u68 u69 u70 u71 u72 u73 u74 u75 u76 u77 u78 u79 u80 u81 u82 u83 u84 u85 u86 u87 u88 u89 u90 u91 u92 u93 u94 u95 u96 u97 u98 u99 u100 u101 u102 u103 u104 u105 u106 u107 u108 u109 u110 u111 u112 u113 u114 u115 u116 u117 u118 u119 u120 u121 u122 u123 u124 u125 u126 u127 u128 u129 u130 u131 u132 u133 u134 u135 u136 u137 u138 u139 u140 u141 u142 u143 u144 u145 u146 u147 u148 u149 u150 u151 u152 u153 u154 u155 u156 u157 u158 u159 u160 u161 u162 u163 u164 u165 u166 u167 u168 u169 u170 u171 u172 u173 u174 u175 u176 u177 u178 u179 u180 u181 u182 u183 u184 K Q hK
        cases u
        · exact .inl rfl
        · right
          have h0 : idsF es key = [] := Classical.byContradiction (fun h => hd ⟨rfl, h⟩)
          exact ⟨h0, by rw [hids, h0]; rfl⟩
    · exact hp_eranot P hwh hat ha2 u1 u2 u3 u4 u7 u11 u12 u13 u14 u15 u16 u17 u18 u19 u20 u21 u22 u23 u24 u25 u26 u27 u28 u29 u30 u31 u32 u33 u34 u35 u36 u37 u38 u39 u40 u41 u42 u43 u44 u45 u46 u47 u48 u49 u50 u51 u52 u53 u54 u55 u56 u57 u58 u59 u60 u61 u62 u63 u64 u65 u66 u67 u68 u69 u70 u71 u72 u73 u74 u75 u76 u77 u78 u79 u80 u81 u82 u83 u84 u85 u86 u87 u88 u89 u90 u91 u92 u93 u94 u95 u96 u97 u98 u99 u100 u101 u102 u103 u104 u105 u106 u107 u108 u109 u110 u111 u112 u113 u114 u115 u116 u117 u118 u119 u120 u121 u122 u123 u124 u125 u126 u127 u128 u129 u130 u131 u132 u133 u134 u135 u136 u137 u138 u139 u140 u141 u142 u143 u144 u145 u146 u147 u148 u149 u150 u151 u152 u153 u154 u155 u156 u157 u158 u159 u160 u161 u162 u163 u164 u165 u166 u167 u168 u169 u170 u171 u172 u173 u174 u175 u176 u177 u178 u179 u180 u181 u182 u183 u184 K Q hK
  · rw [ha1] at hat
    by_cases hwh : wh ≤ 3
    · exact hp_insnot 72 P hwh (.inl ⟨rfl, List.mem_of_getElem? ha2, q, hat⟩) u1 u2 u3 u4 u7 u11 u12 u13 u14 u15 u16 u17 u18 u19 u20 u21 u22 u23 u24 u25 u26 u27 u28 u29 u30 u31 u32 u33 u34 u35 u36 u37 u38 u39 u40 u41 u42 u43 u44 u45 u46 u47 u48 u49 u50 u51 u52 u53 u54 u55 u56 u57 u58 u59 u60 u61 u62 u63 u64 u65 u66 u67 u68 u69 u70 u71 u72 u73 u74 u75 u76 u77 u78 u79 u80 u81 u82 u83 u84 u85 u86 u87 u88 u89 u90 u91 u92 u93 u94 u95 u96 u97 u98 u99 u100 u101 u102 u103 u104 u105 u106 u107 u108 u109 u110 u111 u112 u113 u114 u115 u116 u117 u118 u119 u120 u121 u122 u123 u124 u125 u126 u127 u128 u129 u130 u131 u132 u133 u134 u135 u136 u137 u138 u139 u140 u141 u142 u143 u144 u145 u146 u147 u148 u149 u150 u151 u152 u153 u154 u155 u156 u157 u158 u159 u160 u161 u162 u163 u164 u165 u166 u167 u168 u169 u170 u171 u172 u173 u174 u175 u176 u177 u178 u179 u180 u181 u182 u183 u184 K Q hK
    · exact hp_era q P hwh hat ha2 u1 u2 u3 u4 u7 u11 u12 u13 u14 u15 u16 u17 u18 u19 u20 u21 u22 u23 u24 u25 u26 u27 u28 u29 u30 u31 u32 u33 u34 u35 u36 u37 u38 u39 u40 u41 u42 u43 u44 u45 u46 u47 u48 u49 u50 u51 u52 u53 u54 u55 u56 u57 u58 u59 u60 u61 u62 u63 u64 u65 u66 u67 u68 u69 u70 u71 u72 u73 u74 u75 u76 u77 u78 u79 u80 u81 u82 u83 u84 u85 u86 u87 u88 u89 u90 u91 u92 u93 u94 u95 u96 u97 u98 u99 u100 u101 u102 u103 u104 u105 u106 u107 u108 u109 u110 u111 u112 u113 u114 u115 u116 u117 u118 u119 u120 u121 u122 u123 u124 u125 u126 u127 u128 u129 u130 u131 u132 u133 u134 u135 u136 u137 u138 u139 u140 u141 u142 u143 u144 u145 u146 u147 u148 u149 u150 u151 u152 u153 u154 u155 u156 u157 u158 u159 u160 u161 u162 u163 u164 u165 u166 u167 u168 u169 u170 u171 u172 u173 u174 u175 u176 u177 u178 u179 u180 u181 u182 u183 u184 K Q hK
set_option maxHeartbeats 8000000 in
theorem hashPlays_many (u : Bool) (a : Option Addr) (n0 cap : Nat) (w : World) (hn : ¬ n0 ≤ 80) :
    Calls Try.prog 3 #[.bool u, .slice a n0 cap] w fun e w' => e = .returned (.bool true) ∧ Up w w' := by
  have g0 : (n0 : Int) > 80 := by omega
  have g1 : (80 : Int) < (n0 : Int) := by omega
  have g2 : decide ((n0 : Int) > 80) = true := decide_eq_true g0
  clear hn
  go_enter Try.func3, Try.ntmps3
  go_wp2_with fail
  refine (known_calls _).mono ?_
  rintro _ wk ⟨rfl, huk⟩
  dsimp only
  go_wp2
  go_ret
  exact ⟨rfl, huk⟩
set_option maxHeartbeats 16000000 in
theorem hashPlays_few (u : Bool) (a : Option Addr) (n0 cap : Nat) (l : List ST) (w : World) (hn : n0 ≤ 80) (h : Steps w w a n0 l) :
    Calls Try.prog 3 #[.bool u, .slice a n0 cap] w fun e w' => e = .returned (.bool true) ∧ Up w w' := by
  have H := hide h
  have e1 : decide ((n0 : Int) > 80) = false := decide_eq_false (by omega)
  clear h
  go_enter Try.func3, Try.ntmps3
  go_wp2_with fail
  go_at_call 7
  refine (known_calls _).mono ?_
  rintro _ w1 ⟨rfl, hu1⟩
  have U1 := hide hu1
  clear hu1
  go_wp2_with fail
  go_at_call 8
  refine (newX_calls u w _ U1.out).mono ?_
  rintro _ w2 ⟨p, rfl, hi2⟩
  have I2 := hide hi2
  clear hi2 U1
  have HI0 : ∃ O, HI p w w2 u [] (.slice none 0 0) [] 0 O := by
    obtain ⟨h1, O, h2, h3⟩ := I2.out
    exact ⟨O, h1, h2, h3, ent_nil, OwnG.nil _ _ _ _ _, ⟨rfl, fun i x e h => by simp at h⟩, fun g hg => by cases hg⟩
  clear I2
  go_wp2_with fail
  go_loopw [6, 7] (fun v iu wr => ∃ (i : Nat) (es : List EN) (k : List ET) (c : Nat) (O : Nat → Prop), iu = .int .i64 i ∧ i ≤ n0 ∧ HI p w wr u es v k c O ∧ c ≤ i ∧ es.length ≤ i) (fun _ iu _ => n0 - (intOf iu).toNat)
  case atStart =>
    obtain ⟨O, h⟩ := HI0
    exact ⟨0, [], [], 0, O, rfl, Nat.zero_le _, h, Nat.le_refl _, Nat.le_refl _⟩
  case round =>
    obtain ⟨i, es, k, c, O, rfl, hi, hhi, hci, hei⟩ := hrel
    have HH := hide hhi
    clear hhi HI0
    by_cases hlt : i < n0
    · obtain ⟨g, off, rfl, hcells⟩ : ∃ b off, a = some ⟨b, off, none⟩ ∧ ∀ i, i < n0 → ∀ j v, (sCells (l.getD i zeroST))[j]? = some v → w.cell? ⟨b, off + i * 3 + j, none⟩ = some v := by
        rcases H.out.2.2 with h | h
        · omega
        · exact h
      have x0 := hcells i hlt 0 _ rfl
      have x1 := hcells i hlt 1 _ rfl
      have x2 := hcells i hlt 2 _ rfl
      have hok := H.out.2.1 i
      generalize l.getD i zeroST = st at x0 x1 x2 hok
      obtain ⟨wh, sa, sn, sc, key, id⟩ := st
      obtain ⟨⟨o1, o2⟩, ⟨o3, o4, o5, o6⟩, o7, o8⟩ := hok
      rw [Nat.add_zero] at x0
      simp only at x0 x1 x2 o1 o2 o3 o4 o5 o6 o7 o8
      replace x0 := HH.out.up.cell x0
      replace x1 := HH.out.up.cell x1
      replace x2 := HH.out.up.cell x2
      have HV := hide o6
      clear hcells o6
      have t1 : decide ((i : Int) < n0) = true := decide_eq_true (by omega)
      have z1 : (i : Int) < n0 := by omega
      have z0 : (0 : Int) ≤ (i : Int) := by omega
      obtain ⟨W0, hW0⟩ : ∃ W0, W0 = wr.alloc (.cells #[.int .i64 wh, .slice sa sn sc, .int .i64 id] 29) := ⟨_, rfl⟩
      obtain ⟨Bs, hBs⟩ : ∃ Bs, Bs = wr.heap.size := ⟨_, rfl⟩
      have b0 : W0.cell? ⟨Bs, 0, none⟩ = some (.int .i64 wh) := by rw [hW0, hBs]; go_simp
      have b1 : W0.cell? ⟨Bs, 1, none⟩ = some (.slice sa sn sc) := by rw [hW0, hBs]; go_simp
      have b2 : W0.cell? ⟨Bs, 2, none⟩ = some (.int .i64 id) := by rw [hW0, hBs]; go_simp
      have HU0 : Hid (Up wr W0) := by rw [hW0]; exact (Up.refl _).alloc _
      have HN : Hid (¬ O Bs ∧ ∀ g, u6.ownBlock = some g → ¬ g = Bs) := ⟨fun e => by have := HH.out.idx.1 Bs e; omega, fun g hg e => by have := (HH.out.own.lt g hg).2; omega⟩
      have HH0 := hide (HH.out.upto HU0.out)
      clear HH
      go_wp2_with fail
      rw [← hW0, ← hBs]
      have HV0 := hide (HV.out.up HH0.out.up)
      clear hW0 hBs x0 x1 x2
      go_at_call 9
      refine (few_calls sa sn sc key 6 W0 o3 HV0.out).mono ?_
      rintro _ w5 ⟨rfl, hw5⟩
      obtain rfl : W0 = w5 := hw5.symm
      cases hfw : fewB key 6 with
      | false =>
        go_wp2
        go_ret
        exact ⟨rfl, HH0.out.up⟩
      | true =>
        have HGK := hide (good_few hfw (by decide) HV.out.2.1)
        have HSN : Hid (sn ≤ 1000) := hide (by have h6 : key.length ≤ 6 := few_len hfw; have h7 : key.length = sn := HV.out.1; omega)
        clear hfw
        go_wp2_with fail
        obtain ⟨ma, mcap, rfl, hm1, hm2, hrd⟩ := HH0.out.own.rd
        have HKL : Hid (k.length = es.length) := HH0.out.rel.1
        have HMC : Hid (k.length ≤ mcap) := hm1
        clear hm1 hm2
        go_at_call 10
        refine (find0_calls ma mcap k es _ sa sn sc key id W0 hrd (HH0.out.rel.chg (Chg.of_up (C := fun _ => False) HH0.out.up) (fun _ _ h => h)) (by have := HKL.out; omega) HV0.out o3).mono ?_
        rintro _ w6 ⟨vi, rfl, hoj, hu6⟩
        have HJ := hide hoj
        have HH6 := hide (HH0.out.upto hu6)
        have HV6 := hide (HV0.out.up hu6)
        replace b0 := hu6.cell b0
        replace b1 := hu6.cell b1
        replace b2 := hu6.cell b2
        clear hoj hu6 HH0 HV0 HU0 hrd
        go_upto_block 2 with fail
        obtain ⟨via, vin, vic, rfl, hvn⟩ : ∃ a n c, vi = .slice a n c ∧ n = (idsF es key).length := by
          obtain ⟨a, c, e, _⟩ := HJ.out.rd
          exact ⟨a, _, c, e, rfl⟩
        have HPA : Hid (HpAt p Bs w w6 u es ma k.length mcap k c O wh sa sn sc key id) := hide ⟨HH6.out, b0, b1, b2, HGK.out, HV.out, o4, o5, HSN.out, by omega, by omega, HN.out.1, HN.out.2, rfl, HMC.out⟩
        clear b0 b1 b2
        refine hp_act HPA.out rfl hvn _ _ _ _ _ _ _ _ _ _ _ _ _ _ _ _ _ _ _ _ _ _ _ _ _ _ _ _ _ _ _ _ _ _ _ _ _ _ _ _ _ _ _ _ _ _ _ _ _ _ _ _ _ _ _ _ _ _ _ _ _ _ _ _ _ _ _ _ _ _ _ _ _ _ _ _ _ _ _ _ _ _ _ _ _ _ _ _ _ _ _ _ _ _ _ _ _ _ _ _ _ _ _ _ _ _ _ _ _ _ _ _ _ _ _ _ _ _ _ _ _ _ _ _ _ _ _ _ _ _ _ _ _ _ _ _ _ _ _ _ _ _ _ _ _ _ _ _ _ _ _ _ _ _ _ _ _ _ _ _ _ _ _ _ _ _ _ _ _ _ _ _ _ _ _ _ _ _ _ _ _ ?_
        intro v6 v11 v12 v13 v44 v45 v46 v47 v48 v49 v50 v51 v52 v53 v54 v55 v56 v57 v58 v59 v60 v61 v62 v63 v64 v65 v66 v67 v68 v69 v70 v71 v72 v73 v74 v75 v76 v77 v78 v79 v80 v81 v82 v83 v84 v85 v86 v87 v88 v89 v90 v91 v92 v93 v94 v95 v96 v97 v98 v99 v100 v101 v102 v103 v104 v105 v106 v107 v108 v109 v110 v111 v112 v113 v114 v115 v116 v117 v118 v119 v120 v121 v122 v123 v124 v125 v126 v127 v128 v129 v130 v131 v132 v133 v134 v135 v136 v137 v138 v139 v140 v141 v142 v143 wc hmid
        obtain ⟨es, k, c, O, hhi, hc2, hel2, b1, b2⟩ := hmid
        rename_i hK1
        refine hK1 _ _ ?_
        obtain ⟨ma, mcap, rfl, hm1, hm2, hrd⟩ := hhi.own.rd
        have HKL7 : Hid (k.length ≤ 1000) := by have := hhi.rel.1; show _ ≤ _; omega
        clear hm1 hm2
        have HH7 := hide hhi
        have HR7 := hide hrd
        have HV7 := hide (HV.out.up hhi.up)
        clear hhi hrd
        go_wp2_with fail
        go_at_call 10
        refine (find0_calls ma mcap k es _ sa sn sc key id wc HR7.out (HH7.out.rel.chg (Chg.of_up (C := fun _ => False) HH7.out.up) (fun _ _ h => h)) HKL7.out HV7.out o3).mono ?_
        rintro _ w7 ⟨vj, rfl, hoj, hu7⟩
        have HJ8 := hide hoj
        have HH8 := hide (HH7.out.upto hu7)
        replace b1 := hu7.cell b1
        replace b2 := hu7.cell b2
        clear hoj hu7 HR7 HH7
        obtain ⟨atv, hatv⟩ : ∃ atv, atv = atN es key id es.length := ⟨_, rfl⟩
        obtain ⟨bh, hbh⟩ : ∃ bh, bh = decide (id ∈ idsF es key) := ⟨_, rfl⟩
        have t3 : decide (atv ≥ 0) = bh := by
          rw [hatv, hbh]
          rcases at_cases es key id with ⟨h1, h2⟩ | ⟨q, h1, h2, h3⟩
          · rw [h1, decide_eq_false (by omega), decide_eq_false (fun h => h2 (mem_idsF.1 h))]
          · rw [h2, decide_eq_true (by omega), decide_eq_true (mem_idsF.2 (List.mem_of_getElem? h3))]
        have t4 : (bh != bh) = false := by simp
        rw [← hatv]
        have HBH := hide hbh
        clear hatv hbh
        have HIL := hide (idsF_len es key)
        go_wp2_with fail
        go_at_call 16
        refine (find_calls p O u (idsF es) es.length c sa sn sc key w7 HH8.out.idx HGK.out (HV.out.up HH8.out.up)).mono ?_
        rintro _ w8 ⟨v8, rfl, ho8, hu8⟩
        have HH9 := hide (HH8.out.upto hu8)
        have HO8 := hide ho8
        have HO7 := hide (HJ8.out.up hu8)
        replace b1 := hu8.cell b1
        replace b2 := hu8.cell b2
        clear ho8 hu8 HH8 HJ8
        go_wp2_with fail
        go_at_call 15
        refine (ids_calls _ _ _ _ w8 (OwnJ.rd HO8.out) (OwnJ.rd HO7.out) (by have := HIL.out; omega)).mono ?_
        rintro _ w9 ⟨he9, hu9⟩
        rw [decide_eq_true rfl] at he9
        subst he9
        have HHA := hide (HH9.out.upto hu9)
        replace b1 := hu9.cell b1
        replace b2 := hu9.cell b2
        clear hu9 HH9 HO8 HO7
        go_wp2_with fail
        go_at_call 17
        refine (has_calls p O u (idsF es) es.length c sa sn sc key id w9 HHA.out.idx HGK.out (HV.out.up HHA.out.up)).mono ?_
        rintro _ wA ⟨heA, huA⟩
        rw [← HBH.out] at heA
        subst heA
        have HHB := hide (HHA.out.upto huA)
        replace b1 := huA.cell b1
        replace b2 := huA.cell b2
        clear huA HHA
        have HKE : Hid ((k.length : Int) = (es.length : Int)) := by show _ = _; rw [HHB.out.rel.1]
        have t5 : ((es.length : Int) != (k.length : Int)) = false := by rw [HKE.out]; simp
        go_wp2_with fail
        go_at_call 18
        refine (len_calls p O u (idsF es) es.length c wA HHB.out.idx).mono ?_
        rintro _ wB ⟨rfl, huB⟩
        have HHC := hide (HHB.out.upto huB)
        clear huB HHB b1 b2
        --L5
        go_wp2_with fail
        go_at_call 20
        refine (all_calls p O u (idsF es) es.length c wB HHC.out.idx (by omega) (by omega)).mono ?_
        rintro _ wC ⟨vC, lC, msC, rfl, hoC, hrC, hpC, hmC, huC⟩
        rw [entsOf_eq HHC.out.ent hpC hmC] at hrC
        obtain ⟨ca, ccap, rfl, _, _, hrdC⟩ := hoC.rd
        have HHD := hide (HHC.out.upto huC)
        have HRC := hide hrC
        have HRDC := hide hrdC
        obtain ⟨da, dcap, hde, _, _, hrdD⟩ := HHD.out.own.rd
        cases hde
        have HRDD := hide hrdD
        clear hoC hrC hpC hmC huC hrdC HHC hrdD
        --L6
        go_wp2_with fail
        go_at_call 19
        refine (ents_calls ca ma ccap mcap lC k es _ _ wC HRDC.out HRC.out HRDD.out (HHD.out.rel.chg (Chg.of_up (C := fun _ => False) HHD.out.up) (fun _ _ h => h)) (by rw [HRC.out.1]; omega)).mono ?_
        rintro _ wD ⟨rfl, huD⟩
        have HHE := hide (HHD.out.upto huD)
        clear huD HHD HRC HRDC HRDD
        go_wp2
        go_roundw
        case rel => exact ⟨i + 1, es, k, c, O, by go_num, by omega, HHE.out, by omega, by omega⟩
        case measure => simp [intOf]; omega
    · have t1 : decide ((i : Int) < n0) = false := decide_eq_false (by omega)
      go_wp2
      go_ret
      exact ⟨rfl, HH.out.up⟩

end Go.Proofs.Ytofpakpbbpcalaa
