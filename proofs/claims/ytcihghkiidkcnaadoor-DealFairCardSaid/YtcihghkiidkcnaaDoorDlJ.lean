/- A round of the law DealFair, walked on its own. Condition: the sentinels lie as the program's text lays them. -/
import Derived.Test.YtcihghkiidkcnaaDoorDlI
import Derived.Test.YtcihghkiidkcnaaDoorRowBOd
namespace Go.Proofs.YtcihghkiidkcnaaDoor
open Go Go.RowKit

/-- What is asked behind it. -/
def fair_lp2Q (u0 u1 u2 u3 u4 u5 u6 u7 u8 u9 u10 u12 u13 u16 u17 u18 u19 u20 u21 u22 u23 u24 u25 u26 u27 u28 u29 u30 u31 u32 u33 u34 u35 u36 u37 u38 u39 u40 u41 u42 u43 u44 u45 u46 u47 u48 u49 u50 u51 u52 u53 u54 u55 u56 u57 u58 u59 u60 u61 u62 u63 u64 u65 u66 u67 u68 u69 u70 u71 u72 u73 u74 u75 u76 u77 u78 u79 u80 u81 u82 u83 u84 u85 u86 u87 u88 u89 u90 u91 u92 u93 u94 u95 u96 u97 u98 u99 u100 u101 u102 u103 u104 u105 u106 u107 u108 u109 u110 u111 u112 u113 u114 u115 u116 u117 u118 u119 u120 u121 u122 u123 u124 u125 u126 u127 u128 u129 u130 u131 u132 u133 u134 u135 u136 u137 u138 u139 u140 u141 u142 u143 u144 u145 u146 u147 u148 u149 u150 u151 u152 u153 u154 u155 u156 u157 u158 u159 u160 u161 u162 u163 u164 u165 u166 u167 u168 u169 u170 u171 u172 u173 u174 u175 u176 u177 u178 u179 u180 u181 u182 u183 u184 u185 u186 u187 u188 u189 u190 u191 u192 u193 u194 u195 u196 u197 u198 u199 u200 u201 u202 u203 u204 u205 u206 u207 u208 u209 u210 u211 u225 u226 u227 u228 u229 u230 u231 u232 u233 u234 u235 u236 u237 u238 u239 u240 u241 u242 u243 u244 u245 u246 u247 u248 u249 u250 u251 u252 : Value) (aS : Option Addr) (M cS : Nat) (S : List Od) (Q : Exit → Act → World → Prop) (w : World) : Prop :=
  ∀ (v15 v212 v213 v214 v215 v216 v217 v218 v219 v220 v221 v222 v223 v224 : Value) (w' : World), Below w.heap.size w w' → Q .normal { tmps := #[u0, u1, u2, u3, u4, u5, u6, u7, u8, u9, u10, .slice aS M cS, u12, u13, .int .i64 (sumO S), v15, u16, u17, u18, u19, u20, u21, u22, u23, u24, u25, u26, u27, u28, u29, u30, u31, u32, u33, u34, u35, u36, u37, u38, u39, u40, u41, u42, u43, u44, u45, u46, u47, u48, u49, u50, u51, u52, u53, u54, u55, u56, u57, u58, u59, u60, u61, u62, u63, u64, u65, u66, u67, u68, u69, u70, u71, u72, u73, u74, u75, u76, u77, u78, u79, u80, u81, u82, u83, u84, u85, u86, u87, u88, u89, u90, u91, u92, u93, u94, u95, u96, u97, u98, u99, u100, u101, u102, u103, u104, u105, u106, u107, u108, u109, u110, u111, u112, u113, u114, u115, u116, u117, u118, u119, u120, u121, u122, u123, u124, u125, u126, u127, u128, u129, u130, u131, u132, u133, u134, u135, u136, u137, u138, u139, u140, u141, u142, u143, u144, u145, u146, u147, u148, u149, u150, u151, u152, u153, u154, u155, u156, u157, u158, u159, u160, u161, u162, u163, u164, u165, u166, u167, u168, u169, u170, u171, u172, u173, u174, u175, u176, u177, u178, u179, u180, u181, u182, u183, u184, u185, u186, u187, u188, u189, u190, u191, u192, u193, u194, u195, u196, u197, u198, u199, u200, u201, u202, u203, u204, u205, u206, u207, u208, u209, u210, u211, v212, v213, v214, v215, v216, v217, v218, v219, v220, v221, v222, v223, v224, u225, u226, u227, u228, u229, u230, u231, u232, u233, u234, u235, u236, u237, u238, u239, u240, u241, u242, u243, u244, u245, u246, u247, u248, u249, u250, u251, u252], defers := [] } w'
set_option maxRecDepth 100000 in
set_option maxHeartbeats 6400000 in
/-- The loop over what stood. -/
theorem fair_lp2 (u0 u1 u2 u3 u4 u5 u6 u7 u8 u9 u10 u12 u13 u16 u17 u18 u19 u20 u21 u22 u23 u24 u25 u26 u27 u28 u29 u30 u31 u32 u33 u34 u35 u36 u37 u38 u39 u40 u41 u42 u43 u44 u45 u46 u47 u48 u49 u50 u51 u52 u53 u54 u55 u56 u57 u58 u59 u60 u61 u62 u63 u64 u65 u66 u67 u68 u69 u70 u71 u72 u73 u74 u75 u76 u77 u78 u79 u80 u81 u82 u83 u84 u85 u86 u87 u88 u89 u90 u91 u92 u93 u94 u95 u96 u97 u98 u99 u100 u101 u102 u103 u104 u105 u106 u107 u108 u109 u110 u111 u112 u113 u114 u115 u116 u117 u118 u119 u120 u121 u122 u123 u124 u125 u126 u127 u128 u129 u130 u131 u132 u133 u134 u135 u136 u137 u138 u139 u140 u141 u142 u143 u144 u145 u146 u147 u148 u149 u150 u151 u152 u153 u154 u155 u156 u157 u158 u159 u160 u161 u162 u163 u164 u165 u166 u167 u168 u169 u170 u171 u172 u173 u174 u175 u176 u177 u178 u179 u180 u181 u182 u183 u184 u185 u186 u187 u188 u189 u190 u191 u192 u193 u194 u195 u196 u197 u198 u199 u200 u201 u202 u203 u204 u205 u206 u207 u208 u209 u210 u211 u212 u213 u214 u215 u216 u217 u218 u219 u220 u221 u222 u223 u224 u225 u226 u227 u228 u229 u230 u231 u232 u233 u234 u235 u236 u237 u238 u239 u240 u241 u242 u243 u244 u245 u246 u247 u248 u249 u250 u251 u252 : Value) (aS : Option Addr) (M cS g : Nat) (w0 : World) (q R : Nat) (b b' : RB) (o : Od) (S : List Od) (vL : Value) (L : List Fl) (m : Nat) (Q : Exit → Act → World → Prop) (w : World) (hFR : FairF b b' o S L m) (hD : DfS w0 q R g b' o (.slice aS M cS) S vL L w) (hM : S.length = M) (hM32 : M ≤ 32)
    (hQ : fair_lp2Q u0 u1 u2 u3 u4 u5 u6 u7 u8 u9 u10 u12 u13 u16 u17 u18 u19 u20 u21 u22 u23 u24 u25 u26 u27 u28 u29 u30 u31 u32 u33 u34 u35 u36 u37 u38 u39 u40 u41 u42 u43 u44 u45 u46 u47 u48 u49 u50 u51 u52 u53 u54 u55 u56 u57 u58 u59 u60 u61 u62 u63 u64 u65 u66 u67 u68 u69 u70 u71 u72 u73 u74 u75 u76 u77 u78 u79 u80 u81 u82 u83 u84 u85 u86 u87 u88 u89 u90 u91 u92 u93 u94 u95 u96 u97 u98 u99 u100 u101 u102 u103 u104 u105 u106 u107 u108 u109 u110 u111 u112 u113 u114 u115 u116 u117 u118 u119 u120 u121 u122 u123 u124 u125 u126 u127 u128 u129 u130 u131 u132 u133 u134 u135 u136 u137 u138 u139 u140 u141 u142 u143 u144 u145 u146 u147 u148 u149 u150 u151 u152 u153 u154 u155 u156 u157 u158 u159 u160 u161 u162 u163 u164 u165 u166 u167 u168 u169 u170 u171 u172 u173 u174 u175 u176 u177 u178 u179 u180 u181 u182 u183 u184 u185 u186 u187 u188 u189 u190 u191 u192 u193 u194 u195 u196 u197 u198 u199 u200 u201 u202 u203 u204 u205 u206 u207 u208 u209 u210 u211 u225 u226 u227 u228 u229 u230 u231 u232 u233 u234 u235 u236 u237 u238 u239 u240 u241 u242 u243 u244 u245 u246 u247 u248 u249 u250 u251 u252 aS M cS S Q w) :
    (Code.block 4 (bodyOf Tryd.f3 4)).wp Tryd.prog Q { tmps := #[u0, u1, u2, u3, u4, u5, u6, u7, u8, u9, u10, .slice aS M cS, u12, u13, .int .i64 0, .int .i64 0, u16, u17, u18, u19, u20, u21, u22, u23, u24, u25, u26, u27, u28, u29, u30, u31, u32, u33, u34, u35, u36, u37, u38, u39, u40, u41, u42, u43, u44, u45, u46, u47, u48, u49, u50, u51, u52, u53, u54, u55, u56, u57, u58, u59, u60, u61, u62, u63, u64, u65, u66, u67, u68, u69, u70, u71, u72, u73, u74, u75, u76, u77, u78, u79, u80, u81, u82, u83, u84, u85, u86, u87, u88, u89, u90, u91, u92, u93, u94, u95, u96, u97, u98, u99, u100, u101, u102, u103, u104, u105, u106, u107, u108, u109, u110, u111, u112, u113, u114, u115, u116, u117, u118, u119, u120, u121, u122, u123, u124, u125, u126, u127, u128, u129, u130, u131, u132, u133, u134, u135, u136, u137, u138, u139, u140, u141, u142, u143, u144, u145, u146, u147, u148, u149, u150, u151, u152, u153, u154, u155, u156, u157, u158, u159, u160, u161, u162, u163, u164, u165, u166, u167, u168, u169, u170, u171, u172, u173, u174, u175, u176, u177, u178, u179, u180, u181, u182, u183, u184, u185, u186, u187, u188, u189, u190, u191, u192, u193, u194, u195, u196, u197, u198, u199, u200, u201, u202, u203, u204, u205, u206, u207, u208, u209, u210, u211, u212, u213, u214, u215, u216, u217, u218, u219, u220, u221, u222, u223, u224, u225, u226, u227, u228, u229, u230, u231, u232, u233, u234, u235, u236, u237, u238, u239, u240, u241, u242, u243, u244, u245, u246, u247, u248, u249, u250, u251, u252], defers := [] } w := by
  simp only [bodyOf, Tryd.f3, blkOf, Option.bind_some, Option.orElse, Option.getD_some, Nat.reduceEqDiff, if_true, if_false, reduceCtorEq]
  have HQ := Lib.hid hQ
  have HFR := Lib.hid hFR
  have HD2 := Lib.hid hD
  have HM := Lib.hid hM
  clear hQ hFR hD hM
  go_wp2_with fail
  go_loopw [14, 15] (fun a u W => ∃ k : Nat, k ≤ M ∧ u = .int .i64 (k : Int) ∧ a = .int .i64 (sumO (S.take k)) ∧ Below w.heap.size w W) (fun _ u _ => M - (intOf u).toNat)
  case atStart => exact ⟨0, Nat.zero_le _, rfl, by rw [List.take_zero]; rfl, Below.refl _ _⟩
  case round =>
    obtain ⟨k, hk, rfl, rfl, hb⟩ := hrel
    have HD3 := Lib.hid (HD2.out.on hb)
    have HB3 := Lib.hid hb
    clear hb
    by_cases hkM : k < M
    · obtain ⟨x, hx⟩ : ∃ x, S[k]? = some x := ⟨_, List.getElem?_eq_getElem (by rw [HM.out]; exact hkM)⟩
      obtain ⟨adx, rfl, gl, x0, x1, x2, x3, x4, x5⟩ := LiesE.od HD3.out.std hx
      have HSN := Lib.hid (sumO_snoc hx)
      have hs1 := sumO_take HFR.out.slots k
      have hs2 := sumO_take HFR.out.slots (k + 1)
      rw [HSN.out] at hs2
      have hk0 : (0 : Int) ≤ (k : Int) := by omega
      have hk1 : (k : Int) < (M : Int) := by omega
      obtain ⟨a, ha⟩ : ∃ a, sumO (S.take k) = a := ⟨_, rfl⟩
      rw [ha] at HSN hs1 hs2 ⊢
      have w1 : IntKind.i64.wrap (a + x.lots) = a + x.lots := IntWalk.i64_in _ (by omega)
      have w2 : wrap64 (a + x.lots) = a + x.lots := by unfold wrap64; omega
      clear hx ha hs1 hs2
      go_wp2_with fail
      go_roundw
      case rel => exact ⟨k + 1, by omega, by go_num, by rw [HSN.out], HB3.out⟩
      case measure => simp [intOf]; omega
    · obtain rfl : k = M := by omega
      have e : sumO (S.take k) = sumO S := by rw [← HM.out, List.take_length]
      rw [e]
      clear e
      go_wp2_with fail
      exact HQ.out _ _ _ _ _ _ _ _ _ _ _ _ _ _ _ HB3.out

/-- What is asked behind it. -/
def fair_roundQ (u1 u20 u21 u22 u23 u24 u25 u26 u27 u28 u29 u30 u31 u32 : Value) (A : Option Addr) (c i : Nat) (X : List Od) (w0 : World) (q : Nat) (Q : Exit → Act → World → Prop) : Prop :=
  ∀ (v2 v5 v6 v7 v8 v9 v10 v11 v12 v13 v14 v15 v16 v17 v18 v19 v33 v34 v35 v36 v37 v38 v39 v40 v41 v42 v43 v44 v45 v46 v47 v48 v49 v50 v51 v52 v53 v54 v55 v56 v57 v58 v59 v60 v61 v62 v63 v64 v65 v66 v67 v68 v69 v70 v71 v72 v73 v74 v75 v76 v77 v78 v79 v80 v81 v82 v83 v84 v85 v86 v87 v88 v89 v90 v91 v92 v93 v94 v95 v96 v97 v98 v99 v100 v101 v102 v103 v104 v105 v106 v107 v108 v109 v110 v111 v112 v113 v114 v115 v116 v117 v118 v119 v120 v121 v122 v123 v124 v125 v126 v127 v128 v129 v130 v131 v132 v133 v134 v135 v136 v137 v138 v139 v140 v141 v142 v143 v144 v145 v146 v147 v148 v149 v150 v151 v152 v153 v154 v155 v156 v157 v158 v159 v160 v161 v162 v163 v164 v165 v166 v167 v168 v169 v170 v171 v172 v173 v174 v175 v176 v177 v178 v179 v180 v181 v182 v183 v184 v185 v186 v187 v188 v189 v190 v191 v192 v193 v194 v195 v196 v197 v198 v199 v200 v201 v202 v203 v204 v205 v206 v207 v208 v209 v210 v211 v212 v213 v214 v215 v216 v217 v218 v219 v220 v221 v222 v223 v224 v225 v226 v227 v228 v229 v230 v231 v232 v233 v234 v235 v236 v237 v238 v239 v240 v241 v242 v243 v244 v245 v246 v247 v248 v249 v250 v251 v252 : Value) (w' : World) (R' : Nat) (b' : RB), BkAt w0 w' q R' b' → GB b' → b'.came ≤ i + 1 → NoMeet b'.L → Q .normal { tmps := #[.slice A X.length c, u1, v2, .pointer (some ⟨q, 0, none⟩), .int .i64 (i : Int), v5, v6, v7, v8, v9, v10, v11, v12, v13, v14, v15, v16, v17, v18, v19, u20, u21, u22, u23, u24, u25, u26, u27, u28, u29, u30, u31, u32, v33, v34, v35, v36, v37, v38, v39, v40, v41, v42, v43, v44, v45, v46, v47, v48, v49, v50, v51, v52, v53, v54, v55, v56, v57, v58, v59, v60, v61, v62, v63, v64, v65, v66, v67, v68, v69, v70, v71, v72, v73, v74, v75, v76, v77, v78, v79, v80, v81, v82, v83, v84, v85, v86, v87, v88, v89, v90, v91, v92, v93, v94, v95, v96, v97, v98, v99, v100, v101, v102, v103, v104, v105, v106, v107, v108, v109, v110, v111, v112, v113, v114, v115, v116, v117, v118, v119, v120, v121, v122, v123, v124, v125, v126, v127, v128, v129, v130, v131, v132, v133, v134, v135, v136, v137, v138, v139, v140, v141, v142, v143, v144, v145, v146, v147, v148, v149, v150, v151, v152, v153, v154, v155, v156, v157, v158, v159, v160, v161, v162, v163, v164, v165, v166, v167, v168, v169, v170, v171, v172, v173, v174, v175, v176, v177, v178, v179, v180, v181, v182, v183, v184, v185, v186, v187, v188, v189, v190, v191, v192, v193, v194, v195, v196, v197, v198, v199, v200, v201, v202, v203, v204, v205, v206, v207, v208, v209, v210, v211, v212, v213, v214, v215, v216, v217, v218, v219, v220, v221, v222, v223, v224, v225, v226, v227, v228, v229, v230, v231, v232, v233, v234, v235, v236, v237, v238, v239, v240, v241, v242, v243, v244, v245, v246, v247, v248, v249, v250, v251, v252], defers := [] } w'
set_option maxRecDepth 100000 in
set_option maxHeartbeats 6400000 in
/-- A round: an order comes. -/
theorem fair_round (u1 u2 u5 u6 u7 u8 u9 u10 u11 u12 u13 u14 u15 u16 u17 u18 u19 u20 u21 u22 u23 u24 u25 u26 u27 u28 u29 u30 u31 u32 u33 u34 u35 u36 u37 u38 u39 u40 u41 u42 u43 u44 u45 u46 u47 u48 u49 u50 u51 u52 u53 u54 u55 u56 u57 u58 u59 u60 u61 u62 u63 u64 u65 u66 u67 u68 u69 u70 u71 u72 u73 u74 u75 u76 u77 u78 u79 u80 u81 u82 u83 u84 u85 u86 u87 u88 u89 u90 u91 u92 u93 u94 u95 u96 u97 u98 u99 u100 u101 u102 u103 u104 u105 u106 u107 u108 u109 u110 u111 u112 u113 u114 u115 u116 u117 u118 u119 u120 u121 u122 u123 u124 u125 u126 u127 u128 u129 u130 u131 u132 u133 u134 u135 u136 u137 u138 u139 u140 u141 u142 u143 u144 u145 u146 u147 u148 u149 u150 u151 u152 u153 u154 u155 u156 u157 u158 u159 u160 u161 u162 u163 u164 u165 u166 u167 u168 u169 u170 u171 u172 u173 u174 u175 u176 u177 u178 u179 u180 u181 u182 u183 u184 u185 u186 u187 u188 u189 u190 u191 u192 u193 u194 u195 u196 u197 u198 u199 u200 u201 u202 u203 u204 u205 u206 u207 u208 u209 u210 u211 u212 u213 u214 u215 u216 u217 u218 u219 u220 u221 u222 u223 u224 u225 u226 u227 u228 u229 u230 u231 u232 u233 u234 u235 u236 u237 u238 u239 u240 u241 u242 u243 u244 u245 u246 u247 u248 u249 u250 u251 u252 : Value) (s : Nat → Addr) (A : Option Addr) (c i : Nat) (X : List Od) (w0 : World) (q R : Nat) (b : RB) (o : Od) (Q : Exit → Act → World → Prop) (w : World) (hs : Sent s w0) (hX : BOdRow w0 w0.heap.size A X) (hK : BkAt w0 w q R b) (hG : GB b) (hcm : b.came ≤ i) (hi40 : i < 40) (hnm : NoMeet b.L) (ho : X[i]? = some o)
    (hQ : fair_roundQ u1 u20 u21 u22 u23 u24 u25 u26 u27 u28 u29 u30 u31 u32 A c i X w0 q Q) :
    (Code.block 1 (bodyOf Tryd.f3 1)).wp Tryd.prog Q { tmps := #[.slice A X.length c, u1, u2, .pointer (some ⟨q, 0, none⟩), .int .i64 (i : Int), u5, u6, u7, u8, u9, u10, u11, u12, u13, u14, u15, u16, u17, u18, u19, u20, u21, u22, u23, u24, u25, u26, u27, u28, u29, u30, u31, u32, u33, u34, u35, u36, u37, u38, u39, u40, u41, u42, u43, u44, u45, u46, u47, u48, u49, u50, u51, u52, u53, u54, u55, u56, u57, u58, u59, u60, u61, u62, u63, u64, u65, u66, u67, u68, u69, u70, u71, u72, u73, u74, u75, u76, u77, u78, u79, u80, u81, u82, u83, u84, u85, u86, u87, u88, u89, u90, u91, u92, u93, u94, u95, u96, u97, u98, u99, u100, u101, u102, u103, u104, u105, u106, u107, u108, u109, u110, u111, u112, u113, u114, u115, u116, u117, u118, u119, u120, u121, u122, u123, u124, u125, u126, u127, u128, u129, u130, u131, u132, u133, u134, u135, u136, u137, u138, u139, u140, u141, u142, u143, u144, u145, u146, u147, u148, u149, u150, u151, u152, u153, u154, u155, u156, u157, u158, u159, u160, u161, u162, u163, u164, u165, u166, u167, u168, u169, u170, u171, u172, u173, u174, u175, u176, u177, u178, u179, u180, u181, u182, u183, u184, u185, u186, u187, u188, u189, u190, u191, u192, u193, u194, u195, u196, u197, u198, u199, u200, u201, u202, u203, u204, u205, u206, u207, u208, u209, u210, u211, u212, u213, u214, u215, u216, u217, u218, u219, u220, u221, u222, u223, u224, u225, u226, u227, u228, u229, u230, u231, u232, u233, u234, u235, u236, u237, u238, u239, u240, u241, u242, u243, u244, u245, u246, u247, u248, u249, u250, u251, u252], defers := [] } w := by
  simp only [bodyOf, Tryd.f3, blkOf, Option.bind_some, Option.orElse, Option.getD_some, Nat.reduceEqDiff, if_true, if_false, reduceCtorEq]
  have HQ := Lib.hid hQ
  have HS := Lib.hid hs
  have HX := Lib.hid hX
  have HK := Lib.hid hK; have HG := Lib.hid hG; have HCM := Lib.hid hcm; have HNM := Lib.hid hnm
  obtain ⟨ad, rfl, c0, c1, c2, c3, c4, c5⟩ := HX.out.cells HK.out.below ho
  have hi0 : (0 : Int) ≤ (i : Int) := by omega
  have hi1 : (i : Int) < (X.length : Int) := by have := (List.getElem?_eq_some_iff.1 ho).1; omega
  clear hQ hs hX hK hG hcm hnm ho
  go_upto_region 8 with fail
  obtain ⟨W0, hW0⟩ : ∃ W0, w.alloc (.cells #[.int .i64 o.id, .int .i64 o.tn, .bool o.sell, .int .i64 o.price, .int .i64 o.lots, .int .i64 o.seq] 27) = W0 := ⟨_, rfl⟩
  obtain ⟨g, hg⟩ : ∃ g, w.heap.size = g := ⟨_, rfl⟩
  have hb0 : Below w.heap.size w W0 := by rw [← hW0]; exact (Below.refl _ _).alloc (Nat.le_refl _) _
  have HK0 := Lib.hid (HK.out.on hb0)
  have HO0 : Hid (BOdBlk W0 g o) := Lib.hid (by rw [← hW0, ← hg]; exact BOdBlk.new w o)
  have HQG : Hid (q < g ∧ R < g ∧ w0.heap.size ≤ g) := Lib.hid (by rw [← hg]; exact ⟨HK.out.book.lt.1, HK.out.book.lt.2.1, HK.out.below.size⟩)
  try rw [hW0]
  try rw [hg]
  clear hW0 hg hb0 HK c0 c1 c2 c3 c4 c5
  have HL1 := Lib.hid (HK0.out.list HG.out true)
  have HL2 := Lib.hid (fun (W : World) (hW : BkAt w0 W q R b) => hW.list HG.out false)
  go_wp2_with fail
  refine HL1.out.mono ?_
  rintro e w3 ⟨v1, rfl, ho1, t3, b3⟩
  have HK3 := Lib.hid t3
  have HO3 := Lib.hid (HO0.out.on b3)
  have HA3 := Lib.hid ho1
  have HZ0 : Hid (g < W0.heap.size) := Lib.hid (lt_of_block HO0.out)
  clear t3 b3 ho1 HK0 HO0 HL1
  go_wp2_with fail
  refine (HL2.out _ HK3.out).mono ?_
  rintro e w4 ⟨v2, rfl, ho2, t4, b4⟩
  have HK4 := Lib.hid t4
  have HO4 := Lib.hid (HO3.out.on b4)
  have HA4 := Lib.hid (HA3.out.on b4)
  have HB4 : Hid (OwnE encOd 27 w4 (g + 1) v2 (listR13 b.L false)) := Lib.hid (ho2.base (by have := (lt_of_block HO3.out); omega))
  clear t4 b4 ho2 HK3 HO3 HA3 HL2
  obtain ⟨o0, o1, o2, o3, o4, o5, ol⟩ := HO4.out.cells
  have HMC := Lib.hid (match_c s w0 w4 q R b o HS.out HK4.out HG.out (by have := HCM.out; omega))
  go_wp2_with fail
  refine HMC.out.mono ?_
  rintro e w5 ⟨vL, rfl, hoL, ⟨R', t5, _⟩, g5⟩
  have HK5 := Lib.hid t5
  have HO5 : Hid (BOdBlk w5 g o) := Lib.hid (g5.row HO4.out (by have := HQG.out; omega) (by have := HQG.out; omega))
  have HA5 : Hid (OwnE encOd 27 w5 (g + 1) v1 (listR13 b.L true)) := Lib.hid ((HA4.out.same fun i hi => g5.block i (HA4.out.lt i hi).2 (by have := (HA4.out.lt i hi).1; have := HZ0.out; have := HQG.out; omega) (by have := (HA4.out.lt i hi).1; have := HZ0.out; have := HQG.out; omega)).base (by have := HZ0.out; omega))
  have HB5 : Hid (OwnE encOd 27 w5 (g + 1) v2 (listR13 b.L false)) := Lib.hid (HB4.out.same fun i hi => g5.block i (HB4.out.lt i hi).2 (by have := (HB4.out.lt i hi).1; have := HQG.out; omega) (by have := (HB4.out.lt i hi).1; have := HQG.out; omega))
  have HF5 := Lib.hid hoL.lies
  clear t5 g5 hoL HK4 HO4 HA4 HB4 HMC o0 o1 o2 o3 o4 o5 ol HZ0
  by_cases he : (addR13 b o).2 = 0
  · as_aux_lemma =>
      have HFR := Lib.hid (fair_ok HG.out he HNM.out)
      have her : (matchO b o).2.2.2 = 0 := (match_ok HG.out he).err
      rw [her, show errV s 0 = .nilIface from rfl]
      clear he her
      generalize (matchO b o).1 = b' at HK5 HFR
      generalize (matchO b o).2.1 = L at HF5 HFR
      generalize (matchO b o).2.2.1 = m at HFR ⊢
      obtain ⟨aL, cL, rfl⟩ := HF5.out.form
      obtain ⟨a1, c1, rfl⟩ := HA5.out.form
      obtain ⟨a2, c2, rfl⟩ := HB5.out.form
      obtain ⟨S, hS⟩ : ∃ S, listR13 b.L (!o.sell) = S := ⟨_, rfl⟩
      rw [hS] at HFR
      have HSS := Lib.hid hS
      clear hS
      have HSL : Hid ((!o.sell) = true → listR13 b.L true = S) := Lib.hid fun h => by rw [← HSS.out, h]
      have HSR : Hid ((!o.sell) = false → listR13 b.L false = S) := Lib.hid fun h => by rw [← HSS.out, h]
      obtain ⟨o0, o1, o2, o3, o4, o5, ol⟩ := HO5.out.cells
      go_upto_if 60 with fail
      go_cut [11] from 61 to 61 (fun v wx => ∃ A c, v = .slice A S.length c ∧ LiesE encOd wx v S ∧ wx = w5)
      case first =>
        go_wp2_with fail
        all_goals go_meet
        · have e := HSL.out (by assumption)
          have h := HA5.out.lies
          rw [e] at h ⊢
          exact ⟨a1, c1, rfl, h, rfl⟩
        · have e := HSR.out (by assumption)
          have h := HB5.out.lies
          rw [e] at h ⊢
          exact ⟨a2, c2, rfl, h, rfl⟩
      case rest =>
      obtain ⟨aS, cS, rfl, hSL, rfl⟩ := hcut
      have HSLI := Lib.hid hSL
      have HD : Hid (DfS w0 q R' g b' o (.slice aS S.length cS) S (.slice aL L.length cL) L wc) := Lib.hid ⟨HK5.out, HO5.out, hSL, HF5.out⟩
      obtain ⟨N, hN⟩ : ∃ N, L.length = N := ⟨_, rfl⟩
      obtain ⟨M, hM⟩ : ∃ M, S.length = M := ⟨_, rfl⟩
      rw [hN, hM] at HD
      rw [hN, hM]
      have HN := Lib.hid hN
      have HM := Lib.hid hM
      have hM32 : M ≤ 32 := by rw [← hM]; exact HFR.out.slen
      have hNM : N ≤ M := by
        rw [← hN, ← hM]
        rcases Nat.lt_or_ge S.length L.length with h | h
        · obtain ⟨f, hf⟩ : ∃ f, L[S.length]? = some f := ⟨_, List.getElem?_eq_getElem h⟩
          obtain ⟨x, hx, _⟩ := HFR.out.fill _ _ hf
          have := (List.getElem?_eq_some_iff.1 hx).1
          omega
        · exact h
      clear hSL hN hM HSLI HA5 HB5 HF5 HSL HSR HSS HO5 HK5 o0 o1 o2 o3 o4 o5 ol
      go_upto_block 2 with fail
      refine wp_blk (bodyOf Tryd.f3 2) (by kernel_rfl) ?_
      refine fair_lp1 _ _ _ _ _ _ _ _ _ _ _ _ _ _ _ _ _ _ _ _ _ _ _ _ _ _ _ _ _ _ _ _ _ _ _ _ _ _ _ _ _ _ _ _ _ _ _ _ _ _ _ _ _ _ _ _ _ _ _ _ _ _ _ _ _ _ _ _ _ _ _ _ _ _ _ _ _ _ _ _ _ _ _ _ _ _ _ _ _ _ _ _ _ _ _ _ _ _ _ _ _ _ _ _ _ _ _ _ _ _ _ _ _ _ _ _ _ _ _ _ _ _ _ _ _ _ _ _ _ _ _ _ _ _ _ _ _ _ _ _ _ _ _ _ _ _ _ _ _ _ _ _ _ _ _ _ _ _ _ _ _ _ _ _ _ _ _ _ _ _ _ _ _ _ _ _ _ _ _ _ _ _ _ _ _ _ _ _ _ _ _ _ _ _ _ _ _ _ _ _ _ _ _ _ _ _ _ _ _ _ _ _ _ _ _ _ _ _ _ _ _ _ _ _ _ _ _ _ _ _ _ _ _ _ _ _ _ _ _ _ _ _ _ _ _ _ _ _ aL aS N M cL cS g w0 q R' b b' o S L m _ wc HFR.out HD.out HN.out HM.out hNM hM32 ?_
      intro _ _ _ _ _ _ _ _ _ _ _ _ _ _ _ _ _ _ _ _ _ _ _ _ _ _ _ _ _ _ _ _ _ _ _ _ _ _ _ _ _ _ _ _ _ _ _ _ _ _ _ _ _ _ _ _ _ _ _ _ _ _ _ _ _ _ _ _ _ _ _ _ _ _ _ _ _ _ _ _ _ _ _ _ _ _ _ _ _ _ _ _ _ _ _ _ _ _ _ _ _ _ _ _ _ _ _ _ _ _ _ _ _ _ _ _ _ _ _ _ _ _ _ _ _ _ _ _ _ _ _ _ _ _ _ _ _ _ _ _ _ _ _ _ _ _ wd hbx
      have HD2 := Lib.hid (HD.out.on hbx)
      clear hbx HD
      obtain ⟨o0, o1, o2, o3, o4, o5, ol⟩ := HD2.out.box.cells
      have hsm := HFR.out.sum
      have hlo := HFR.out.lots
      have w1 : IntKind.i64.wrap (sumF L + (m : Int)) = o.lots := by rw [hsm]; exact IntWalk.i64_in _ (by omega)
      have w2 : wrap64 (sumF L + (m : Int)) = o.lots := by rw [hsm]; unfold wrap64; omega
      clear hsm hlo
      go_upto_block 4 with fail
      clear w1 w2
      refine wp_blk (bodyOf Tryd.f3 4) (by kernel_rfl) ?_
      refine fair_lp2 _ _ _ _ _ _ _ _ _ _ _ _ _ _ _ _ _ _ _ _ _ _ _ _ _ _ _ _ _ _ _ _ _ _ _ _ _ _ _ _ _ _ _ _ _ _ _ _ _ _ _ _ _ _ _ _ _ _ _ _ _ _ _ _ _ _ _ _ _ _ _ _ _ _ _ _ _ _ _ _ _ _ _ _ _ _ _ _ _ _ _ _ _ _ _ _ _ _ _ _ _ _ _ _ _ _ _ _ _ _ _ _ _ _ _ _ _ _ _ _ _ _ _ _ _ _ _ _ _ _ _ _ _ _ _ _ _ _ _ _ _ _ _ _ _ _ _ _ _ _ _ _ _ _ _ _ _ _ _ _ _ _ _ _ _ _ _ _ _ _ _ _ _ _ _ _ _ _ _ _ _ _ _ _ _ _ _ _ _ _ _ _ _ _ _ _ _ _ _ _ _ _ _ _ _ _ _ _ _ _ _ _ _ _ _ _ _ _ _ _ _ _ _ _ _ _ _ _ _ _ _ _ _ _ _ _ _ _ _ _ _ _ _ _ _ _ _ _ _ _ aS M cS g w0 q R' b b' o S _ L m _ wd HFR.out HD2.out HM.out hM32 ?_
      intro _ _ _ _ _ _ _ _ _ _ _ _ _ _ we hby
      have HD4 := Lib.hid (HD2.out.on hby)
      clear hby HD2 o0 o1 o2 o3 o4 o5 ol
      obtain ⟨o0, o1, o2, o3, o4, o5, ol⟩ := HD4.out.box.cells
      have HLO := Lib.hid (lots_c w0 q R' b' (!o.sell) we HD4.out.bk HFR.out.gb)
      have hre := HFR.out.rest
      rw [hre] at HLO
      have hs0 := sumO_take HFR.out.slots M
      rw [show S.take M = S by rw [← HM.out, List.take_length]] at hs0
      have hf0 := sumF_nonneg HFR.out.flots
      have hsm := HFR.out.sum
      have hlo := HFR.out.lots
      have w1 : IntKind.i64.wrap (sumO S - sumF L) = sumO S - sumF L := IntWalk.i64_in _ (by omega)
      have w2 : wrap64 (sumO S - sumF L) = sumO S - sumF L := by unfold wrap64; omega
      clear hre hs0 hf0 hsm hlo
      go_wp2_with fail
      refine HLO.out.mono ?_
      rintro e w6 ⟨rfl, b6⟩
      have HD6 := Lib.hid (HD4.out.on b6)
      have HBT := Lib.hid (HD6.out.bk.best HFR.out.gb true)
      clear b6 HD4 HLO o0 o1 o2 o3 o4 o5 ol
      go_wp2_with fail
      refine HBT.out.mono ?_
      rintro e w7 ⟨he7, _, b7⟩
      have HD7 := Lib.hid (HD6.out.on b7)
      have HNB : Hid (∀ x ∈ listR13 b'.L true, ∀ y ∈ listR13 b'.L false, y.price < x.price ∧ x.sell = true ∧ y.sell = false) := Lib.hid (fun x hx y hy => by
        obtain ⟨x1, x2⟩ := (mem_side HFR.out.gb true).1 hx
        obtain ⟨y1, y2⟩ := (mem_side HFR.out.gb false).1 hy
        exact ⟨HFR.out.nm x x1 y y1 x2 y2, x2, y2⟩)
      have HBF := Lib.hid (fun (W : World) (hW : BkAt w0 W q R' b') => hW.best HFR.out.gb false)
      obtain ⟨T, hT⟩ : ∃ T, listR13 b'.L true = T := ⟨_, rfl⟩
      obtain ⟨F, hF⟩ : ∃ F, listR13 b'.L false = F := ⟨_, rfl⟩
      rw [hT, hF] at HNB
      rw [hT] at he7
      rw [hF] at HBF
      clear hT hF b7 HD6 HBT
      obtain ⟨bt, hbt⟩ : ∃ bt, decide (0 < T.length) = bt := ⟨_, rfl⟩
      obtain ⟨x, hx⟩ : ∃ x, T.headD od0 = x := ⟨_, rfl⟩
      obtain ⟨bf, hbf⟩ : ∃ bf, decide (0 < F.length) = bf := ⟨_, rfl⟩
      obtain ⟨y, hy⟩ : ∃ y, F.headD od0 = y := ⟨_, rfl⟩
      rw [hbt, hx] at he7
      rw [hbf, hy] at HBF
      have HMM : Hid (bt = true → bf = true → meetsO x y = false) := Lib.hid (fun h1 h2 => by
        rw [← hbt] at h1
        rw [← hbf] at h2
        cases T with
        | nil => simp at h1
        | cons x0 T =>
          cases F with
          | nil => simp at h2
          | cons y0 F =>
            obtain ⟨k1, k2, k3⟩ := HNB.out x0 (List.mem_cons_self ..) y0 (List.mem_cons_self ..)
            have e1 : x0 = x := hx
            have e2 : y0 = y := hy
            rw [← e1, ← e2]
            unfold meetsO
            rw [k2, k3, decide_eq_false (by omega)]
            rfl)
      have HME := Lib.hid (fun W => meets_c x y W)
      clear hbt hx hbf hy HNB
      subst he7
      go_wp2_with fail
      have HD8 := Lib.hid (HD7.out.on ((Below.refl _ _).alloc (Nat.le_refl _) (.cells #[.int .i64 x.id, .int .i64 x.tn, .bool x.sell, .int .i64 x.price, .int .i64 x.lots, .int .i64 x.seq] 27)))
      have HZ8 : Hid (BOdBlk (w7.alloc (.cells #[.int .i64 x.id, .int .i64 x.tn, .bool x.sell, .int .i64 x.price, .int .i64 x.lots, .int .i64 x.seq] 27)) w7.heap.size x) := Lib.hid (BOdBlk.new w7 x)
      refine (HBF.out _ HD8.out.bk).mono ?_
      rintro e w9 ⟨rfl, _, b9⟩
      have HD9 := Lib.hid (HD8.out.on b9)
      have HZ9 := Lib.hid (HZ8.out.on b9)
      clear b9 HD7 HD8 HZ8 HBF
      obtain ⟨gx, hgx⟩ : ∃ gx, w7.heap.size = gx := ⟨_, rfl⟩
      rw [hgx] at HZ9 ⊢
      clear hgx
      go_upto_region 37 with fail
      obtain ⟨WA, hWA⟩ : ∃ WA, w9.alloc (.cells #[.int .i64 y.id, .int .i64 y.tn, .bool y.sell, .int .i64 y.price, .int .i64 y.lots, .int .i64 y.seq] 27) = WA := ⟨_, rfl⟩
      obtain ⟨gy, hgy⟩ : ∃ gy, w9.heap.size = gy := ⟨_, rfl⟩
      have hbA : Below w9.heap.size w9 WA := by rw [← hWA]; exact (Below.refl _ _).alloc (Nat.le_refl _) _
      have HDA := Lib.hid (HD9.out.on hbA)
      have HZA := Lib.hid (HZ9.out.on hbA)
      have HYA : Hid (BOdBlk WA gy y) := Lib.hid (by rw [← hWA, ← hgy]; exact BOdBlk.new w9 y)
      try rw [hWA]
      try rw [hgy]
      clear hWA hgy hbA HD9 HZ9
      obtain ⟨x0, x1, x2, x3, x4, x5, xl⟩ := HZA.out.cells
      obtain ⟨y0, y1, y2, y3, y4, y5, yl⟩ := HYA.out.cells
      cases bt with
      | false =>
        clear HME HMM
        go_wp2_with fail
        exact HQ.out _ _ _ _ _ _ _ _ _ _ _ _ _ _ _ _ _ _ _ _ _ _ _ _ _ _ _ _ _ _ _ _ _ _ _ _ _ _ _ _ _ _ _ _ _ _ _ _ _ _ _ _ _ _ _ _ _ _ _ _ _ _ _ _ _ _ _ _ _ _ _ _ _ _ _ _ _ _ _ _ _ _ _ _ _ _ _ _ _ _ _ _ _ _ _ _ _ _ _ _ _ _ _ _ _ _ _ _ _ _ _ _ _ _ _ _ _ _ _ _ _ _ _ _ _ _ _ _ _ _ _ _ _ _ _ _ _ _ _ _ _ _ _ _ _ _ _ _ _ _ _ _ _ _ _ _ _ _ _ _ _ _ _ _ _ _ _ _ _ _ _ _ _ _ _ _ _ _ _ _ _ _ _ _ _ _ _ _ _ _ _ _ _ _ _ _ _ _ _ _ _ _ _ _ _ _ _ _ _ _ _ _ _ _ _ _ _ _ _ _ _ _ _ _ _ _ _ _ _ _ _ _ _ _ _ _ _ R' b' HDA.out.bk HFR.out.gb (by have h1 := HCM.out; have h2 := HFR.out.came; omega) HFR.out.nm
      | true =>
        cases bf with
        | false =>
          clear HME HMM
          go_wp2_with fail
          exact HQ.out _ _ _ _ _ _ _ _ _ _ _ _ _ _ _ _ _ _ _ _ _ _ _ _ _ _ _ _ _ _ _ _ _ _ _ _ _ _ _ _ _ _ _ _ _ _ _ _ _ _ _ _ _ _ _ _ _ _ _ _ _ _ _ _ _ _ _ _ _ _ _ _ _ _ _ _ _ _ _ _ _ _ _ _ _ _ _ _ _ _ _ _ _ _ _ _ _ _ _ _ _ _ _ _ _ _ _ _ _ _ _ _ _ _ _ _ _ _ _ _ _ _ _ _ _ _ _ _ _ _ _ _ _ _ _ _ _ _ _ _ _ _ _ _ _ _ _ _ _ _ _ _ _ _ _ _ _ _ _ _ _ _ _ _ _ _ _ _ _ _ _ _ _ _ _ _ _ _ _ _ _ _ _ _ _ _ _ _ _ _ _ _ _ _ _ _ _ _ _ _ _ _ _ _ _ _ _ _ _ _ _ _ _ _ _ _ _ _ _ _ _ _ _ _ _ _ _ _ _ _ _ _ _ _ _ _ _ R' b' HDA.out.bk HFR.out.gb (by have h1 := HCM.out; have h2 := HFR.out.came; omega) HFR.out.nm
        | true =>
          have hms := HMM.out rfl rfl
          rw [hms] at HME
          clear hms HMM
          go_wp2_with fail
          refine (HME.out _).mono ?_
          rintro e w10 ⟨rfl, b10⟩
          have HDB := Lib.hid (HDA.out.on b10)
          clear b10 x0 x1 x2 x3 x4 x5 xl y0 y1 y2 y3 y4 y5 yl HME
          go_wp2_with fail
          exact HQ.out _ _ _ _ _ _ _ _ _ _ _ _ _ _ _ _ _ _ _ _ _ _ _ _ _ _ _ _ _ _ _ _ _ _ _ _ _ _ _ _ _ _ _ _ _ _ _ _ _ _ _ _ _ _ _ _ _ _ _ _ _ _ _ _ _ _ _ _ _ _ _ _ _ _ _ _ _ _ _ _ _ _ _ _ _ _ _ _ _ _ _ _ _ _ _ _ _ _ _ _ _ _ _ _ _ _ _ _ _ _ _ _ _ _ _ _ _ _ _ _ _ _ _ _ _ _ _ _ _ _ _ _ _ _ _ _ _ _ _ _ _ _ _ _ _ _ _ _ _ _ _ _ _ _ _ _ _ _ _ _ _ _ _ _ _ _ _ _ _ _ _ _ _ _ _ _ _ _ _ _ _ _ _ _ _ _ _ _ _ _ _ _ _ _ _ _ _ _ _ _ _ _ _ _ _ _ _ _ _ _ _ _ _ _ _ _ _ _ _ _ _ _ _ _ _ _ _ _ _ _ _ _ _ _ _ _ _ R' b' HDB.out.bk HFR.out.gb (by have h1 := HCM.out; have h2 := HFR.out.came; omega) HFR.out.nm
  · as_aux_lemma =>
      have hm := match_err he
      obtain ⟨er, her⟩ : ∃ er, (addR13 b o).2 = er := ⟨_, rfl⟩
      rw [her] at hm he
      rw [hm] at HK5 HF5 ⊢
      dsimp only at HK5 HF5 ⊢
      have hev : errV s er = .iface 90 (.pointer (some (s (er - 1)))) := by unfold errV; rw [if_neg he]
      rw [hev]
      obtain ⟨aL, cL, rfl⟩ := HF5.out.form
      rw [List.length_nil]
      clear hev he her hm
      go_wp2_with fail
      exact HQ.out _ _ _ _ _ _ _ _ _ _ _ _ _ _ _ _ _ _ _ _ _ _ _ _ _ _ _ _ _ _ _ _ _ _ _ _ _ _ _ _ _ _ _ _ _ _ _ _ _ _ _ _ _ _ _ _ _ _ _ _ _ _ _ _ _ _ _ _ _ _ _ _ _ _ _ _ _ _ _ _ _ _ _ _ _ _ _ _ _ _ _ _ _ _ _ _ _ _ _ _ _ _ _ _ _ _ _ _ _ _ _ _ _ _ _ _ _ _ _ _ _ _ _ _ _ _ _ _ _ _ _ _ _ _ _ _ _ _ _ _ _ _ _ _ _ _ _ _ _ _ _ _ _ _ _ _ _ _ _ _ _ _ _ _ _ _ _ _ _ _ _ _ _ _ _ _ _ _ _ _ _ _ _ _ _ _ _ _ _ _ _ _ _ _ _ _ _ _ _ _ _ _ _ _ _ _ _ _ _ _ _ _ _ _ _ _ _ _ _ _ _ _ _ _ _ _ _ _ _ _ _ _ _ _ _ _ _ R' b HK5.out HG.out (by have := HCM.out; omega) HNM.out
end Go.Proofs.YtcihghkiidkcnaaDoor
