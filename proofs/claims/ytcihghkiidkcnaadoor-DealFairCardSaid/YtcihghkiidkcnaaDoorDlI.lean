/- The loop over the fills of the law DealFair, walked on its own. No conditions. -/
import Derived.Test.YtcihghkiidkcnaaDoorDlHa
import Derived.Test.YtcihghkiidkcnaaDoorDlHb
import Derived.Test.YtcihghkiidkcnaaDoorDlG0
namespace Go.Proofs.YtcihghkiidkcnaaDoor
open Go Go.RowKit

/-- What is asked behind it. -/
def fair_lp1Q (u0 u1 u3 u4 u6 u7 u9 u10 u14 u15 u16 u17 u18 u19 u20 u21 u22 u23 u24 u25 u26 u27 u28 u29 u30 u31 u32 u33 u34 u35 u36 u37 u38 u39 u40 u41 u42 u43 u44 u45 u46 u47 u48 u49 u50 u51 u52 u53 u54 u55 u56 u57 u58 u59 u60 u61 u206 u207 u208 u209 u210 u211 u212 u213 u214 u215 u216 u217 u218 u219 u220 u221 u222 u223 u224 u225 u226 u227 u228 u229 u230 u231 u232 u233 u234 u235 u236 u237 u238 u239 u240 u241 u242 u243 u244 u245 u246 u247 u248 u249 u250 u251 u252 : Value) (aL aS : Option Addr) (N M cL cS g : Nat) (L : List Fl) (Q : Exit → Act → World → Prop) (w : World) : Prop :=
  ∀ (v2 v13 v62 v63 v64 v65 v66 v67 v68 v69 v70 v71 v72 v73 v74 v75 v76 v77 v78 v79 v80 v81 v82 v83 v84 v85 v86 v87 v88 v89 v90 v91 v92 v93 v94 v95 v96 v97 v98 v99 v100 v101 v102 v103 v104 v105 v106 v107 v108 v109 v110 v111 v112 v113 v114 v115 v116 v117 v118 v119 v120 v121 v122 v123 v124 v125 v126 v127 v128 v129 v130 v131 v132 v133 v134 v135 v136 v137 v138 v139 v140 v141 v142 v143 v144 v145 v146 v147 v148 v149 v150 v151 v152 v153 v154 v155 v156 v157 v158 v159 v160 v161 v162 v163 v164 v165 v166 v167 v168 v169 v170 v171 v172 v173 v174 v175 v176 v177 v178 v179 v180 v181 v182 v183 v184 v185 v186 v187 v188 v189 v190 v191 v192 v193 v194 v195 v196 v197 v198 v199 v200 v201 v202 v203 v204 v205 : Value) (w' : World), Below w.heap.size w w' → Q .normal { tmps := #[u0, u1, v2, u3, u4, .pointer (some ⟨g, 0, none⟩), u6, u7, .slice aL N cL, u9, u10, .slice aS M cS, .int .i64 (sumF L), v13, u14, u15, u16, u17, u18, u19, u20, u21, u22, u23, u24, u25, u26, u27, u28, u29, u30, u31, u32, u33, u34, u35, u36, u37, u38, u39, u40, u41, u42, u43, u44, u45, u46, u47, u48, u49, u50, u51, u52, u53, u54, u55, u56, u57, u58, u59, u60, u61, v62, v63, v64, v65, v66, v67, v68, v69, v70, v71, v72, v73, v74, v75, v76, v77, v78, v79, v80, v81, v82, v83, v84, v85, v86, v87, v88, v89, v90, v91, v92, v93, v94, v95, v96, v97, v98, v99, v100, v101, v102, v103, v104, v105, v106, v107, v108, v109, v110, v111, v112, v113, v114, v115, v116, v117, v118, v119, v120, v121, v122, v123, v124, v125, v126, v127, v128, v129, v130, v131, v132, v133, v134, v135, v136, v137, v138, v139, v140, v141, v142, v143, v144, v145, v146, v147, v148, v149, v150, v151, v152, v153, v154, v155, v156, v157, v158, v159, v160, v161, v162, v163, v164, v165, v166, v167, v168, v169, v170, v171, v172, v173, v174, v175, v176, v177, v178, v179, v180, v181, v182, v183, v184, v185, v186, v187, v188, v189, v190, v191, v192, v193, v194, v195, v196, v197, v198, v199, v200, v201, v202, v203, v204, v205, u206, u207, u208, u209, u210, u211, u212, u213, u214, u215, u216, u217, u218, u219, u220, u221, u222, u223, u224, u225, u226, u227, u228, u229, u230, u231, u232, u233, u234, u235, u236, u237, u238, u239, u240, u241, u242, u243, u244, u245, u246, u247, u248, u249, u250, u251, u252], defers := [] } w'
set_option maxRecDepth 100000 in
set_option maxHeartbeats 6400000 in
/-- The loop over the fills. -/
theorem fair_lp1 (u0 u1 u2 u3 u4 u6 u7 u9 u10 u14 u15 u16 u17 u18 u19 u20 u21 u22 u23 u24 u25 u26 u27 u28 u29 u30 u31 u32 u33 u34 u35 u36 u37 u38 u39 u40 u41 u42 u43 u44 u45 u46 u47 u48 u49 u50 u51 u52 u53 u54 u55 u56 u57 u58 u59 u60 u61 u62 u63 u64 u65 u66 u67 u68 u69 u70 u71 u72 u73 u74 u75 u76 u77 u78 u79 u80 u81 u82 u83 u84 u85 u86 u87 u88 u89 u90 u91 u92 u93 u94 u95 u96 u97 u98 u99 u100 u101 u102 u103 u104 u105 u106 u107 u108 u109 u110 u111 u112 u113 u114 u115 u116 u117 u118 u119 u120 u121 u122 u123 u124 u125 u126 u127 u128 u129 u130 u131 u132 u133 u134 u135 u136 u137 u138 u139 u140 u141 u142 u143 u144 u145 u146 u147 u148 u149 u150 u151 u152 u153 u154 u155 u156 u157 u158 u159 u160 u161 u162 u163 u164 u165 u166 u167 u168 u169 u170 u171 u172 u173 u174 u175 u176 u177 u178 u179 u180 u181 u182 u183 u184 u185 u186 u187 u188 u189 u190 u191 u192 u193 u194 u195 u196 u197 u198 u199 u200 u201 u202 u203 u204 u205 u206 u207 u208 u209 u210 u211 u212 u213 u214 u215 u216 u217 u218 u219 u220 u221 u222 u223 u224 u225 u226 u227 u228 u229 u230 u231 u232 u233 u234 u235 u236 u237 u238 u239 u240 u241 u242 u243 u244 u245 u246 u247 u248 u249 u250 u251 u252 : Value) (aL aS : Option Addr) (N M cL cS g : Nat) (w0 : World) (q R : Nat) (b b' : RB) (o : Od) (S : List Od) (L : List Fl) (m : Nat) (Q : Exit → Act → World → Prop) (w : World) (hFR : FairF b b' o S L m) (hD : DfS w0 q R g b' o (.slice aS M cS) S (.slice aL N cL) L w) (hN : L.length = N) (hM : S.length = M) (hNM : N ≤ M) (hM32 : M ≤ 32)
    (hQ : fair_lp1Q u0 u1 u3 u4 u6 u7 u9 u10 u14 u15 u16 u17 u18 u19 u20 u21 u22 u23 u24 u25 u26 u27 u28 u29 u30 u31 u32 u33 u34 u35 u36 u37 u38 u39 u40 u41 u42 u43 u44 u45 u46 u47 u48 u49 u50 u51 u52 u53 u54 u55 u56 u57 u58 u59 u60 u61 u206 u207 u208 u209 u210 u211 u212 u213 u214 u215 u216 u217 u218 u219 u220 u221 u222 u223 u224 u225 u226 u227 u228 u229 u230 u231 u232 u233 u234 u235 u236 u237 u238 u239 u240 u241 u242 u243 u244 u245 u246 u247 u248 u249 u250 u251 u252 aL aS N M cL cS g L Q w) :
    (Code.block 2 (bodyOf Tryd.f3 2)).wp Tryd.prog Q { tmps := #[u0, u1, u2, u3, u4, .pointer (some ⟨g, 0, none⟩), u6, u7, .slice aL N cL, u9, u10, .slice aS M cS, .int .i64 0, .int .i64 0, u14, u15, u16, u17, u18, u19, u20, u21, u22, u23, u24, u25, u26, u27, u28, u29, u30, u31, u32, u33, u34, u35, u36, u37, u38, u39, u40, u41, u42, u43, u44, u45, u46, u47, u48, u49, u50, u51, u52, u53, u54, u55, u56, u57, u58, u59, u60, u61, u62, u63, u64, u65, u66, u67, u68, u69, u70, u71, u72, u73, u74, u75, u76, u77, u78, u79, u80, u81, u82, u83, u84, u85, u86, u87, u88, u89, u90, u91, u92, u93, u94, u95, u96, u97, u98, u99, u100, u101, u102, u103, u104, u105, u106, u107, u108, u109, u110, u111, u112, u113, u114, u115, u116, u117, u118, u119, u120, u121, u122, u123, u124, u125, u126, u127, u128, u129, u130, u131, u132, u133, u134, u135, u136, u137, u138, u139, u140, u141, u142, u143, u144, u145, u146, u147, u148, u149, u150, u151, u152, u153, u154, u155, u156, u157, u158, u159, u160, u161, u162, u163, u164, u165, u166, u167, u168, u169, u170, u171, u172, u173, u174, u175, u176, u177, u178, u179, u180, u181, u182, u183, u184, u185, u186, u187, u188, u189, u190, u191, u192, u193, u194, u195, u196, u197, u198, u199, u200, u201, u202, u203, u204, u205, u206, u207, u208, u209, u210, u211, u212, u213, u214, u215, u216, u217, u218, u219, u220, u221, u222, u223, u224, u225, u226, u227, u228, u229, u230, u231, u232, u233, u234, u235, u236, u237, u238, u239, u240, u241, u242, u243, u244, u245, u246, u247, u248, u249, u250, u251, u252], defers := [] } w := by
  simp only [bodyOf, Tryd.f3, blkOf, Option.bind_some, Option.orElse, Option.getD_some, Nat.reduceEqDiff, if_true, if_false, reduceCtorEq]
  have HQ := Lib.hid hQ
  have HFR := Lib.hid hFR
  have HD := Lib.hid hD
  have HN := Lib.hid hN
  have HM := Lib.hid hM
  clear hQ hFR hD hN hM
  simp only [List.append_eq, List.cons_append, List.nil_append]
  go_wp2_with fail
  go_loopw [12, 13] (fun a u W => ∃ k : Nat, k ≤ N ∧ u = .int .i64 (k : Int) ∧ a = .int .i64 (sumF (L.take k)) ∧ Below w.heap.size w W) (fun _ u _ => N - (intOf u).toNat)
  case atStart => exact ⟨0, Nat.zero_le _, rfl, by rw [List.take_zero]; rfl, Below.refl _ _⟩
  case round =>
    obtain ⟨k, hk, rfl, rfl, hb⟩ := hrel
    have HD1 := Lib.hid (HD.out.on hb)
    have HB1 := Lib.hid hb
    clear hb
    by_cases hkN : k < N
    · obtain ⟨f, hf⟩ : ∃ f, L[k]? = some f := ⟨_, List.getElem?_eq_getElem (by rw [HN.out]; exact hkN)⟩
      obtain ⟨x, hx, hme, hff, hf1, hf2, hf3⟩ := HFR.out.fill k f hf
      have HSF := Lib.hid (sumF_snoc hf)
      have hfb1 := sumF_take HFR.out.flots k
      have hfb2 := sumF_take HFR.out.flots (k + 1)
      rw [HSF.out] at hfb2
      have hsm := HFR.out.sum
      have hlo := HFR.out.lots
      have HFX : Hid (f.price = x.price ∧ (o.sell = true → o.price ≤ f.price ∧ f.ask = o.id ∧ f.bid = x.id) ∧ (o.sell = false → f.price ≤ o.price ∧ f.bid = o.id ∧ f.ask = x.id)) := Lib.hid (by
        have hpr : f.price = x.price := by rw [hff]; exact fill_price o x _
        refine ⟨hpr, fun h => ?_, fun h => ?_⟩
        · unfold meetO at hme
          rw [h, if_pos rfl] at hme
          have := of_decide_eq_true hme
          refine ⟨by omega, ?_, ?_⟩ <;> rw [hff] <;> unfold fillO <;> rw [h] <;> rfl
        · unfold meetO at hme
          rw [h, if_neg (by decide)] at hme
          have := of_decide_eq_true hme
          refine ⟨by omega, ?_, ?_⟩ <;> rw [hff] <;> unfold fillO <;> rw [h] <;> rfl)
      obtain ⟨adF, e1, gf, f0, f1, f2, f3, f4, f5⟩ := LiesE.fl HD1.out.fil hf
      obtain ⟨adS, e2, gs, x0, x1, x2, x3, x4, x5⟩ := LiesE.od HD1.out.std hx
      subst e1
      subst e2
      have hk1 : (k : Int) < (N : Int) := by omega
      have hk2 : (k : Int) < (M : Int) := by omega
      obtain ⟨a, ha⟩ : ∃ a, sumF (L.take k) = a := ⟨_, rfl⟩
      rw [ha] at HSF hfb1 hfb2 ⊢
      have HW : Hid (IntKind.i64.wrap (a + f.lots) = a + f.lots ∧ wrap64 (a + f.lots) = a + f.lots) := Lib.hid ⟨IntWalk.i64_in _ (by omega), by unfold wrap64; omega⟩
      have HNL : Hid ((k : Int) + 1 < (N : Int) → f.lots = x.lots) := Lib.hid fun h => hf3 (by rw [HN.out]; omega)
      have HF12 : Hid (1 ≤ f.lots ∧ f.lots ≤ x.lots) := Lib.hid ⟨hf1, hf2⟩
      have HC : Hid (∀ W : World, Below wr.heap.size wr W → W.cell? (adF.add (k * 6)) = some (.int .i64 f.ask) ∧ W.cell? ⟨(adF.add (k * 6)).block, (adF.add (k * 6)).off + 1, none⟩ = some (.int .i64 f.bid) ∧ W.cell? ⟨(adF.add (k * 6)).block, (adF.add (k * 6)).off + 4, none⟩ = some (.int .i64 f.price) ∧ W.cell? ⟨(adF.add (k * 6)).block, (adF.add (k * 6)).off + 5, none⟩ = some (.int .i64 f.lots) ∧ W.cell? (adS.add (k * 6)) = some (.int .i64 x.id) ∧ BOdBlk W g o) := Lib.hid fun W hb =>
        ⟨(hb.cell gf).trans f0, (hb.cell (p := ⟨_, _, none⟩) gf).trans f1, (hb.cell (p := ⟨_, _, none⟩) gf).trans f4, (hb.cell (p := ⟨_, _, none⟩) gf).trans f5, (hb.cell gs).trans x0, HD1.out.box.on hb⟩
      have HX34 : Hid (wr.cell? ⟨(adS.add (k * 6)).block, (adS.add (k * 6)).off + 3, none⟩ = some (.int .i64 x.price) ∧ wr.cell? ⟨(adS.add (k * 6)).block, (adS.add (k * 6)).off + 4, none⟩ = some (.int .i64 x.lots)) := Lib.hid ⟨x3, x4⟩
      clear hf hx hme hff hf1 hf2 hf3 hsm hlo hfb1 hfb2 ha gf gs f0 f1 f2 f3 f4 f5 x0 x1 x2 x3 x4 x5
      go_upto_region 21 with fail
      refine wp_reg (opsOf Tryd.f3 21) (by kernel_rfl) ?_
      refine fair21 _ _ _ _ _ _ _ _ _ _ _ _ _ _ _ _ _ _ _ _ _ _ _ _ _ _ _ _ _ _ _ _ _ _ _ _ _ _ _ _ _ _ _ _ _ _ _ _ _ _ _ _ _ _ _ _ _ _ _ _ _ _ _ _ _ _ _ _ _ _ _ _ _ _ _ _ _ _ _ _ _ _ _ _ _ _ _ _ _ _ _ _ _ _ _ _ _ _ _ _ _ _ _ _ _ _ _ _ _ _ _ _ _ _ _ _ _ _ _ _ _ _ _ _ _ _ _ _ _ _ _ _ _ _ _ _ _ _ _ _ _ _ _ _ _ _ _ _ _ _ _ _ _ _ _ _ _ _ _ _ _ _ _ _ _ _ _ _ _ _ _ _ _ _ _ _ _ _ _ _ _ _ _ _ _ _ _ _ _ _ _ _ _ _ _ _ _ _ _ _ _ _ _ _ _ _ _ _ _ _ _ _ _ _ _ _ _ _ _ _ _ _ _ _ _ _ _ _ _ _ _ _ _ _ _ _ _ _ _ _ _ _ _ _ _ _ _ _ _ _ adF adS N M cL cS k f x _ wr hk1 hk2 (by omega) (HC.out _ (Below.refl _ _)).2.2.1 (HC.out _ (Below.refl _ _)).2.2.2.1 HX34.out.1 HX34.out.2 HFX.out.1 HF12.out.1 HF12.out.2 HNL.out ?_
      intro _ _ _ _ _ _ _ _ _ _ _ _ _ _ _ _ _ _ _ _ _ _ _ _ _ _ _ _ _ _ _ _ _ _ _ _ _ _ _ _ _ _ _ _ _ _ _ _ _ _ _ _ _ _ _ _ _ w6 hb6
      have HDz := Lib.hid (HD1.out.on hb6)
      have HBz := Lib.hid (HB1.out.trans (hb6.mono HB1.out.size))
      have HB6 := Lib.hid hb6
      clear hb6 HX34 HNL HF12 HD1 HB1
      go_upto_region 23 with fail
      refine wp_reg (opsOf Tryd.f3 23) (by kernel_rfl) ?_
      refine fair23 _ _ _ _ _ _ _ _ _ _ _ _ _ _ _ _ _ _ _ _ _ _ _ _ _ _ _ _ _ _ _ _ _ _ _ _ _ _ _ _ _ _ _ _ _ _ _ _ _ _ _ _ _ _ _ _ _ _ _ _ _ _ _ _ _ _ _ _ _ _ _ _ _ _ _ _ _ _ _ _ _ _ _ _ _ _ _ _ _ _ _ _ _ _ _ _ _ _ _ _ _ _ _ _ _ _ _ _ _ _ _ _ _ _ _ _ _ _ _ _ _ _ _ _ _ _ _ _ _ _ _ _ _ _ _ _ _ _ _ _ _ _ _ _ _ _ _ _ _ _ _ _ _ _ _ _ _ _ _ _ _ _ _ _ _ _ _ _ _ _ _ _ _ _ _ _ _ _ _ _ _ _ _ _ _ _ _ _ _ _ _ _ _ _ _ _ _ _ _ _ _ _ _ _ _ _ _ _ _ _ _ _ _ _ _ _ _ _ _ _ _ _ _ _ _ _ _ _ _ _ _ _ _ _ _ _ _ _ _ _ _ _ _ _ _ _ _ _ _ adF adS N M cL cS k g f x o _ w6 hk1 hk2 (HC.out _ HB6.out).1 (HC.out _ HB6.out).2.1 (HC.out _ HB6.out).2.2.1 (HC.out _ HB6.out).2.2.2.2.1 (HC.out _ HB6.out).2.2.2.2.2 HFX.out.2.1 HFX.out.2.2 ?_
      intro _ _ _ _ _ _ _ _ _ _ _ _ _ _ _ _ _ _ _ _ _ _ _ _ _ _ _ _ _ _ _ _ _ _ _ _ _ _ _ _ _ _ _ _ _ _ _ _ _ _ _ _ _ _ _ _ _ _ _ _ _ _ _ _ _ _ _ _ _ _ _ _ w7 hb7
      have f5 := (HC.out _ (HB6.out.trans (hb7.mono HB6.out.size))).2.2.2.1
      have HBy := Lib.hid (HBz.out.trans (hb7.mono HBz.out.size))
      have w1 := HW.out.1
      have w2 := HW.out.2
      have hk0 : (0 : Int) ≤ (k : Int) := by omega
      clear hb7 HB6 HBz HDz HC HFX
      go_wp2_with fail
      go_roundw
      case rel => exact ⟨k + 1, by omega, by go_num, by rw [HSF.out], HBy.out⟩
      case measure => simp [intOf]; omega
    · obtain rfl : k = N := by omega
      have e : sumF (L.take k) = sumF L := by rw [← HN.out, List.take_length]
      rw [e]
      clear e
      go_wp2_with fail
      exact HQ.out _ _ _ _ _ _ _ _ _ _ _ _ _ _ _ _ _ _ _ _ _ _ _ _ _ _ _ _ _ _ _ _ _ _ _ _ _ _ _ _ _ _ _ _ _ _ _ _ _ _ _ _ _ _ _ _ _ _ _ _ _ _ _ _ _ _ _ _ _ _ _ _ _ _ _ _ _ _ _ _ _ _ _ _ _ _ _ _ _ _ _ _ _ _ _ _ _ _ _ _ _ _ _ _ _ _ _ _ _ _ _ _ _ _ _ _ _ _ _ _ _ _ _ _ _ _ _ _ _ _ _ _ _ _ _ _ _ _ _ _ _ _ _ _ _ _ _ HB1.out
end Go.Proofs.YtcihghkiidkcnaaDoor
