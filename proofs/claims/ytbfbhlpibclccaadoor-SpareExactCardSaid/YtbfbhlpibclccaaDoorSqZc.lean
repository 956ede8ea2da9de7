/- SpareExact: a round. Condition: both books lie in memory as their map and row have it. -/
import Derived.Test.YtbfbhlpibclccaaDoorSqZb
import Derived.Test.YtbfbhlpibclccaaDoorChP
import Derived.Test.YtbfbhlpibclccaaDoorRgC
import Derived.Deep.DeepCutAuto
import Derived.Deep.CutBlock
import Derived.Deep.RegionHeld3
import Derived.Deep.QuietTactic
import Derived.StillTailTactics
namespace Go.Proofs.YtbfbhlpibclccaaDoor
open Go Go.RowKit Go.Maps Go.Sort

theorem add_posQ (p : Addr) {k : Nat} (h : 0 < k) : p.add k = ⟨p.block, p.off + k, none⟩ := by unfold Addr.add; rw [if_neg (by omega)]
/-- What is asked behind it. -/
def spare_roundQ (u2 u3 u4 u11 u12 u13 u14 u15 u16 u17 u18 u19 u20 u21 u22 u23 u24 u25 u26 u27 u28 u29 u30 u126 u127 u128 u129 u130 u131 u132 u133 u134 u135 u136 u137 u138 u139 u140 u141 u142 u143 u144 u145 u146 u147 u148 u149 u150 u151 u152 u153 u154 u155 u156 u157 u158 u159 u160 u161 u162 u163 u164 u165 u166 u167 u168 u169 u170 u171 u172 u173 u174 u175 u176 u177 u178 u179 u180 u181 u182 u183 u184 u185 u186 u187 u188 u189 u190 u191 u192 u193 u194 u195 u196 u197 u198 u199 u200 u201 u202 u203 u204 u205 u206 u207 u208 u209 u210 u211 u212 u213 u214 u215 u216 u217 u218 u219 u220 u221 u222 u223 u224 u225 u226 u227 u228 u229 u230 u231 u232 u233 u234 u235 u236 u237 u238 u239 u240 : Value) (A : Option Addr) (c i : Nat) (X : List AcQ) (w0 : World) (q b u : Nat) (E : List Ev) (bud : Int) (Q : Exit → Act → World → Prop) : Prop :=
  ∀ (v8 v9 v10 v31 v32 v33 v34 v35 v36 v37 v38 v39 v40 v41 v42 v43 v44 v45 v46 v47 v48 v49 v50 v51 v52 v53 v54 v55 v56 v57 v58 v59 v60 v61 v62 v63 v64 v65 v66 v67 v68 v69 v70 v71 v72 v73 v74 v75 v76 v77 v78 v79 v80 v81 v82 v83 v84 v85 v86 v87 v88 v89 v90 v91 v92 v93 v94 v95 v96 v97 v98 v99 v100 v101 v102 v103 v104 v105 v106 v107 v108 v109 v110 v111 v112 v113 v114 v115 v116 v117 v118 v119 v120 v121 v122 v123 v124 v125 : Value) (w' : World) (E' : List Ev), SZ w0 w' q b u E' E' (fun _ => True) → E'.length ≤ E.length + 1 → Q .normal { tmps := #[.slice A X.length c, .int .i64 bud, u2, u3, u4, .pointer (some ⟨q, 0, none⟩), .pointer (some ⟨u, 0, none⟩), .int .i64 (i : Int), v8, v9, v10, u11, u12, u13, u14, u15, u16, u17, u18, u19, u20, u21, u22, u23, u24, u25, u26, u27, u28, u29, u30, v31, v32, v33, v34, v35, v36, v37, v38, v39, v40, v41, v42, v43, v44, v45, v46, v47, v48, v49, v50, v51, v52, v53, v54, v55, v56, v57, v58, v59, v60, v61, v62, v63, v64, v65, v66, v67, v68, v69, v70, v71, v72, v73, v74, v75, v76, v77, v78, v79, v80, v81, v82, v83, v84, v85, v86, v87, v88, v89, v90, v91, v92, v93, v94, v95, v96, v97, v98, v99, v100, v101, v102, v103, v104, v105, v106, v107, v108, v109, v110, v111, v112, v113, v114, v115, v116, v117, v118, v119, v120, v121, v122, v123, v124, v125, u126, u127, u128, u129, u130, u131, u132, u133, u134, u135, u136, u137, u138, u139, u140, u141, u142, u143, u144, u145, u146, u147, u148, u149, u150, u151, u152, u153, u154, u155, u156, u157, u158, u159, u160, u161, u162, u163, u164, u165, u166, u167, u168, u169, u170, u171, u172, u173, u174, u175, u176, u177, u178, u179, u180, u181, u182, u183, u184, u185, u186, u187, u188, u189, u190, u191, u192, u193, u194, u195, u196, u197, u198, u199, u200, u201, u202, u203, u204, u205, u206, u207, u208, u209, u210, u211, u212, u213, u214, u215, u216, u217, u218, u219, u220, u221, u222, u223, u224, u225, u226, u227, u228, u229, u230, u231, u232, u233, u234, u235, u236, u237, u238, u239, u240], defers := [] } w'
set_option maxRecDepth 100000 in
set_option maxHeartbeats 6400000 in
/-- A round: a deed, and what is told of it. -/
theorem spare_round (u2 u3 u4 u8 u9 u10 u11 u12 u13 u14 u15 u16 u17 u18 u19 u20 u21 u22 u23 u24 u25 u26 u27 u28 u29 u30 u31 u32 u33 u34 u35 u36 u37 u38 u39 u40 u41 u42 u43 u44 u45 u46 u47 u48 u49 u50 u51 u52 u53 u54 u55 u56 u57 u58 u59 u60 u61 u62 u63 u64 u65 u66 u67 u68 u69 u70 u71 u72 u73 u74 u75 u76 u77 u78 u79 u80 u81 u82 u83 u84 u85 u86 u87 u88 u89 u90 u91 u92 u93 u94 u95 u96 u97 u98 u99 u100 u101 u102 u103 u104 u105 u106 u107 u108 u109 u110 u111 u112 u113 u114 u115 u116 u117 u118 u119 u120 u121 u122 u123 u124 u125 u126 u127 u128 u129 u130 u131 u132 u133 u134 u135 u136 u137 u138 u139 u140 u141 u142 u143 u144 u145 u146 u147 u148 u149 u150 u151 u152 u153 u154 u155 u156 u157 u158 u159 u160 u161 u162 u163 u164 u165 u166 u167 u168 u169 u170 u171 u172 u173 u174 u175 u176 u177 u178 u179 u180 u181 u182 u183 u184 u185 u186 u187 u188 u189 u190 u191 u192 u193 u194 u195 u196 u197 u198 u199 u200 u201 u202 u203 u204 u205 u206 u207 u208 u209 u210 u211 u212 u213 u214 u215 u216 u217 u218 u219 u220 u221 u222 u223 u224 u225 u226 u227 u228 u229 u230 u231 u232 u233 u234 u235 u236 u237 u238 u239 u240 : Value) (A : Option Addr) (c i : Nat) (X : List AcQ) (w0 : World) (q b u : Nat) (E : List Ev) (x : AcQ) (bud : Int) (Q : Exit → Act → World → Prop) (w : World) (hR : ReadsE encAcQ w A X) (hZ : SZ w0 w q b u E E (fun _ => True)) (hi : X[i]? = some x) (hx : GoodAcQ x) (hE : E.length < 1000) (hbud : i64 bud)
    (hQ : spare_roundQ u2 u3 u4 u11 u12 u13 u14 u15 u16 u17 u18 u19 u20 u21 u22 u23 u24 u25 u26 u27 u28 u29 u30 u126 u127 u128 u129 u130 u131 u132 u133 u134 u135 u136 u137 u138 u139 u140 u141 u142 u143 u144 u145 u146 u147 u148 u149 u150 u151 u152 u153 u154 u155 u156 u157 u158 u159 u160 u161 u162 u163 u164 u165 u166 u167 u168 u169 u170 u171 u172 u173 u174 u175 u176 u177 u178 u179 u180 u181 u182 u183 u184 u185 u186 u187 u188 u189 u190 u191 u192 u193 u194 u195 u196 u197 u198 u199 u200 u201 u202 u203 u204 u205 u206 u207 u208 u209 u210 u211 u212 u213 u214 u215 u216 u217 u218 u219 u220 u221 u222 u223 u224 u225 u226 u227 u228 u229 u230 u231 u232 u233 u234 u235 u236 u237 u238 u239 u240 A c i X w0 q b u E bud Q) :
    (Code.block 1 (bodyOf Tryd.f4 1)).wp Tryd.prog Q { tmps := #[.slice A X.length c, .int .i64 bud, u2, u3, u4, .pointer (some ⟨q, 0, none⟩), .pointer (some ⟨u, 0, none⟩), .int .i64 (i : Int), u8, u9, u10, u11, u12, u13, u14, u15, u16, u17, u18, u19, u20, u21, u22, u23, u24, u25, u26, u27, u28, u29, u30, u31, u32, u33, u34, u35, u36, u37, u38, u39, u40, u41, u42, u43, u44, u45, u46, u47, u48, u49, u50, u51, u52, u53, u54, u55, u56, u57, u58, u59, u60, u61, u62, u63, u64, u65, u66, u67, u68, u69, u70, u71, u72, u73, u74, u75, u76, u77, u78, u79, u80, u81, u82, u83, u84, u85, u86, u87, u88, u89, u90, u91, u92, u93, u94, u95, u96, u97, u98, u99, u100, u101, u102, u103, u104, u105, u106, u107, u108, u109, u110, u111, u112, u113, u114, u115, u116, u117, u118, u119, u120, u121, u122, u123, u124, u125, u126, u127, u128, u129, u130, u131, u132, u133, u134, u135, u136, u137, u138, u139, u140, u141, u142, u143, u144, u145, u146, u147, u148, u149, u150, u151, u152, u153, u154, u155, u156, u157, u158, u159, u160, u161, u162, u163, u164, u165, u166, u167, u168, u169, u170, u171, u172, u173, u174, u175, u176, u177, u178, u179, u180, u181, u182, u183, u184, u185, u186, u187, u188, u189, u190, u191, u192, u193, u194, u195, u196, u197, u198, u199, u200, u201, u202, u203, u204, u205, u206, u207, u208, u209, u210, u211, u212, u213, u214, u215, u216, u217, u218, u219, u220, u221, u222, u223, u224, u225, u226, u227, u228, u229, u230, u231, u232, u233, u234, u235, u236, u237, u238, u239, u240], defers := [] } w := by
  simp only [bodyOf, Tryd.f4, blkOf, Option.bind_some, Option.orElse, Option.getD_some, Nat.reduceEqDiff, if_true, if_false, reduceCtorEq]
  have HQ := Lib.hid hQ
  have HX := Lib.hid hx
  have HZ := Lib.hid hZ
  have HE : Hid (E.length ≤ 1000) := Lib.hid (by omega)
  have HE2 := Lib.hid hE
  have HBD := Lib.hid hbud
  obtain ⟨ad, pa, rfl, hadd, -, hcc⟩ := hR i x hi
  have hi0 : (0 : Int) ≤ (i : Int) := by omega
  have hi1 : (i : Int) < (X.length : Int) := by have := (List.getElem?_eq_some_iff.1 hi).1; omega
  have z0 := hcc 0 _ rfl
  have z1 := hcc 1 _ rfl
  have z2 := hcc 2 _ rfl
  rw [add_zeroE] at z0
  rw [add_posQ _ (by omega)] at z1 z2
  clear hQ hx hZ hE hbud hi hR hcc
  go_upto_region 9 with fail
  obtain ⟨gx, hgx⟩ : ∃ gx, w.heap.size = gx := ⟨_, rfl⟩
  obtain ⟨W2, hW2⟩ : ∃ W2, w.alloc (.cells #[.int .i64 x.kind, .int .i64 x.job, .int .i64 x.win] 77) = W2 := ⟨_, rfl⟩
  have k2 : SZ w0 W2 q b u E E (ActQ gx x) := by rw [← hW2, ← hgx]; exact (HZ.out.new _).drop fun _ h => h.2
  rw [hW2, hgx]
  have HK2 := Lib.hid k2
  obtain ⟨c0, c1, c2⟩ := ActQ.c gx x W2 k2.has
  clear k2 hW2 hgx HZ z0 z1 z2 hadd
  go_upto_block 2 with fail
  refine wp_blk (bodyOf Tryd.f4 2) (by kernel_rfl) ?_
  refine spare_deed _ _ _ _ _ _ _ _ _ _ _ _ _ _ _ _ _ _ _ _ _ _ _ _ _ _ _ _ _ _ _ _ _ _ _ _ _ _ _ _ _ _ _ _ _ _ _ _ _ _ _ _ _ _ _ _ _ _ _ _ _ _ _ _ _ _ _ _ _ _ _ _ _ _ _ _ _ _ _ _ _ _ _ _ _ _ _ _ _ _ _ _ _ _ _ _ _ _ _ _ _ _ _ _ _ _ _ _ _ _ _ _ _ _ _ _ _ _ _ _ _ _ _ _ _ _ _ _ _ _ _ _ _ _ _ _ _ _ _ _ _ _ _ _ _ _ _ _ _ _ _ _ _ _ _ _ _ _ _ _ _ _ _ _ _ _ _ _ _ _ _ _ _ _ _ _ _ _ _ _ _ _ _ _ _ _ _ _ _ _ _ _ _ _ _ _ _ _ _ _ _ _ _ _ _ _ _ _ _ _ _ _ _ _ _ _ _ _ _ _ _ _ _ _ _ _ _ _ _ _ _ _ _ _ _ _ _ w0 q b u gx E x _ W2 HK2.out HX.out HE.out ?_
  intro _ _ _ _ _ _ _ _ _ _ _ _ _ _ _ _ _ _ _ _ _ _ _ _ _ _ _ _ _ _ _ _ _ _ _ _ _ _ _ _ _ _ _ _ _ _ _ w3 k3
  obtain ⟨E', hE'⟩ : ∃ E', deedQ E x = E' := ⟨_, rfl⟩
  have hl' : E'.length ≤ E.length + 1 := by rw [← hE']; exact deedQ_len E x
  rw [hE'] at k3
  have HK3 := Lib.hid k3; have HL := Lib.hid hl'
  have HE' : Hid (E'.length ≤ 1000) := Lib.hid (by have := HE2.out; omega)
  clear c0 c1 c2
  obtain ⟨c0, c1, c2⟩ := ActQ.c gx x w3 k3.has
  clear k3 hE' hl' HK2
  obtain ⟨cf, hcf⟩ : ∃ cf : Int, (cntE E' x.job x.win false : Int) = cf := ⟨_, rfl⟩
  obtain ⟨ct, hct⟩ : ∃ ct : Int, (cntE E' x.job x.win true : Int) = ct := ⟨_, rfl⟩
  obtain ⟨lf, hlf⟩ : ∃ lf : Int, leftI cf bud = lf := ⟨_, rfl⟩
  have hc0 : 0 ≤ cf := by omega
  have HCF := Lib.hid hcf; have HCT := Lib.hid hct; have HLF := Lib.hid hlf
  have hw9 : ¬ bud ≤ cf → wrap64 (bud - cf) = bud - cf := fun h => by have := HBD.out; unfold i64 at this; unfold wrap64; omega
  have HW9 := Lib.hid hw9
  have hcnt := HK3.out.count_c HE'.out x.job x.win false
  rw [hcf] at hcnt
  have HCNT := Lib.hid hcnt
  clear hcf hct hc0 hw9 hcnt hlf
  by_cases hbc : bud ≤ cf
  · have d1 : decide (cf < bud) = false := decide_eq_false (by omega)
    have HLP : Hid (leftI cf bud = 0) := Lib.hid (if_pos hbc)
    clear hbc
    go_upto_region 19 with fail
    go_upto_region 20 with (go_at_call 37; refine HCNT.out.mono ?_; rintro e w4 ⟨rfl, rfl⟩; clear c0 c1 c2)
    go_upto_region 23 with fail
    refine wp_reg (opsOf Tryd.f4 23) (by kernel_rfl) ?_
    refine sz23 _ _ _ _ _ _ _ _ _ _ _ _ _ _ _ _ _ _ _ _ _ _ _ _ _ _ _ _ _ _ _ _ _ _ _ _ _ _ _ _ _ _ _ _ _ _ _ _ _ _ _ _ _ _ _ _ _ _ _ _ _ _ _ _ _ _ _ _ _ _ _ _ _ _ _ _ _ _ _ _ _ _ _ _ _ _ _ _ _ _ _ _ _ _ _ _ _ _ _ _ _ _ _ _ _ _ _ _ _ _ _ _ _ _ _ _ _ _ _ _ _ _ _ _ _ _ _ _ _ _ _ _ _ _ _ _ _ _ _ _ _ _ _ _ _ _ _ _ _ _ _ _ _ _ _ _ _ _ _ _ _ _ _ _ _ _ _ _ _ _ _ _ _ _ _ _ _ _ _ _ _ _ _ _ _ _ _ _ _ _ _ _ _ _ _ _ _ _ _ _ _ _ _ _ _ _ _ _ _ _ _ _ _ _ _ _ _ _ _ _ _ _ _ _ _ _ _ _ _ _ _ _ _ _ _ w0 q b u gx E' x _ bud cf ct _ _ _ HK3.out (fun _ h => h) HX.out HE'.out HBD.out HCF.out HCT.out HLP.out ?_
    intro _ _ _ _ _ _ _ _ _ _ _ _ _ _ _ _ _ _ _ _ _ _ _ _ _ _ _ _ _ w6 b6
    have K6 := Lib.hid ((HK3.out.on b6).drop (K' := fun _ => True) fun _ _ => trivial)
    clear b6
    go_wp2_with fail
    exact HQ.out _ _ _ _ _ _ _ _ _ _ _ _ _ _ _ _ _ _ _ _ _ _ _ _ _ _ _ _ _ _ _ _ _ _ _ _ _ _ _ _ _ _ _ _ _ _ _ _ _ _ _ _ _ _ _ _ _ _ _ _ _ _ _ _ _ _ _ _ _ _ _ _ _ _ _ _ _ _ _ _ _ _ _ _ _ _ _ _ _ _ _ _ _ _ _ _ _ _ _ E' K6.out HL.out
  · have d1 : decide (cf < bud) = true := decide_eq_true (by omega)
    have HLP : Hid (leftI cf bud = wrap64 (bud - cf)) := Lib.hid (by rw [HW9.out hbc]; exact if_neg hbc)
    clear hbc
    go_upto_region 19 with fail
    go_upto_region 20 with (go_at_call 37; refine HCNT.out.mono ?_; rintro e w4 ⟨rfl, rfl⟩; clear c0 c1 c2)
    go_upto_region 23 with fail
    refine wp_reg (opsOf Tryd.f4 23) (by kernel_rfl) ?_
    refine sz23 _ _ _ _ _ _ _ _ _ _ _ _ _ _ _ _ _ _ _ _ _ _ _ _ _ _ _ _ _ _ _ _ _ _ _ _ _ _ _ _ _ _ _ _ _ _ _ _ _ _ _ _ _ _ _ _ _ _ _ _ _ _ _ _ _ _ _ _ _ _ _ _ _ _ _ _ _ _ _ _ _ _ _ _ _ _ _ _ _ _ _ _ _ _ _ _ _ _ _ _ _ _ _ _ _ _ _ _ _ _ _ _ _ _ _ _ _ _ _ _ _ _ _ _ _ _ _ _ _ _ _ _ _ _ _ _ _ _ _ _ _ _ _ _ _ _ _ _ _ _ _ _ _ _ _ _ _ _ _ _ _ _ _ _ _ _ _ _ _ _ _ _ _ _ _ _ _ _ _ _ _ _ _ _ _ _ _ _ _ _ _ _ _ _ _ _ _ _ _ _ _ _ _ _ _ _ _ _ _ _ _ _ _ _ _ _ _ _ _ _ _ _ _ _ _ _ _ _ _ _ _ _ _ _ _ w0 q b u gx E' x _ bud cf ct _ _ _ HK3.out (fun _ h => h) HX.out HE'.out HBD.out HCF.out HCT.out HLP.out ?_
    intro _ _ _ _ _ _ _ _ _ _ _ _ _ _ _ _ _ _ _ _ _ _ _ _ _ _ _ _ _ w6 b6
    have K6 := Lib.hid ((HK3.out.on b6).drop (K' := fun _ => True) fun _ _ => trivial)
    clear b6
    go_wp2_with fail
    exact HQ.out _ _ _ _ _ _ _ _ _ _ _ _ _ _ _ _ _ _ _ _ _ _ _ _ _ _ _ _ _ _ _ _ _ _ _ _ _ _ _ _ _ _ _ _ _ _ _ _ _ _ _ _ _ _ _ _ _ _ _ _ _ _ _ _ _ _ _ _ _ _ _ _ _ _ _ _ _ _ _ _ _ _ _ _ _ _ _ _ _ _ _ _ _ _ _ _ _ _ _ E' K6.out HL.out

end Go.Proofs.YtbfbhlpibclccaaDoor
