/- Pieces of the law ParkExact, walked on their own: the machine of a deed, what is live. Condition: the sentinels lie as the program's text lays them. -/
import Derived.Test.YtaenpajmgenjhaaDoorPkKa
import Derived.Test.YtaenpajmgenjhaaDoorRgC
import Derived.Deep.DeepCutAuto
import Derived.Deep.CutBlock
import Derived.Deep.RegionHeld3
import Derived.Deep.QuietTactic
import Derived.StillTailTactics
namespace Go.Proofs.YtaenpajmgenjhaaDoor
open Go Go.RowKit

set_option maxRecDepth 100000 in
set_option maxHeartbeats 6400000 in
/-- The machine of the deed is the same on both sides. -/
theorem exact19 (u0 u1 u2 u3 u5 u9 u10 u11 u12 u13 u14 u15 u16 u17 u18 u19 u20 u21 u22 u23 u24 u25 u26 u27 u28 u29 u30 u31 u32 u33 u34 u35 u36 u37 u38 u39 u40 u41 u42 u43 u44 u45 u46 u47 u48 u49 u50 u51 u52 u53 u54 u55 u56 u57 u58 u59 u60 u61 u62 u63 u64 u65 u66 u67 u68 u69 u70 u71 u72 u73 u74 u75 u76 u77 u78 u79 u80 u81 u82 u83 u84 u85 u86 u87 u88 u89 u90 u91 u92 u93 u94 u95 u96 u97 u98 u99 u100 u101 u102 u103 u104 u105 u106 u107 u108 u109 u110 u111 u112 u113 u114 u115 u116 u117 u118 u119 u120 u121 u122 u123 u124 u125 u126 u127 u128 u129 u130 u131 u132 u133 u134 u135 u136 u137 u138 u139 u140 u141 u142 u143 u144 u145 u146 u147 u148 u149 u150 u151 u152 u153 u154 u155 u156 u157 u158 u159 u160 u161 u162 u163 u164 u165 u166 u167 u168 u169 u170 u171 u172 u173 u174 u175 u176 u177 u178 u179 u180 u181 u182 u183 u184 u185 u186 u187 u188 u189 u190 u191 u192 u193 u194 u195 u196 u197 u198 u199 u200 u201 u202 u203 u204 u205 u206 u207 u208 u209 u210 u211 u212 u213 u214 u215 u216 u217 u218 u219 u220 u221 u222 u223 u224 u225 u226 u227 u228 u229 u230 u231 u232 u233 u234 u235 u236 u237 u238 u239 u240 u241 u242 u243 u244 u245 u246 u247 u248 u249 u250 u251 u252 u253 : Value) (u gx gm : Nat) (P : List Mc) (x : PkAD) (m : Mc) (b : Bool) (Q : Exit → Act → World → Prop) (w : World) (hR : PkR w u P) (hG : GP P) (hX : PkABlk w gx x) (hM : McB w gm m) (hm : m = (atP P x.id).getD mc0) (hb : b = (atP P x.id).isSome)
    (hQ : ∀ (v91 v92 v93 v94 v95 v96 v97 v98 v99 v100 v101 v102 v103 v104 v105 v106 v107 v108 v109 v110 v111 v112 v113 v114 v115 v116 v117 v118 v119 v120 v121 v122 v123 v124 v125 v126 : Value) (w' : World), Below w.heap.size w w' → Q .normal { tmps := #[u0, u1, u2, u3, .pointer (some ⟨u, 0, none⟩), u5, .pointer (some ⟨gx, 0, none⟩), .pointer (some ⟨gm, 0, none⟩), .bool b, u9, u10, u11, u12, u13, u14, u15, u16, u17, u18, u19, u20, u21, u22, u23, u24, u25, u26, u27, u28, u29, u30, u31, u32, u33, u34, u35, u36, u37, u38, u39, u40, u41, u42, u43, u44, u45, u46, u47, u48, u49, u50, u51, u52, u53, u54, u55, u56, u57, u58, u59, u60, u61, u62, u63, u64, u65, u66, u67, u68, u69, u70, u71, u72, u73, u74, u75, u76, u77, u78, u79, u80, u81, u82, u83, u84, u85, u86, u87, u88, u89, u90, v91, v92, v93, v94, v95, v96, v97, v98, v99, v100, v101, v102, v103, v104, v105, v106, v107, v108, v109, v110, v111, v112, v113, v114, v115, v116, v117, v118, v119, v120, v121, v122, v123, v124, v125, v126, .bool false, u128, u129, u130, u131, u132, u133, u134, u135, u136, u137, u138, u139, u140, u141, u142, u143, u144, u145, u146, u147, u148, u149, u150, u151, u152, u153, u154, u155, u156, u157, u158, u159, u160, u161, u162, u163, u164, u165, u166, u167, u168, u169, u170, u171, u172, u173, u174, u175, u176, u177, u178, u179, u180, u181, u182, u183, u184, u185, u186, u187, u188, u189, u190, u191, u192, u193, u194, u195, u196, u197, u198, u199, u200, u201, u202, u203, u204, u205, u206, u207, u208, u209, u210, u211, u212, u213, u214, u215, u216, u217, u218, u219, u220, u221, u222, u223, u224, u225, u226, u227, u228, u229, u230, u231, u232, u233, u234, u235, u236, u237, u238, u239, u240, u241, u242, u243, u244, u245, u246, u247, u248, u249, u250, u251, u252, u253], defers := [] } w') :
    (Code.region 19 (opsOf Tryd.f3 19).toArray true).wp Tryd.prog Q { tmps := #[u0, u1, u2, u3, .pointer (some ⟨u, 0, none⟩), u5, .pointer (some ⟨gx, 0, none⟩), .pointer (some ⟨gm, 0, none⟩), .bool b, u9, u10, u11, u12, u13, u14, u15, u16, u17, u18, u19, u20, u21, u22, u23, u24, u25, u26, u27, u28, u29, u30, u31, u32, u33, u34, u35, u36, u37, u38, u39, u40, u41, u42, u43, u44, u45, u46, u47, u48, u49, u50, u51, u52, u53, u54, u55, u56, u57, u58, u59, u60, u61, u62, u63, u64, u65, u66, u67, u68, u69, u70, u71, u72, u73, u74, u75, u76, u77, u78, u79, u80, u81, u82, u83, u84, u85, u86, u87, u88, u89, u90, u91, u92, u93, u94, u95, u96, u97, u98, u99, u100, u101, u102, u103, u104, u105, u106, u107, u108, u109, u110, u111, u112, u113, u114, u115, u116, u117, u118, u119, u120, u121, u122, u123, u124, u125, u126, u127, u128, u129, u130, u131, u132, u133, u134, u135, u136, u137, u138, u139, u140, u141, u142, u143, u144, u145, u146, u147, u148, u149, u150, u151, u152, u153, u154, u155, u156, u157, u158, u159, u160, u161, u162, u163, u164, u165, u166, u167, u168, u169, u170, u171, u172, u173, u174, u175, u176, u177, u178, u179, u180, u181, u182, u183, u184, u185, u186, u187, u188, u189, u190, u191, u192, u193, u194, u195, u196, u197, u198, u199, u200, u201, u202, u203, u204, u205, u206, u207, u208, u209, u210, u211, u212, u213, u214, u215, u216, u217, u218, u219, u220, u221, u222, u223, u224, u225, u226, u227, u228, u229, u230, u231, u232, u233, u234, u235, u236, u237, u238, u239, u240, u241, u242, u243, u244, u245, u246, u247, u248, u249, u250, u251, u252, u253], defers := [] } w := by
  simp only [opsOf, Tryd.f3, regOf, Option.bind_some, Option.orElse, Option.getD_some, Nat.reduceEqDiff, if_true, if_false, reduceCtorEq]
  have HQ := Lib.hid hQ
  have HM := Lib.hid hM
  obtain ⟨c0, c1, c2, c3, c4, c5, c6⟩ := hX.actC
  have HI := Lib.hid (fun W (h : PkR W u P) => ris_c u P x.id W h hG)
  have HR := Lib.hid hR
  have HG := Lib.hid hG
  have hid0 : b = (atP P x.id).isSome := hb
  rw [← hb] at HI
  obtain ⟨m0, m1, m2, m3, m4, m5, m6, mf, ml⟩ := HM.out.facts
  have hbb : (b != b) = false := by simp
  cases hbt : b with
  | false =>
    subst hbt
    clear hb hid0 hQ hM hX hR hG hm
    go_quiet ((go_at_call 16; exact Calls.quiet_of_same (HI.out _ HR.out)))
    go_wp2_with fail
    exact HQ.out _ _ _ _ _ _ _ _ _ _ _ _ _ _ _ _ _ _ _ _ _ _ _ _ _ _ _ _ _ _ _ _ _ _ _ _ _ (below_drewN (Below.refl _ _) _)
  | true =>
    subst hbt
    obtain ⟨y, hy⟩ : ∃ y, atP P x.id = some y := by
      cases e : atP P x.id with
      | none => rw [e] at hid0; cases hid0
      | some y => exact ⟨y, rfl⟩
    have hmy : m = y := by rw [hm, hy]; rfl
    obtain ⟨hyP, hyid⟩ := (at_some hG.ord).1 hy
    have hids := hG.ids y hyP
    obtain ⟨j, hj⟩ : ∃ j : Nat, x.id = (j : Int) := ⟨x.id.toNat, by omega⟩
    have hj1 : j < 1000 := by omega
    have hj0 : (0 : Int) ≤ (j : Int) := by omega
    have hj2 : (j : Int) < 1000 := by omega
    have hsl : slotP P (j : Int) = y := by rw [← hj]; exact slot_some hy
    obtain ⟨z0, z1, z2, z3, z4, z5, zl, zf⟩ := hR.cells hj1
    rw [hsl] at z0 z1 z2 z3 z4 z5
    rw [hmy] at m0 m1 m2 m3 m4 m5 m6
    rw [hj] at c1 HI
    have hE : ∀ W : World, (Op.equalIn 10000 45 (.agg #[.int .i64 y.id, .int .i64 y.cell, .int .i64 y.has.a, .int .i64 y.has.b, .int .i64 y.has.c, .int .i64 y.has.d, .int .i64 y.st]) (.agg #[.int .i64 (j : Int), .int .i64 y.cell, .int .i64 y.has.a, .int .i64 y.has.b, .int .i64 y.has.c, .int .i64 y.has.d, .int .i64 y.st])).run Tryd.prog W = .ok true W := fun W => by
      have := eqM y y W
      rw [decide_eq_true rfl] at this
      rwa [show (j : Int) = y.id by omega]
    clear hb hid0 hQ hM hX hR hG hm hy hmy hyP hyid hids hj hsl HM
    go_quiet ((go_at_call 16; exact Calls.quiet_of_same (HI.out _ HR.out)))
    go_wp2_with fail
    exact HQ.out _ _ _ _ _ _ _ _ _ _ _ _ _ _ _ _ _ _ _ _ _ _ _ _ _ _ _ _ _ _ _ _ _ _ _ _ _ (below_drewN (Below.refl _ _) _)

/-- What is asked behind it. -/
def exact_liveQ (u0 u1 u5 u6 u7 u8 u10 u11 u12 u13 u14 u15 u16 u17 u18 u19 u20 u21 u22 u23 u24 u25 u26 u27 u28 u29 u30 u31 u32 u33 u34 u35 u36 u37 u38 u39 u40 u41 u42 u43 u44 u45 u46 u47 u48 u49 u50 u51 u52 u53 u54 u55 u56 u57 u58 u59 u60 u61 u62 u63 u64 u65 u66 u67 u68 u69 u70 u71 u72 u73 u74 u75 u76 u77 u78 u79 u80 u81 u82 u83 u84 u85 u86 u87 u88 u89 u90 u91 u92 u93 u94 u95 u96 u97 u98 u99 u100 u101 u102 u103 u104 u105 u106 u107 u108 u109 u110 u111 u112 u113 u114 u115 u116 u117 u118 u119 u120 u121 u122 u123 u124 u125 u126 u127 u139 u140 u141 u142 u143 u144 u145 u146 u147 u148 u149 u150 u151 u152 u153 u154 u155 u156 u157 u158 u159 u160 u161 u162 u163 u164 u165 u166 u167 u168 u169 u170 u171 u172 u173 u174 u175 u176 u177 u178 u179 u180 u181 u182 u183 u184 u185 u186 u187 u188 u189 u190 u191 u192 u193 u194 u195 u196 u197 u198 u199 u200 u201 u202 u203 u204 u205 u206 u207 u208 u209 u210 u211 u212 u213 u214 u215 u216 u217 u218 u219 u220 u221 u222 u223 u224 u225 u226 u227 u228 u229 u230 u231 u232 u233 u234 u235 u236 u237 u238 u239 u240 u241 u242 u243 u244 u245 u246 u247 u248 u249 u250 u251 u252 u253 : Value) (w0 : World) (q R u : Nat) (P : List Mc) (Q : Exit → Act → World → Prop) (w : World) : Prop :=
  ∀ (v2 v9 v128 v129 v130 v131 v132 v133 v134 v135 v136 v137 v138 : Value) (w' : World), PxAt w0 w' q R u P → Below w.heap.size w w' → Q .normal { tmps := #[u0, u1, v2, .pointer (some ⟨q, 0, none⟩), .pointer (some ⟨u, 0, none⟩), u5, u6, u7, u8, v9, u10, u11, u12, u13, u14, u15, u16, u17, u18, u19, u20, u21, u22, u23, u24, u25, u26, u27, u28, u29, u30, u31, u32, u33, u34, u35, u36, u37, u38, u39, u40, u41, u42, u43, u44, u45, u46, u47, u48, u49, u50, u51, u52, u53, u54, u55, u56, u57, u58, u59, u60, u61, u62, u63, u64, u65, u66, u67, u68, u69, u70, u71, u72, u73, u74, u75, u76, u77, u78, u79, u80, u81, u82, u83, u84, u85, u86, u87, u88, u89, u90, u91, u92, u93, u94, u95, u96, u97, u98, u99, u100, u101, u102, u103, u104, u105, u106, u107, u108, u109, u110, u111, u112, u113, u114, u115, u116, u117, u118, u119, u120, u121, u122, u123, u124, u125, u126, u127, v128, v129, v130, v131, v132, v133, v134, v135, v136, v137, v138, u139, u140, u141, u142, u143, u144, u145, u146, u147, u148, u149, u150, u151, u152, u153, u154, u155, u156, u157, u158, u159, u160, u161, u162, u163, u164, u165, u166, u167, u168, u169, u170, u171, u172, u173, u174, u175, u176, u177, u178, u179, u180, u181, u182, u183, u184, u185, u186, u187, u188, u189, u190, u191, u192, u193, u194, u195, u196, u197, u198, u199, u200, u201, u202, u203, u204, u205, u206, u207, u208, u209, u210, u211, u212, u213, u214, u215, u216, u217, u218, u219, u220, u221, u222, u223, u224, u225, u226, u227, u228, u229, u230, u231, u232, u233, u234, u235, u236, u237, u238, u239, u240, u241, u242, u243, u244, u245, u246, u247, u248, u249, u250, u251, u252, u253], defers := [] } w'
set_option maxRecDepth 100000 in
set_option maxHeartbeats 6400000 in
/-- What is live is the same on both sides. -/
theorem exact_live (u0 u1 u2 u5 u6 u7 u8 u10 u11 u12 u13 u14 u15 u16 u17 u18 u19 u20 u21 u22 u23 u24 u25 u26 u27 u28 u29 u30 u31 u32 u33 u34 u35 u36 u37 u38 u39 u40 u41 u42 u43 u44 u45 u46 u47 u48 u49 u50 u51 u52 u53 u54 u55 u56 u57 u58 u59 u60 u61 u62 u63 u64 u65 u66 u67 u68 u69 u70 u71 u72 u73 u74 u75 u76 u77 u78 u79 u80 u81 u82 u83 u84 u85 u86 u87 u88 u89 u90 u91 u92 u93 u94 u95 u96 u97 u98 u99 u100 u101 u102 u103 u104 u105 u106 u107 u108 u109 u110 u111 u112 u113 u114 u115 u116 u117 u118 u119 u120 u121 u122 u123 u124 u125 u126 u127 u128 u129 u130 u131 u132 u133 u134 u135 u136 u137 u138 u139 u140 u141 u142 u143 u144 u145 u146 u147 u148 u149 u150 u151 u152 u153 u154 u155 u156 u157 u158 u159 u160 u161 u162 u163 u164 u165 u166 u167 u168 u169 u170 u171 u172 u173 u174 u175 u176 u177 u178 u179 u180 u181 u182 u183 u184 u185 u186 u187 u188 u189 u190 u191 u192 u193 u194 u195 u196 u197 u198 u199 u200 u201 u202 u203 u204 u205 u206 u207 u208 u209 u210 u211 u212 u213 u214 u215 u216 u217 u218 u219 u220 u221 u222 u223 u224 u225 u226 u227 u228 u229 u230 u231 u232 u233 u234 u235 u236 u237 u238 u239 u240 u241 u242 u243 u244 u245 u246 u247 u248 u249 u250 u251 u252 u253 : Value) (s : Nat → Addr) (w0 : World) (q R u : Nat) (P : List Mc) (Q : Exit → Act → World → Prop) (w : World) (hs : Sent s w0) (hK : PxAt w0 w q R u P)
    (hQ : exact_liveQ u0 u1 u5 u6 u7 u8 u10 u11 u12 u13 u14 u15 u16 u17 u18 u19 u20 u21 u22 u23 u24 u25 u26 u27 u28 u29 u30 u31 u32 u33 u34 u35 u36 u37 u38 u39 u40 u41 u42 u43 u44 u45 u46 u47 u48 u49 u50 u51 u52 u53 u54 u55 u56 u57 u58 u59 u60 u61 u62 u63 u64 u65 u66 u67 u68 u69 u70 u71 u72 u73 u74 u75 u76 u77 u78 u79 u80 u81 u82 u83 u84 u85 u86 u87 u88 u89 u90 u91 u92 u93 u94 u95 u96 u97 u98 u99 u100 u101 u102 u103 u104 u105 u106 u107 u108 u109 u110 u111 u112 u113 u114 u115 u116 u117 u118 u119 u120 u121 u122 u123 u124 u125 u126 u127 u139 u140 u141 u142 u143 u144 u145 u146 u147 u148 u149 u150 u151 u152 u153 u154 u155 u156 u157 u158 u159 u160 u161 u162 u163 u164 u165 u166 u167 u168 u169 u170 u171 u172 u173 u174 u175 u176 u177 u178 u179 u180 u181 u182 u183 u184 u185 u186 u187 u188 u189 u190 u191 u192 u193 u194 u195 u196 u197 u198 u199 u200 u201 u202 u203 u204 u205 u206 u207 u208 u209 u210 u211 u212 u213 u214 u215 u216 u217 u218 u219 u220 u221 u222 u223 u224 u225 u226 u227 u228 u229 u230 u231 u232 u233 u234 u235 u236 u237 u238 u239 u240 u241 u242 u243 u244 u245 u246 u247 u248 u249 u250 u251 u252 u253 w0 q R u P Q w) :
    (Code.block 3 (bodyOf Tryd.f3 3)).wp Tryd.prog Q { tmps := #[u0, u1, u2, .pointer (some ⟨q, 0, none⟩), .pointer (some ⟨u, 0, none⟩), u5, u6, u7, u8, .int .i64 0, u10, u11, u12, u13, u14, u15, u16, u17, u18, u19, u20, u21, u22, u23, u24, u25, u26, u27, u28, u29, u30, u31, u32, u33, u34, u35, u36, u37, u38, u39, u40, u41, u42, u43, u44, u45, u46, u47, u48, u49, u50, u51, u52, u53, u54, u55, u56, u57, u58, u59, u60, u61, u62, u63, u64, u65, u66, u67, u68, u69, u70, u71, u72, u73, u74, u75, u76, u77, u78, u79, u80, u81, u82, u83, u84, u85, u86, u87, u88, u89, u90, u91, u92, u93, u94, u95, u96, u97, u98, u99, u100, u101, u102, u103, u104, u105, u106, u107, u108, u109, u110, u111, u112, u113, u114, u115, u116, u117, u118, u119, u120, u121, u122, u123, u124, u125, u126, u127, u128, u129, u130, u131, u132, u133, u134, u135, u136, u137, u138, u139, u140, u141, u142, u143, u144, u145, u146, u147, u148, u149, u150, u151, u152, u153, u154, u155, u156, u157, u158, u159, u160, u161, u162, u163, u164, u165, u166, u167, u168, u169, u170, u171, u172, u173, u174, u175, u176, u177, u178, u179, u180, u181, u182, u183, u184, u185, u186, u187, u188, u189, u190, u191, u192, u193, u194, u195, u196, u197, u198, u199, u200, u201, u202, u203, u204, u205, u206, u207, u208, u209, u210, u211, u212, u213, u214, u215, u216, u217, u218, u219, u220, u221, u222, u223, u224, u225, u226, u227, u228, u229, u230, u231, u232, u233, u234, u235, u236, u237, u238, u239, u240, u241, u242, u243, u244, u245, u246, u247, u248, u249, u250, u251, u252, u253], defers := [] } w := by
  simp only [bodyOf, Tryd.f3, blkOf, Option.bind_some, Option.orElse, Option.getD_some, Nat.reduceEqDiff, if_true, if_false, reduceCtorEq]
  have HQ := Lib.hid hQ
  have HS := Lib.hid hs; have HK := Lib.hid hK
  clear hQ hs hK
  go_wp2_with fail
  go_loopw [9] (fun v W => ∃ k : Nat, k ≤ 6 ∧ v = .int .i64 (k : Int) ∧ PxAt w0 W q R u P ∧ Below w.heap.size w W) (fun v _ => 6 - (intOf v).toNat)
  case atStart => exact ⟨0, Nat.zero_le _, rfl, HK.out, Below.refl _ _⟩
  case round =>
    clear HK
    obtain ⟨k, hk, rfl, h1, h2⟩ := hrel
    have HK := Lib.hid h1; have HB := Lib.hid h2
    clear h1 h2
    by_cases hk6 : k < 6
    · have hkz : (k : Int) ≤ 5 := by omega
      obtain ⟨L, hL⟩ : ∃ L, L = liveP P (k : Int) false := ⟨_, rfl⟩
      have hE : ∀ W : World, (Op.equalIn 10000 28 (.agg #[.int .i64 L.a, .int .i64 L.b, .int .i64 L.c, .int .i64 L.d]) (.agg #[.int .i64 L.a, .int .i64 L.b, .int .i64 L.c, .int .i64 L.d])).run Tryd.prog W = .ok true W := fun W => (eqVd L L W).trans (by rw [decide_eq_true rfl])
      have H1 := (HK.out.p.live HS.out (k : Int))
      have H2 : Hid (∀ W, PkR W u P → Calls Tryd.prog 18 #[.pointer (some ⟨u, 0, none⟩), .int .i64 (k : Int), .bool false] W fun e w' => e = .returned (.agg #[.int .i64 L.a, .int .i64 L.b, .int .i64 L.c, .int .i64 L.d]) ∧ Below W.heap.size W w') := Lib.hid fun W h => by rw [hL]; exact rlive_c u P (k : Int) false W h HK.out.p.good
      rw [← hL] at H1
      have H1 := Lib.hid H1
      clear hL
      go_wp2_with fail
      refine H1.out.mono ?_
      rintro e w2 ⟨rfl, b2⟩
      have HK2 := Lib.hid (HK.out.on b2)
      have HB2 := Lib.hid (HB.out.trans (b2.mono HB.out.size))
      clear b2 H1 HK HB
      go_wp2_with fail
      refine (H2.out _ HK2.out.r).mono ?_
      rintro e w3 ⟨rfl, b3⟩
      have HK3 := Lib.hid (HK2.out.on b3)
      have HB3 := Lib.hid (HB2.out.trans (b3.mono HB2.out.size))
      clear b3 H2 HK2 HB2
      go_wp2_with fail
      go_roundw
      case rel => exact ⟨k + 1, by omega, by go_num, HK3.out, HB3.out⟩
      case measure => simp [intOf]; omega
    · obtain rfl : k = 6 := by omega
      go_wp2_with fail
      exact HQ.out _ _ _ _ _ _ _ _ _ _ _ _ _ _ HK.out HB.out

end Go.Proofs.YtaenpajmgenjhaaDoor
