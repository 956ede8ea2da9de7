/- Pieces of the law AllocExact, walked on their own: where a task is, the envelopes of a set. Condition: the sentinels lie as the program's text lays them. -/
import Derived.Test.YtbdnfppbiplpmaaDoorAxYb
import Derived.Test.YtbdnfppbiplpmaaDoorRgC
import Derived.Deep.DeepCutAuto
import Derived.Deep.CutBlock
import Derived.Deep.RegionHeld3
import Derived.Deep.QuietTactic
import Derived.StillTailTactics
namespace Go.Proofs.YtbdnfppbiplpmaaDoor
open Go Go.RowKit Go.Maps Go.Sort

theorem spots_mono (G : AG) (s : SetA) {j n : Nat} (h : j ≤ n) : (spotsA G s j).length ≤ (spotsA G s n).length := by
  induction n with
  | zero => obtain rfl : j = 0 := by omega
            exact Nat.le_refl _
  | succ n ih =>
    by_cases e : j = n + 1
    · subst e; exact Nat.le_refl _
    · have := ih (by omega)
      rw [spotsA_succ, List.length_append]; omega
theorem spots_pre (G : AG) (s : SetA) {j n : Nat} (h : j ≤ n) : ∃ T, spotsA G s n = spotsA G s j ++ T := by
  induction n with
  | zero => obtain rfl : j = 0 := by omega
            exact ⟨[], by simp⟩
  | succ n ih =>
    by_cases e : j = n + 1
    · subst e; exact ⟨[], by simp⟩
    · obtain ⟨T, hT⟩ := ih (by omega)
      rw [spotsA_succ, hT]
      exact ⟨_, List.append_assoc ..⟩
theorem spots_at (G : AG) (s : SetA) {j n : Nat} (h : j < n) (hu : s.up (j : Int) = true) : (spotsA G s n)[(spotsA G s j).length]? = some ⟨(j : Int), leftA G s (j : Int)⟩ := by
  obtain ⟨T, hT⟩ := spots_pre G s (j := j + 1) (n := n) h
  rw [hT, spotsA_succ, if_pos hu, List.append_assoc, List.getElem?_append_right (Nat.le_refl _), Nat.sub_self]
  rfl
/-- What is asked behind it. -/
def ax33Q (u0 u1 u2 u3 u5 u6 u7 u8 u9 u10 u15 u16 u17 u18 u19 u20 u21 u22 u23 u24 u25 u26 u27 u28 u29 u30 u31 u32 u33 u34 u35 u36 u37 u38 u39 u40 u41 u42 u43 u44 u45 u46 u47 u48 u49 u50 u51 u52 u53 u54 u55 u56 u57 u58 u59 u60 u61 u62 u63 u64 u65 u66 u67 u68 u69 u70 u71 u72 u73 u74 u75 u76 u77 u78 u79 u80 u81 u82 u83 u84 u85 u86 u87 u88 u89 u90 u91 u92 u93 u94 u95 u96 u97 u98 u99 u100 u101 u102 u103 u104 u105 u106 u107 u108 u109 u110 u111 u112 u113 u114 u115 u116 u117 u118 u119 u120 u121 u122 u123 u124 u125 u126 u127 u128 u129 u130 u131 u132 u133 u134 u135 u136 u137 u138 u139 u140 u141 u142 u143 u144 u145 u146 u147 u148 u149 u150 u151 u152 u153 u154 u155 u156 u157 u158 u159 u160 u161 u162 u163 u164 u165 u166 u167 u168 u169 u170 u171 u172 u173 u174 u175 u176 u177 u178 u179 u180 u181 u182 u183 u184 u185 u186 u187 u188 u189 u221 u222 u223 u224 u225 u226 u227 u228 u229 u230 u231 u232 u233 u234 u235 u236 u237 u238 u239 u240 u241 u242 u243 u244 u245 u246 u247 u248 u249 u250 u251 u252 u253 u254 u255 u256 u257 u258 u259 u260 u261 u262 u263 u264 u265 u266 u267 u268 u269 u270 u271 u272 u273 u274 u275 u276 u277 u278 u279 u280 u281 u282 u283 u284 u285 u286 u287 u288 u289 u290 u291 u292 u293 u294 u295 u296 u297 u298 u299 u300 u301 u302 u303 u304 u305 u306 u307 u308 u309 u310 u311 u312 u313 u314 u315 u316 u317 u318 u319 u320 u321 u322 u323 u324 u325 u326 u327 u328 u329 u330 u331 u332 u333 u334 u335 u336 u337 u338 u339 u340 u341 u342 u343 u344 u345 u346 u347 u348 u349 u350 u351 u352 u353 u354 u355 u356 u357 u358 u359 u360 u361 u362 u363 u364 u365 u366 u367 u368 u369 u370 u371 u372 u373 u374 u375 u376 u377 u378 u379 u380 u381 u382 u383 u384 u385 u386 u387 u388 u389 u390 u391 u392 u393 u394 u395 u396 u397 : Value) (u : Nat) (a1 a2 p : Int) (b : Bool) (Q : Exit → Act → World → Prop) (w : World) : Prop :=
  ∀ (v190 v191 v192 v193 v194 v195 v196 v197 v198 v199 v200 v201 v202 v203 v204 v205 v206 v207 v208 v209 v210 v211 v212 v213 v214 v215 v216 v217 v218 v219 : Value) (w' : World), w' = w → Q .normal { tmps := #[u0, u1, u2, u3, .pointer (some ⟨u, 0, none⟩), u5, u6, u7, u8, u9, u10, .int .i64 a1, .int .i64 a2, .bool b, .int .i64 p, u15, u16, u17, u18, u19, u20, u21, u22, u23, u24, u25, u26, u27, u28, u29, u30, u31, u32, u33, u34, u35, u36, u37, u38, u39, u40, u41, u42, u43, u44, u45, u46, u47, u48, u49, u50, u51, u52, u53, u54, u55, u56, u57, u58, u59, u60, u61, u62, u63, u64, u65, u66, u67, u68, u69, u70, u71, u72, u73, u74, u75, u76, u77, u78, u79, u80, u81, u82, u83, u84, u85, u86, u87, u88, u89, u90, u91, u92, u93, u94, u95, u96, u97, u98, u99, u100, u101, u102, u103, u104, u105, u106, u107, u108, u109, u110, u111, u112, u113, u114, u115, u116, u117, u118, u119, u120, u121, u122, u123, u124, u125, u126, u127, u128, u129, u130, u131, u132, u133, u134, u135, u136, u137, u138, u139, u140, u141, u142, u143, u144, u145, u146, u147, u148, u149, u150, u151, u152, u153, u154, u155, u156, u157, u158, u159, u160, u161, u162, u163, u164, u165, u166, u167, u168, u169, u170, u171, u172, u173, u174, u175, u176, u177, u178, u179, u180, u181, u182, u183, u184, u185, u186, u187, u188, u189, v190, v191, v192, v193, v194, v195, v196, v197, v198, v199, v200, v201, v202, v203, v204, v205, v206, v207, v208, v209, v210, v211, v212, v213, v214, v215, v216, v217, v218, v219, .bool false, u221, u222, u223, u224, u225, u226, u227, u228, u229, u230, u231, u232, u233, u234, u235, u236, u237, u238, u239, u240, u241, u242, u243, u244, u245, u246, u247, u248, u249, u250, u251, u252, u253, u254, u255, u256, u257, u258, u259, u260, u261, u262, u263, u264, u265, u266, u267, u268, u269, u270, u271, u272, u273, u274, u275, u276, u277, u278, u279, u280, u281, u282, u283, u284, u285, u286, u287, u288, u289, u290, u291, u292, u293, u294, u295, u296, u297, u298, u299, u300, u301, u302, u303, u304, u305, u306, u307, u308, u309, u310, u311, u312, u313, u314, u315, u316, u317, u318, u319, u320, u321, u322, u323, u324, u325, u326, u327, u328, u329, u330, u331, u332, u333, u334, u335, u336, u337, u338, u339, u340, u341, u342, u343, u344, u345, u346, u347, u348, u349, u350, u351, u352, u353, u354, u355, u356, u357, u358, u359, u360, u361, u362, u363, u364, u365, u366, u367, u368, u369, u370, u371, u372, u373, u374, u375, u376, u377, u378, u379, u380, u381, u382, u383, u384, u385, u386, u387, u388, u389, u390, u391, u392, u393, u394, u395, u396, u397], defers := [] } w'
set_option maxRecDepth 100000 in
set_option maxHeartbeats 6400000 in
/-- Where a task is, is the same on both sides. -/
theorem ax33 (u0 u1 u2 u3 u5 u6 u7 u8 u9 u10 u15 u16 u17 u18 u19 u20 u21 u22 u23 u24 u25 u26 u27 u28 u29 u30 u31 u32 u33 u34 u35 u36 u37 u38 u39 u40 u41 u42 u43 u44 u45 u46 u47 u48 u49 u50 u51 u52 u53 u54 u55 u56 u57 u58 u59 u60 u61 u62 u63 u64 u65 u66 u67 u68 u69 u70 u71 u72 u73 u74 u75 u76 u77 u78 u79 u80 u81 u82 u83 u84 u85 u86 u87 u88 u89 u90 u91 u92 u93 u94 u95 u96 u97 u98 u99 u100 u101 u102 u103 u104 u105 u106 u107 u108 u109 u110 u111 u112 u113 u114 u115 u116 u117 u118 u119 u120 u121 u122 u123 u124 u125 u126 u127 u128 u129 u130 u131 u132 u133 u134 u135 u136 u137 u138 u139 u140 u141 u142 u143 u144 u145 u146 u147 u148 u149 u150 u151 u152 u153 u154 u155 u156 u157 u158 u159 u160 u161 u162 u163 u164 u165 u166 u167 u168 u169 u170 u171 u172 u173 u174 u175 u176 u177 u178 u179 u180 u181 u182 u183 u184 u185 u186 u187 u188 u189 u190 u191 u192 u193 u194 u195 u196 u197 u198 u199 u200 u201 u202 u203 u204 u205 u206 u207 u208 u209 u210 u211 u212 u213 u214 u215 u216 u217 u218 u219 u220 u221 u222 u223 u224 u225 u226 u227 u228 u229 u230 u231 u232 u233 u234 u235 u236 u237 u238 u239 u240 u241 u242 u243 u244 u245 u246 u247 u248 u249 u250 u251 u252 u253 u254 u255 u256 u257 u258 u259 u260 u261 u262 u263 u264 u265 u266 u267 u268 u269 u270 u271 u272 u273 u274 u275 u276 u277 u278 u279 u280 u281 u282 u283 u284 u285 u286 u287 u288 u289 u290 u291 u292 u293 u294 u295 u296 u297 u298 u299 u300 u301 u302 u303 u304 u305 u306 u307 u308 u309 u310 u311 u312 u313 u314 u315 u316 u317 u318 u319 u320 u321 u322 u323 u324 u325 u326 u327 u328 u329 u330 u331 u332 u333 u334 u335 u336 u337 u338 u339 u340 u341 u342 u343 u344 u345 u346 u347 u348 u349 u350 u351 u352 u353 u354 u355 u356 u357 u358 u359 u360 u361 u362 u363 u364 u365 u366 u367 u368 u369 u370 u371 u372 u373 u374 u375 u376 u377 u378 u379 u380 u381 u382 u383 u384 u385 u386 u387 u388 u389 u390 u391 u392 u393 u394 u395 u396 u397 : Value) (w0 : World) (q u : Nat) (G : AG) (t : Tk) (K : World → Prop) (a1 a2 p : Int) (b : Bool) (Q : Exit → Act → World → Prop) (w : World) (hK : AX w0 w q u G G K) (h1 : (seatA G t).set = a1) (h2 : (seatA G t).pos = a2) (hb : (tkA G t).isSome = b) (hp : posT G t = p)
    (hQ : ax33Q u0 u1 u2 u3 u5 u6 u7 u8 u9 u10 u15 u16 u17 u18 u19 u20 u21 u22 u23 u24 u25 u26 u27 u28 u29 u30 u31 u32 u33 u34 u35 u36 u37 u38 u39 u40 u41 u42 u43 u44 u45 u46 u47 u48 u49 u50 u51 u52 u53 u54 u55 u56 u57 u58 u59 u60 u61 u62 u63 u64 u65 u66 u67 u68 u69 u70 u71 u72 u73 u74 u75 u76 u77 u78 u79 u80 u81 u82 u83 u84 u85 u86 u87 u88 u89 u90 u91 u92 u93 u94 u95 u96 u97 u98 u99 u100 u101 u102 u103 u104 u105 u106 u107 u108 u109 u110 u111 u112 u113 u114 u115 u116 u117 u118 u119 u120 u121 u122 u123 u124 u125 u126 u127 u128 u129 u130 u131 u132 u133 u134 u135 u136 u137 u138 u139 u140 u141 u142 u143 u144 u145 u146 u147 u148 u149 u150 u151 u152 u153 u154 u155 u156 u157 u158 u159 u160 u161 u162 u163 u164 u165 u166 u167 u168 u169 u170 u171 u172 u173 u174 u175 u176 u177 u178 u179 u180 u181 u182 u183 u184 u185 u186 u187 u188 u189 u221 u222 u223 u224 u225 u226 u227 u228 u229 u230 u231 u232 u233 u234 u235 u236 u237 u238 u239 u240 u241 u242 u243 u244 u245 u246 u247 u248 u249 u250 u251 u252 u253 u254 u255 u256 u257 u258 u259 u260 u261 u262 u263 u264 u265 u266 u267 u268 u269 u270 u271 u272 u273 u274 u275 u276 u277 u278 u279 u280 u281 u282 u283 u284 u285 u286 u287 u288 u289 u290 u291 u292 u293 u294 u295 u296 u297 u298 u299 u300 u301 u302 u303 u304 u305 u306 u307 u308 u309 u310 u311 u312 u313 u314 u315 u316 u317 u318 u319 u320 u321 u322 u323 u324 u325 u326 u327 u328 u329 u330 u331 u332 u333 u334 u335 u336 u337 u338 u339 u340 u341 u342 u343 u344 u345 u346 u347 u348 u349 u350 u351 u352 u353 u354 u355 u356 u357 u358 u359 u360 u361 u362 u363 u364 u365 u366 u367 u368 u369 u370 u371 u372 u373 u374 u375 u376 u377 u378 u379 u380 u381 u382 u383 u384 u385 u386 u387 u388 u389 u390 u391 u392 u393 u394 u395 u396 u397 u a1 a2 p b Q w) :
    (Code.region 33 (opsOf Tryd.f3 33).toArray false).wp Tryd.prog Q { tmps := #[u0, u1, u2, u3, .pointer (some ⟨u, 0, none⟩), u5, u6, u7, u8, u9, u10, .int .i64 a1, .int .i64 a2, .bool b, .int .i64 p, u15, u16, u17, u18, u19, u20, u21, u22, u23, u24, u25, u26, u27, u28, u29, u30, u31, u32, u33, u34, u35, u36, u37, u38, u39, u40, u41, u42, u43, u44, u45, u46, u47, u48, u49, u50, u51, u52, u53, u54, u55, u56, u57, u58, u59, u60, u61, u62, u63, u64, u65, u66, u67, u68, u69, u70, u71, u72, u73, u74, u75, u76, u77, u78, u79, u80, u81, u82, u83, u84, u85, u86, u87, u88, u89, u90, u91, u92, u93, u94, u95, u96, u97, u98, u99, u100, u101, u102, u103, u104, u105, u106, u107, u108, u109, u110, u111, u112, u113, u114, u115, u116, u117, u118, u119, u120, u121, u122, u123, u124, u125, u126, u127, u128, u129, u130, u131, u132, u133, u134, u135, u136, u137, u138, u139, u140, u141, u142, u143, u144, u145, u146, u147, u148, u149, u150, u151, u152, u153, u154, u155, u156, u157, u158, u159, u160, u161, u162, u163, u164, u165, u166, u167, u168, u169, u170, u171, u172, u173, u174, u175, u176, u177, u178, u179, u180, u181, u182, u183, u184, u185, u186, u187, u188, u189, u190, u191, u192, u193, u194, u195, u196, u197, u198, u199, u200, u201, u202, u203, u204, u205, u206, u207, u208, u209, u210, u211, u212, u213, u214, u215, u216, u217, u218, u219, u220, u221, u222, u223, u224, u225, u226, u227, u228, u229, u230, u231, u232, u233, u234, u235, u236, u237, u238, u239, u240, u241, u242, u243, u244, u245, u246, u247, u248, u249, u250, u251, u252, u253, u254, u255, u256, u257, u258, u259, u260, u261, u262, u263, u264, u265, u266, u267, u268, u269, u270, u271, u272, u273, u274, u275, u276, u277, u278, u279, u280, u281, u282, u283, u284, u285, u286, u287, u288, u289, u290, u291, u292, u293, u294, u295, u296, u297, u298, u299, u300, u301, u302, u303, u304, u305, u306, u307, u308, u309, u310, u311, u312, u313, u314, u315, u316, u317, u318, u319, u320, u321, u322, u323, u324, u325, u326, u327, u328, u329, u330, u331, u332, u333, u334, u335, u336, u337, u338, u339, u340, u341, u342, u343, u344, u345, u346, u347, u348, u349, u350, u351, u352, u353, u354, u355, u356, u357, u358, u359, u360, u361, u362, u363, u364, u365, u366, u367, u368, u369, u370, u371, u372, u373, u374, u375, u376, u377, u378, u379, u380, u381, u382, u383, u384, u385, u386, u387, u388, u389, u390, u391, u392, u393, u394, u395, u396, u397], defers := [] } w := by
  simp only [opsOf, Tryd.f3, regOf, Option.bind_some, Option.orElse, Option.getD_some, Nat.reduceEqDiff, if_true, if_false, reduceCtorEq]
  have HQ := Lib.hid hQ
  rcases posT_cases hK.goodH t with ⟨e1, e2⟩ | ⟨i, y, e1, hi, hy, e2⟩
  · have hp' : p = -1 := by rw [← hp, e1]
    have hb' : b = false := by rw [← hb, e2]; rfl
    subst hp' hb'
    clear hQ hK h1 h2 hb hp e1 e2
    go_wp2_with fail
    exact HQ.out _ _ _ _ _ _ _ _ _ _ _ _ _ _ _ _ _ _ _ _ _ _ _ _ _ _ _ _ _ _ _ rfl
  · have hp' : p = (i : Int) := by rw [← hp, e1]
    have hb' : b = true := by rw [← hb, e2]; rfl
    have hs : seatA G t = ⟨y.set, y.pos, y.need⟩ := by unfold seatA; rw [e2]; rfl
    have h1' : a1 = y.set := by rw [← h1, hs]
    have h2' : a2 = y.pos := by rw [← h2, hs]
    obtain ⟨A, c, k1, k2⟩ := hK.tkAt
    obtain ⟨ad, g, hA, hg, k3⟩ := k2 i y hy
    have z2 := k3 2 _ rfl
    have z3 := k3 3 _ rfl
    obtain ⟨N, hN⟩ : ∃ N, G.tasks.length = N := ⟨_, rfl⟩
    rw [hN] at k1 hi
    have i0 : (0 : Int) ≤ (i : Int) := by omega
    have i1 : (i : Int) < (N : Int) := by omega
    subst hp' hb' h1' h2' hA
    clear hQ hK h1 h2 hb hp e1 e2 hs k2 k3 hy hN
    go_wp2_with fail
    exact HQ.out _ _ _ _ _ _ _ _ _ _ _ _ _ _ _ _ _ _ _ _ _ _ _ _ _ _ _ _ _ _ _ rfl

/-- What is asked behind it. -/
def exact17_spotsQ (u0 u1 u5 u7 u8 u9 u10 u11 u12 u13 u14 u19 u20 u21 u22 u23 u24 u25 u26 u27 u28 u29 u30 u31 u32 u33 u34 u35 u36 u37 u38 u39 u40 u41 u42 u43 u44 u45 u46 u47 u48 u49 u50 u51 u52 u53 u54 u55 u56 u57 u58 u59 u60 u61 u62 u63 u64 u65 u66 u67 u68 u69 u70 u71 u72 u73 u74 u75 u76 u77 u78 u79 u80 u81 u82 u83 u84 u85 u86 u87 u88 u89 u90 u91 u92 u93 u94 u95 u96 u97 u98 u99 u100 u101 u102 u103 u104 u105 u106 u107 u108 u109 u110 u111 u112 u113 u114 u115 u116 u117 u118 u119 u120 u121 u122 u123 u124 u125 u126 u127 u128 u129 u130 u131 u132 u133 u134 u135 u136 u137 u138 u139 u140 u141 u142 u143 u144 u145 u146 u147 u148 u149 u150 u151 u152 u153 u154 u155 u156 u157 u158 u159 u160 u161 u162 u163 u164 u165 u166 u167 u168 u169 u170 u171 u172 u173 u174 u175 u176 u177 u178 u179 u180 u181 u182 u183 u184 u185 u186 u187 u188 u189 u190 u191 u192 u193 u194 u195 u196 u197 u198 u199 u200 u201 u202 u203 u204 u205 u206 u207 u208 u209 u210 u211 u212 u213 u214 u215 u216 u217 u218 u219 u220 u221 u222 u223 u224 u225 u226 u227 u228 u229 u230 u286 u287 u288 u289 u290 u291 u292 u293 u294 u295 u296 u297 u298 u299 u300 u301 u302 u303 u304 u305 u306 u307 u308 u309 u310 u311 u312 u313 u314 u315 u316 u317 u318 u319 u320 u321 u322 u323 u324 u325 u326 u327 u328 u329 u330 u331 u332 u333 u334 u335 u336 u337 u338 u339 u340 u341 u342 u343 u344 u345 u346 u347 u348 u349 u350 u351 u352 u353 u354 u355 u356 u357 u358 u359 u360 u361 u362 u363 u364 u365 u366 u367 u368 u369 u370 u371 u372 u373 u374 u375 u376 u377 u378 u379 u380 u381 u382 u383 u384 u385 u386 u387 u388 u389 u390 u391 u392 u393 u394 u395 u396 u397 : Value) (w0 : World) (q u gx i ns cs : Nat) (As : Option Addr) (G : AG) (x : AcA) (Q : Exit → Act → World → Prop) : Prop :=
  ∀ (v2 v18 v231 v232 v233 v234 v235 v236 v237 v238 v239 v240 v241 v242 v243 v244 v245 v246 v247 v248 v249 v250 v251 v252 v253 v254 v255 v256 v257 v258 v259 v260 v261 v262 v263 v264 v265 v266 v267 v268 v269 v270 v271 v272 v273 v274 v275 v276 v277 v278 v279 v280 v281 v282 v283 v284 v285 : Value) (w' : World), AX w0 w' q u G G (ActK gx x) → Q .normal { tmps := #[u0, u1, v2, .pointer (some ⟨q, 0, none⟩), .pointer (some ⟨u, 0, none⟩), u5, .pointer (some ⟨gx, 0, none⟩), u7, u8, u9, u10, u11, u12, u13, u14, .slice As ns cs, .int .i64 (ns : Int), .int .i64 (i : Int), v18, u19, u20, u21, u22, u23, u24, u25, u26, u27, u28, u29, u30, u31, u32, u33, u34, u35, u36, u37, u38, u39, u40, u41, u42, u43, u44, u45, u46, u47, u48, u49, u50, u51, u52, u53, u54, u55, u56, u57, u58, u59, u60, u61, u62, u63, u64, u65, u66, u67, u68, u69, u70, u71, u72, u73, u74, u75, u76, u77, u78, u79, u80, u81, u82, u83, u84, u85, u86, u87, u88, u89, u90, u91, u92, u93, u94, u95, u96, u97, u98, u99, u100, u101, u102, u103, u104, u105, u106, u107, u108, u109, u110, u111, u112, u113, u114, u115, u116, u117, u118, u119, u120, u121, u122, u123, u124, u125, u126, u127, u128, u129, u130, u131, u132, u133, u134, u135, u136, u137, u138, u139, u140, u141, u142, u143, u144, u145, u146, u147, u148, u149, u150, u151, u152, u153, u154, u155, u156, u157, u158, u159, u160, u161, u162, u163, u164, u165, u166, u167, u168, u169, u170, u171, u172, u173, u174, u175, u176, u177, u178, u179, u180, u181, u182, u183, u184, u185, u186, u187, u188, u189, u190, u191, u192, u193, u194, u195, u196, u197, u198, u199, u200, u201, u202, u203, u204, u205, u206, u207, u208, u209, u210, u211, u212, u213, u214, u215, u216, u217, u218, u219, u220, u221, u222, u223, u224, u225, u226, u227, u228, u229, u230, v231, v232, v233, v234, v235, v236, v237, v238, v239, v240, v241, v242, v243, v244, v245, v246, v247, v248, v249, v250, v251, v252, v253, v254, v255, v256, v257, v258, v259, v260, v261, v262, v263, v264, v265, v266, v267, v268, v269, v270, v271, v272, v273, v274, v275, v276, v277, v278, v279, v280, v281, v282, v283, v284, v285, u286, u287, u288, u289, u290, u291, u292, u293, u294, u295, u296, u297, u298, u299, u300, u301, u302, u303, u304, u305, u306, u307, u308, u309, u310, u311, u312, u313, u314, u315, u316, u317, u318, u319, u320, u321, u322, u323, u324, u325, u326, u327, u328, u329, u330, u331, u332, u333, u334, u335, u336, u337, u338, u339, u340, u341, u342, u343, u344, u345, u346, u347, u348, u349, u350, u351, u352, u353, u354, u355, u356, u357, u358, u359, u360, u361, u362, u363, u364, u365, u366, u367, u368, u369, u370, u371, u372, u373, u374, u375, u376, u377, u378, u379, u380, u381, u382, u383, u384, u385, u386, u387, u388, u389, u390, u391, u392, u393, u394, u395, u396, u397], defers := [] } w'
set_option maxRecDepth 100000 in
set_option maxHeartbeats 6400000 in
/-- The envelopes of a set are the same on both sides. -/
theorem exact17_spots (u0 u1 u2 u5 u7 u8 u9 u10 u11 u12 u13 u14 u19 u20 u21 u22 u23 u24 u25 u26 u27 u28 u29 u30 u31 u32 u33 u34 u35 u36 u37 u38 u39 u40 u41 u42 u43 u44 u45 u46 u47 u48 u49 u50 u51 u52 u53 u54 u55 u56 u57 u58 u59 u60 u61 u62 u63 u64 u65 u66 u67 u68 u69 u70 u71 u72 u73 u74 u75 u76 u77 u78 u79 u80 u81 u82 u83 u84 u85 u86 u87 u88 u89 u90 u91 u92 u93 u94 u95 u96 u97 u98 u99 u100 u101 u102 u103 u104 u105 u106 u107 u108 u109 u110 u111 u112 u113 u114 u115 u116 u117 u118 u119 u120 u121 u122 u123 u124 u125 u126 u127 u128 u129 u130 u131 u132 u133 u134 u135 u136 u137 u138 u139 u140 u141 u142 u143 u144 u145 u146 u147 u148 u149 u150 u151 u152 u153 u154 u155 u156 u157 u158 u159 u160 u161 u162 u163 u164 u165 u166 u167 u168 u169 u170 u171 u172 u173 u174 u175 u176 u177 u178 u179 u180 u181 u182 u183 u184 u185 u186 u187 u188 u189 u190 u191 u192 u193 u194 u195 u196 u197 u198 u199 u200 u201 u202 u203 u204 u205 u206 u207 u208 u209 u210 u211 u212 u213 u214 u215 u216 u217 u218 u219 u220 u221 u222 u223 u224 u225 u226 u227 u228 u229 u230 u231 u232 u233 u234 u235 u236 u237 u238 u239 u240 u241 u242 u243 u244 u245 u246 u247 u248 u249 u250 u251 u252 u253 u254 u255 u256 u257 u258 u259 u260 u261 u262 u263 u264 u265 u266 u267 u268 u269 u270 u271 u272 u273 u274 u275 u276 u277 u278 u279 u280 u281 u282 u283 u284 u285 u286 u287 u288 u289 u290 u291 u292 u293 u294 u295 u296 u297 u298 u299 u300 u301 u302 u303 u304 u305 u306 u307 u308 u309 u310 u311 u312 u313 u314 u315 u316 u317 u318 u319 u320 u321 u322 u323 u324 u325 u326 u327 u328 u329 u330 u331 u332 u333 u334 u335 u336 u337 u338 u339 u340 u341 u342 u343 u344 u345 u346 u347 u348 u349 u350 u351 u352 u353 u354 u355 u356 u357 u358 u359 u360 u361 u362 u363 u364 u365 u366 u367 u368 u369 u370 u371 u372 u373 u374 u375 u376 u377 u378 u379 u380 u381 u382 u383 u384 u385 u386 u387 u388 u389 u390 u391 u392 u393 u394 u395 u396 u397 : Value) (w0 : World) (q u gx i bs ns cs : Nat) (As : Option Addr) (G : AG) (x : AcA) (sa : SetA) (Q : Exit → Act → World → Prop) (w : World) (hK : AX w0 w q u G G (fun W => ActK gx x W ∧ OwnE encSpt 65 W bs (.slice As ns cs) (spotsA G sa sa.n))) (hn : G.tasks.length ≤ 100000) (hi : G.sets[i]? = some sa) (he : setA G x.set = some sa) (hns : (spotsA G sa sa.n).length = ns)
    (hQ : exact17_spotsQ u0 u1 u5 u7 u8 u9 u10 u11 u12 u13 u14 u19 u20 u21 u22 u23 u24 u25 u26 u27 u28 u29 u30 u31 u32 u33 u34 u35 u36 u37 u38 u39 u40 u41 u42 u43 u44 u45 u46 u47 u48 u49 u50 u51 u52 u53 u54 u55 u56 u57 u58 u59 u60 u61 u62 u63 u64 u65 u66 u67 u68 u69 u70 u71 u72 u73 u74 u75 u76 u77 u78 u79 u80 u81 u82 u83 u84 u85 u86 u87 u88 u89 u90 u91 u92 u93 u94 u95 u96 u97 u98 u99 u100 u101 u102 u103 u104 u105 u106 u107 u108 u109 u110 u111 u112 u113 u114 u115 u116 u117 u118 u119 u120 u121 u122 u123 u124 u125 u126 u127 u128 u129 u130 u131 u132 u133 u134 u135 u136 u137 u138 u139 u140 u141 u142 u143 u144 u145 u146 u147 u148 u149 u150 u151 u152 u153 u154 u155 u156 u157 u158 u159 u160 u161 u162 u163 u164 u165 u166 u167 u168 u169 u170 u171 u172 u173 u174 u175 u176 u177 u178 u179 u180 u181 u182 u183 u184 u185 u186 u187 u188 u189 u190 u191 u192 u193 u194 u195 u196 u197 u198 u199 u200 u201 u202 u203 u204 u205 u206 u207 u208 u209 u210 u211 u212 u213 u214 u215 u216 u217 u218 u219 u220 u221 u222 u223 u224 u225 u226 u227 u228 u229 u230 u286 u287 u288 u289 u290 u291 u292 u293 u294 u295 u296 u297 u298 u299 u300 u301 u302 u303 u304 u305 u306 u307 u308 u309 u310 u311 u312 u313 u314 u315 u316 u317 u318 u319 u320 u321 u322 u323 u324 u325 u326 u327 u328 u329 u330 u331 u332 u333 u334 u335 u336 u337 u338 u339 u340 u341 u342 u343 u344 u345 u346 u347 u348 u349 u350 u351 u352 u353 u354 u355 u356 u357 u358 u359 u360 u361 u362 u363 u364 u365 u366 u367 u368 u369 u370 u371 u372 u373 u374 u375 u376 u377 u378 u379 u380 u381 u382 u383 u384 u385 u386 u387 u388 u389 u390 u391 u392 u393 u394 u395 u396 u397 w0 q u gx i ns cs As G x Q) :
    (Code.block 3 (bodyOf Tryd.f3 3)).wp Tryd.prog Q { tmps := #[u0, u1, u2, .pointer (some ⟨q, 0, none⟩), .pointer (some ⟨u, 0, none⟩), u5, .pointer (some ⟨gx, 0, none⟩), u7, u8, u9, u10, u11, u12, u13, u14, .slice As ns cs, .int .i64 0, .int .i64 (i : Int), .int .i64 0, u19, u20, u21, u22, u23, u24, u25, u26, u27, u28, u29, u30, u31, u32, u33, u34, u35, u36, u37, u38, u39, u40, u41, u42, u43, u44, u45, u46, u47, u48, u49, u50, u51, u52, u53, u54, u55, u56, u57, u58, u59, u60, u61, u62, u63, u64, u65, u66, u67, u68, u69, u70, u71, u72, u73, u74, u75, u76, u77, u78, u79, u80, u81, u82, u83, u84, u85, u86, u87, u88, u89, u90, u91, u92, u93, u94, u95, u96, u97, u98, u99, u100, u101, u102, u103, u104, u105, u106, u107, u108, u109, u110, u111, u112, u113, u114, u115, u116, u117, u118, u119, u120, u121, u122, u123, u124, u125, u126, u127, u128, u129, u130, u131, u132, u133, u134, u135, u136, u137, u138, u139, u140, u141, u142, u143, u144, u145, u146, u147, u148, u149, u150, u151, u152, u153, u154, u155, u156, u157, u158, u159, u160, u161, u162, u163, u164, u165, u166, u167, u168, u169, u170, u171, u172, u173, u174, u175, u176, u177, u178, u179, u180, u181, u182, u183, u184, u185, u186, u187, u188, u189, u190, u191, u192, u193, u194, u195, u196, u197, u198, u199, u200, u201, u202, u203, u204, u205, u206, u207, u208, u209, u210, u211, u212, u213, u214, u215, u216, u217, u218, u219, u220, u221, u222, u223, u224, u225, u226, u227, u228, u229, u230, u231, u232, u233, u234, u235, u236, u237, u238, u239, u240, u241, u242, u243, u244, u245, u246, u247, u248, u249, u250, u251, u252, u253, u254, u255, u256, u257, u258, u259, u260, u261, u262, u263, u264, u265, u266, u267, u268, u269, u270, u271, u272, u273, u274, u275, u276, u277, u278, u279, u280, u281, u282, u283, u284, u285, u286, u287, u288, u289, u290, u291, u292, u293, u294, u295, u296, u297, u298, u299, u300, u301, u302, u303, u304, u305, u306, u307, u308, u309, u310, u311, u312, u313, u314, u315, u316, u317, u318, u319, u320, u321, u322, u323, u324, u325, u326, u327, u328, u329, u330, u331, u332, u333, u334, u335, u336, u337, u338, u339, u340, u341, u342, u343, u344, u345, u346, u347, u348, u349, u350, u351, u352, u353, u354, u355, u356, u357, u358, u359, u360, u361, u362, u363, u364, u365, u366, u367, u368, u369, u370, u371, u372, u373, u374, u375, u376, u377, u378, u379, u380, u381, u382, u383, u384, u385, u386, u387, u388, u389, u390, u391, u392, u393, u394, u395, u396, u397], defers := [] } w := by
  simp only [bodyOf, Tryd.f3, blkOf, Option.bind_some, Option.orElse, Option.getD_some, Nat.reduceEqDiff, if_true, if_false, reduceCtorEq]
  have HQ := Lib.hid hQ
  have HK := Lib.hid hK
  have HN := Lib.hid hn
  have HI := Lib.hid hi
  have HE := Lib.hid he
  have HNS := Lib.hid hns
  have hn8 : sa.n ≤ 8 := (hK.goodG.set sa (List.mem_of_getElem? hi)).2.2.2.1
  have H8 := Lib.hid hn8
  obtain ⟨n, hnn⟩ : ∃ n, sa.n = n := ⟨_, rfl⟩
  have HNN := Lib.hid hnn
  clear hQ hK hn hi he hns hn8 hnn
  go_wp2_with fail
  go_loopw [16, 18] (fun V I W => ∃ j : Nat, j ≤ n ∧ V = .int .i64 ((spotsA G sa j).length : Int) ∧ I = .int .i64 (j : Int) ∧ AX w0 W q u G G (fun W => ActK gx x W ∧ OwnE encSpt 65 W bs (.slice As ns cs) (spotsA G sa sa.n))) (fun _ I _ => n - natOf I)
  case atStart => exact ⟨0, Nat.zero_le _, rfl, rfl, HK.out⟩
  case round =>
    clear HK
    obtain ⟨j, hj, rfl, rfl, hk⟩ := hrel
    have HK := Lib.hid hk
    obtain ⟨cj, hcj⟩ : ∃ cj, (spotsA G sa j).length = cj := ⟨_, rfl⟩
    have HCJ := Lib.hid hcj
    rw [hcj]
    obtain ⟨A, c, k1, k2⟩ := hk.setAt
    obtain ⟨ad, g, hA, hg, k3⟩ := k2 i sa HI.out
    subst hA
    obtain ⟨N, hN⟩ : ∃ N, G.sets.length = N := ⟨_, rfl⟩
    have hiN : i < N := by rw [← hN]; exact (List.getElem?_eq_some_iff.1 HI.out).1
    rw [hN] at k1
    have i0 : (0 : Int) ≤ (i : Int) := by omega
    have i1 : (i : Int) < (N : Int) := by omega
    have z1 := k3 1 _ rfl
    rw [HNN.out] at z1
    have j0 : (0 : Int) ≤ (j : Int) := by omega
    by_cases hjn : j < n
    · have hj8 : j < 8 := by have := H8.out; rw [HNN.out] at this; omega
      have hj1 : (j : Int) < (n : Int) := by omega
      have hw1 : wrap64 ((j : Int) + 1) = ((j + 1 : Nat) : Int) := by unfold wrap64; omega
      have zu : (encSet.enc sa)[6 + j]? = some (.bool (sa.up (j : Int))) := by
        have : j = 0 ∨ j = 1 ∨ j = 2 ∨ j = 3 ∨ j = 4 ∨ j = 5 ∨ j = 6 ∨ j = 7 := by omega
        rcases this with rfl | rfl | rfl | rfl | rfl | rfl | rfl | rfl <;> rfl
      have z6 := k3 (6 + j) _ zu
      rw [← Nat.add_assoc] at z6
      have HZ : Hid (∀ W, AX w0 W q u G G (fun W => ActK gx x W ∧ OwnE encSpt 65 W bs (.slice As ns cs) (spotsA G sa sa.n)) → W.cell? ⟨u, 0, none⟩ = some (.slice (some ad) N c) → True) := Lib.hid fun _ _ _ => trivial
      obtain ⟨c0, c1, c2, c3, c4, c5, c6, c7, c8⟩ := hk.has.1.actC
      obtain ⟨M, hM⟩ : ∃ M, insideA G x.set (j : Int) = M := ⟨_, rfl⟩
      obtain ⟨na, hna⟩ : ∃ na, M.length = na := ⟨_, rfl⟩
      have hML : na ≤ 100000 := by rw [← hna, ← hM]; exact Nat.le_trans (inside_len G x.set (j : Int)) HN.out
      have HI1 : Hid (∀ W, (W = wr ∨ W = wr.drew) → Calls Tryd.prog 26 #[.pointer (some ⟨q, 0, none⟩), .int .i64 x.set, .int .i64 (j : Int)] W fun e w' => ∃ A c, e = .returned (.slice A na c) ∧ AX w0 w' q u G G (fun W' => (ActK gx x W' ∧ OwnE encSpt 65 W' bs (.slice As ns cs) (spotsA G sa sa.n)) ∧ OwnE encTk 32 W' W.heap.size (.slice A na c) M)) := Lib.hid fun W hW => by
        have k : AX w0 W q u G G (fun W => ActK gx x W ∧ OwnE encSpt 65 W bs (.slice As ns cs) (spotsA G sa sa.n)) := by rcases hW with rfl | rfl; exact hk; exact hk.drew
        have kk := k.inside_c x.set (j : Int) HN.out
        rw [hM] at kk
        refine kk.mono fun e w' ⟨v, k1, k2⟩ => ?_
        obtain ⟨A, c, rfl⟩ := k2.has.2.form
        rw [hna] at k1 k2
        exact ⟨A, c, k1, k2⟩
      have HI2 : Hid (∀ K W, AX w0 W q u G G K → Calls Tryd.prog 15 #[.pointer (some ⟨u, 0, none⟩), .int .i64 x.set, .int .i64 (j : Int)] W fun e w' => ∃ A c, e = .returned (.slice A na c) ∧ AX w0 w' q u G G (fun W' => K W' ∧ OwnE encTk 32 W' W.heap.size (.slice A na c) M)) := Lib.hid fun K W k => by
        have kk := k.rinside_c x.set (pos := (j : Int)) (by omega) HN.out
        rw [hM] at kk
        refine kk.mono fun e w' ⟨v, k1, k2⟩ => ?_
        obtain ⟨A, c, rfl⟩ := k2.has.2.form
        rw [hna] at k1 k2
        exact ⟨A, c, k1, k2⟩
      have HNA := Lib.hid hna
      have HML := Lib.hid hML
      have HS3 : Hid (∀ W A1 d1 A2 d2 b1 b2, AX w0 W q u G G (fun W' => ((ActK gx x W' ∧ OwnE encSpt 65 W' bs (.slice As ns cs) (spotsA G sa sa.n)) ∧ OwnE encTk 32 W' b1 (.slice A1 na d1) M) ∧ OwnE encTk 32 W' b2 (.slice A2 na d2) M) → Calls Tryd.prog 17 #[.slice A1 na d1, .slice A2 na d2] W fun e w' => e = .returned (.bool true) ∧ AX w0 w' q u G G (fun W => ActK gx x W ∧ OwnE encSpt 65 W bs (.slice As ns cs) (spotsA G sa sa.n))) := Lib.hid fun W A1 d1 A2 d2 b1 b2 k => by
        have := same_c k.has.1.2 k.has.2 HNA.out HNA.out HML.out
        rw [decide_eq_true rfl] at this
        exact this.mono fun e w' ⟨k1, k2⟩ => ⟨k1, (k.on k2).drop fun _ h => h.1.1⟩
      have hcl : cj ≤ (spotsA G sa n).length ∧ cj ≤ 8 := by
        rw [← hcj]
        exact ⟨spots_mono G sa (by omega), Nat.le_trans (spotsA_len G sa j) (by omega)⟩
      have S0 : Hid (ActC wr gx x) := Lib.hid hk.has.1.actC
      have HSU : Hid (∀ W, AX w0 W q u G G (fun W => ActK gx x W ∧ OwnE encSpt 65 W bs (.slice As ns cs) (spotsA G sa sa.n)) → W.cell? ⟨u, 0, none⟩ = some (.slice (some ad) N c) → True) := Lib.hid fun _ _ _ => trivial
      have ZU := Lib.hid zu
      clear hk k2 k3 hna hML hM zu hcj HZ HSU z6
      go_upto_region 42 with fail
      clear hg z1 k1
      go_region_held3 (fun W => W.cell? ⟨gx, 0, none⟩ = some (.int .i64 x.kind) ∧ W.cell? ⟨gx, 1, none⟩ = some (.int .i64 x.set) ∧ W.cell? ⟨gx, 2, none⟩ = some (.int .i64 x.n) ∧ W.cell? ⟨gx, 3, none⟩ = some (.int .i64 x.tk.job) ∧ W.cell? ⟨gx, 4, none⟩ = some (.int .i64 x.tk.ix) ∧ W.cell? ⟨gx, 5, none⟩ = some (.int .i64 x.v.a) ∧ W.cell? ⟨gx, 6, none⟩ = some (.int .i64 x.v.b) ∧ W.cell? ⟨gx, 7, none⟩ = some (.int .i64 x.v.c) ∧ W.cell? ⟨gx, 8, none⟩ = some (.int .i64 x.v.d))
        (first | exact S0.out | exact S1.out | exact S2.out | exact S3.out)
        (first
          | (go_at_call 26; refine (HI1.out _ (by first | exact .inl rfl | exact .inr rfl)).mono ?_; rintro e w1 ⟨A1, d1, rfl, k1⟩; have K1 := Lib.hid k1; have S1 := Lib.hid (ActK.actC k1.has.1.1); clear k1)
          | (go_at_call 15; refine (HI2.out _ _ K1.out).mono ?_; rintro e w2 ⟨A2, d2, rfl, k2⟩; have K2 := Lib.hid k2; have S2 := Lib.hid (ActK.actC k2.has.1.1.1); clear k2)
          | (go_at_call 17; refine (HS3.out _ _ _ _ _ _ _ K2.out).mono ?_; rintro e w3 ⟨rfl, k3⟩; have K3 := Lib.hid k3; have S3 := Lib.hid (ActK.actC k3.has.1); clear k3))
      clear c0 c1 c2 c3 c4 c5 c6 c7 c8
      obtain ⟨A3, c3, k1, k2⟩ := K3.out.setAt
      obtain ⟨ad3, g3, hA, hg, k3⟩ := k2 i sa HI.out
      subst hA
      rw [hN] at k1
      have z6 := k3 (6 + j) _ ZU.out
      rw [← Nat.add_assoc] at z6
      have hj8' : (j : Int) < 8 := by omega
      clear k2 k3
      by_cases hup : sa.up (j : Int) = true
      · rw [hup] at z6
        have HUP := Lib.hid hup
        obtain ⟨l, hl⟩ : ∃ l, leftA G sa (j : Int) = l := ⟨_, rfl⟩
        have hsp := spots_at G sa hjn hup
        rw [hl, HCJ.out] at hsp
        have hso := K3.out.has.2
        rw [HNN.out] at hso
        obtain ⟨adS, gS, hA, hgS, -, -, -, -⟩ := hso.at hsp
        subst hA
        have hcn : cj < ns := by rw [← HNS.out, HNN.out]; exact (List.getElem?_eq_some_iff.1 hsp).1
        have cj0 : (0 : Int) ≤ (cj : Int) := by omega
        have cj1 : (cj : Int) < (ns : Int) := by omega
        have hE := eqSp_self ⟨(j : Int), l⟩
        simp only at hE
        have hw2 : wrap64 ((cj : Int) + 1) = ((cj + 1 : Nat) : Int) := by unfold wrap64; omega
        have HSP := Lib.hid hsp
        have HGS := Lib.hid hgS
        have HST : Hid (∀ W, AX w0 W q u G G (fun W => ActK gx x W ∧ OwnE encSpt 65 W bs (.slice (some adS) ns cs) (spotsA G sa sa.n)) → W.cell? ⟨gx, 1, none⟩ = some (.int .i64 x.set) ∧ W.cell? ⟨gS, cj * 5, none⟩ = some (.int .i64 (j : Int)) ∧ W.cell? ⟨gS, cj * 5 + 1, none⟩ = some (.int .i64 l.a) ∧ W.cell? ⟨gS, cj * 5 + 2, none⟩ = some (.int .i64 l.b) ∧ W.cell? ⟨gS, cj * 5 + 3, none⟩ = some (.int .i64 l.c) ∧ W.cell? ⟨gS, cj * 5 + 4, none⟩ = some (.int .i64 l.d)) := Lib.hid fun W h => by
          have ho := h.has.2
          rw [HNN.out] at ho
          obtain ⟨ad', g', hA, hg', _, _, _, hc⟩ := ho.at HSP.out
          obtain rfl := Option.some.inj hA
          rw [HGS.out] at hg'
          simp only [Addr.mk.injEq, and_true] at hg'
          subst hg'
          exact ⟨h.has.1.actC.2.1, hc 0 _ rfl, hc 1 _ rfl, hc 2 _ rfl, hc 3 _ rfl, hc 4 _ rfl⟩
        have HL : Hid (∀ W, (W = w3 ∨ W = w3.drew) → Calls Tryd.prog 27 #[.pointer (some ⟨u, 0, none⟩), .int .i64 x.set, .int .i64 (j : Int)] W fun e w' => e = .returned (.agg #[.int .i64 l.a, .int .i64 l.b, .int .i64 l.c, .int .i64 l.d]) ∧ AX w0 w' q u G G (fun W => ActK gx x W ∧ OwnE encSpt 65 W bs (.slice (some adS) ns cs) (spotsA G sa sa.n))) := Lib.hid fun W hW => by
          rw [← hl]
          rcases hW with rfl | rfl
          · exact K3.out.rleft_c HE.out (j : Int) HN.out
          · exact K3.out.drew.rleft_c HE.out (j : Int) HN.out
        have S5 := Lib.hid (HST.out _ K3.out)
        have HL2 : Hid ((spotsA G sa (j + 1)).length = cj + 1) := Lib.hid (by rw [spotsA_succ, if_pos hup, List.length_append, HCJ.out]; rfl)
        clear hsp hso hup hl
        go_wp2_with fail
        clear z6 k1
        have dg1 : decide (ns ≤ cj) = false := decide_eq_false (by omega)
        have dg2 : decide ((ns : Int) ≤ (cj : Int)) = false := decide_eq_false (by omega)
        go_region_held3 (fun W => W.cell? ⟨gx, 1, none⟩ = some (.int .i64 x.set) ∧ W.cell? ⟨gS, cj * 5, none⟩ = some (.int .i64 (j : Int)) ∧ W.cell? ⟨gS, cj * 5 + 1, none⟩ = some (.int .i64 l.a) ∧ W.cell? ⟨gS, cj * 5 + 2, none⟩ = some (.int .i64 l.b) ∧ W.cell? ⟨gS, cj * 5 + 3, none⟩ = some (.int .i64 l.c) ∧ W.cell? ⟨gS, cj * 5 + 4, none⟩ = some (.int .i64 l.d))
          (first | exact S5.out | exact S6.out)
          (first
            | (go_at_call 27; refine (HL.out _ (by first | exact .inl rfl | exact .inr rfl)).mono ?_; rintro e w4 ⟨rfl, k4⟩; have K4 := Lib.hid k4; have S6 := Lib.hid (HST.out _ k4); clear k4))
        all_goals clear hE hgS
        all_goals go_wp2_with fail
        all_goals go_roundw
        all_goals first
          | exact ⟨j + 1, by omega, by rw [HL2.out]; first | rfl | (rw [← hw2]; first | rfl | (congr 1; omega)), by rw [← hw1]; first | rfl | (congr 1; omega), K4.out⟩
          | (simp [natOf]; omega)
      · have hup' : sa.up (j : Int) = false := by simpa using hup
        rw [hup'] at z6
        have HL2 : Hid ((spotsA G sa (j + 1)).length = cj) := Lib.hid (by rw [spotsA_succ, if_neg hup, List.append_nil, HCJ.out])
        clear hup hup'
        go_wp2_with fail
        go_roundw
        case rel => exact ⟨j + 1, by omega, by rw [HL2.out], by rw [← hw1]; first | rfl | (congr 1; omega), K3.out⟩
        case measure => simp [natOf]; omega
    · obtain rfl : j = n := by omega
      have hcn : cj = ns := by rw [← HCJ.out, ← HNS.out, HNN.out]
      subst hcn
      go_wp2_with fail
      exact HQ.out _ _ _ _ _ _ _ _ _ _ _ _ _ _ _ _ _ _ _ _ _ _ _ _ _ _ _ _ _ _ _ _ _ _ _ _ _ _ _ _ _ _ _ _ _ _ _ _ _ _ _ _ _ _ _ _ _ _ (HK.out.drop fun _ h => h.1)

end Go.Proofs.YtbdnfppbiplpmaaDoor
