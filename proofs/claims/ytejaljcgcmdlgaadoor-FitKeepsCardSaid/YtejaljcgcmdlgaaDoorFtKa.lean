/- The law FitKeeps: the round of the amounts. Conditions: the arguments lie in memory. -/
import Derived.Test.YtejaljcgcmdlgaaDoorFtK
import Derived.Test.YtejaljcgcmdlgaaDoorFtP
import Derived.Deep.QuietTactic
namespace Go.Proofs.YtejaljcgcmdlgaaDoor
open Go Go.RowKit

theorem reads_comp {w : World} {ad : Addr} {L : List V4} (h : ReadsE encV16 w (some ad) L) {i : Nat} {v : V4} (hi : L[i]? = some v) {k : Nat} (hk : k < 4) : ∃ p, ad.add (i * 4) = p ∧ p.block < w.heap.size ∧ w.cell? (p.add k) = some (.int .i64 (compV k v)) := by
  obtain ⟨ad', p, e, h1, h2, h3⟩ := h i v hi
  cases e
  refine ⟨p, h1, h2, h3 k _ ?_⟩
  match k, hk with
  | 0, _ => rfl
  | 1, _ => rfl
  | 2, _ => rfl
  | 3, _ => rfl
theorem reads_compS {w : World} {ad : Addr} {L : List Spt} (h : ReadsE encSpt w (some ad) L) {i : Nat} {s : Spt} (hi : L[i]? = some s) {k : Nat} (hk : k < 4) : ∃ p, ad.add (i * 5) = p ∧ p.block < w.heap.size ∧ w.cell? ⟨p.block, p.off + 1 + k, none⟩ = some (.int .i64 (compV k s.left)) := by
  obtain ⟨ad', p, e, h1, h2, h3⟩ := h i s hi
  cases e
  refine ⟨p, h1, h2, ?_⟩
  have e2 : p.add (1 + k) = ⟨p.block, p.off + 1 + k, none⟩ := by unfold Addr.add; rw [if_neg (by omega)]; simp only [Addr.mk.injEq, true_and, and_true]; omega
  rw [← e2]
  apply h3
  match k, hk with
  | 0, _ => rfl
  | 1, _ => rfl
  | 2, _ => rfl
  | 3, _ => rfl

set_option maxRecDepth 100000 in
set_option maxHeartbeats 6400000 in
/-- Is it within its bounds? -/
theorem keep_r25 (u1 u2 u3 u4 u5 u6 u7 u8 u9 u10 u13 u15 u16 u17 u18 u19 u20 u21 u22 u23 u24 u25 u26 u27 u28 u29 u30 u31 u32 u33 u34 u35 u36 u37 u38 u39 u40 u41 u42 u43 u44 u45 u46 u47 u48 u49 u50 u51 u52 u53 u54 u55 u56 u57 u58 u59 u60 u61 u62 u63 u64 u65 u66 u67 u68 u69 u70 u71 u72 u73 u74 u75 u76 u77 u78 u79 u80 u81 u82 u83 u84 u85 u86 u87 u88 u89 u90 u91 u92 u93 u94 u95 u96 u97 u98 u99 u100 u101 u102 u103 u104 u105 u106 u107 u108 u109 u110 u111 u112 u113 u114 u115 u116 u117 u118 u119 u120 u121 u122 u123 u124 u125 u126 u127 u128 u129 u130 u131 u132 u133 u134 u135 u136 u137 u138 u139 u140 u141 u142 u143 u144 u145 u146 u147 u148 u149 u150 u151 u152 u153 u154 u155 u156 u157 u158 u159 u160 u161 u162 u163 u164 u165 u166 u167 u168 u169 u170 u171 u172 u173 u174 u175 u176 u177 u178 u179 u180 u181 u182 u183 u184 u185 u186 : Value) (ad adm p q qk : Addr) (n cap capm k i : Nat) (a b : Int) (Q : Exit → Act → World → Prop) (w : World) (hp : adm.add (i * 5) = p) (hq : ad.add (i * 4) = q) (hqk : q.add k = qk) (hk0 : (k : Int) < 4) (hi0 : (i : Int) < (n : Int)) (ca : w.cell? ⟨p.block, p.off + 1 + k, none⟩ = some (.int .i64 a)) (cb : w.cell? qk = some (.int .i64 b)) (h0 : 0 ≤ a) (h1 : a ≤ b)
    (hQ : ∀ (v95 v96 v97 v98 v99 v100 v101 v102 v103 v104 v105 v106 v107 v108 v109 v110 v111 v112 v113 v114 v115 v116 v117 : Value) (w' : World), Below w.heap.size w w' → Q .normal { tmps := #[.slice (some ad) n cap, u1, u2, u3, u4, u5, u6, u7, u8, u9, u10, .slice (some adm) n capm, .int .i64 (k : Int), u13, .int .i64 (i : Int), u15, u16, u17, u18, u19, u20, u21, u22, u23, u24, u25, u26, u27, u28, u29, u30, u31, u32, u33, u34, u35, u36, u37, u38, u39, u40, u41, u42, u43, u44, u45, u46, u47, u48, u49, u50, u51, u52, u53, u54, u55, u56, u57, u58, u59, u60, u61, u62, u63, u64, u65, u66, u67, u68, u69, u70, u71, u72, u73, u74, u75, u76, u77, u78, u79, u80, u81, u82, u83, u84, u85, u86, u87, u88, u89, u90, u91, u92, u93, u94, v95, v96, v97, v98, v99, v100, v101, v102, v103, v104, v105, v106, v107, v108, v109, v110, v111, v112, v113, v114, v115, v116, v117, .bool false, u119, u120, u121, u122, u123, u124, u125, u126, u127, u128, u129, u130, u131, u132, u133, u134, u135, u136, u137, u138, u139, u140, u141, u142, u143, u144, u145, u146, u147, u148, u149, u150, u151, u152, u153, u154, u155, u156, u157, u158, u159, u160, u161, u162, u163, u164, u165, u166, u167, u168, u169, u170, u171, u172, u173, u174, u175, u176, u177, u178, u179, u180, u181, u182, u183, u184, u185, u186], defers := [] } w') :
    (Code.region 25 (opsOf Tryd.f4 25).toArray true).wp Tryd.prog Q { tmps := #[.slice (some ad) n cap, u1, u2, u3, u4, u5, u6, u7, u8, u9, u10, .slice (some adm) n capm, .int .i64 (k : Int), u13, .int .i64 (i : Int), u15, u16, u17, u18, u19, u20, u21, u22, u23, u24, u25, u26, u27, u28, u29, u30, u31, u32, u33, u34, u35, u36, u37, u38, u39, u40, u41, u42, u43, u44, u45, u46, u47, u48, u49, u50, u51, u52, u53, u54, u55, u56, u57, u58, u59, u60, u61, u62, u63, u64, u65, u66, u67, u68, u69, u70, u71, u72, u73, u74, u75, u76, u77, u78, u79, u80, u81, u82, u83, u84, u85, u86, u87, u88, u89, u90, u91, u92, u93, u94, u95, u96, u97, u98, u99, u100, u101, u102, u103, u104, u105, u106, u107, u108, u109, u110, u111, u112, u113, u114, u115, u116, u117, u118, u119, u120, u121, u122, u123, u124, u125, u126, u127, u128, u129, u130, u131, u132, u133, u134, u135, u136, u137, u138, u139, u140, u141, u142, u143, u144, u145, u146, u147, u148, u149, u150, u151, u152, u153, u154, u155, u156, u157, u158, u159, u160, u161, u162, u163, u164, u165, u166, u167, u168, u169, u170, u171, u172, u173, u174, u175, u176, u177, u178, u179, u180, u181, u182, u183, u184, u185, u186], defers := [] } w := by
  simp only [opsOf, Tryd.f4, regOf, Option.bind_some, Option.orElse, Option.getD_some, Nat.reduceEqDiff, if_true, if_false, reduceCtorEq]
  have d1 : decide (a < 0) = false := decide_eq_false (by omega)
  have d2 : decide (a > b) = false := decide_eq_false (by omega)
  have hn1 : 0 < n := by omega
  have HQ := Lib.hid hQ
  clear hQ h0 h1
  go_quiet (fail)
  exact HQ.out _ _ _ _ _ _ _ _ _ _ _ _ _ _ _ _ _ _ _ _ _ _ _ _ (by (repeat' (first | (with_reducible exact Below.refl _ _) | (with_reducible refine below_drewN ?_ _) | (with_reducible refine Below.drew ?_) | (with_reducible refine Below.alloc ?_ ?_ _) | (with_reducible refine Below.setCell ?_ ?_ _) | (with_reducible refine Below.trans ?_ (Below.mono (by with_reducible assumption) ?_)) | omega | (simp only [World.size_alloc, World.size_setCell, World.size_drew, Go.Proofs.YtejaljcgcmdlgaaDoor.World.size_drewN] at *; omega) | (with_reducible refine Below.size (B := 0) ?_))))

set_option maxRecDepth 100000 in
set_option maxHeartbeats 6400000 in
/-- The sum goes on. -/
theorem keep_r27 (u1 u2 u3 u4 u5 u6 u7 u8 u9 u10 u15 u16 u17 u18 u19 u20 u21 u22 u23 u24 u25 u26 u27 u28 u29 u30 u31 u32 u33 u34 u35 u36 u37 u38 u39 u40 u41 u42 u43 u44 u45 u46 u47 u48 u49 u50 u51 u52 u53 u54 u55 u56 u57 u58 u59 u60 u61 u62 u63 u64 u65 u66 u67 u68 u69 u70 u71 u72 u73 u74 u75 u76 u77 u78 u79 u80 u81 u82 u83 u84 u85 u86 u87 u88 u89 u90 u91 u92 u93 u94 u95 u96 u97 u98 u99 u100 u101 u102 u103 u104 u105 u106 u107 u108 u109 u110 u111 u112 u113 u114 u115 u116 u117 u118 u119 u120 u121 u122 u123 u124 u125 u126 u127 u128 u129 u130 u131 u132 u133 u134 u135 u136 u137 u138 u139 u140 u141 u142 u143 u144 u145 u146 u147 u148 u149 u150 u151 u152 u153 u154 u155 u156 u157 u158 u159 u160 u161 u162 u163 u164 u165 u166 u167 u168 u169 u170 u171 u172 u173 u174 u175 u176 u177 u178 u179 u180 u181 u182 u183 u184 u185 u186 : Value) (ad adm p q qk : Addr) (n cap capm k i : Nat) (a b : Int) (X : Int) (Q : Exit → Act → World → Prop) (w : World) (hp : adm.add (i * 5) = p) (hq : ad.add (i * 4) = q) (hqk : q.add k = qk) (hk0 : (k : Int) < 4) (hi0 : (i : Int) < (n : Int)) (ca : w.cell? ⟨p.block, p.off + 1 + k, none⟩ = some (.int .i64 a)) (cb : w.cell? qk = some (.int .i64 b))
    (hQ : ∀ (v119 v120 v121 v122 v123 v124 v125 v126 v127 v128 v129 v130 v131 v132 v133 : Value) (w' : World), Below w.heap.size w w' → Q .normal { tmps := #[.slice (some ad) n cap, u1, u2, u3, u4, u5, u6, u7, u8, u9, u10, .slice (some adm) n capm, .int .i64 (k : Int), .int .i64 (wrap64 (X + b - a)), .int .i64 (i : Int), u15, u16, u17, u18, u19, u20, u21, u22, u23, u24, u25, u26, u27, u28, u29, u30, u31, u32, u33, u34, u35, u36, u37, u38, u39, u40, u41, u42, u43, u44, u45, u46, u47, u48, u49, u50, u51, u52, u53, u54, u55, u56, u57, u58, u59, u60, u61, u62, u63, u64, u65, u66, u67, u68, u69, u70, u71, u72, u73, u74, u75, u76, u77, u78, u79, u80, u81, u82, u83, u84, u85, u86, u87, u88, u89, u90, u91, u92, u93, u94, u95, u96, u97, u98, u99, u100, u101, u102, u103, u104, u105, u106, u107, u108, u109, u110, u111, u112, u113, u114, u115, u116, u117, u118, v119, v120, v121, v122, v123, v124, v125, v126, v127, v128, v129, v130, v131, v132, v133, .int .i64 (wrap64 (X + b - a)), u135, u136, u137, u138, u139, u140, u141, u142, u143, u144, u145, u146, u147, u148, u149, u150, u151, u152, u153, u154, u155, u156, u157, u158, u159, u160, u161, u162, u163, u164, u165, u166, u167, u168, u169, u170, u171, u172, u173, u174, u175, u176, u177, u178, u179, u180, u181, u182, u183, u184, u185, u186], defers := [] } w') :
    (Code.region 27 (opsOf Tryd.f4 27).toArray true).wp Tryd.prog Q { tmps := #[.slice (some ad) n cap, u1, u2, u3, u4, u5, u6, u7, u8, u9, u10, .slice (some adm) n capm, .int .i64 (k : Int), .int .i64 (wrap64 X), .int .i64 (i : Int), u15, u16, u17, u18, u19, u20, u21, u22, u23, u24, u25, u26, u27, u28, u29, u30, u31, u32, u33, u34, u35, u36, u37, u38, u39, u40, u41, u42, u43, u44, u45, u46, u47, u48, u49, u50, u51, u52, u53, u54, u55, u56, u57, u58, u59, u60, u61, u62, u63, u64, u65, u66, u67, u68, u69, u70, u71, u72, u73, u74, u75, u76, u77, u78, u79, u80, u81, u82, u83, u84, u85, u86, u87, u88, u89, u90, u91, u92, u93, u94, u95, u96, u97, u98, u99, u100, u101, u102, u103, u104, u105, u106, u107, u108, u109, u110, u111, u112, u113, u114, u115, u116, u117, u118, u119, u120, u121, u122, u123, u124, u125, u126, u127, u128, u129, u130, u131, u132, u133, u134, u135, u136, u137, u138, u139, u140, u141, u142, u143, u144, u145, u146, u147, u148, u149, u150, u151, u152, u153, u154, u155, u156, u157, u158, u159, u160, u161, u162, u163, u164, u165, u166, u167, u168, u169, u170, u171, u172, u173, u174, u175, u176, u177, u178, u179, u180, u181, u182, u183, u184, u185, u186], defers := [] } w := by
  simp only [opsOf, Tryd.f4, regOf, Option.bind_some, Option.orElse, Option.getD_some, Nat.reduceEqDiff, if_true, if_false, reduceCtorEq]
  have hn1 : 0 < n := by omega
  have hw : wrap64 (wrap64 (wrap64 X + b) - a) = wrap64 (X + b - a) := by unfold wrap64; omega
  have HQ := Lib.hid hQ
  clear hQ
  go_quiet (fail)
  try rw [hw]
  exact HQ.out _ _ _ _ _ _ _ _ _ _ _ _ _ _ _ _ (by (repeat' (first | (with_reducible exact Below.refl _ _) | (with_reducible refine below_drewN ?_ _) | (with_reducible refine Below.drew ?_) | (with_reducible refine Below.alloc ?_ ?_ _) | (with_reducible refine Below.setCell ?_ ?_ _) | (with_reducible refine Below.trans ?_ (Below.mono (by with_reducible assumption) ?_)) | omega | (simp only [World.size_alloc, World.size_setCell, World.size_drew, Go.Proofs.YtejaljcgcmdlgaaDoor.World.size_drewN] at *; omega) | (with_reducible refine Below.size (B := 0) ?_))))

end Go.Proofs.YtejaljcgcmdlgaaDoor
