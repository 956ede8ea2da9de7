/- The loop over the fills of the law DealExact, walked on its own. No conditions. -/
import Derived.Test.YtogmlbjbjgkdcaaDoorDlZ
import Derived.Test.YtogmlbjbjgkdcaaDoorRowBOd
import Derived.Test.YtogmlbjbjgkdcaaDoorRgC
import Derived.Test.YtogmlbjbjgkdcaaDoorRgo
import Derived.Test.YtogmlbjbjgkdcaaDoorDlR
import Derived.Test.YtogmlbjbjgkdcaaDoorDlG0
import Derived.Test.YtogmlbjbjgkdcaaDoorDlTa
import Derived.Deep.DeepCutAuto
import Derived.Deep.CutBlock
import Derived.Deep.RegionHeld3
import Derived.Deep.QuietTactic
namespace Go.Proofs.YtogmlbjbjgkdcaaDoor
open Go Go.RowKit

/-- What is asked behind it. -/
def exact_lp1Q (u0 u1 u3 u4 u5 u7 u8 u10 u11 u14 u15 u16 u17 u18 u19 u20 u21 u22 u23 u24 u25 u26 u27 u28 u29 u30 u31 u32 u33 u34 u35 u36 u37 u38 u39 u40 u41 u42 u43 u44 u45 u46 u47 u48 u49 u50 u51 u52 u53 u54 u55 u56 u57 u58 u59 u60 u61 u62 u63 u64 u65 u66 u67 u68 u69 u70 u71 u72 u73 u74 u75 u76 u77 u78 u79 u80 u81 u82 u83 u84 u85 u86 u87 u143 u144 u145 u146 u147 u148 u149 u150 u151 u152 u153 u154 u155 u156 u157 u158 u159 u160 u161 u162 u163 u164 u165 u166 u167 u168 u169 u170 u171 u172 u173 u174 u175 u176 u177 u178 u179 u180 u181 u182 u183 u184 u185 u186 u187 u188 u189 u190 u191 : Value) (aP aR : Option Addr) (N cP cR : Nat) (L : List Fl) (Q : Exit → Act → World → Prop) (w : World) : Prop :=
  ∀ (v2 v13 v88 v89 v90 v91 v92 v93 v94 v95 v96 v97 v98 v99 v100 v101 v102 v103 v104 v105 v106 v107 v108 v109 v110 v111 v112 v113 v114 v115 v116 v117 v118 v119 v120 v121 v122 v123 v124 v125 v126 v127 v128 v129 v130 v131 v132 v133 v134 v135 v136 v137 v138 v139 v140 v141 v142 : Value) (w' : World), Below w.heap.size w w' → Q .normal { tmps := #[u0, u1, v2, u3, u4, u5, .slice aP N cP, u7, u8, .slice aR N cR, u10, u11, .int .i64 (wrap64 (worthF L)), v13, u14, u15, u16, u17, u18, u19, u20, u21, u22, u23, u24, u25, u26, u27, u28, u29, u30, u31, u32, u33, u34, u35, u36, u37, u38, u39, u40, u41, u42, u43, u44, u45, u46, u47, u48, u49, u50, u51, u52, u53, u54, u55, u56, u57, u58, u59, u60, u61, u62, u63, u64, u65, u66, u67, u68, u69, u70, u71, u72, u73, u74, u75, u76, u77, u78, u79, u80, u81, u82, u83, u84, u85, u86, u87, v88, v89, v90, v91, v92, v93, v94, v95, v96, v97, v98, v99, v100, v101, v102, v103, v104, v105, v106, v107, v108, v109, v110, v111, v112, v113, v114, v115, v116, v117, v118, v119, v120, v121, v122, v123, v124, v125, v126, v127, v128, v129, v130, v131, v132, v133, v134, v135, v136, v137, v138, v139, v140, v141, v142, u143, u144, u145, u146, u147, u148, u149, u150, u151, u152, u153, u154, u155, u156, u157, u158, u159, u160, u161, u162, u163, u164, u165, u166, u167, u168, u169, u170, u171, u172, u173, u174, u175, u176, u177, u178, u179, u180, u181, u182, u183, u184, u185, u186, u187, u188, u189, u190, u191], defers := [] } w'
set_option maxRecDepth 100000 in
set_option maxHeartbeats 6400000 in
/-- The loop over the fills. -/
theorem exact_lp1 (u0 u1 u2 u3 u4 u5 u7 u8 u10 u11 u14 u15 u16 u17 u18 u19 u20 u21 u22 u23 u24 u25 u26 u27 u28 u29 u30 u31 u32 u33 u34 u35 u36 u37 u38 u39 u40 u41 u42 u43 u44 u45 u46 u47 u48 u49 u50 u51 u52 u53 u54 u55 u56 u57 u58 u59 u60 u61 u62 u63 u64 u65 u66 u67 u68 u69 u70 u71 u72 u73 u74 u75 u76 u77 u78 u79 u80 u81 u82 u83 u84 u85 u86 u87 u88 u89 u90 u91 u92 u93 u94 u95 u96 u97 u98 u99 u100 u101 u102 u103 u104 u105 u106 u107 u108 u109 u110 u111 u112 u113 u114 u115 u116 u117 u118 u119 u120 u121 u122 u123 u124 u125 u126 u127 u128 u129 u130 u131 u132 u133 u134 u135 u136 u137 u138 u139 u140 u141 u142 u143 u144 u145 u146 u147 u148 u149 u150 u151 u152 u153 u154 u155 u156 u157 u158 u159 u160 u161 u162 u163 u164 u165 u166 u167 u168 u169 u170 u171 u172 u173 u174 u175 u176 u177 u178 u179 u180 u181 u182 u183 u184 u185 u186 u187 u188 u189 u190 u191 : Value) (aP aR : Option Addr) (N cP cR : Nat) (L : List Fl) (Q : Exit → Act → World → Prop) (w : World) (hP : LiesE encFl w (.slice aP N cP) L) (hR : LiesE encFl w (.slice aR N cR) L) (hN : L.length = N) (hN2 : N ≤ 1000)
    (hQ : exact_lp1Q u0 u1 u3 u4 u5 u7 u8 u10 u11 u14 u15 u16 u17 u18 u19 u20 u21 u22 u23 u24 u25 u26 u27 u28 u29 u30 u31 u32 u33 u34 u35 u36 u37 u38 u39 u40 u41 u42 u43 u44 u45 u46 u47 u48 u49 u50 u51 u52 u53 u54 u55 u56 u57 u58 u59 u60 u61 u62 u63 u64 u65 u66 u67 u68 u69 u70 u71 u72 u73 u74 u75 u76 u77 u78 u79 u80 u81 u82 u83 u84 u85 u86 u87 u143 u144 u145 u146 u147 u148 u149 u150 u151 u152 u153 u154 u155 u156 u157 u158 u159 u160 u161 u162 u163 u164 u165 u166 u167 u168 u169 u170 u171 u172 u173 u174 u175 u176 u177 u178 u179 u180 u181 u182 u183 u184 u185 u186 u187 u188 u189 u190 u191 aP aR N cP cR L Q w) :
    (Code.block 2 (bodyOf Tryd.f3 2)).wp Tryd.prog Q { tmps := #[u0, u1, u2, u3, u4, u5, .slice aP N cP, u7, u8, .slice aR N cR, u10, u11, .int .i64 0, .int .i64 0, u14, u15, u16, u17, u18, u19, u20, u21, u22, u23, u24, u25, u26, u27, u28, u29, u30, u31, u32, u33, u34, u35, u36, u37, u38, u39, u40, u41, u42, u43, u44, u45, u46, u47, u48, u49, u50, u51, u52, u53, u54, u55, u56, u57, u58, u59, u60, u61, u62, u63, u64, u65, u66, u67, u68, u69, u70, u71, u72, u73, u74, u75, u76, u77, u78, u79, u80, u81, u82, u83, u84, u85, u86, u87, u88, u89, u90, u91, u92, u93, u94, u95, u96, u97, u98, u99, u100, u101, u102, u103, u104, u105, u106, u107, u108, u109, u110, u111, u112, u113, u114, u115, u116, u117, u118, u119, u120, u121, u122, u123, u124, u125, u126, u127, u128, u129, u130, u131, u132, u133, u134, u135, u136, u137, u138, u139, u140, u141, u142, u143, u144, u145, u146, u147, u148, u149, u150, u151, u152, u153, u154, u155, u156, u157, u158, u159, u160, u161, u162, u163, u164, u165, u166, u167, u168, u169, u170, u171, u172, u173, u174, u175, u176, u177, u178, u179, u180, u181, u182, u183, u184, u185, u186, u187, u188, u189, u190, u191], defers := [] } w := by
  simp only [bodyOf, Tryd.f3, blkOf, Option.bind_some, Option.orElse, Option.getD_some, Nat.reduceEqDiff, if_true, if_false, reduceCtorEq]
  have HQ := Lib.hid hQ
  have HP := Lib.hid hP
  have HR := Lib.hid hR
  have HN := Lib.hid hN
  clear hQ hP hR hN
  go_wp2_with fail
  go_loopw [12, 13] (fun a u W => ∃ k : Nat, k ≤ N ∧ u = .int .i64 (k : Int) ∧ a = .int .i64 (wrap64 (worthF (L.take k))) ∧ Below w.heap.size w W) (fun _ u _ => N - (intOf u).toNat)
  case atStart => exact ⟨0, Nat.zero_le _, rfl, by rw [List.take_zero, worthF_nil, show wrap64 0 = 0 by unfold wrap64; first | rfl | decide | omega], Below.refl _ _⟩
  case round =>
    obtain ⟨k, hk, rfl, rfl, hb⟩ := hrel
    have HB := Lib.hid hb
    clear hb
    by_cases hkN : k < N
    · obtain ⟨f, hf⟩ : ∃ f, L[k]? = some f := ⟨_, List.getElem?_eq_getElem (by rw [HN.out]; exact hkN)⟩
      have HWS := Lib.hid (worth_snoc hf)
      obtain ⟨a, ha⟩ : ∃ a, worthF (L.take k) = a := ⟨_, rfl⟩
      rw [ha] at HWS ⊢
      obtain ⟨aF, e1, gf, f0, f1, f2, f3, f4, f5⟩ := LiesE.fl (HP.out.onB HB.out) hf
      obtain ⟨aG, e2, gg, g0, g1, g2, g3, g4, g5⟩ := LiesE.fl (HR.out.onB HB.out) hf
      subst e1
      subst e2
      have hk0 : (0 : Int) ≤ (k : Int) := by omega
      have hk1 : (k : Int) < (N : Int) := by omega
      have hE : ∀ W : World, (Op.equalIn 10000 47 (.agg #[.int .i64 f.ask, .int .i64 f.bid, .int .i64 f.seller, .int .i64 f.buyer, .int .i64 f.price, .int .i64 f.lots]) (.agg #[.int .i64 f.ask, .int .i64 f.bid, .int .i64 f.seller, .int .i64 f.buyer, .int .i64 f.price, .int .i64 f.lots])).run Tryd.prog W = .ok true W := fun W => (eqDF f f W).trans (by rw [decide_eq_true rfl])
      clear hf ha
      go_upto_region 16 with fail
      go_quiet (fail)
      go_upto_region 18 with fail
      go_quiet (fail)
      go_wp2_with fail
      go_roundw
      case rel => exact ⟨k + 1, by omega, by go_num, by rw [HWS.out, wrap_wrap2], by have := HB.out; (repeat' (first | (with_reducible exact Below.refl _ _) | (with_reducible refine below_drewN ?_ _) | (with_reducible refine Below.drew ?_) | (with_reducible refine Below.alloc ?_ ?_ _) | (with_reducible refine Below.setCell ?_ ?_ _) | (with_reducible refine Below.trans ?_ (Below.mono (by with_reducible assumption) ?_)) | omega | (simp only [World.size_alloc, World.size_setCell, World.size_drew, Go.Proofs.YtogmlbjbjgkdcaaDoor.World.size_drewN] at *; omega) | (with_reducible refine Below.size (B := 0) ?_)))⟩
      case measure => simp [intOf]; omega
    · obtain rfl : k = N := by omega
      have e : worthF (L.take k) = worthF L := by rw [← HN.out, List.take_length]
      rw [e]
      clear e
      go_wp2_with fail
      exact HQ.out _ _ _ _ _ _ _ _ _ _ _ _ _ _ _ _ _ _ _ _ _ _ _ _ _ _ _ _ _ _ _ _ _ _ _ _ _ _ _ _ _ _ _ _ _ _ _ _ _ _ _ _ _ _ _ _ _ _ HB.out

end Go.Proofs.YtogmlbjbjgkdcaaDoor
