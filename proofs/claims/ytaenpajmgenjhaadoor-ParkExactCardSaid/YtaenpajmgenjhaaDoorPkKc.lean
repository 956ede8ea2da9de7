/- A piece of the law ParkExact, walked on its own: a list. No conditions. -/
import Derived.Test.YtaenpajmgenjhaaDoorPkKb
import Derived.Test.YtaenpajmgenjhaaDoorRgC
import Derived.Deep.DeepCutAuto
import Derived.Deep.CutBlock
import Derived.Deep.RegionHeld3
import Derived.Deep.QuietTactic
import Derived.StillTailTactics
namespace Go.Proofs.YtaenpajmgenjhaaDoor
open Go Go.RowKit

/-- Is it listed? -/
def selL (c : Int) (m : Mc) : Bool := c == 0 || m.cell == c
theorem listL (P : List Mc) (c : Int) : P.filter (selL c) = if c = 0 then P else inP P c := by
  by_cases h : c = 0
  · rw [if_pos h]
    exact List.filter_eq_self.2 fun m _ => by unfold selL; simp [h]
  · rw [if_neg h]
    unfold inP
    congr 1
    funext m
    unfold selL
    have : (c == 0) = false := by simpa using h
    rw [this]; rfl
/-- How many of lower numbers are listed. -/
def cntL (P : List Mc) (c : Int) (i : Int) : Nat := ((lowP P i).filter (selL c)).length
theorem cnt_none {P : List Mc} (h : GP P) {c i : Int} (ha : atP P i = none) : cntL P c (i + 1) = cntL P c i := by
  unfold cntL
  rw [low_succ h.ord, ha]; simp
theorem cnt_some {P : List Mc} (h : GP P) {c i : Int} {m : Mc} (ha : atP P i = some m) : cntL P c (i + 1) = if selL c m = true then cntL P c i + 1 else cntL P c i := by
  unfold cntL
  rw [low_succ h.ord, ha, Option.toList_some, List.filter_append, List.length_append]
  cases hs : selL c m <;> simp [hs]
theorem cnt_at {P : List Mc} (h : GP P) {c i : Int} {m : Mc} (ha : atP P i = some m) (hs : selL c m = true) : (P.filter (selL c))[cntL P c i]? = some m := by
  have e : P.filter (selL c) = (lowP P i).filter (selL c) ++ m :: ((P.drop (lowI P i + 1)).filter (selL c)) := by
    conv => lhs; rw [mid_at h.ord ha]
    rw [List.filter_append, List.filter_cons_of_pos hs, (low_take h.ord i).1]
    rfl
  rw [e]
  unfold cntL
  rw [List.getElem?_append_right (Nat.le_refl _), Nat.sub_self]
  rfl
theorem cnt_one {P : List Mc} (h : GP P) (c : Int) : cntL P c 1 = 0 := by unfold cntL; rw [low_one h]; rfl
theorem cnt_all {P : List Mc} (h : GP P) (c : Int) : cntL P c 1000 = (P.filter (selL c)).length := by unfold cntL; rw [low_all h]

/-- What is asked behind it. -/
def exact_listQ (u0 u1 u3 u5 u6 u7 u8 u9 u14 u15 u16 u17 u18 u19 u20 u21 u22 u23 u24 u25 u26 u27 u28 u29 u30 u31 u32 u33 u34 u35 u36 u37 u38 u39 u40 u41 u42 u43 u44 u45 u46 u47 u48 u49 u50 u51 u52 u53 u54 u55 u56 u57 u58 u59 u60 u61 u62 u63 u64 u65 u66 u67 u68 u69 u70 u71 u72 u73 u74 u75 u76 u77 u78 u79 u80 u81 u82 u83 u84 u85 u86 u87 u88 u89 u90 u91 u92 u93 u94 u95 u96 u97 u98 u99 u100 u101 u102 u103 u104 u105 u106 u107 u108 u109 u110 u111 u112 u113 u114 u115 u116 u117 u118 u119 u120 u121 u122 u123 u124 u125 u126 u127 u128 u129 u130 u131 u132 u133 u134 u135 u136 u137 u138 u139 u140 u141 u142 u143 u144 u145 u146 u147 u148 u149 u208 u209 u210 u211 u212 u213 u214 u215 u216 u217 u218 u219 u220 u221 u222 u223 u224 u225 u226 u227 u228 u229 u230 u231 u232 u233 u234 u235 u236 u237 u238 u239 u240 u241 u242 u243 u244 u245 u246 u247 u248 u249 u250 u251 u252 u253 : Value) (u base N cc : Nat) (A : Option Addr) (P : List Mc) (c : Int) (Q : Exit → Act → World → Prop) (w : World) : Prop :=
  ∀ (v2 v13 v150 v151 v152 v153 v154 v155 v156 v157 v158 v159 v160 v161 v162 v163 v164 v165 v166 v167 v168 v169 v170 v171 v172 v173 v174 v175 v176 v177 v178 v179 v180 v181 v182 v183 v184 v185 v186 v187 v188 v189 v190 v191 v192 v193 v194 v195 v196 v197 v198 v199 v200 v201 v202 v203 v204 v205 v206 v207 : Value) (w' : World), PkR w' u P → OwnE encMc 45 w' base (.slice A N cc) (P.filter (selL c)) → Below w.heap.size w w' → Q .normal { tmps := #[u0, u1, v2, u3, .pointer (some ⟨u, 0, none⟩), u5, u6, u7, u8, u9, .int .i64 c, .slice A N cc, .int .i64 (N : Int), v13, u14, u15, u16, u17, u18, u19, u20, u21, u22, u23, u24, u25, u26, u27, u28, u29, u30, u31, u32, u33, u34, u35, u36, u37, u38, u39, u40, u41, u42, u43, u44, u45, u46, u47, u48, u49, u50, u51, u52, u53, u54, u55, u56, u57, u58, u59, u60, u61, u62, u63, u64, u65, u66, u67, u68, u69, u70, u71, u72, u73, u74, u75, u76, u77, u78, u79, u80, u81, u82, u83, u84, u85, u86, u87, u88, u89, u90, u91, u92, u93, u94, u95, u96, u97, u98, u99, u100, u101, u102, u103, u104, u105, u106, u107, u108, u109, u110, u111, u112, u113, u114, u115, u116, u117, u118, u119, u120, u121, u122, u123, u124, u125, u126, u127, u128, u129, u130, u131, u132, u133, u134, u135, u136, u137, u138, u139, u140, u141, u142, u143, u144, u145, u146, u147, u148, u149, v150, v151, v152, v153, v154, v155, v156, v157, v158, v159, v160, v161, v162, v163, v164, v165, v166, v167, v168, v169, v170, v171, v172, v173, v174, v175, v176, v177, v178, v179, v180, v181, v182, v183, v184, v185, v186, v187, v188, v189, v190, v191, v192, v193, v194, v195, v196, v197, v198, v199, v200, v201, v202, v203, v204, v205, v206, v207, u208, u209, u210, u211, u212, u213, u214, u215, u216, u217, u218, u219, u220, u221, u222, u223, u224, u225, u226, u227, u228, u229, u230, u231, u232, u233, u234, u235, u236, u237, u238, u239, u240, u241, u242, u243, u244, u245, u246, u247, u248, u249, u250, u251, u252, u253], defers := [] } w'
set_option maxRecDepth 100000 in
set_option maxHeartbeats 6400000 in
/-- A list is the same on both sides. -/
theorem exact_list (u0 u1 u2 u3 u5 u6 u7 u8 u9 u14 u15 u16 u17 u18 u19 u20 u21 u22 u23 u24 u25 u26 u27 u28 u29 u30 u31 u32 u33 u34 u35 u36 u37 u38 u39 u40 u41 u42 u43 u44 u45 u46 u47 u48 u49 u50 u51 u52 u53 u54 u55 u56 u57 u58 u59 u60 u61 u62 u63 u64 u65 u66 u67 u68 u69 u70 u71 u72 u73 u74 u75 u76 u77 u78 u79 u80 u81 u82 u83 u84 u85 u86 u87 u88 u89 u90 u91 u92 u93 u94 u95 u96 u97 u98 u99 u100 u101 u102 u103 u104 u105 u106 u107 u108 u109 u110 u111 u112 u113 u114 u115 u116 u117 u118 u119 u120 u121 u122 u123 u124 u125 u126 u127 u128 u129 u130 u131 u132 u133 u134 u135 u136 u137 u138 u139 u140 u141 u142 u143 u144 u145 u146 u147 u148 u149 u150 u151 u152 u153 u154 u155 u156 u157 u158 u159 u160 u161 u162 u163 u164 u165 u166 u167 u168 u169 u170 u171 u172 u173 u174 u175 u176 u177 u178 u179 u180 u181 u182 u183 u184 u185 u186 u187 u188 u189 u190 u191 u192 u193 u194 u195 u196 u197 u198 u199 u200 u201 u202 u203 u204 u205 u206 u207 u208 u209 u210 u211 u212 u213 u214 u215 u216 u217 u218 u219 u220 u221 u222 u223 u224 u225 u226 u227 u228 u229 u230 u231 u232 u233 u234 u235 u236 u237 u238 u239 u240 u241 u242 u243 u244 u245 u246 u247 u248 u249 u250 u251 u252 u253 : Value) (u base N cc : Nat) (A : Option Addr) (P : List Mc) (c : Int) (Q : Exit → Act → World → Prop) (w : World) (hG : GP P) (hR : PkR w u P) (hO : OwnE encMc 45 w base (.slice A N cc) (P.filter (selL c))) (hN : (P.filter (selL c)).length = N) (hc : 0 ≤ c)
    (hQ : exact_listQ u0 u1 u3 u5 u6 u7 u8 u9 u14 u15 u16 u17 u18 u19 u20 u21 u22 u23 u24 u25 u26 u27 u28 u29 u30 u31 u32 u33 u34 u35 u36 u37 u38 u39 u40 u41 u42 u43 u44 u45 u46 u47 u48 u49 u50 u51 u52 u53 u54 u55 u56 u57 u58 u59 u60 u61 u62 u63 u64 u65 u66 u67 u68 u69 u70 u71 u72 u73 u74 u75 u76 u77 u78 u79 u80 u81 u82 u83 u84 u85 u86 u87 u88 u89 u90 u91 u92 u93 u94 u95 u96 u97 u98 u99 u100 u101 u102 u103 u104 u105 u106 u107 u108 u109 u110 u111 u112 u113 u114 u115 u116 u117 u118 u119 u120 u121 u122 u123 u124 u125 u126 u127 u128 u129 u130 u131 u132 u133 u134 u135 u136 u137 u138 u139 u140 u141 u142 u143 u144 u145 u146 u147 u148 u149 u208 u209 u210 u211 u212 u213 u214 u215 u216 u217 u218 u219 u220 u221 u222 u223 u224 u225 u226 u227 u228 u229 u230 u231 u232 u233 u234 u235 u236 u237 u238 u239 u240 u241 u242 u243 u244 u245 u246 u247 u248 u249 u250 u251 u252 u253 u base N cc A P c Q w) :
    (Code.block 7 (bodyOf Tryd.f3 7)).wp Tryd.prog Q { tmps := #[u0, u1, u2, u3, .pointer (some ⟨u, 0, none⟩), u5, u6, u7, u8, u9, .int .i64 c, .slice A N cc, .int .i64 0, .int .i64 1, u14, u15, u16, u17, u18, u19, u20, u21, u22, u23, u24, u25, u26, u27, u28, u29, u30, u31, u32, u33, u34, u35, u36, u37, u38, u39, u40, u41, u42, u43, u44, u45, u46, u47, u48, u49, u50, u51, u52, u53, u54, u55, u56, u57, u58, u59, u60, u61, u62, u63, u64, u65, u66, u67, u68, u69, u70, u71, u72, u73, u74, u75, u76, u77, u78, u79, u80, u81, u82, u83, u84, u85, u86, u87, u88, u89, u90, u91, u92, u93, u94, u95, u96, u97, u98, u99, u100, u101, u102, u103, u104, u105, u106, u107, u108, u109, u110, u111, u112, u113, u114, u115, u116, u117, u118, u119, u120, u121, u122, u123, u124, u125, u126, u127, u128, u129, u130, u131, u132, u133, u134, u135, u136, u137, u138, u139, u140, u141, u142, u143, u144, u145, u146, u147, u148, u149, u150, u151, u152, u153, u154, u155, u156, u157, u158, u159, u160, u161, u162, u163, u164, u165, u166, u167, u168, u169, u170, u171, u172, u173, u174, u175, u176, u177, u178, u179, u180, u181, u182, u183, u184, u185, u186, u187, u188, u189, u190, u191, u192, u193, u194, u195, u196, u197, u198, u199, u200, u201, u202, u203, u204, u205, u206, u207, u208, u209, u210, u211, u212, u213, u214, u215, u216, u217, u218, u219, u220, u221, u222, u223, u224, u225, u226, u227, u228, u229, u230, u231, u232, u233, u234, u235, u236, u237, u238, u239, u240, u241, u242, u243, u244, u245, u246, u247, u248, u249, u250, u251, u252, u253], defers := [] } w := by
  simp only [bodyOf, Tryd.f3, blkOf, Option.bind_some, Option.orElse, Option.getD_some, Nat.reduceEqDiff, if_true, if_false, reduceCtorEq]
  have HQ := Lib.hid hQ
  have HG := Lib.hid hG
  have HR := Lib.hid hR; have HO := Lib.hid hO; have HNL := Lib.hid hN
  have hn24 : (N : Int) ≤ 24 := by have := List.length_filter_le (selL c) P; have := hG.len; omega
  have hcnn := hc
  clear hQ hG hR hO hN hc
  go_wp2_with fail
  go_loopw [12, 13] (fun a b W => ∃ i : Nat, 1 ≤ i ∧ i ≤ 1000 ∧ b = .int .i64 (i : Int) ∧ a = .int .i64 (cntL P c (i : Int) : Nat) ∧ PkR W u P ∧ OwnE encMc 45 W base (.slice A N cc) (P.filter (selL c)) ∧ Below w.heap.size w W) (fun _ b _ => 1000 - (intOf b).toNat)
  case atStart => exact ⟨1, Nat.le_refl _, by omega, rfl, by rw [show ((1 : Nat) : Int) = 1 from rfl, cnt_one HG.out]; rfl, HR.out, HO.out, Below.refl _ _⟩
  case round =>
    clear HR HO
    obtain ⟨i, hi1, hi, rfl, rfl, h1, h2, h3⟩ := hrel
    have HR := Lib.hid h1; have HO := Lib.hid h2; have HB := Lib.hid h3
    clear h1 h2 h3
    by_cases hi3 : i < 1000
    · have hiz : (i : Int) < 1000 := by omega
      have hi0 : (0 : Int) ≤ (i : Int) := by omega
      obtain ⟨z0, z1, z2, z3, z4, z5, zl, zf⟩ := HR.out.cells hi3
      cases ha : atP P (i : Int) with
      | none =>
        rw [slot_none ha] at z0 z1 z2 z3 z4 z5
        dsimp only at z0 z1 z2 z3 z4 z5
        have HE := Lib.hid (cnt_none (c := c) HG.out ha)
        clear ha
        go_wp2_with fail
        go_roundw
        case rel => exact ⟨i + 1, by omega, by omega, by go_num, by rw [show ((i + 1 : Nat) : Int) = (i : Int) + 1 by omega, HE.out], HR.out, HO.out, HB.out⟩
        case measure => simp [intOf]; omega
      | some m =>
        rw [slot_some ha] at z0 z1 z2 z3 z4 z5
        obtain ⟨hmP, hmid⟩ := (at_some HG.out.ord).1 ha
        have hmc := HG.out.cells m hmP
        have e0 : (m.cell == 0) = false := by simpa using (by omega : ¬ m.cell = 0)
        have HE := Lib.hid (cnt_some (c := c) HG.out ha)
        have HAT := Lib.hid (fun hs : selL c m = true => cnt_at HG.out ha hs)
        have HMI := Lib.hid hmid
        clear ha hmP hmc hmid
        cases hsl : selL c m with
        | false =>
          have hc0 : decide ((0 : Int) < c) = true := by
            unfold selL at hsl
            simp only [Bool.or_eq_false_iff, beq_eq_false_iff_ne] at hsl
            exact decide_eq_true (by have := hsl.1; omega)
          have hcc : (m.cell != c) = true := by
            unfold selL at hsl
            simp only [Bool.or_eq_false_iff] at hsl
            simp [bne, hsl.2]
          rw [hsl, if_neg (by decide)] at HE
          clear hsl HAT
          go_wp2_with fail
          go_roundw
          case rel => exact ⟨i + 1, by omega, by omega, by go_num, by rw [show ((i + 1 : Nat) : Int) = (i : Int) + 1 by omega, HE.out], HR.out, HO.out, HB.out⟩
          case measure => simp [intOf]; omega
        | true =>
          have hL := HAT.out hsl
          rw [hsl, if_pos rfl] at HE
          obtain ⟨K, hK⟩ : ∃ K, K = cntL P c (i : Int) := ⟨_, rfl⟩
          rw [← hK] at hL HE ⊢
          have HKK := Lib.hid hK
          have hKN : K < N := by have := (List.getElem?_eq_some_iff.1 hL).1; rw [← HNL.out]; exact this
          obtain ⟨ad, g, rfl, hadd, _, hgw, hf, hc⟩ := HO.out.at hL
          have c0 := hc 0 _ rfl
          have c1 := hc 1 _ rfl
          have c2 := hc 2 _ rfl
          have c3 := hc 3 _ rfl
          have c4 := hc 4 _ rfl
          have c5 := hc 5 _ rfl
          have c6 := hc 6 _ rfl
          rw [Nat.add_zero] at c0
          have hE : ∀ W : World, (Op.equalIn 10000 45 (.agg #[.int .i64 m.id, .int .i64 m.cell, .int .i64 m.has.a, .int .i64 m.has.b, .int .i64 m.has.c, .int .i64 m.has.d, .int .i64 m.st]) (.agg #[.int .i64 (i : Int), .int .i64 m.cell, .int .i64 m.has.a, .int .i64 m.has.b, .int .i64 m.has.c, .int .i64 m.has.d, .int .i64 m.st])).run Tryd.prog W = .ok true W := fun W => by
            have := eqM m m W
            rw [decide_eq_true rfl] at this
            rwa [show (i : Int) = m.id from HMI.out.symm]
          have hk0 : (0 : Int) ≤ (K : Int) := by omega
          have hk1 : (K : Int) < (N : Int) := by omega
          have hd : decide ((N : Int) ≤ (K : Int)) = false := decide_eq_false (by omega)
          have hcs : (decide ((0 : Int) < c) = false) ∨ (decide ((0 : Int) < c) = true ∧ (m.cell != c) = false) := by
            unfold selL at hsl
            simp only [Bool.or_eq_true, beq_iff_eq] at hsl
            by_cases h0 : (0 : Int) < c
            · rcases hsl with h | h
              · omega
              · exact .inr ⟨decide_eq_true h0, by simp [bne, h]⟩
            · exact .inl (decide_eq_false h0)
          clear hsl HAT hL hK hc
          rcases hcs with hc0 | ⟨hc0, hcc⟩
          all_goals
            go_upto_region 37 with fail
            go_quiet (fail)
            go_wp2_with fail
            go_roundw
            case rel => exact ⟨i + 1, by omega, by omega, by go_num, by rw [show ((i + 1 : Nat) : Int) = (i : Int) + 1 by omega, HE.out]; go_num, HR.out, HO.out, below_drewN HB.out _⟩
            case measure => simp [intOf]; omega
    · obtain rfl : i = 1000 := by omega
      have e : cntL P c ((1000 : Nat) : Int) = N := by rw [← HNL.out]; exact cnt_all HG.out c
      rw [e]
      clear e
      go_wp2_with fail
      exact HQ.out _ _ _ _ _ _ _ _ _ _ _ _ _ _ _ _ _ _ _ _ _ _ _ _ _ _ _ _ _ _ _ _ _ _ _ _ _ _ _ _ _ _ _ _ _ _ _ _ _ _ _ _ _ _ _ _ _ _ _ _ _ HR.out HO.out HB.out

end Go.Proofs.YtaenpajmgenjhaaDoor
