/- SpareExact: a deed on both sides. Condition: both books lie in memory as their map and row have it. -/
import Derived.Test.YtbfbhlpibclccaaDoorSqW
import Derived.Test.YtbfbhlpibclccaaDoorSqP
import Derived.Test.YtbfbhlpibclccaaDoorRgo
import Derived.Test.YtbfbhlpibclccaaDoorSqY
import Derived.Test.YtbfbhlpibclccaaDoorRgC
import Derived.Deep.DeepCutAuto
import Derived.Deep.CutBlock
import Derived.Deep.RegionHeld3
import Derived.Deep.QuietTactic
import Derived.StillTailTactics
namespace Go.Proofs.YtbfbhlpibclccaaDoor
open Go Go.RowKit Go.Maps Go.Sort

/-- The deed's box. -/
def ActQ (gx : Nat) (x : AcQ) (W : World) : Prop := W.heap[gx]? = some (.cells #[.int .i64 x.kind, .int .i64 x.job, .int .i64 x.win] 77 (0, 0))
theorem ActQ.c (gx : Nat) (x : AcQ) (W : World) (h : ActQ gx x W) : W.cell? ⟨gx, 0, none⟩ = some (.int .i64 x.kind) ∧ W.cell? ⟨gx, 1, none⟩ = some (.int .i64 x.job) ∧ W.cell? ⟨gx, 2, none⟩ = some (.int .i64 x.win) := ⟨cell_of_heap h 0, cell_of_heap h 1, cell_of_heap h 2⟩
/-- Two rows of cells in blocks of their own. -/
def BSq (u X : Nat) (o1 o2 : Obj) (W : World) : Prop := W.heap[u]? = some o1 ∧ W.heap[X]? = some o2
theorem BSq.on {u X : Nat} {o1 o2 : Obj} {W W' : World} (h : BSq u X o1 o2 W) (hb : Below W.heap.size W W') : BSq u X o1 o2 W' := ⟨(hb.block u (lt_of_row h.1)).trans h.1, (hb.block X (lt_of_row h.2)).trans h.2⟩
theorem BSq.alloc {u X : Nat} {o1 o2 : Obj} {W : World} (h : BSq u X o1 o2 W) (o : Obj) : BSq u X o1 o2 (W.alloc o) := h.on ((Below.refl _ _).alloc (Nat.le_refl _) _)
theorem BSq.grown {u X : Nat} {o1 o2 : Obj} {W W' : World} {r : Option Nat} (h : BSq u X o1 o2 W) (hg : W.grownBy W' r) (hr : ∀ k, r = some k → k ≠ u ∧ k ≠ X) : BSq u X o1 o2 W' :=
  ⟨(hg.block u (lt_of_row h.1) (fun e => (hr u e.symm).1 rfl)).trans h.1, (hg.block X (lt_of_row h.2) (fun e => (hr X e.symm).2 rfl)).trans h.2⟩
theorem cells_litQ {α : Type} {n : Nat} {E : EncK α n} {w : World} {g : Nat} {t : TypeId} (L : List α) (h : w.heap[g]? = some (.cells (cellsE E L).toArray t (0, 0))) : ∀ j u, (cellsE E L)[j]? = some u → w.cell? ((⟨g, 0, none⟩ : Addr).add j) = some u :=
  fun j u hu => by rw [Addr.add_lit, Nat.zero_add, cell_of_heap h, List.getElem?_toArray]; exact hu
/-- What a deed makes of the evictions. -/
def deedQ (E : List Ev) (x : AcQ) : List Ev := if x.kind = 4 then lessE (fun k => decide (k.win < x.win)) E else if x.kind = 5 then lessE (fun k => k.job == x.job) E else E ++ [⟨x.job, x.win, x.kind == 3⟩]
theorem deedQ_len (E : List Ev) (x : AcQ) : (deedQ E x).length ≤ E.length + 1 := by
  unfold deedQ
  split
  · exact Nat.le_succ_of_le (List.length_filter_le _ _)
  · split
    · exact Nat.le_succ_of_le (List.length_filter_le _ _)
    · rw [List.length_append]; exact Nat.le_refl _

/-- What is asked behind it. -/
def sz12Q (u0 u1 u2 u3 u4 u7 u9 u10 u11 u12 u13 u14 u15 u16 u17 u18 u19 u20 u21 u22 u23 u24 u25 u26 u27 u28 u29 u30 u31 u32 u33 u34 u35 u36 u37 u38 u39 u40 u41 u42 u43 u44 u45 u46 u64 u65 u66 u67 u68 u69 u70 u71 u72 u73 u74 u75 u76 u77 u78 u79 u80 u81 u82 u83 u84 u85 u86 u87 u88 u89 u90 u91 u92 u93 u94 u95 u96 u97 u98 u99 u100 u101 u102 u103 u104 u105 u106 u107 u108 u109 u110 u111 u112 u113 u114 u115 u116 u117 u118 u119 u120 u121 u122 u123 u124 u125 u126 u127 u128 u129 u130 u131 u132 u133 u134 u135 u136 u137 u138 u139 u140 u141 u142 u143 u144 u145 u146 u147 u148 u149 u150 u151 u152 u153 u154 u155 u156 u157 u158 u159 u160 u161 u162 u163 u164 u165 u166 u167 u168 u169 u170 u171 u172 u173 u174 u175 u176 u177 u178 u179 u180 u181 u182 u183 u184 u185 u186 u187 u188 u189 u190 u191 u192 u193 u194 u195 u196 u197 u198 u199 u200 u201 u202 u203 u204 u205 u206 u207 u208 u209 u210 u211 u212 u213 u214 u215 u216 u217 u218 u219 u220 u221 u222 u223 u224 u225 u226 u227 u228 u229 u230 u231 u232 u233 u234 u235 u236 u237 u238 u239 u240 : Value) (w0 : World) (q b u gx : Nat) (E F : List Ev) (x : AcQ) (K : World → Prop) (Q : Exit → Act → World → Prop) : Prop :=
  ∀ (v47 v48 v49 v50 v51 v52 v53 v54 v55 v56 v57 v58 v59 v60 v61 v62 v63 : Value) (w' : World), SZ w0 w' q b u E (F ++ [⟨x.job, x.win, x.kind == 3⟩]) K → Q .normal { tmps := #[u0, u1, u2, u3, u4, .pointer (some ⟨q, 0, none⟩), .pointer (some ⟨u, 0, none⟩), u7, .pointer (some ⟨gx, 0, none⟩), u9, u10, u11, u12, u13, u14, u15, u16, u17, u18, u19, u20, u21, u22, u23, u24, u25, u26, u27, u28, u29, u30, u31, u32, u33, u34, u35, u36, u37, u38, u39, u40, u41, u42, u43, u44, u45, u46, v47, v48, v49, v50, v51, v52, v53, v54, v55, v56, v57, v58, v59, v60, v61, v62, v63, u64, u65, u66, u67, u68, u69, u70, u71, u72, u73, u74, u75, u76, u77, u78, u79, u80, u81, u82, u83, u84, u85, u86, u87, u88, u89, u90, u91, u92, u93, u94, u95, u96, u97, u98, u99, u100, u101, u102, u103, u104, u105, u106, u107, u108, u109, u110, u111, u112, u113, u114, u115, u116, u117, u118, u119, u120, u121, u122, u123, u124, u125, u126, u127, u128, u129, u130, u131, u132, u133, u134, u135, u136, u137, u138, u139, u140, u141, u142, u143, u144, u145, u146, u147, u148, u149, u150, u151, u152, u153, u154, u155, u156, u157, u158, u159, u160, u161, u162, u163, u164, u165, u166, u167, u168, u169, u170, u171, u172, u173, u174, u175, u176, u177, u178, u179, u180, u181, u182, u183, u184, u185, u186, u187, u188, u189, u190, u191, u192, u193, u194, u195, u196, u197, u198, u199, u200, u201, u202, u203, u204, u205, u206, u207, u208, u209, u210, u211, u212, u213, u214, u215, u216, u217, u218, u219, u220, u221, u222, u223, u224, u225, u226, u227, u228, u229, u230, u231, u232, u233, u234, u235, u236, u237, u238, u239, u240], defers := [] } w'
set_option maxRecDepth 100000 in
set_option maxHeartbeats 6400000 in
/-- The reference takes an eviction. -/
theorem sz12 (u0 u1 u2 u3 u4 u7 u9 u10 u11 u12 u13 u14 u15 u16 u17 u18 u19 u20 u21 u22 u23 u24 u25 u26 u27 u28 u29 u30 u31 u32 u33 u34 u35 u36 u37 u38 u39 u40 u41 u42 u43 u44 u45 u46 u47 u48 u49 u50 u51 u52 u53 u54 u55 u56 u57 u58 u59 u60 u61 u62 u63 u64 u65 u66 u67 u68 u69 u70 u71 u72 u73 u74 u75 u76 u77 u78 u79 u80 u81 u82 u83 u84 u85 u86 u87 u88 u89 u90 u91 u92 u93 u94 u95 u96 u97 u98 u99 u100 u101 u102 u103 u104 u105 u106 u107 u108 u109 u110 u111 u112 u113 u114 u115 u116 u117 u118 u119 u120 u121 u122 u123 u124 u125 u126 u127 u128 u129 u130 u131 u132 u133 u134 u135 u136 u137 u138 u139 u140 u141 u142 u143 u144 u145 u146 u147 u148 u149 u150 u151 u152 u153 u154 u155 u156 u157 u158 u159 u160 u161 u162 u163 u164 u165 u166 u167 u168 u169 u170 u171 u172 u173 u174 u175 u176 u177 u178 u179 u180 u181 u182 u183 u184 u185 u186 u187 u188 u189 u190 u191 u192 u193 u194 u195 u196 u197 u198 u199 u200 u201 u202 u203 u204 u205 u206 u207 u208 u209 u210 u211 u212 u213 u214 u215 u216 u217 u218 u219 u220 u221 u222 u223 u224 u225 u226 u227 u228 u229 u230 u231 u232 u233 u234 u235 u236 u237 u238 u239 u240 : Value) (w0 : World) (q b u gx : Nat) (E F : List Ev) (x : AcQ) (K : World → Prop) (Q : Exit → Act → World → Prop) (w : World) (hZ : SZ w0 w q b u E F K) (hA : ∀ W, K W → ActQ gx x W) (hF : F.length ≤ 1000)
    (hQ : sz12Q u0 u1 u2 u3 u4 u7 u9 u10 u11 u12 u13 u14 u15 u16 u17 u18 u19 u20 u21 u22 u23 u24 u25 u26 u27 u28 u29 u30 u31 u32 u33 u34 u35 u36 u37 u38 u39 u40 u41 u42 u43 u44 u45 u46 u64 u65 u66 u67 u68 u69 u70 u71 u72 u73 u74 u75 u76 u77 u78 u79 u80 u81 u82 u83 u84 u85 u86 u87 u88 u89 u90 u91 u92 u93 u94 u95 u96 u97 u98 u99 u100 u101 u102 u103 u104 u105 u106 u107 u108 u109 u110 u111 u112 u113 u114 u115 u116 u117 u118 u119 u120 u121 u122 u123 u124 u125 u126 u127 u128 u129 u130 u131 u132 u133 u134 u135 u136 u137 u138 u139 u140 u141 u142 u143 u144 u145 u146 u147 u148 u149 u150 u151 u152 u153 u154 u155 u156 u157 u158 u159 u160 u161 u162 u163 u164 u165 u166 u167 u168 u169 u170 u171 u172 u173 u174 u175 u176 u177 u178 u179 u180 u181 u182 u183 u184 u185 u186 u187 u188 u189 u190 u191 u192 u193 u194 u195 u196 u197 u198 u199 u200 u201 u202 u203 u204 u205 u206 u207 u208 u209 u210 u211 u212 u213 u214 u215 u216 u217 u218 u219 u220 u221 u222 u223 u224 u225 u226 u227 u228 u229 u230 u231 u232 u233 u234 u235 u236 u237 u238 u239 u240 w0 q b u gx E F x K Q) :
    (Code.region 12 (opsOf Tryd.f4 12).toArray true).wp Tryd.prog Q { tmps := #[u0, u1, u2, u3, u4, .pointer (some ⟨q, 0, none⟩), .pointer (some ⟨u, 0, none⟩), u7, .pointer (some ⟨gx, 0, none⟩), u9, u10, u11, u12, u13, u14, u15, u16, u17, u18, u19, u20, u21, u22, u23, u24, u25, u26, u27, u28, u29, u30, u31, u32, u33, u34, u35, u36, u37, u38, u39, u40, u41, u42, u43, u44, u45, u46, u47, u48, u49, u50, u51, u52, u53, u54, u55, u56, u57, u58, u59, u60, u61, u62, u63, u64, u65, u66, u67, u68, u69, u70, u71, u72, u73, u74, u75, u76, u77, u78, u79, u80, u81, u82, u83, u84, u85, u86, u87, u88, u89, u90, u91, u92, u93, u94, u95, u96, u97, u98, u99, u100, u101, u102, u103, u104, u105, u106, u107, u108, u109, u110, u111, u112, u113, u114, u115, u116, u117, u118, u119, u120, u121, u122, u123, u124, u125, u126, u127, u128, u129, u130, u131, u132, u133, u134, u135, u136, u137, u138, u139, u140, u141, u142, u143, u144, u145, u146, u147, u148, u149, u150, u151, u152, u153, u154, u155, u156, u157, u158, u159, u160, u161, u162, u163, u164, u165, u166, u167, u168, u169, u170, u171, u172, u173, u174, u175, u176, u177, u178, u179, u180, u181, u182, u183, u184, u185, u186, u187, u188, u189, u190, u191, u192, u193, u194, u195, u196, u197, u198, u199, u200, u201, u202, u203, u204, u205, u206, u207, u208, u209, u210, u211, u212, u213, u214, u215, u216, u217, u218, u219, u220, u221, u222, u223, u224, u225, u226, u227, u228, u229, u230, u231, u232, u233, u234, u235, u236, u237, u238, u239, u240], defers := [] } w := by
  simp only [opsOf, Tryd.f4, regOf, Option.bind_some, Option.orElse, Option.getD_some, Nat.reduceEqDiff, if_true, if_false, reduceCtorEq]
  obtain ⟨N0, hN0⟩ : ∃ N : Act → World → Prop, N = fun a W => Q .normal a W := ⟨_, rfl⟩
  refine Code.wp_mono (Q := fun e a W => match e with | .normal => N0 a W | _ => False) (fun e a W h => by cases e <;> first | (rw [hN0] at h; exact h) | exact h.elim) ?_
  have HQ : Hid (∀ (v47 v48 v49 v50 v51 v52 v53 v54 v55 v56 v57 v58 v59 v60 v61 v62 v63 : Value) (w' : World), SZ w0 w' q b u E (F ++ [⟨x.job, x.win, x.kind == 3⟩]) K → N0 { tmps := #[u0, u1, u2, u3, u4, .pointer (some ⟨q, 0, none⟩), .pointer (some ⟨u, 0, none⟩), u7, .pointer (some ⟨gx, 0, none⟩), u9, u10, u11, u12, u13, u14, u15, u16, u17, u18, u19, u20, u21, u22, u23, u24, u25, u26, u27, u28, u29, u30, u31, u32, u33, u34, u35, u36, u37, u38, u39, u40, u41, u42, u43, u44, u45, u46, v47, v48, v49, v50, v51, v52, v53, v54, v55, v56, v57, v58, v59, v60, v61, v62, v63, u64, u65, u66, u67, u68, u69, u70, u71, u72, u73, u74, u75, u76, u77, u78, u79, u80, u81, u82, u83, u84, u85, u86, u87, u88, u89, u90, u91, u92, u93, u94, u95, u96, u97, u98, u99, u100, u101, u102, u103, u104, u105, u106, u107, u108, u109, u110, u111, u112, u113, u114, u115, u116, u117, u118, u119, u120, u121, u122, u123, u124, u125, u126, u127, u128, u129, u130, u131, u132, u133, u134, u135, u136, u137, u138, u139, u140, u141, u142, u143, u144, u145, u146, u147, u148, u149, u150, u151, u152, u153, u154, u155, u156, u157, u158, u159, u160, u161, u162, u163, u164, u165, u166, u167, u168, u169, u170, u171, u172, u173, u174, u175, u176, u177, u178, u179, u180, u181, u182, u183, u184, u185, u186, u187, u188, u189, u190, u191, u192, u193, u194, u195, u196, u197, u198, u199, u200, u201, u202, u203, u204, u205, u206, u207, u208, u209, u210, u211, u212, u213, u214, u215, u216, u217, u218, u219, u220, u221, u222, u223, u224, u225, u226, u227, u228, u229, u230, u231, u232, u233, u234, u235, u236, u237, u238, u239, u240], defers := [] } w') := Lib.hid (by rw [hN0]; exact hQ)
  clear hN0
  obtain ⟨v, hv, hk⟩ := hZ.r
  obtain ⟨A, c, hvs⟩ := hv.s.form
  obtain ⟨N, hN⟩ : ∃ N, F.length = N := ⟨_, rfl⟩
  rw [hN] at hvs hF
  subst hvs
  have hgx := hA w hZ.has
  obtain ⟨ii, h0, q0, q1, q2⟩ := info_parts Tryd.infoEv
  have hbl : Below w.heap.size w (w.drew.alloc (.cells #[.int .i64 x.job, .int .i64 x.win, .bool (x.kind == 3)] 82)) := (Below.refl _ _).drew.alloc (Nat.le_refl _) _
  have A1 : Hid (OwnE encEv 82 (w.drew.alloc (.cells #[.int .i64 x.job, .int .i64 x.win, .bool (x.kind == 3)] 82)) (u + 1) (.slice A N c) F) := Lib.hid (hv.s.on hbl)
  have A3 : Hid (F.length + [(⟨x.job, x.win, x.kind == 3⟩ : Ev)].length ≤ maxLen) := Lib.hid (by rw [hN]; simp only [List.length_singleton, maxLen]; omega)
  have A4 : Hid ((F.length + [(⟨x.job, x.win, x.kind == 3⟩ : Ev)].length) * 24 ≤ 140737488355328) := Lib.hid (by rw [hN]; simp only [List.length_singleton]; omega)
  have A5 : Hid (u + 1 ≤ (w.drew.alloc (.cells #[.int .i64 x.job, .int .i64 x.win, .bool (x.kind == 3)] 82)).heap.size) := Lib.hid (by have := lt_of_row hv.box; have := hbl.size; omega)
  have HS2 : Hid (BSq u gx (.cells #[.slice A N c] 75 (0, 0)) (.cells #[.int .i64 x.kind, .int .i64 x.job, .int .i64 x.win] 77 (0, 0)) w.drew) := Lib.hid ⟨hv.box, hgx⟩
  have HNE : Hid (∀ k, (Value.slice A N c).ownBlock = some k → k ≠ u ∧ k ≠ gx) := Lib.hid fun k hk => by
    have k1 := hv.s.lt k hk
    refine ⟨by omega, fun e => ?_⟩
    subst e
    rcases hv.s.2 with ⟨e1, _⟩ | ⟨g, cap, cur, e1, _, hgb, _⟩
    · cases e1; simp [Value.ownBlock] at hk
    · cases e1
      simp [Value.ownBlock] at hk; subst hk
      unfold ActQ at hgx
      rw [hgb] at hgx
      exact absurd (Obj.cells.inj (Option.some.inj hgx)).2.1 (by decide)
  have HZZ := Lib.hid hZ; have HV := Lib.hid hv; have HK := Lib.hid hk; have HBL := Lib.hid hbl; have HN := Lib.hid hN
  clear hQ hZ hv hk hN hF hgx hbl hA
  refine wp_region_last (z := 17) (S := fun W => BSq u gx (.cells #[.slice A N c] 75 (0, 0)) (.cells #[.int .i64 x.kind, .int .i64 x.job, .int .i64 x.win] 77 (0, 0)) W) (by kernel_rfl) ?_ (fun hHeld => ?_)
  · exact HS2.out
  refine rgl_take 0 (some 47) _ (by kernel_rfl) (by kernel_rfl) (by kernel_rfl) (by kernel_rfl) (fun _ _ _ h => h) (by kernel_rfl) (by kernel_rfl) (by intro w' hSw op_ ho; obtain ⟨sb, sx⟩ := hSw; have s0 := cell_of_heap sb 0; have x0 := cell_of_heap sx 0; have x1 := cell_of_heap sx 1; have x2 := cell_of_heap sx 2; simp only [List.getElem?_toArray, List.getElem?_cons_zero, Option.some.injEq] at ho; subst ho; go_simp; with_reducible rfl) (by assumption) ?_
  try simp only [Act.put, List.setIfInBounds_toArray, List.set_cons_zero, List.set_cons_succ]
  refine rgl_take 1 (some 48) _ (by kernel_rfl) (by kernel_rfl) (by kernel_rfl) (by kernel_rfl) (fun _ _ _ h => h) (by kernel_rfl) (by kernel_rfl) (by intro w' hSw op_ ho; obtain ⟨sb, sx⟩ := hSw; have s0 := cell_of_heap sb 0; have x0 := cell_of_heap sx 0; have x1 := cell_of_heap sx 1; have x2 := cell_of_heap sx 2; simp only [List.getElem?_toArray, List.getElem?_cons_succ, List.getElem?_cons_zero, Option.some.injEq] at ho; subst ho; go_simp; with_reducible rfl) (by assumption) ?_
  try simp only [Act.put, List.setIfInBounds_toArray, List.set_cons_zero, List.set_cons_succ]
  refine rgl_take 2 (some 49) _ (by kernel_rfl) (by kernel_rfl) (by kernel_rfl) (by kernel_rfl) (fun _ _ _ h => h) (by kernel_rfl) (by kernel_rfl) (by intro w' hSw op_ ho; obtain ⟨sb, sx⟩ := hSw; have s0 := cell_of_heap sb 0; have x0 := cell_of_heap sx 0; have x1 := cell_of_heap sx 1; have x2 := cell_of_heap sx 2; simp only [List.getElem?_toArray, List.getElem?_cons_succ, List.getElem?_cons_zero, Option.some.injEq] at ho; subst ho; go_simp; with_reducible rfl) (by assumption) ?_
  try simp only [Act.put, List.setIfInBounds_toArray, List.set_cons_zero, List.set_cons_succ]
  refine rgl_take 3 (some 50) _ (by kernel_rfl) (by kernel_rfl) (by kernel_rfl) (by kernel_rfl) (fun _ _ _ h => h) (by kernel_rfl) (by kernel_rfl) (by intro w' hSw op_ ho; obtain ⟨sb, sx⟩ := hSw; have s0 := cell_of_heap sb 0; have x0 := cell_of_heap sx 0; have x1 := cell_of_heap sx 1; have x2 := cell_of_heap sx 2; simp only [List.getElem?_toArray, List.getElem?_cons_succ, List.getElem?_cons_zero, Option.some.injEq] at ho; subst ho; go_simp; with_reducible rfl) (by assumption) ?_
  try simp only [Act.put, List.setIfInBounds_toArray, List.set_cons_zero, List.set_cons_succ]
  refine rgl_take 4 (some 51) _ (by kernel_rfl) (by kernel_rfl) (by kernel_rfl) (by kernel_rfl) (fun _ _ _ h => h) (by kernel_rfl) (by kernel_rfl) (by intro w' hSw op_ ho; obtain ⟨sb, sx⟩ := hSw; have s0 := cell_of_heap sb 0; have x0 := cell_of_heap sx 0; have x1 := cell_of_heap sx 1; have x2 := cell_of_heap sx 2; simp only [List.getElem?_toArray, List.getElem?_cons_succ, List.getElem?_cons_zero, Option.some.injEq] at ho; subst ho; go_simp; with_reducible rfl) (by assumption) ?_
  try simp only [Act.put, List.setIfInBounds_toArray, List.set_cons_zero, List.set_cons_succ]
  refine rgl_take 5 (some 52) _ (by kernel_rfl) (by kernel_rfl) (by kernel_rfl) (by kernel_rfl) (fun _ _ _ h => h) (by kernel_rfl) (by kernel_rfl) (by intro w' hSw op_ ho; obtain ⟨sb, sx⟩ := hSw; have s0 := cell_of_heap sb 0; have x0 := cell_of_heap sx 0; have x1 := cell_of_heap sx 1; have x2 := cell_of_heap sx 2; simp only [List.getElem?_toArray, List.getElem?_cons_succ, List.getElem?_cons_zero, Option.some.injEq] at ho; subst ho; go_simp; with_reducible rfl) (by assumption) ?_
  try simp only [Act.put, List.setIfInBounds_toArray, List.set_cons_zero, List.set_cons_succ]
  refine rgl_take 6 (some 53) _ (by kernel_rfl) (by kernel_rfl) (by kernel_rfl) (by kernel_rfl) (fun _ _ _ h => h) (by kernel_rfl) (by kernel_rfl) (by intro w' hSw op_ ho; obtain ⟨sb, sx⟩ := hSw; have s0 := cell_of_heap sb 0; have x0 := cell_of_heap sx 0; have x1 := cell_of_heap sx 1; have x2 := cell_of_heap sx 2; simp only [List.getElem?_toArray, List.getElem?_cons_succ, List.getElem?_cons_zero, Option.some.injEq] at ho; subst ho; go_simp; with_reducible rfl) (by assumption) ?_
  try simp only [Act.put, List.setIfInBounds_toArray, List.set_cons_zero, List.set_cons_succ]
  refine rgl_take 7 (some 54) _ (by kernel_rfl) (by kernel_rfl) (by kernel_rfl) (by kernel_rfl) (fun _ _ _ h => h) (by kernel_rfl) (by kernel_rfl) (by intro w' hSw op_ ho; obtain ⟨sb, sx⟩ := hSw; have s0 := cell_of_heap sb 0; have x0 := cell_of_heap sx 0; have x1 := cell_of_heap sx 1; have x2 := cell_of_heap sx 2; simp only [List.getElem?_toArray, List.getElem?_cons_succ, List.getElem?_cons_zero, Option.some.injEq] at ho; subst ho; go_simp; with_reducible rfl) (by assumption) ?_
  try simp only [Act.put, List.setIfInBounds_toArray, List.set_cons_zero, List.set_cons_succ]
  refine rgl_take 8 (some 55) _ (by kernel_rfl) (by kernel_rfl) (by kernel_rfl) (by kernel_rfl) (fun _ _ _ h => h) (by kernel_rfl) (by kernel_rfl) (by intro w' hSw op_ ho; obtain ⟨sb, sx⟩ := hSw; have s0 := cell_of_heap sb 0; have x0 := cell_of_heap sx 0; have x1 := cell_of_heap sx 1; have x2 := cell_of_heap sx 2; simp only [List.getElem?_toArray, List.getElem?_cons_succ, List.getElem?_cons_zero, Option.some.injEq] at ho; subst ho; go_simp; with_reducible rfl) (by assumption) ?_
  try simp only [Act.put, List.setIfInBounds_toArray, List.set_cons_zero, List.set_cons_succ]
  refine rgl_take 9 (some 56) _ (by kernel_rfl) (by kernel_rfl) (by kernel_rfl) (by kernel_rfl) (fun _ _ _ h => h) (by kernel_rfl) (by kernel_rfl) (by intro w' hSw op_ ho; obtain ⟨sb, sx⟩ := hSw; have s0 := cell_of_heap sb 0; have x0 := cell_of_heap sx 0; have x1 := cell_of_heap sx 1; have x2 := cell_of_heap sx 2; simp only [List.getElem?_toArray, List.getElem?_cons_succ, List.getElem?_cons_zero, Option.some.injEq] at ho; subst ho; go_simp; with_reducible rfl) (by assumption) ?_
  try simp only [Act.put, List.setIfInBounds_toArray, List.set_cons_zero, List.set_cons_succ]
  refine rgl_take 10 (some 57) _ (by kernel_rfl) (by kernel_rfl) (by kernel_rfl) (by kernel_rfl) (fun _ _ _ h => h) (by kernel_rfl) (by kernel_rfl) (by intro w' hSw op_ ho; obtain ⟨sb, sx⟩ := hSw; have s0 := cell_of_heap sb 0; have x0 := cell_of_heap sx 0; have x1 := cell_of_heap sx 1; have x2 := cell_of_heap sx 2; simp only [List.getElem?_toArray, List.getElem?_cons_succ, List.getElem?_cons_zero, Option.some.injEq] at ho; subst ho; go_simp; with_reducible rfl) (by assumption) ?_
  try simp only [Act.put, List.setIfInBounds_toArray, List.set_cons_zero, List.set_cons_succ]
  refine rgl_take 11 (some 58) _ (by kernel_rfl) (by kernel_rfl) (by kernel_rfl) (by kernel_rfl) (fun _ _ _ h => h) (by kernel_rfl) (by kernel_rfl) (by intro w' hSw op_ ho; obtain ⟨sb, sx⟩ := hSw; have s0 := cell_of_heap sb 0; have x0 := cell_of_heap sx 0; have x1 := cell_of_heap sx 1; have x2 := cell_of_heap sx 2; simp only [List.getElem?_toArray, List.getElem?_cons_succ, List.getElem?_cons_zero, Option.some.injEq] at ho; subst ho; go_simp; with_reducible rfl) (by assumption) ?_
  try simp only [Act.put, List.setIfInBounds_toArray, List.set_cons_zero, List.set_cons_succ]
  refine rgl_take 12 (some 59) _ (by kernel_rfl) (by kernel_rfl) (by kernel_rfl) (by kernel_rfl) (fun _ _ _ h => h) (by kernel_rfl) (by kernel_rfl) (by intro w' hSw op_ ho; obtain ⟨sb, sx⟩ := hSw; have s0 := cell_of_heap sb 0; have x0 := cell_of_heap sx 0; have x1 := cell_of_heap sx 1; have x2 := cell_of_heap sx 2; simp only [List.getElem?_toArray, List.getElem?_cons_succ, List.getElem?_cons_zero, Option.some.injEq] at ho; subst ho; go_simp; with_reducible rfl) (by assumption) ?_
  try simp only [Act.put, List.setIfInBounds_toArray, List.set_cons_zero, List.set_cons_succ]
  refine rgl_one 13 (by kernel_rfl) (by kernel_rfl) (by decide) (fun op_ ho K hK => ?_)
  simp only [List.getElem?_toArray, List.getElem?_cons_succ, List.getElem?_cons_zero, Option.some.injEq] at ho
  subst ho
  go_simp
  go_wp2_with fail
  refine hK.out _ _ (by first | exact hHeld | exact BSq.alloc hHeld _ | exact HS9.out) (fun hHeld => ?_)
  clear hK
  try simp only [Act.put, List.setIfInBounds_toArray, List.set_cons_zero, List.set_cons_succ]
  refine rgl_one 14 (by kernel_rfl) (by kernel_rfl) (by decide) (fun op_ ho K hK => ?_)
  simp only [List.getElem?_toArray, List.getElem?_cons_succ, List.getElem?_cons_zero, Option.some.injEq] at ho
  subst ho
  have HS6 := Lib.hid hHeld
  refine step_append_E (E := encEv) rfl (.tmp 51) (.tmp 60) _ rfl ii _ 24 Tryd.underlying73 h0 q0 q1 q2 rfl (by decide) (base := u + 1) (v := .slice A N c) (L := F) (M := [(⟨x.job, x.win, x.kind == 3⟩ : Ev)]) rfl A1.out (ad := ⟨w.heap.size, 0, none⟩) (c := 1) rfl (cells_litQ [(⟨x.job, x.win, x.kind == 3⟩ : Ev)] (heap_alloc_new w.drew _)) A3.out A4.out A5.out ?_
  intro v9 w9 own9 gr9 lo9
  obtain ⟨Au, cu, rfl⟩ := own9.form
  have O9 := Lib.hid own9
  have G9 := Lib.hid gr9
  have L9 := Lib.hid lo9
  have HS9 : Hid (BSq u gx (.cells #[.slice A N c] 75 (0, 0)) (.cells #[.int .i64 x.kind, .int .i64 x.job, .int .i64 x.win] 77 (0, 0)) w9) := Lib.hid (HS6.out.grown gr9 (fun k hk => HNE.out k hk))
  clear own9 gr9 lo9
  refine hK.out _ _ (by first | exact hHeld | exact BSq.alloc hHeld _ | exact HS9.out) (fun hHeld => ?_)
  clear hK
  try simp only [Act.put, List.setIfInBounds_toArray, List.set_cons_zero, List.set_cons_succ]
  refine rgl_one 15 (by kernel_rfl) (by kernel_rfl) (by decide) (fun op_ ho K hK => ?_)
  simp only [List.getElem?_toArray, List.getElem?_cons_succ, List.getElem?_cons_zero, Option.some.injEq] at ho
  subst ho
  go_simp
  go_wp2_with fail
  refine hK.out _ _ (by first | exact hHeld | exact BSq.alloc hHeld _ | exact HS9.out) (fun hHeld => ?_)
  clear hK
  try simp only [Act.put, List.setIfInBounds_toArray, List.set_cons_zero, List.set_cons_succ]
  refine rgl_take 16 (some 63) _ (by kernel_rfl) (by kernel_rfl) (by kernel_rfl) (by kernel_rfl) (fun _ _ _ h => h) (by kernel_rfl) (by kernel_rfl) (by intro w' hSw op_ ho; obtain ⟨sb, sx⟩ := hSw; have s0 := cell_of_heap sb 0; have x0 := cell_of_heap sx 0; have x1 := cell_of_heap sx 1; have x2 := cell_of_heap sx 2; simp only [List.getElem?_toArray, List.getElem?_cons_succ, List.getElem?_cons_zero, Option.some.injEq] at ho; subst ho; go_simp; with_reducible rfl) (by assumption) ?_
  try simp only [Act.put, List.setIfInBounds_toArray, List.set_cons_zero, List.set_cons_succ]
  refine rgl_last (by kernel_rfl) (by kernel_rfl) (by kernel_rfl) (fun op_ ho K hK => ?_)
  simp only [List.getElem?_toArray, List.getElem?_cons_succ, List.getElem?_cons_zero, Option.some.injEq] at ho
  subst ho
  have sf := frozen_of_heap hHeld.1 0
  have s0 := cell_of_heap hHeld.1 0
  go_simp
  clear sf s0
  refine hK.out _ _ ?_
  clear hK
  try simp only [Act.put, List.setIfInBounds_toArray, List.set_cons_zero, List.set_cons_succ]
  go_wp2_with fail
  have hl : (F ++ [(⟨x.job, x.win, x.kind == 3⟩ : Ev)]).length = N + 1 := by rw [List.length_append, HN.out]; rfl
  have O9' := O9.out
  have L9' := L9.out
  rw [hl] at O9' L9'
  rw [HN.out]
  have hL9 : ∀ k, (Value.slice Au (N + 1) cu).ownBlock = some k → (Value.slice A N c).ownBlock = some k ∨ w.heap.size ≤ k := fun k hk => by
    rcases L9' with h | h
    · exact .inl (h ▸ hk)
    · have e : some (w.drew.alloc (.cells #[.int .i64 x.job, .int .i64 x.win, .bool (x.kind == 3)] 82)).heap.size = some k := h.symm.trans hk
      have := HBL.out.size
      cases e
      exact .inr (by omega)
  have hch9 : ChP (RqQ u (.slice A N c)) w w9 := (ChP.of_below HBL.out).grown G9.out (fun k hk => .inl (.inr hk))
  have hr9 : RqA (w9.setCell ⟨u, 0, none⟩ (.slice Au (N + 1) cu)) u (.slice Au (N + 1) cu) (F ++ [⟨x.job, x.win, x.kind == 3⟩]) := ⟨(heap_setCell_same _ _ _ _ _ _ HS9.out.1).trans rfl, O9'.same fun k hk => heap_setCell_other _ _ _ _ (by
    have := (O9'.lt k hk).1
    show k ≠ u
    omega)⟩
  exact HQ.out _ _ _ _ _ _ _ _ _ _ _ _ _ _ _ _ _ _ (HZZ.out.refs HV.out HK.out hr9 hL9 (hch9.setCell (.inl (.inl rfl)) _))

/-- What is asked behind it. -/
def spare_deedQ (u0 u1 u2 u3 u4 u7 u9 u10 u11 u12 u13 u14 u15 u16 u17 u18 u19 u20 u21 u22 u23 u24 u25 u26 u27 u28 u29 u30 u31 u32 u33 u34 u35 u84 u85 u86 u87 u88 u89 u90 u91 u92 u93 u94 u95 u96 u97 u98 u99 u100 u101 u102 u103 u104 u105 u106 u107 u108 u109 u110 u111 u112 u113 u114 u115 u116 u117 u118 u119 u120 u121 u122 u123 u124 u125 u126 u127 u128 u129 u130 u131 u132 u133 u134 u135 u136 u137 u138 u139 u140 u141 u142 u143 u144 u145 u146 u147 u148 u149 u150 u151 u152 u153 u154 u155 u156 u157 u158 u159 u160 u161 u162 u163 u164 u165 u166 u167 u168 u169 u170 u171 u172 u173 u174 u175 u176 u177 u178 u179 u180 u181 u182 u183 u184 u185 u186 u187 u188 u189 u190 u191 u192 u193 u194 u195 u196 u197 u198 u199 u200 u201 u202 u203 u204 u205 u206 u207 u208 u209 u210 u211 u212 u213 u214 u215 u216 u217 u218 u219 u220 u221 u222 u223 u224 u225 u226 u227 u228 u229 u230 u231 u232 u233 u234 u235 u236 u237 u238 u239 u240 : Value) (w0 : World) (q b u gx : Nat) (E : List Ev) (x : AcQ) (Q : Exit → Act → World → Prop) : Prop :=
  ∀ (v37 v38 v39 v40 v41 v42 v43 v44 v45 v46 v47 v48 v49 v50 v51 v52 v53 v54 v55 v56 v57 v58 v59 v60 v61 v62 v63 v64 v65 v66 v67 v68 v69 v70 v71 v72 v73 v74 v75 v76 v77 v78 v79 v80 v81 v82 v83 : Value) (w' : World), SZ w0 w' q b u (deedQ E x) (deedQ E x) (ActQ gx x) → Q .normal { tmps := #[u0, u1, u2, u3, u4, .pointer (some ⟨q, 0, none⟩), .pointer (some ⟨u, 0, none⟩), u7, .pointer (some ⟨gx, 0, none⟩), u9, u10, u11, u12, u13, u14, u15, u16, u17, u18, u19, u20, u21, u22, u23, u24, u25, u26, u27, u28, u29, u30, u31, u32, u33, u34, u35, .int .i64 x.kind, v37, v38, v39, v40, v41, v42, v43, v44, v45, v46, v47, v48, v49, v50, v51, v52, v53, v54, v55, v56, v57, v58, v59, v60, v61, v62, v63, v64, v65, v66, v67, v68, v69, v70, v71, v72, v73, v74, v75, v76, v77, v78, v79, v80, v81, v82, v83, u84, u85, u86, u87, u88, u89, u90, u91, u92, u93, u94, u95, u96, u97, u98, u99, u100, u101, u102, u103, u104, u105, u106, u107, u108, u109, u110, u111, u112, u113, u114, u115, u116, u117, u118, u119, u120, u121, u122, u123, u124, u125, u126, u127, u128, u129, u130, u131, u132, u133, u134, u135, u136, u137, u138, u139, u140, u141, u142, u143, u144, u145, u146, u147, u148, u149, u150, u151, u152, u153, u154, u155, u156, u157, u158, u159, u160, u161, u162, u163, u164, u165, u166, u167, u168, u169, u170, u171, u172, u173, u174, u175, u176, u177, u178, u179, u180, u181, u182, u183, u184, u185, u186, u187, u188, u189, u190, u191, u192, u193, u194, u195, u196, u197, u198, u199, u200, u201, u202, u203, u204, u205, u206, u207, u208, u209, u210, u211, u212, u213, u214, u215, u216, u217, u218, u219, u220, u221, u222, u223, u224, u225, u226, u227, u228, u229, u230, u231, u232, u233, u234, u235, u236, u237, u238, u239, u240], defers := [] } w'
set_option maxRecDepth 100000 in
set_option maxHeartbeats 6400000 in
/-- A deed on both sides. -/
theorem spare_deed (u0 u1 u2 u3 u4 u7 u9 u10 u11 u12 u13 u14 u15 u16 u17 u18 u19 u20 u21 u22 u23 u24 u25 u26 u27 u28 u29 u30 u31 u32 u33 u34 u35 u37 u38 u39 u40 u41 u42 u43 u44 u45 u46 u47 u48 u49 u50 u51 u52 u53 u54 u55 u56 u57 u58 u59 u60 u61 u62 u63 u64 u65 u66 u67 u68 u69 u70 u71 u72 u73 u74 u75 u76 u77 u78 u79 u80 u81 u82 u83 u84 u85 u86 u87 u88 u89 u90 u91 u92 u93 u94 u95 u96 u97 u98 u99 u100 u101 u102 u103 u104 u105 u106 u107 u108 u109 u110 u111 u112 u113 u114 u115 u116 u117 u118 u119 u120 u121 u122 u123 u124 u125 u126 u127 u128 u129 u130 u131 u132 u133 u134 u135 u136 u137 u138 u139 u140 u141 u142 u143 u144 u145 u146 u147 u148 u149 u150 u151 u152 u153 u154 u155 u156 u157 u158 u159 u160 u161 u162 u163 u164 u165 u166 u167 u168 u169 u170 u171 u172 u173 u174 u175 u176 u177 u178 u179 u180 u181 u182 u183 u184 u185 u186 u187 u188 u189 u190 u191 u192 u193 u194 u195 u196 u197 u198 u199 u200 u201 u202 u203 u204 u205 u206 u207 u208 u209 u210 u211 u212 u213 u214 u215 u216 u217 u218 u219 u220 u221 u222 u223 u224 u225 u226 u227 u228 u229 u230 u231 u232 u233 u234 u235 u236 u237 u238 u239 u240 : Value) (w0 : World) (q b u gx : Nat) (E : List Ev) (x : AcQ) (Q : Exit → Act → World → Prop) (w : World) (hZ : SZ w0 w q b u E E (ActQ gx x)) (hx : GoodAcQ x) (hE : E.length ≤ 1000)
    (hQ : spare_deedQ u0 u1 u2 u3 u4 u7 u9 u10 u11 u12 u13 u14 u15 u16 u17 u18 u19 u20 u21 u22 u23 u24 u25 u26 u27 u28 u29 u30 u31 u32 u33 u34 u35 u84 u85 u86 u87 u88 u89 u90 u91 u92 u93 u94 u95 u96 u97 u98 u99 u100 u101 u102 u103 u104 u105 u106 u107 u108 u109 u110 u111 u112 u113 u114 u115 u116 u117 u118 u119 u120 u121 u122 u123 u124 u125 u126 u127 u128 u129 u130 u131 u132 u133 u134 u135 u136 u137 u138 u139 u140 u141 u142 u143 u144 u145 u146 u147 u148 u149 u150 u151 u152 u153 u154 u155 u156 u157 u158 u159 u160 u161 u162 u163 u164 u165 u166 u167 u168 u169 u170 u171 u172 u173 u174 u175 u176 u177 u178 u179 u180 u181 u182 u183 u184 u185 u186 u187 u188 u189 u190 u191 u192 u193 u194 u195 u196 u197 u198 u199 u200 u201 u202 u203 u204 u205 u206 u207 u208 u209 u210 u211 u212 u213 u214 u215 u216 u217 u218 u219 u220 u221 u222 u223 u224 u225 u226 u227 u228 u229 u230 u231 u232 u233 u234 u235 u236 u237 u238 u239 u240 w0 q b u gx E x Q) :
    (Code.block 2 (bodyOf Tryd.f4 2)).wp Tryd.prog Q { tmps := #[u0, u1, u2, u3, u4, .pointer (some ⟨q, 0, none⟩), .pointer (some ⟨u, 0, none⟩), u7, .pointer (some ⟨gx, 0, none⟩), u9, u10, u11, u12, u13, u14, u15, u16, u17, u18, u19, u20, u21, u22, u23, u24, u25, u26, u27, u28, u29, u30, u31, u32, u33, u34, u35, .int .i64 x.kind, u37, u38, u39, u40, u41, u42, u43, u44, u45, u46, u47, u48, u49, u50, u51, u52, u53, u54, u55, u56, u57, u58, u59, u60, u61, u62, u63, u64, u65, u66, u67, u68, u69, u70, u71, u72, u73, u74, u75, u76, u77, u78, u79, u80, u81, u82, u83, u84, u85, u86, u87, u88, u89, u90, u91, u92, u93, u94, u95, u96, u97, u98, u99, u100, u101, u102, u103, u104, u105, u106, u107, u108, u109, u110, u111, u112, u113, u114, u115, u116, u117, u118, u119, u120, u121, u122, u123, u124, u125, u126, u127, u128, u129, u130, u131, u132, u133, u134, u135, u136, u137, u138, u139, u140, u141, u142, u143, u144, u145, u146, u147, u148, u149, u150, u151, u152, u153, u154, u155, u156, u157, u158, u159, u160, u161, u162, u163, u164, u165, u166, u167, u168, u169, u170, u171, u172, u173, u174, u175, u176, u177, u178, u179, u180, u181, u182, u183, u184, u185, u186, u187, u188, u189, u190, u191, u192, u193, u194, u195, u196, u197, u198, u199, u200, u201, u202, u203, u204, u205, u206, u207, u208, u209, u210, u211, u212, u213, u214, u215, u216, u217, u218, u219, u220, u221, u222, u223, u224, u225, u226, u227, u228, u229, u230, u231, u232, u233, u234, u235, u236, u237, u238, u239, u240], defers := [] } w := by
  simp only [bodyOf, Tryd.f4, blkOf, Option.bind_some, Option.orElse, Option.getD_some, Nat.reduceEqDiff, if_true, if_false, reduceCtorEq]
  have HQ := Lib.hid hQ
  have HZ := Lib.hid hZ
  have HX := Lib.hid hx
  have HE := Lib.hid hE
  obtain ⟨c0, c1, c2⟩ := ActQ.c gx x w hZ.has
  clear hQ hZ hx hE
  by_cases k4 : x.kind = 4
  · have e4 : (x.kind == 4) = true := by simpa using k4
    have HD : Hid (deedQ E x = lessE (fun k => decide (k.win < x.win)) E) := Lib.hid (by unfold deedQ; rw [if_pos k4])
    clear k4
    go_wp2_with fail
    refine (HZ.out.expire_c x.win).mono ?_
    rintro e w1 ⟨rfl, k1⟩
    have K1 := Lib.hid k1
    clear c0 c1 c2
    obtain ⟨c0, c1, c2⟩ := ActQ.c gx x w1 k1.has
    clear k1 HZ
    go_wp2_with fail
    refine (K1.out.keepw_c HE.out x.win).mono ?_
    rintro e w2 ⟨rfl, k2⟩
    have K2 := Lib.hid k2
    clear k2 K1 c0 c1 c2
    go_wp2_with fail
    have k3 := K2.out
    rw [← HD.out] at k3
    exact HQ.out _ _ _ _ _ _ _ _ _ _ _ _ _ _ _ _ _ _ _ _ _ _ _ _ _ _ _ _ _ _ _ _ _ _ _ _ _ _ _ _ _ _ _ _ _ _ _ _ k3
  · have e4 : (x.kind == 4) = false := by simpa using k4
    by_cases k5 : x.kind = 5
    · have e5 : (x.kind == 5) = true := by simpa using k5
      have HD : Hid (deedQ E x = lessE (fun k => k.job == x.job) E) := Lib.hid (by unfold deedQ; rw [if_neg k4, if_pos k5])
      clear k4 k5
      go_wp2_with fail
      refine (HZ.out.drop_c x.job).mono ?_
      rintro e w1 ⟨rfl, k1⟩
      have K1 := Lib.hid k1
      clear c0 c1 c2
      obtain ⟨c0, c1, c2⟩ := ActQ.c gx x w1 k1.has
      clear k1 HZ
      go_wp2_with fail
      refine (K1.out.keepj_c HE.out x.job).mono ?_
      rintro e w2 ⟨rfl, k2⟩
      have K2 := Lib.hid k2
      clear k2 K1 c0 c1 c2
      go_wp2_with fail
      have k3 := K2.out
      rw [← HD.out] at k3
      exact HQ.out _ _ _ _ _ _ _ _ _ _ _ _ _ _ _ _ _ _ _ _ _ _ _ _ _ _ _ _ _ _ _ _ _ _ _ _ _ _ _ _ _ _ _ _ _ _ _ _ k3
    · have e5 : (x.kind == 5) = false := by simpa using k5
      have HD : Hid (deedQ E x = E ++ [⟨x.job, x.win, x.kind == 3⟩]) := Lib.hid (by unfold deedQ; rw [if_neg k4, if_neg k5])
      clear k4 k5
      go_wp2_with fail
      refine (HZ.out.add_c ⟨x.job, x.win, x.kind == 3⟩ HX.out.2 HE.out).mono ?_
      rintro e w1 ⟨rfl, k1⟩
      have K1 := Lib.hid k1
      clear k1 HZ c0 c1 c2
      go_upto_region 12 with fail
      refine wp_reg (opsOf Tryd.f4 12) (by kernel_rfl) ?_
      refine sz12 _ _ _ _ _ _ _ _ _ _ _ _ _ _ _ _ _ _ _ _ _ _ _ _ _ _ _ _ _ _ _ _ _ _ _ _ _ _ _ _ _ _ _ _ _ _ _ _ _ _ _ _ _ _ _ _ _ _ _ _ _ _ _ _ _ _ _ _ _ _ _ _ _ _ _ _ _ _ _ _ _ _ _ _ _ _ _ _ _ _ _ _ _ _ _ _ _ _ _ _ _ _ _ _ _ _ _ _ _ _ _ _ _ _ _ _ _ _ _ _ _ _ _ _ _ _ _ _ _ _ _ _ _ _ _ _ _ _ _ _ _ _ _ _ _ _ _ _ _ _ _ _ _ _ _ _ _ _ _ _ _ _ _ _ _ _ _ _ _ _ _ _ _ _ _ _ _ _ _ _ _ _ _ _ _ _ _ _ _ _ _ _ _ _ _ _ _ _ _ _ _ _ _ _ _ _ _ _ _ _ _ _ _ _ _ _ _ _ _ _ _ _ _ _ _ _ _ _ _ _ _ _ _ _ _ _ _ _ w0 q b u gx _ E x _ _ w1 K1.out (fun _ h => h) HE.out ?_
      intro _ _ _ _ _ _ _ _ _ _ _ _ _ _ _ _ _ w2 k2
      have K2 := Lib.hid k2
      clear k2 K1
      go_wp2_with fail
      have k3 := K2.out
      rw [← HD.out] at k3
      exact HQ.out _ _ _ _ _ _ _ _ _ _ _ _ _ _ _ _ _ _ _ _ _ _ _ _ _ _ _ _ _ _ _ _ _ _ _ _ _ _ _ _ _ _ _ _ _ _ _ _ k3

end Go.Proofs.YtbfbhlpibclccaaDoor
