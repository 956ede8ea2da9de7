/- A piece of the law JobTasks, walked on its own: a deed. Condition: the sentinels lie as the program's text lays them. -/
import Derived.Test.YtbdnfppbiplpmaaDoorJbY
import Derived.Test.YtbdnfppbiplpmaaDoorJbAc
import Derived.Test.YtbdnfppbiplpmaaDoorJbN
import Derived.Test.YtbdnfppbiplpmaaDoorMd
import Derived.Test.YtbdnfppbiplpmaaDoorRgC
import Derived.Deep.DeepCutAuto
import Derived.Deep.CutBlock
import Derived.Deep.RegionHeld3
import Derived.Deep.QuietTactic
import Derived.StillTailTactics
namespace Go.Proofs.YtbdnfppbiplpmaaDoor
open Go Go.RowKit Go.Maps Go.Sort

/-- The deed's box, its job on machines. -/
def ActJ (gx : Nat) (x : AcJ) (W : World) : Prop := W.heap[gx]? = some (.cells #[.int .i64 x.kind, .int .i64 x.job.id, .int .i64 x.job.tenant, .int .i64 x.job.cell, .int .i64 x.job.band, .int .i64 x.job.tasks, .int .i64 x.job.need.a, .int .i64 x.job.need.b, .int .i64 x.job.need.c, .int .i64 x.job.need.d, .int .i64 x.job.first, .int .i64 x.job.windows, .int .i64 x.job.budget, .bool x.job.env, .int .i64 0, .int .i64 x.tk.job, .int .i64 x.tk.ix, .int .i64 x.n] 80 (0, 0))
def set0 (j : JR) : JR := ⟨j.id, j.tenant, j.cell, j.band, j.tasks, j.need, j.first, j.windows, j.budget, j.env, 0⟩
theorem mod21 (n : Int) : ∃ p : Nat, p ≤ 20 ∧ wrap64 ((IntKind.u64.wrap n).tmod 21) = (p : Int) := by
  obtain ⟨p, hp, h⟩ := mod_pos n 21 (by omega) (by omega)
  exact ⟨p, by omega, h⟩

/-- What is asked behind it. -/
def tasks_deedQ (u0 u1 u2 u4 u6 u7 u8 u9 u10 u11 u12 u13 u14 u15 u16 u17 u18 u19 u20 u21 u22 u23 u24 u25 u26 u27 u28 u29 u30 u31 u32 u33 u34 u66 u67 u68 u69 u70 u71 u72 u73 u74 u75 u76 u77 u78 u79 u80 u81 u82 u83 u84 u85 u86 u87 u88 u89 u90 u91 u92 u93 u94 u95 u96 u97 u98 u99 u100 u101 u102 u103 u104 u105 u106 u107 u108 u109 u110 u111 u112 u113 u114 u115 u116 u117 u118 u119 u120 u121 u122 u123 u124 u125 u126 u127 u128 u129 u130 u131 u132 u133 u134 u135 u136 u137 u138 u139 u140 u141 u142 u143 u144 u145 u146 u147 u148 u149 u150 u151 u152 u153 u154 u155 u156 u157 u158 u159 u160 u161 u162 u163 u164 u165 u166 u167 u168 u169 u170 u171 u172 u173 u174 u175 u176 u177 : Value) (w0 : World) (q gx : Nat) (x : AcJ) (Q : Exit → Act → World → Prop) : Prop :=
  ∀ (v36 v37 v38 v39 v40 v41 v42 v43 v44 v45 v46 v47 v48 v49 v50 v51 v52 v53 v54 v55 v56 v57 v58 v59 v60 v61 v62 v63 v64 v65 : Value) (w' : World) (L' : List JE), JX w0 w' q L' (ActJ gx x) → TI L' → Q .normal { tmps := #[u0, u1, u2, .pointer (some ⟨q, 0, none⟩), u4, .pointer (some ⟨gx, 0, none⟩), u6, u7, u8, u9, u10, u11, u12, u13, u14, u15, u16, u17, u18, u19, u20, u21, u22, u23, u24, u25, u26, u27, u28, u29, u30, u31, u32, u33, u34, .int .i64 x.kind, v36, v37, v38, v39, v40, v41, v42, v43, v44, v45, v46, v47, v48, v49, v50, v51, v52, v53, v54, v55, v56, v57, v58, v59, v60, v61, v62, v63, v64, v65, u66, u67, u68, u69, u70, u71, u72, u73, u74, u75, u76, u77, u78, u79, u80, u81, u82, u83, u84, u85, u86, u87, u88, u89, u90, u91, u92, u93, u94, u95, u96, u97, u98, u99, u100, u101, u102, u103, u104, u105, u106, u107, u108, u109, u110, u111, u112, u113, u114, u115, u116, u117, u118, u119, u120, u121, u122, u123, u124, u125, u126, u127, u128, u129, u130, u131, u132, u133, u134, u135, u136, u137, u138, u139, u140, u141, u142, u143, u144, u145, u146, u147, u148, u149, u150, u151, u152, u153, u154, u155, u156, u157, u158, u159, u160, u161, u162, u163, u164, u165, u166, u167, u168, u169, u170, u171, u172, u173, u174, u175, u176, u177], defers := [] } w'
set_option maxRecDepth 100000 in
set_option maxHeartbeats 6400000 in
/-- A deed. -/
theorem tasks_deed (u0 u1 u2 u4 u6 u7 u8 u9 u10 u11 u12 u13 u14 u15 u16 u17 u18 u19 u20 u21 u22 u23 u24 u25 u26 u27 u28 u29 u30 u31 u32 u33 u34 u36 u37 u38 u39 u40 u41 u42 u43 u44 u45 u46 u47 u48 u49 u50 u51 u52 u53 u54 u55 u56 u57 u58 u59 u60 u61 u62 u63 u64 u65 u66 u67 u68 u69 u70 u71 u72 u73 u74 u75 u76 u77 u78 u79 u80 u81 u82 u83 u84 u85 u86 u87 u88 u89 u90 u91 u92 u93 u94 u95 u96 u97 u98 u99 u100 u101 u102 u103 u104 u105 u106 u107 u108 u109 u110 u111 u112 u113 u114 u115 u116 u117 u118 u119 u120 u121 u122 u123 u124 u125 u126 u127 u128 u129 u130 u131 u132 u133 u134 u135 u136 u137 u138 u139 u140 u141 u142 u143 u144 u145 u146 u147 u148 u149 u150 u151 u152 u153 u154 u155 u156 u157 u158 u159 u160 u161 u162 u163 u164 u165 u166 u167 u168 u169 u170 u171 u172 u173 u174 u175 u176 u177 : Value) (s : Nat → Addr) (w0 : World) (q gx : Nat) (L : List JE) (x : AcJ) (Q : Exit → Act → World → Prop) (w : World) (hs : Sent s w0) (hK : JX w0 w q L (ActJ gx x)) (hx : GoodAcJ x) (hT : TI L)
    (hQ : tasks_deedQ u0 u1 u2 u4 u6 u7 u8 u9 u10 u11 u12 u13 u14 u15 u16 u17 u18 u19 u20 u21 u22 u23 u24 u25 u26 u27 u28 u29 u30 u31 u32 u33 u34 u66 u67 u68 u69 u70 u71 u72 u73 u74 u75 u76 u77 u78 u79 u80 u81 u82 u83 u84 u85 u86 u87 u88 u89 u90 u91 u92 u93 u94 u95 u96 u97 u98 u99 u100 u101 u102 u103 u104 u105 u106 u107 u108 u109 u110 u111 u112 u113 u114 u115 u116 u117 u118 u119 u120 u121 u122 u123 u124 u125 u126 u127 u128 u129 u130 u131 u132 u133 u134 u135 u136 u137 u138 u139 u140 u141 u142 u143 u144 u145 u146 u147 u148 u149 u150 u151 u152 u153 u154 u155 u156 u157 u158 u159 u160 u161 u162 u163 u164 u165 u166 u167 u168 u169 u170 u171 u172 u173 u174 u175 u176 u177 w0 q gx x Q) :
    (Code.block 2 (bodyOf Tryd.f5 2)).wp Tryd.prog Q { tmps := #[u0, u1, u2, .pointer (some ⟨q, 0, none⟩), u4, .pointer (some ⟨gx, 0, none⟩), u6, u7, u8, u9, u10, u11, u12, u13, u14, u15, u16, u17, u18, u19, u20, u21, u22, u23, u24, u25, u26, u27, u28, u29, u30, u31, u32, u33, u34, .int .i64 x.kind, u36, u37, u38, u39, u40, u41, u42, u43, u44, u45, u46, u47, u48, u49, u50, u51, u52, u53, u54, u55, u56, u57, u58, u59, u60, u61, u62, u63, u64, u65, u66, u67, u68, u69, u70, u71, u72, u73, u74, u75, u76, u77, u78, u79, u80, u81, u82, u83, u84, u85, u86, u87, u88, u89, u90, u91, u92, u93, u94, u95, u96, u97, u98, u99, u100, u101, u102, u103, u104, u105, u106, u107, u108, u109, u110, u111, u112, u113, u114, u115, u116, u117, u118, u119, u120, u121, u122, u123, u124, u125, u126, u127, u128, u129, u130, u131, u132, u133, u134, u135, u136, u137, u138, u139, u140, u141, u142, u143, u144, u145, u146, u147, u148, u149, u150, u151, u152, u153, u154, u155, u156, u157, u158, u159, u160, u161, u162, u163, u164, u165, u166, u167, u168, u169, u170, u171, u172, u173, u174, u175, u176, u177], defers := [] } w := by
  simp only [bodyOf, Tryd.f5, blkOf, Option.bind_some, Option.orElse, Option.getD_some, Nat.reduceEqDiff, if_true, if_false, reduceCtorEq]
  have HQ := Lib.hid hQ
  have HS := Lib.hid hs
  have HK := Lib.hid hK
  have HX := Lib.hid hx
  have HT := Lib.hid hT
  have hbox : w.heap[gx]? = some (.cells #[.int .i64 x.kind, .int .i64 x.job.id, .int .i64 x.job.tenant, .int .i64 x.job.cell, .int .i64 x.job.band, .int .i64 x.job.tasks, .int .i64 x.job.need.a, .int .i64 x.job.need.b, .int .i64 x.job.need.c, .int .i64 x.job.need.d, .int .i64 x.job.first, .int .i64 x.job.windows, .int .i64 x.job.budget, .bool x.job.env, .int .i64 0, .int .i64 x.tk.job, .int .i64 x.tk.ix, .int .i64 x.n] 80 (0, 0)) := hK.has
  have c0 := cell_of_heap hbox 0
  have c1 := cell_of_heap hbox 1
  have c2 := cell_of_heap hbox 2
  have c3 := cell_of_heap hbox 3
  have c4 := cell_of_heap hbox 4
  have c5 := cell_of_heap hbox 5
  have c6 := cell_of_heap hbox 6
  have c7 := cell_of_heap hbox 7
  have c8 := cell_of_heap hbox 8
  have c9 := cell_of_heap hbox 9
  have c10 := cell_of_heap hbox 10
  have c11 := cell_of_heap hbox 11
  have c12 := cell_of_heap hbox 12
  have c13 := cell_of_heap hbox 13
  have c14 := cell_of_heap hbox 14
  have c15 := cell_of_heap hbox 15
  have c16 := cell_of_heap hbox 16
  have c17 := cell_of_heap hbox 17
  simp at c0 c1 c2 c3 c4 c5 c6 c7 c8 c9 c10 c11 c12 c13 c14 c15 c16 c17
  obtain ⟨p, hp, hmod⟩ := mod21 x.n
  have HP := Lib.hid hp; have HMD := Lib.hid hmod
  clear hQ hs hK hx hT hbox hp hmod
  by_cases k3 : x.kind = 3
  · have e3 : (x.kind == 3) = true := by simpa using k3
    clear k3
    go_wp2_with fail
    refine (HK.out.drop_c HS.out HX.out.2.1.1).mono ?_
    rintro e w9 ⟨rfl, k9⟩
    have K9 := Lib.hid k9
    clear k9 c0 c1 c2 c3 c4 c5 c6 c7 c8 c9 c10 c11 c12 c13 c14 c15 c16 c17
    go_wp2_with fail
    exact HQ.out _ _ _ _ _ _ _ _ _ _ _ _ _ _ _ _ _ _ _ _ _ _ _ _ _ _ _ _ _ _ _ _ K9.out (HT.out.drop _)
  · have e3 : (x.kind == 3) = false := by simpa using k3
    clear k3
    by_cases k4 : x.kind = 4
    · have e4 : (x.kind == 4) = true := by simpa using k4
      clear k4
      go_wp2_with fail
      rw [HMD.out]
      refine (HK.out.put_c HS.out (t := x.tk) HX.out.2.2.1.1 (p : Int)).mono ?_
      rintro e w9 ⟨rfl, k9⟩
      have K9 := Lib.hid k9
      clear k9 c0 c1 c2 c3 c4 c5 c6 c7 c8 c9 c10 c11 c12 c13 c14 c15 c16 c17
      go_wp2_with fail
      exact HQ.out _ _ _ _ _ _ _ _ _ _ _ _ _ _ _ _ _ _ _ _ _ _ _ _ _ _ _ _ _ _ _ _ K9.out (HT.out.put _ (by have := HP.out; omega))
    · have e4 : (x.kind == 4) = false := by simpa using k4
      clear k4
      by_cases k5 : x.kind = 5
      · have e5 : (x.kind == 5) = true := by simpa using k5
        clear k5
        go_wp2_with fail
        rw [HMD.out]
        refine (HK.out.put_c HS.out (t := x.tk) HX.out.2.2.1.1 (p : Int)).mono ?_
        rintro e w9 ⟨rfl, k9⟩
        have K9 := Lib.hid k9
        clear k9 c0 c1 c2 c3 c4 c5 c6 c7 c8 c9 c10 c11 c12 c13 c14 c15 c16 c17
        go_wp2_with fail
        exact HQ.out _ _ _ _ _ _ _ _ _ _ _ _ _ _ _ _ _ _ _ _ _ _ _ _ _ _ _ _ _ _ _ _ K9.out (HT.out.put _ (by have := HP.out; omega))
      · have e5 : (x.kind == 5) = false := by simpa using k5
        clear k5
        by_cases k6 : x.kind = 6
        · have e6 : (x.kind == 6) = true := by simpa using k6
          clear k6
          go_wp2_with fail
          rw [HMD.out]
          refine (HK.out.put_c HS.out (t := x.tk) HX.out.2.2.1.1 (p : Int)).mono ?_
          rintro e w9 ⟨rfl, k9⟩
          have K9 := Lib.hid k9
          clear k9 c0 c1 c2 c3 c4 c5 c6 c7 c8 c9 c10 c11 c12 c13 c14 c15 c16 c17
          go_wp2_with fail
          exact HQ.out _ _ _ _ _ _ _ _ _ _ _ _ _ _ _ _ _ _ _ _ _ _ _ _ _ _ _ _ _ _ _ _ K9.out (HT.out.put _ (by have := HP.out; omega))
        · have e6 : (x.kind == 6) = false := by simpa using k6
          clear k6
          by_cases k7 : x.kind = 7
          · have e7 : (x.kind == 7) = true := by simpa using k7
            clear k7
            go_wp2_with fail
            refine (HK.out.wait_c HS.out (t := x.tk) HX.out.2.2.1.1).mono ?_
            rintro e w9 ⟨rfl, k9⟩
            have K9 := Lib.hid k9
            clear k9 c0 c1 c2 c3 c4 c5 c6 c7 c8 c9 c10 c11 c12 c13 c14 c15 c16 c17
            go_wp2_with fail
            exact HQ.out _ _ _ _ _ _ _ _ _ _ _ _ _ _ _ _ _ _ _ _ _ _ _ _ _ _ _ _ _ _ _ _ K9.out (HT.out.wait _)
          · have e7 : (x.kind == 7) = false := by simpa using k7
            clear k7
            go_wp2_with fail
            refine (HK.out.add_c HS.out (set0 x.job)).mono ?_
            rintro e w9 ⟨rfl, k9⟩
            have K9 := Lib.hid k9
            clear k9 c0 c1 c2 c3 c4 c5 c6 c7 c8 c9 c10 c11 c12 c13 c14 c15 c16 c17
            go_wp2_with fail
            exact HQ.out _ _ _ _ _ _ _ _ _ _ _ _ _ _ _ _ _ _ _ _ _ _ _ _ _ _ _ _ _ _ _ _ K9.out (HT.out.add rfl)

end Go.Proofs.YtbdnfppbiplpmaaDoor
