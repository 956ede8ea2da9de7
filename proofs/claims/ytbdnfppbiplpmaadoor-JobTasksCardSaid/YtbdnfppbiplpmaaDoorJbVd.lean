/- Pieces of the law JobTasks, walked on their own: the places, a round. Condition: the sentinels lie as the program's text lays them. -/
import Derived.Test.YtbdnfppbiplpmaaDoorJbVc
import Derived.Laws.NewBlocks
import Derived.Test.YtbdnfppbiplpmaaDoorRgC
import Derived.Deep.DeepCutAuto
import Derived.Deep.CutBlock
import Derived.Deep.RegionHeld3
import Derived.Deep.QuietTactic
import Derived.StillTailTactics
namespace Go.Proofs.YtbdnfppbiplpmaaDoor
open Go Go.RowKit Go.Maps Go.Sort

/-- What is asked behind it. -/
def tasks_atQ (u0 u1 u4 u5 u6 u7 u8 u9 u10 u11 u15 u16 u17 u18 u19 u20 u21 u22 u23 u24 u25 u26 u27 u28 u29 u30 u31 u32 u33 u34 u35 u36 u37 u38 u39 u40 u41 u42 u43 u44 u45 u46 u47 u48 u49 u50 u51 u52 u53 u54 u55 u56 u57 u58 u59 u60 u61 u62 u63 u64 u65 u66 u67 u68 u69 u70 u71 u72 u73 u74 u75 u76 u77 u78 u79 u80 u81 u82 u83 u84 u85 u86 u87 u88 u89 u90 u91 u92 u93 u94 u95 u96 u97 u98 u99 u100 u101 u102 u103 u104 u105 u106 u107 u108 u109 u110 u111 u112 u113 u114 u115 u116 u117 u118 u119 u120 u121 u122 u123 u124 u169 u170 u171 u172 u173 u174 u175 u176 u177 : Value) (w0 : World) (q p n c : Nat) (A : Option Addr) (L : List JE) (Q : Exit → Act → World → Prop) : Prop :=
  ∀ (v2 v14 v125 v126 v127 v128 v129 v130 v131 v132 v133 v134 v135 v136 v137 v138 v139 v140 v141 v142 v143 v144 v145 v146 v147 v148 v149 v150 v151 v152 v153 v154 v155 v156 v157 v158 v159 v160 v161 v162 v163 v164 v165 v166 v167 v168 : Value) (w' : World), JX w0 w' q L (fun _ => True) → Q .normal { tmps := #[u0, u1, v2, .pointer (some ⟨q, 0, none⟩), u4, u5, u6, u7, u8, u9, u10, u11, .int .i64 (p : Int), .slice A n c, v14, u15, u16, u17, u18, u19, u20, u21, u22, u23, u24, u25, u26, u27, u28, u29, u30, u31, u32, u33, u34, u35, u36, u37, u38, u39, u40, u41, u42, u43, u44, u45, u46, u47, u48, u49, u50, u51, u52, u53, u54, u55, u56, u57, u58, u59, u60, u61, u62, u63, u64, u65, u66, u67, u68, u69, u70, u71, u72, u73, u74, u75, u76, u77, u78, u79, u80, u81, u82, u83, u84, u85, u86, u87, u88, u89, u90, u91, u92, u93, u94, u95, u96, u97, u98, u99, u100, u101, u102, u103, u104, u105, u106, u107, u108, u109, u110, u111, u112, u113, u114, u115, u116, u117, u118, u119, u120, u121, u122, u123, u124, v125, v126, v127, v128, v129, v130, v131, v132, v133, v134, v135, v136, v137, v138, v139, v140, v141, v142, v143, v144, v145, v146, v147, v148, v149, v150, v151, v152, v153, v154, v155, v156, v157, v158, v159, v160, v161, v162, v163, v164, v165, v166, v167, v168, u169, u170, u171, u172, u173, u174, u175, u176, u177], defers := [] } w'
set_option maxRecDepth 100000 in
set_option maxHeartbeats 6400000 in
/-- Those at a place are there, in order. -/
theorem tasks_at (u0 u1 u2 u4 u5 u6 u7 u8 u9 u10 u11 u15 u16 u17 u18 u19 u20 u21 u22 u23 u24 u25 u26 u27 u28 u29 u30 u31 u32 u33 u34 u35 u36 u37 u38 u39 u40 u41 u42 u43 u44 u45 u46 u47 u48 u49 u50 u51 u52 u53 u54 u55 u56 u57 u58 u59 u60 u61 u62 u63 u64 u65 u66 u67 u68 u69 u70 u71 u72 u73 u74 u75 u76 u77 u78 u79 u80 u81 u82 u83 u84 u85 u86 u87 u88 u89 u90 u91 u92 u93 u94 u95 u96 u97 u98 u99 u100 u101 u102 u103 u104 u105 u106 u107 u108 u109 u110 u111 u112 u113 u114 u115 u116 u117 u118 u119 u120 u121 u122 u123 u124 u125 u126 u127 u128 u129 u130 u131 u132 u133 u134 u135 u136 u137 u138 u139 u140 u141 u142 u143 u144 u145 u146 u147 u148 u149 u150 u151 u152 u153 u154 u155 u156 u157 u158 u159 u160 u161 u162 u163 u164 u165 u166 u167 u168 u169 u170 u171 u172 u173 u174 u175 u176 u177 : Value) (s : Nat → Addr) (w0 : World) (q p bs n c : Nat) (A : Option Addr) (L : List JE) (M : List Tk) (Q : Exit → Act → World → Prop) (w : World) (hs : Sent s w0) (hK : JX w0 w q L (fun W => OwnE encTk 32 W bs (.slice A n c) M)) (hM : M = tasksJ (selA (p : Int)) L) (hMN : M.length = n)
    (hQ : tasks_atQ u0 u1 u4 u5 u6 u7 u8 u9 u10 u11 u15 u16 u17 u18 u19 u20 u21 u22 u23 u24 u25 u26 u27 u28 u29 u30 u31 u32 u33 u34 u35 u36 u37 u38 u39 u40 u41 u42 u43 u44 u45 u46 u47 u48 u49 u50 u51 u52 u53 u54 u55 u56 u57 u58 u59 u60 u61 u62 u63 u64 u65 u66 u67 u68 u69 u70 u71 u72 u73 u74 u75 u76 u77 u78 u79 u80 u81 u82 u83 u84 u85 u86 u87 u88 u89 u90 u91 u92 u93 u94 u95 u96 u97 u98 u99 u100 u101 u102 u103 u104 u105 u106 u107 u108 u109 u110 u111 u112 u113 u114 u115 u116 u117 u118 u119 u120 u121 u122 u123 u124 u169 u170 u171 u172 u173 u174 u175 u176 u177 w0 q p n c A L Q) :
    (Code.block 9 (bodyOf Tryd.f5 9)).wp Tryd.prog Q { tmps := #[u0, u1, u2, .pointer (some ⟨q, 0, none⟩), u4, u5, u6, u7, u8, u9, u10, u11, .int .i64 (p : Int), .slice A n c, .int .i64 0, u15, u16, u17, u18, u19, u20, u21, u22, u23, u24, u25, u26, u27, u28, u29, u30, u31, u32, u33, u34, u35, u36, u37, u38, u39, u40, u41, u42, u43, u44, u45, u46, u47, u48, u49, u50, u51, u52, u53, u54, u55, u56, u57, u58, u59, u60, u61, u62, u63, u64, u65, u66, u67, u68, u69, u70, u71, u72, u73, u74, u75, u76, u77, u78, u79, u80, u81, u82, u83, u84, u85, u86, u87, u88, u89, u90, u91, u92, u93, u94, u95, u96, u97, u98, u99, u100, u101, u102, u103, u104, u105, u106, u107, u108, u109, u110, u111, u112, u113, u114, u115, u116, u117, u118, u119, u120, u121, u122, u123, u124, u125, u126, u127, u128, u129, u130, u131, u132, u133, u134, u135, u136, u137, u138, u139, u140, u141, u142, u143, u144, u145, u146, u147, u148, u149, u150, u151, u152, u153, u154, u155, u156, u157, u158, u159, u160, u161, u162, u163, u164, u165, u166, u167, u168, u169, u170, u171, u172, u173, u174, u175, u176, u177], defers := [] } w := by
  simp only [bodyOf, Tryd.f5, blkOf, Option.bind_some, Option.orElse, Option.getD_some, Nat.reduceEqDiff, if_true, if_false, reduceCtorEq]
  have HQ := Lib.hid hQ
  have HS := Lib.hid hs
  have HK := Lib.hid hK
  have HM := Lib.hid hM
  have HMN := Lib.hid hMN
  have hn : n ≤ 256 := by
    rw [← hMN, hM]
    have h1 := tasksJ_len (selA (p : Int)) (L := L) fun e he => (hK.good.len he).2
    have h2 := hK.good.few
    omega
  clear hQ hs hK hM hMN
  go_wp2_with fail
  go_loopw [14] (fun I wr => ∃ i : Nat, i ≤ n ∧ I = .int .i64 (i : Int) ∧ JX w0 wr q L (fun W => OwnE encTk 32 W bs (.slice A n c) M)) (fun I _ => n - natJ I)
  case atStart => exact ⟨0, Nat.zero_le _, rfl, HK.out⟩
  case round =>
    clear HK
    obtain ⟨i, hi, rfl, hk⟩ := hrel
    have HK := Lib.hid hk
    have i0 : (0 : Int) ≤ (i : Int) := by omega
    by_cases hin : i < n
    · have i1 : (i : Int) < (n : Int) := by omega
      have hw1 : wrap64 ((i : Int) + 1) = ((i + 1 : Nat) : Int) := by unfold wrap64; omega
      obtain ⟨t, ht⟩ : ∃ t, M[i]? = some t := ⟨_, List.getElem?_eq_getElem (by have := HMN.out; omega)⟩
      obtain ⟨g, cap, hv, -, -, -, -, hcc⟩ := hk.has.some (by rw [HMN.out]; omega)
      simp only [Value.slice.injEq] at hv
      obtain ⟨rfl, -, -⟩ := hv
      have htm : t ∈ tasksJ (selA (p : Int)) L := by rw [← HM.out]; exact List.mem_of_getElem? ht
      have hwh := tasksJ_where (selA_is (p : Int)) hk.good htm
      have hti : i64 t.job := by
        obtain ⟨e, he, j, _, rfl, _⟩ := tasksJ_mem htm
        have := (goodJ_nums (hk.good.good e he).1).1
        unfold i64; simp only; omega
      have hcw : Calls Tryd.prog 47 #[.pointer (some ⟨q, 0, none⟩), .agg #[.int .i64 t.job, .int .i64 t.ix]] wr.drew fun r w' => r = .returned (.int .i64 (p : Int)) ∧ Below wr.drew.heap.size wr.drew w' := by
        obtain ⟨P, kk⟩ := hk.drew
        have := kk.book.where_c s (kk.sent HS.out) hti
        rw [hwh] at this; exact this
      have HCW := Lib.hid hcw
      have HADD : Hid (∀ k : Nat, (⟨g, 0, none⟩ : Addr).add (k * 2) = ⟨g, k * 2, none⟩) := Lib.hid fun k => by rw [Addr.add_lit, Nat.zero_add]
      have HC : Hid (wr.cell? ⟨g, i * 2, none⟩ = some (.int .i64 t.job) ∧ wr.cell? ⟨g, i * 2 + 1, none⟩ = some (.int .i64 t.ix)) := Lib.hid ⟨hcc i t ht 0 _ rfl, hcc i t ht 1 _ rfl⟩
      have HY : Hid (i ≠ 0 → ∃ (k : Nat) (y : Tk), i = k + 1 ∧ wr.cell? ⟨g, k * 2, none⟩ = some (.int .i64 y.job) ∧ wr.cell? ⟨g, k * 2 + 1, none⟩ = some (.int .i64 y.ix) ∧ lessT y t) := Lib.hid fun h0 => by
        obtain ⟨k, hk1⟩ : ∃ k, i = k + 1 := ⟨i - 1, by omega⟩
        obtain ⟨y, hy⟩ : ∃ y, M[k]? = some y := ⟨_, List.getElem?_eq_getElem (by have := HMN.out; omega)⟩
        refine ⟨k, y, hk1, hcc k y hy 0 _ rfl, hcc k y hy 1 _ rfl, ?_⟩
        obtain ⟨p1, p2⟩ := List.getElem?_eq_some_iff.1 hy
        obtain ⟨p3, p4⟩ := List.getElem?_eq_some_iff.1 ht
        have ho : M.Pairwise lessT := by rw [HM.out]; exact tasksJ_ord _ hk.good.ord
        have := List.pairwise_iff_getElem.1 ho k i p1 p3 (by omega)
        rw [p2, p4] at this; exact this
      clear hk ht hcc htm hwh hti hcw
      go_upto_region 42 with fail
      refine wp_reg (opsOf Tryd.f5 42) (by kernel_rfl) ?_
      refine tk42 _ _ _ _ _ _ _ _ _ _ _ _ _ _ _ _ _ _ _ _ _ _ _ _ _ _ _ _ _ _ _ _ _ _ _ _ _ _ _ _ _ _ _ _ _ _ _ _ _ _ _ _ _ _ _ _ _ _ _ _ _ _ _ _ _ _ _ _ _ _ _ _ _ _ _ _ _ _ _ _ _ _ _ _ _ _ _ _ _ _ _ _ _ _ _ _ _ _ _ _ _ _ _ _ _ _ _ _ _ _ _ _ _ _ _ _ _ _ _ _ _ _ _ _ _ _ _ _ _ _ _ _ _ _ _ _ _ _ _ _ _ _ _ _ _ _ _ _ _ _ _ _ _ _ _ _ _ _ _ _ _ _ _ _ _ _ _ _ _ _ _ _ _ _ q p i n c g ⟨g, 0, none⟩ t _ wr HCW.out HADD.out hin (by omega) HC.out HY.out ?_
      intro _ _ _ _ _ _ _ _ _ _ _ _ _ _ _ _ _ _ _ _ _ _ _ _ _ _ _ _ _ _ _ _ _ _ _ _ _ w5 b5
      have K5 := Lib.hid (HK.out.on b5)
      clear b5
      go_wp2_with fail
      go_roundw
      case rel => exact ⟨i + 1, by omega, by first | (rw [← hw1]; done) | (rw [← hw1]; first | rfl | (congr 1; omega)), K5.out⟩
      case measure => simp [natJ] <;> omega
    · obtain rfl : i = n := by omega
      clear hk
      go_wp2_with fail
      exact HQ.out _ _ _ _ _ _ _ _ _ _ _ _ _ _ _ _ _ _ _ _ _ _ _ _ _ _ _ _ _ _ _ _ _ _ _ _ _ _ _ _ _ _ _ _ _ _ _ (HK.out.drop fun _ _ => trivial)

/-- What is asked behind it. -/
def tasks_placesQ (u0 u1 u4 u5 u6 u7 u8 u9 u11 u15 u16 u17 u18 u19 u20 u21 u22 u23 u24 u25 u26 u27 u28 u29 u30 u31 u32 u33 u34 u35 u36 u37 u38 u39 u40 u41 u42 u43 u44 u45 u46 u47 u48 u49 u50 u51 u52 u53 u54 u55 u56 u57 u58 u59 u60 u61 u62 u63 u64 u65 u66 u67 u68 u69 u70 u71 u72 u73 u74 u75 u76 u77 u78 u79 u80 u81 u82 u83 u84 u85 u86 u87 u88 u89 u90 u91 u92 u93 u94 u95 u96 u97 u98 u99 u100 u101 u102 u103 u104 u105 u106 u107 u108 u109 u110 u111 u112 u113 u169 u170 u171 u172 u173 u174 u175 u176 u177 : Value) (w0 : World) (q n : Nat) (L : List JE) (Q : Exit → Act → World → Prop) : Prop :=
  ∀ (v2 v12 v13 v14 v114 v115 v116 v117 v118 v119 v120 v121 v122 v123 v124 v125 v126 v127 v128 v129 v130 v131 v132 v133 v134 v135 v136 v137 v138 v139 v140 v141 v142 v143 v144 v145 v146 v147 v148 v149 v150 v151 v152 v153 v154 v155 v156 v157 v158 v159 v160 v161 v162 v163 v164 v165 v166 v167 v168 : Value) (w' : World), JX w0 w' q L (fun _ => True) → Q .normal { tmps := #[u0, u1, v2, .pointer (some ⟨q, 0, none⟩), u4, u5, u6, u7, u8, u9, .int .i64 ((n : Int) + sumP 21 L), u11, v12, v13, v14, u15, u16, u17, u18, u19, u20, u21, u22, u23, u24, u25, u26, u27, u28, u29, u30, u31, u32, u33, u34, u35, u36, u37, u38, u39, u40, u41, u42, u43, u44, u45, u46, u47, u48, u49, u50, u51, u52, u53, u54, u55, u56, u57, u58, u59, u60, u61, u62, u63, u64, u65, u66, u67, u68, u69, u70, u71, u72, u73, u74, u75, u76, u77, u78, u79, u80, u81, u82, u83, u84, u85, u86, u87, u88, u89, u90, u91, u92, u93, u94, u95, u96, u97, u98, u99, u100, u101, u102, u103, u104, u105, u106, u107, u108, u109, u110, u111, u112, u113, v114, v115, v116, v117, v118, v119, v120, v121, v122, v123, v124, v125, v126, v127, v128, v129, v130, v131, v132, v133, v134, v135, v136, v137, v138, v139, v140, v141, v142, v143, v144, v145, v146, v147, v148, v149, v150, v151, v152, v153, v154, v155, v156, v157, v158, v159, v160, v161, v162, v163, v164, v165, v166, v167, v168, u169, u170, u171, u172, u173, u174, u175, u176, u177], defers := [] } w'
set_option maxRecDepth 100000 in
set_option maxHeartbeats 6400000 in
/-- All places. -/
theorem tasks_places (u0 u1 u2 u4 u5 u6 u7 u8 u9 u11 u13 u14 u15 u16 u17 u18 u19 u20 u21 u22 u23 u24 u25 u26 u27 u28 u29 u30 u31 u32 u33 u34 u35 u36 u37 u38 u39 u40 u41 u42 u43 u44 u45 u46 u47 u48 u49 u50 u51 u52 u53 u54 u55 u56 u57 u58 u59 u60 u61 u62 u63 u64 u65 u66 u67 u68 u69 u70 u71 u72 u73 u74 u75 u76 u77 u78 u79 u80 u81 u82 u83 u84 u85 u86 u87 u88 u89 u90 u91 u92 u93 u94 u95 u96 u97 u98 u99 u100 u101 u102 u103 u104 u105 u106 u107 u108 u109 u110 u111 u112 u113 u114 u115 u116 u117 u118 u119 u120 u121 u122 u123 u124 u125 u126 u127 u128 u129 u130 u131 u132 u133 u134 u135 u136 u137 u138 u139 u140 u141 u142 u143 u144 u145 u146 u147 u148 u149 u150 u151 u152 u153 u154 u155 u156 u157 u158 u159 u160 u161 u162 u163 u164 u165 u166 u167 u168 u169 u170 u171 u172 u173 u174 u175 u176 u177 : Value) (s : Nat → Addr) (w0 : World) (q n : Nat) (L : List JE) (Q : Exit → Act → World → Prop) (w : World) (hs : Sent s w0) (hK : JX w0 w q L (fun _ => True)) (hn : n ≤ 256)
    (hQ : tasks_placesQ u0 u1 u4 u5 u6 u7 u8 u9 u11 u15 u16 u17 u18 u19 u20 u21 u22 u23 u24 u25 u26 u27 u28 u29 u30 u31 u32 u33 u34 u35 u36 u37 u38 u39 u40 u41 u42 u43 u44 u45 u46 u47 u48 u49 u50 u51 u52 u53 u54 u55 u56 u57 u58 u59 u60 u61 u62 u63 u64 u65 u66 u67 u68 u69 u70 u71 u72 u73 u74 u75 u76 u77 u78 u79 u80 u81 u82 u83 u84 u85 u86 u87 u88 u89 u90 u91 u92 u93 u94 u95 u96 u97 u98 u99 u100 u101 u102 u103 u104 u105 u106 u107 u108 u109 u110 u111 u112 u113 u169 u170 u171 u172 u173 u174 u175 u176 u177 w0 q n L Q) :
    (Code.block 7 (bodyOf Tryd.f5 7)).wp Tryd.prog Q { tmps := #[u0, u1, u2, .pointer (some ⟨q, 0, none⟩), u4, u5, u6, u7, u8, u9, .int .i64 (n : Int), u11, .int .i64 0, u13, u14, u15, u16, u17, u18, u19, u20, u21, u22, u23, u24, u25, u26, u27, u28, u29, u30, u31, u32, u33, u34, u35, u36, u37, u38, u39, u40, u41, u42, u43, u44, u45, u46, u47, u48, u49, u50, u51, u52, u53, u54, u55, u56, u57, u58, u59, u60, u61, u62, u63, u64, u65, u66, u67, u68, u69, u70, u71, u72, u73, u74, u75, u76, u77, u78, u79, u80, u81, u82, u83, u84, u85, u86, u87, u88, u89, u90, u91, u92, u93, u94, u95, u96, u97, u98, u99, u100, u101, u102, u103, u104, u105, u106, u107, u108, u109, u110, u111, u112, u113, u114, u115, u116, u117, u118, u119, u120, u121, u122, u123, u124, u125, u126, u127, u128, u129, u130, u131, u132, u133, u134, u135, u136, u137, u138, u139, u140, u141, u142, u143, u144, u145, u146, u147, u148, u149, u150, u151, u152, u153, u154, u155, u156, u157, u158, u159, u160, u161, u162, u163, u164, u165, u166, u167, u168, u169, u170, u171, u172, u173, u174, u175, u176, u177], defers := [] } w := by
  simp only [bodyOf, Tryd.f5, blkOf, Option.bind_some, Option.orElse, Option.getD_some, Nat.reduceEqDiff, if_true, if_false, reduceCtorEq]
  have HQ := Lib.hid hQ
  have HS := Lib.hid hs
  have HK := Lib.hid hK
  have HN := Lib.hid hn
  have HL8 : Hid (∀ e ∈ L, e.pl.length ≤ 8) := Lib.hid fun e he => (hK.good.len he).2
  have HF : Hid (L.length ≤ 32) := Lib.hid hK.good.few
  clear hQ hs hK hn
  go_wp2_with fail
  go_loopw [10, 12] (fun V I wr => ∃ p : Nat, p ≤ 21 ∧ I = .int .i64 (p : Int) ∧ V = .int .i64 ((n : Int) + sumP p L) ∧ JX w0 wr q L (fun _ => True)) (fun _ I _ => 21 - natJ I)
  case atStart => exact ⟨0, by omega, rfl, by rw [sumP_zero, Int.add_zero], HK.out⟩
  case round =>
    clear HK
    obtain ⟨p, hp, rfl, rfl, hk⟩ := hrel
    have HK := Lib.hid hk
    clear hk
    by_cases hp21 : p < 21
    · have dp : decide ((p : Int) ≤ 20) = true := decide_eq_true (by omega)
      have hp0 : (0 : Int) ≤ (p : Int) := by omega
      have hw1 : wrap64 ((p : Int) + 1) = ((p + 1 : Nat) : Int) := by unfold wrap64; omega
      obtain ⟨M, hM⟩ : ∃ M, M = tasksJ (selA (p : Int)) L := ⟨_, rfl⟩
      obtain ⟨m, hm⟩ : ∃ m, M.length = m := ⟨_, rfl⟩
      have hca := HK.out.at_c hp0
      rw [← hM, hm] at hca
      have hs1 := sumP_succ p L
      have hb1 := sumP_bd p HL8.out
      rw [← hM, hm] at hs1
      have hbm : m ≤ 256 := by
        rw [← hm, hM]
        have h1 := tasksJ_len (selA (p : Int)) HL8.out
        have h2 := HF.out
        omega
      have hb2 : sumP p L ≤ 8 * 32 * 21 := by
        have h2 := HF.out
        have h3 : 8 * (L.length : Int) * (p : Int) ≤ 8 * 32 * 21 := Int.mul_le_mul (by omega) (by omega) (by omega) (by omega)
        omega
      obtain ⟨a, ha⟩ : ∃ a, (n : Int) + sumP p L = a := ⟨_, rfl⟩
      have hws : wrap64 (a + (m : Int)) = (n : Int) + sumP (p + 1) L := by rw [hs1, ← ha]; have := HN.out; unfold wrap64; omega
      rw [ha]
      have HCA := Lib.hid hca; have HM := Lib.hid hM; have HMN := Lib.hid hm; have HWS := Lib.hid hws
      clear hca hM hm hs1 hb1 hbm hb2 ha hws
      go_wp2_with fail
      refine HCA.out.mono ?_
      rintro r w5 ⟨A, c, rfl, k5⟩
      have K5 := Lib.hid (k5.drop (K' := fun W => OwnE encTk 32 W wr.heap.size (.slice A m c) M) fun _ h => h.2)
      clear k5 HCA
      go_upto_block 9 with fail
      rw [HWS.out]
      refine wp_blk (bodyOf Tryd.f5 9) (by kernel_rfl) ?_
      refine tasks_at _ _ _ _ _ _ _ _ _ _ _ _ _ _ _ _ _ _ _ _ _ _ _ _ _ _ _ _ _ _ _ _ _ _ _ _ _ _ _ _ _ _ _ _ _ _ _ _ _ _ _ _ _ _ _ _ _ _ _ _ _ _ _ _ _ _ _ _ _ _ _ _ _ _ _ _ _ _ _ _ _ _ _ _ _ _ _ _ _ _ _ _ _ _ _ _ _ _ _ _ _ _ _ _ _ _ _ _ _ _ _ _ _ _ _ _ _ _ _ _ _ _ _ _ _ _ _ _ _ _ _ _ _ _ _ _ _ _ _ _ _ _ _ _ _ _ _ _ _ _ _ _ _ _ _ _ _ _ _ _ _ _ _ _ _ _ _ _ _ _ _ _ _ _ s w0 q p wr.heap.size m c A L M _ w5 HS.out K5.out HM.out HMN.out ?_
      intro _ _ _ _ _ _ _ _ _ _ _ _ _ _ _ _ _ _ _ _ _ _ _ _ _ _ _ _ _ _ _ _ _ _ _ _ _ _ _ _ _ _ _ _ _ _ w6 k6
      have K6 := Lib.hid k6
      clear k6
      go_wp2_with fail
      go_roundw
      case rel => exact ⟨p + 1, by omega, by first | (rw [← hw1]; done) | (rw [← hw1]; first | rfl | (congr 1; omega)), rfl, K6.out⟩
      case measure => simp [natJ] <;> omega
    · obtain rfl : p = 21 := by omega
      go_wp2_with fail
      exact HQ.out _ _ _ _ _ _ _ _ _ _ _ _ _ _ _ _ _ _ _ _ _ _ _ _ _ _ _ _ _ _ _ _ _ _ _ _ _ _ _ _ _ _ _ _ _ _ _ _ _ _ _ _ _ _ _ _ _ _ _ _ HK.out

end Go.Proofs.YtbdnfppbiplpmaaDoor
