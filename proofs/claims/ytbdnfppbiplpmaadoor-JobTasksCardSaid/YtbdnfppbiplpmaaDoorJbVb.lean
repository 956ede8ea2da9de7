/- Pieces of the law JobTasks, walked on their own: the jobs, those that wait. Condition: the sentinels lie as the program's text lays them. -/
import Derived.Test.YtbdnfppbiplpmaaDoorJbVa
import Derived.Test.YtbdnfppbiplpmaaDoorRgC
import Derived.Deep.DeepCutAuto
import Derived.Deep.CutBlock
import Derived.Deep.RegionHeld3
import Derived.Deep.QuietTactic
import Derived.StillTailTactics
namespace Go.Proofs.YtbdnfppbiplpmaaDoor
open Go Go.RowKit Go.Maps Go.Sort

/-- What is asked behind it. -/
def tasks_jobsQ (u0 u1 u3 u4 u5 u9 u10 u11 u12 u13 u14 u15 u16 u17 u18 u19 u20 u21 u22 u23 u24 u25 u26 u27 u28 u29 u30 u31 u32 u33 u34 u35 u36 u37 u38 u39 u40 u41 u42 u43 u44 u45 u46 u47 u48 u49 u50 u51 u52 u53 u54 u55 u56 u57 u58 u59 u60 u61 u62 u63 u64 u65 u66 u67 u97 u98 u99 u100 u101 u102 u103 u104 u105 u106 u107 u108 u109 u110 u111 u112 u113 u114 u115 u116 u117 u118 u119 u120 u121 u122 u123 u124 u125 u126 u127 u128 u129 u130 u131 u132 u133 u134 u135 u136 u137 u138 u139 u140 u141 u142 u143 u144 u145 u146 u147 u148 u149 u150 u151 u152 u153 u154 u155 u156 u157 u158 u159 u160 u161 u162 u163 u164 u165 u166 u167 u168 u169 u170 u171 u172 u173 u174 u175 u176 u177 : Value) (A : Option Addr) (N c : Nat) (L : List JE) (Q : Exit → Act → World → Prop) (w : World) : Prop :=
  ∀ (v2 v8 v68 v69 v70 v71 v72 v73 v74 v75 v76 v77 v78 v79 v80 v81 v82 v83 v84 v85 v86 v87 v88 v89 v90 v91 v92 v93 v94 v95 v96 : Value) (w' : World), Below w.heap.size w w' → Q .normal { tmps := #[u0, u1, v2, u3, u4, u5, .slice A N c, .int .i64 (allT L), v8, u9, u10, u11, u12, u13, u14, u15, u16, u17, u18, u19, u20, u21, u22, u23, u24, u25, u26, u27, u28, u29, u30, u31, u32, u33, u34, u35, u36, u37, u38, u39, u40, u41, u42, u43, u44, u45, u46, u47, u48, u49, u50, u51, u52, u53, u54, u55, u56, u57, u58, u59, u60, u61, u62, u63, u64, u65, u66, u67, v68, v69, v70, v71, v72, v73, v74, v75, v76, v77, v78, v79, v80, v81, v82, v83, v84, v85, v86, v87, v88, v89, v90, v91, v92, v93, v94, v95, v96, u97, u98, u99, u100, u101, u102, u103, u104, u105, u106, u107, u108, u109, u110, u111, u112, u113, u114, u115, u116, u117, u118, u119, u120, u121, u122, u123, u124, u125, u126, u127, u128, u129, u130, u131, u132, u133, u134, u135, u136, u137, u138, u139, u140, u141, u142, u143, u144, u145, u146, u147, u148, u149, u150, u151, u152, u153, u154, u155, u156, u157, u158, u159, u160, u161, u162, u163, u164, u165, u166, u167, u168, u169, u170, u171, u172, u173, u174, u175, u176, u177], defers := [] } w'
set_option maxRecDepth 100000 in
set_option maxHeartbeats 6400000 in
/-- The jobs are told in order. -/
theorem tasks_jobs (u0 u1 u2 u3 u4 u5 u9 u10 u11 u12 u13 u14 u15 u16 u17 u18 u19 u20 u21 u22 u23 u24 u25 u26 u27 u28 u29 u30 u31 u32 u33 u34 u35 u36 u37 u38 u39 u40 u41 u42 u43 u44 u45 u46 u47 u48 u49 u50 u51 u52 u53 u54 u55 u56 u57 u58 u59 u60 u61 u62 u63 u64 u65 u66 u67 u68 u69 u70 u71 u72 u73 u74 u75 u76 u77 u78 u79 u80 u81 u82 u83 u84 u85 u86 u87 u88 u89 u90 u91 u92 u93 u94 u95 u96 u97 u98 u99 u100 u101 u102 u103 u104 u105 u106 u107 u108 u109 u110 u111 u112 u113 u114 u115 u116 u117 u118 u119 u120 u121 u122 u123 u124 u125 u126 u127 u128 u129 u130 u131 u132 u133 u134 u135 u136 u137 u138 u139 u140 u141 u142 u143 u144 u145 u146 u147 u148 u149 u150 u151 u152 u153 u154 u155 u156 u157 u158 u159 u160 u161 u162 u163 u164 u165 u166 u167 u168 u169 u170 u171 u172 u173 u174 u175 u176 u177 : Value) (A : Option Addr) (N c : Nat) (L : List JE) (Q : Exit → Act → World → Prop) (w : World) (hg : GJ L) (hr : ReadsE encJR w A (L.map (·.job))) (hN : L.length = N)
    (hQ : tasks_jobsQ u0 u1 u3 u4 u5 u9 u10 u11 u12 u13 u14 u15 u16 u17 u18 u19 u20 u21 u22 u23 u24 u25 u26 u27 u28 u29 u30 u31 u32 u33 u34 u35 u36 u37 u38 u39 u40 u41 u42 u43 u44 u45 u46 u47 u48 u49 u50 u51 u52 u53 u54 u55 u56 u57 u58 u59 u60 u61 u62 u63 u64 u65 u66 u67 u97 u98 u99 u100 u101 u102 u103 u104 u105 u106 u107 u108 u109 u110 u111 u112 u113 u114 u115 u116 u117 u118 u119 u120 u121 u122 u123 u124 u125 u126 u127 u128 u129 u130 u131 u132 u133 u134 u135 u136 u137 u138 u139 u140 u141 u142 u143 u144 u145 u146 u147 u148 u149 u150 u151 u152 u153 u154 u155 u156 u157 u158 u159 u160 u161 u162 u163 u164 u165 u166 u167 u168 u169 u170 u171 u172 u173 u174 u175 u176 u177 A N c L Q w) :
    (Code.block 3 (bodyOf Tryd.f5 3)).wp Tryd.prog Q { tmps := #[u0, u1, u2, u3, u4, u5, .slice A N c, .int .i64 0, .int .i64 0, u9, u10, u11, u12, u13, u14, u15, u16, u17, u18, u19, u20, u21, u22, u23, u24, u25, u26, u27, u28, u29, u30, u31, u32, u33, u34, u35, u36, u37, u38, u39, u40, u41, u42, u43, u44, u45, u46, u47, u48, u49, u50, u51, u52, u53, u54, u55, u56, u57, u58, u59, u60, u61, u62, u63, u64, u65, u66, u67, u68, u69, u70, u71, u72, u73, u74, u75, u76, u77, u78, u79, u80, u81, u82, u83, u84, u85, u86, u87, u88, u89, u90, u91, u92, u93, u94, u95, u96, u97, u98, u99, u100, u101, u102, u103, u104, u105, u106, u107, u108, u109, u110, u111, u112, u113, u114, u115, u116, u117, u118, u119, u120, u121, u122, u123, u124, u125, u126, u127, u128, u129, u130, u131, u132, u133, u134, u135, u136, u137, u138, u139, u140, u141, u142, u143, u144, u145, u146, u147, u148, u149, u150, u151, u152, u153, u154, u155, u156, u157, u158, u159, u160, u161, u162, u163, u164, u165, u166, u167, u168, u169, u170, u171, u172, u173, u174, u175, u176, u177], defers := [] } w := by
  simp only [bodyOf, Tryd.f5, blkOf, Option.bind_some, Option.orElse, Option.getD_some, Nat.reduceEqDiff, if_true, if_false, reduceCtorEq]
  have HQ := Lib.hid hQ
  have HG := Lib.hid hg
  have HR : Hid (∀ W, Below w.heap.size w W → ReadsE encJR W A (L.map (·.job))) := Lib.hid fun W hb => hr.on hb
  have HNN := Lib.hid hN
  have hn32 : N ≤ 32 := by rw [← hN]; exact hg.few
  clear hQ hg hr hN
  go_wp2_with fail
  go_loopw [7, 8] (fun V I wr => ∃ i : Nat, i ≤ N ∧ I = .int .i64 (i : Int) ∧ V = .int .i64 (allT (L.take i)) ∧ Below w.heap.size w wr) (fun _ I _ => N - natJ I)
  case atStart => exact ⟨0, Nat.zero_le _, rfl, rfl, Below.refl _ _⟩
  case round =>
    obtain ⟨i, hi, rfl, rfl, hb⟩ := hrel
    have HB := Lib.hid hb
    clear hb
    have i0 : (0 : Int) ≤ (i : Int) := by omega
    by_cases hiN : i < N
    · have i1 : (i : Int) < (N : Int) := by omega
      have hw1 : wrap64 ((i : Int) + 1) = ((i + 1 : Nat) : Int) := by unfold wrap64; omega
      obtain ⟨e, he⟩ : ∃ e, L[i]? = some e := ⟨_, List.getElem?_eq_getElem (by have := HNN.out; omega)⟩
      have hem : e ∈ L := List.mem_of_getElem? he
      obtain ⟨ad, pa, hA, hadd, -, hcc⟩ := HR.out wr HB.out i e.job (by rw [List.getElem?_map, he]; rfl)
      subst hA
      have d0 := hcc 0 _ rfl
      have d4 := hcc 4 _ rfl
      rw [add_zeroE] at d0
      rw [add_posJ _ (by omega)] at d4
      obtain ⟨a, ha⟩ : ∃ a, allT (L.take i) = a := ⟨_, rfl⟩
      obtain ⟨m, hm⟩ : ∃ m, e.job.tasks = m := ⟨_, rfl⟩
      obtain ⟨x, hx⟩ : ∃ x, e.job.id = x := ⟨_, rfl⟩
      have hmm : m = (e.pl.length : Int) := by
        obtain ⟨g1, g2, _⟩ := HG.out.good e hem
        obtain ⟨_, g3⟩ := goodJ_nums g1
        rw [← hm]; omega
      have hbd := allT_bd (L := L.take i) fun y hy => (HG.out.len (List.mem_of_mem_take hy)).2
      have hlt : (L.take i).length ≤ 32 := by rw [List.length_take]; omega
      have hml : e.pl.length ≤ 8 := (HG.out.len hem).2
      have hs1 := allT_succ he
      rw [ha] at hbd hs1
      have hws : wrap64 (a + m) = allT (L.take (i + 1)) := by rw [hs1, ← hmm]; unfold wrap64; omega
      rw [ha]
      rw [hx] at d0
      rw [hm] at d4
      have HWS := Lib.hid hws
      have HA := Lib.hid hadd
      have HE := Lib.hid he
      by_cases h0 : i = 0
      · have dz : decide (0 < i) = false := decide_eq_false (by omega)
        clear he hem hcc ha hm hx hmm hbd hlt hml hs1 h0 hws
        go_wp2_with fail
        rw [HWS.out]
        clear d4
        go_quiet (fail)
        go_wp2_with fail
        go_roundw
        case rel => exact ⟨i + 1, by omega, by first | (rw [← hw1]; done) | (rw [← hw1]; first | rfl | (congr 1; omega)), rfl, below_drewN HB.out _⟩
        case measure => simp [natJ]; omega
      · obtain ⟨k, hk⟩ : ∃ k, i = k + 1 := ⟨i - 1, by omega⟩
        obtain ⟨f, hf⟩ : ∃ f, L[k]? = some f := ⟨_, List.getElem?_eq_getElem (by have := HNN.out; omega)⟩
        obtain ⟨ad', pb, hA', haddk, -, hcd⟩ := HR.out wr HB.out k f.job (by rw [List.getElem?_map, hf]; rfl)
        obtain rfl := Option.some.inj hA'
        have e0 := hcd 0 _ rfl
        rw [add_zeroE] at e0
        obtain ⟨y, hy⟩ : ∃ y, f.job.id = y := ⟨_, rfl⟩
        rw [hy] at e0
        have hyx : y < x := by
          obtain ⟨p1, p2⟩ := List.getElem?_eq_some_iff.1 hf
          obtain ⟨p3, p4⟩ := List.getElem?_eq_some_iff.1 he
          have := List.pairwise_iff_getElem.1 HG.out.ord k i p1 p3 (by omega)
          rw [p2, p4] at this; rw [← hy, ← hx]; exact this
        have dz : decide (0 < i) = true := decide_eq_true (by omega)
        have dy : decide (x ≤ y) = false := decide_eq_false (by omega)
        have hk1 : IntKind.i64.wrap ((i : Int) - 1) = (k : Int) := by rw [IntKind.wrap_i64]; omega
        have hk0 : (0 : Int) ≤ (k : Int) := by omega
        have hkn : (k : Int) < (N : Int) := by omega
        have hkN : k < N := by omega
        clear he hem hcc ha hm hx hmm hbd hlt hml hs1 h0 hws hf hcd hy hyx hk
        go_wp2_with fail
        rw [HWS.out]
        clear d4
        go_quiet (fail)
        go_wp2_with fail
        go_roundw
        case rel => exact ⟨i + 1, by omega, by first | (rw [← hw1]; done) | (rw [← hw1]; first | rfl | (congr 1; omega)), rfl, below_drewN HB.out _⟩
        case measure => simp [natJ]; omega
    · obtain rfl : i = N := by omega
      have hall : L.take i = L := by rw [← HNN.out]; exact List.take_length
      rw [hall]
      clear hall
      go_wp2_with fail
      exact HQ.out _ _ _ _ _ _ _ _ _ _ _ _ _ _ _ _ _ _ _ _ _ _ _ _ _ _ _ _ _ _ _ _ HB.out

/-- What is asked behind it. -/
def tasks_waitQ (u0 u1 u4 u5 u6 u7 u8 u10 u12 u13 u14 u15 u16 u17 u18 u19 u20 u21 u22 u23 u24 u25 u26 u27 u28 u29 u30 u31 u32 u33 u34 u35 u36 u37 u38 u39 u40 u41 u42 u43 u44 u45 u46 u47 u48 u49 u50 u51 u52 u53 u54 u55 u56 u57 u58 u59 u60 u61 u62 u63 u64 u65 u66 u67 u68 u69 u70 u71 u72 u73 u74 u75 u76 u77 u78 u79 u80 u81 u82 u83 u84 u85 u86 u87 u88 u89 u90 u91 u92 u93 u94 u95 u96 u97 u98 u99 u100 u114 u115 u116 u117 u118 u119 u120 u121 u122 u123 u124 u125 u126 u127 u128 u129 u130 u131 u132 u133 u134 u135 u136 u137 u138 u139 u140 u141 u142 u143 u144 u145 u146 u147 u148 u149 u150 u151 u152 u153 u154 u155 u156 u157 u158 u159 u160 u161 u162 u163 u164 u165 u166 u167 u168 u169 u170 u171 u172 u173 u174 u175 u176 u177 : Value) (w0 : World) (q bs n c : Nat) (A : Option Addr) (L : List JE) (M : List Tk) (Q : Exit → Act → World → Prop) : Prop :=
  ∀ (v2 v11 v101 v102 v103 v104 v105 v106 v107 v108 v109 v110 v111 v112 v113 : Value) (w' : World), JX w0 w' q L (fun W => OwnE encTk 32 W bs (.slice A n c) M) → Q .normal { tmps := #[u0, u1, v2, .pointer (some ⟨q, 0, none⟩), u4, u5, u6, u7, u8, .slice A n c, u10, v11, u12, u13, u14, u15, u16, u17, u18, u19, u20, u21, u22, u23, u24, u25, u26, u27, u28, u29, u30, u31, u32, u33, u34, u35, u36, u37, u38, u39, u40, u41, u42, u43, u44, u45, u46, u47, u48, u49, u50, u51, u52, u53, u54, u55, u56, u57, u58, u59, u60, u61, u62, u63, u64, u65, u66, u67, u68, u69, u70, u71, u72, u73, u74, u75, u76, u77, u78, u79, u80, u81, u82, u83, u84, u85, u86, u87, u88, u89, u90, u91, u92, u93, u94, u95, u96, u97, u98, u99, u100, v101, v102, v103, v104, v105, v106, v107, v108, v109, v110, v111, v112, v113, u114, u115, u116, u117, u118, u119, u120, u121, u122, u123, u124, u125, u126, u127, u128, u129, u130, u131, u132, u133, u134, u135, u136, u137, u138, u139, u140, u141, u142, u143, u144, u145, u146, u147, u148, u149, u150, u151, u152, u153, u154, u155, u156, u157, u158, u159, u160, u161, u162, u163, u164, u165, u166, u167, u168, u169, u170, u171, u172, u173, u174, u175, u176, u177], defers := [] } w'
set_option maxRecDepth 100000 in
set_option maxHeartbeats 6400000 in
/-- Those that wait are nowhere. -/
theorem tasks_wait (u0 u1 u2 u4 u5 u6 u7 u8 u10 u12 u13 u14 u15 u16 u17 u18 u19 u20 u21 u22 u23 u24 u25 u26 u27 u28 u29 u30 u31 u32 u33 u34 u35 u36 u37 u38 u39 u40 u41 u42 u43 u44 u45 u46 u47 u48 u49 u50 u51 u52 u53 u54 u55 u56 u57 u58 u59 u60 u61 u62 u63 u64 u65 u66 u67 u68 u69 u70 u71 u72 u73 u74 u75 u76 u77 u78 u79 u80 u81 u82 u83 u84 u85 u86 u87 u88 u89 u90 u91 u92 u93 u94 u95 u96 u97 u98 u99 u100 u101 u102 u103 u104 u105 u106 u107 u108 u109 u110 u111 u112 u113 u114 u115 u116 u117 u118 u119 u120 u121 u122 u123 u124 u125 u126 u127 u128 u129 u130 u131 u132 u133 u134 u135 u136 u137 u138 u139 u140 u141 u142 u143 u144 u145 u146 u147 u148 u149 u150 u151 u152 u153 u154 u155 u156 u157 u158 u159 u160 u161 u162 u163 u164 u165 u166 u167 u168 u169 u170 u171 u172 u173 u174 u175 u176 u177 : Value) (s : Nat → Addr) (w0 : World) (q bs n c : Nat) (A : Option Addr) (L : List JE) (M : List Tk) (Q : Exit → Act → World → Prop) (w : World) (hs : Sent s w0) (hK : JX w0 w q L (fun W => OwnE encTk 32 W bs (.slice A n c) M)) (hM : M = tasksJ selW L) (hMN : M.length = n)
    (hQ : tasks_waitQ u0 u1 u4 u5 u6 u7 u8 u10 u12 u13 u14 u15 u16 u17 u18 u19 u20 u21 u22 u23 u24 u25 u26 u27 u28 u29 u30 u31 u32 u33 u34 u35 u36 u37 u38 u39 u40 u41 u42 u43 u44 u45 u46 u47 u48 u49 u50 u51 u52 u53 u54 u55 u56 u57 u58 u59 u60 u61 u62 u63 u64 u65 u66 u67 u68 u69 u70 u71 u72 u73 u74 u75 u76 u77 u78 u79 u80 u81 u82 u83 u84 u85 u86 u87 u88 u89 u90 u91 u92 u93 u94 u95 u96 u97 u98 u99 u100 u114 u115 u116 u117 u118 u119 u120 u121 u122 u123 u124 u125 u126 u127 u128 u129 u130 u131 u132 u133 u134 u135 u136 u137 u138 u139 u140 u141 u142 u143 u144 u145 u146 u147 u148 u149 u150 u151 u152 u153 u154 u155 u156 u157 u158 u159 u160 u161 u162 u163 u164 u165 u166 u167 u168 u169 u170 u171 u172 u173 u174 u175 u176 u177 w0 q bs n c A L M Q) :
    (Code.block 5 (bodyOf Tryd.f5 5)).wp Tryd.prog Q { tmps := #[u0, u1, u2, .pointer (some ⟨q, 0, none⟩), u4, u5, u6, u7, u8, .slice A n c, u10, .int .i64 0, u12, u13, u14, u15, u16, u17, u18, u19, u20, u21, u22, u23, u24, u25, u26, u27, u28, u29, u30, u31, u32, u33, u34, u35, u36, u37, u38, u39, u40, u41, u42, u43, u44, u45, u46, u47, u48, u49, u50, u51, u52, u53, u54, u55, u56, u57, u58, u59, u60, u61, u62, u63, u64, u65, u66, u67, u68, u69, u70, u71, u72, u73, u74, u75, u76, u77, u78, u79, u80, u81, u82, u83, u84, u85, u86, u87, u88, u89, u90, u91, u92, u93, u94, u95, u96, u97, u98, u99, u100, u101, u102, u103, u104, u105, u106, u107, u108, u109, u110, u111, u112, u113, u114, u115, u116, u117, u118, u119, u120, u121, u122, u123, u124, u125, u126, u127, u128, u129, u130, u131, u132, u133, u134, u135, u136, u137, u138, u139, u140, u141, u142, u143, u144, u145, u146, u147, u148, u149, u150, u151, u152, u153, u154, u155, u156, u157, u158, u159, u160, u161, u162, u163, u164, u165, u166, u167, u168, u169, u170, u171, u172, u173, u174, u175, u176, u177], defers := [] } w := by
  simp only [bodyOf, Tryd.f5, blkOf, Option.bind_some, Option.orElse, Option.getD_some, Nat.reduceEqDiff, if_true, if_false, reduceCtorEq]
  have HQ := Lib.hid hQ
  have HS := Lib.hid hs
  have HK := Lib.hid hK
  have HM := Lib.hid hM
  have HMN := Lib.hid hMN
  have hn : n ≤ 256 := by
    rw [← hMN, hM]
    have h1 := tasksJ_len selW (L := L) fun e he => (hK.good.len he).2
    have h2 := hK.good.few
    omega
  clear hQ hs hK hM hMN
  go_wp2_with fail
  go_loopw [11] (fun I wr => ∃ i : Nat, i ≤ n ∧ I = .int .i64 (i : Int) ∧ JX w0 wr q L (fun W => OwnE encTk 32 W bs (.slice A n c) M)) (fun I _ => n - natJ I)
  case atStart => exact ⟨0, Nat.zero_le _, rfl, HK.out⟩
  case round =>
    clear HK
    obtain ⟨i, hi, rfl, hk⟩ := hrel
    have HK := Lib.hid hk
    have i0 : (0 : Int) ≤ (i : Int) := by omega
    by_cases hin : i < n
    · have i1 : (i : Int) < (n : Int) := by omega
      have hw1 : wrap64 ((i : Int) + 1) = ((i + 1 : Nat) : Int) := by unfold wrap64; omega
      obtain ⟨t, ht⟩ : ∃ t, M[i]? = some t := ⟨_, List.getElem?_eq_getElem (by have := HMN.out; omega)⟩
      obtain ⟨ad, g, hA, hadd, -, -, -, hcc⟩ := hk.has.at ht
      subst hA
      have d0 := hcc 0 _ rfl
      have d1 := hcc 1 _ rfl
      rw [Nat.add_zero] at d0
      have htm : t ∈ tasksJ selW L := by rw [← HM.out]; exact List.mem_of_getElem? ht
      have hwh := tasksJ_where selW_is hk.good htm
      have hti : i64 t.job := by
        obtain ⟨e, he, j, _, rfl, _⟩ := tasksJ_mem htm
        have := (goodJ_nums (hk.good.good e he).1).1
        unfold i64; simp only; omega
      have hcw := hk.where_c HS.out hti
      rw [hwh] at hcw
      have HCW := Lib.hid hcw
      clear hk ht hcc htm hwh hti hcw
      go_wp2_with fail
      refine HCW.out.mono ?_
      rintro r w5 ⟨rfl, k5⟩
      have K5 := Lib.hid k5
      clear k5 HCW d0 d1 hadd
      go_wp2_with fail
      go_roundw
      case rel => exact ⟨i + 1, by omega, by first | (rw [← hw1]; done) | (rw [← hw1]; first | rfl | (congr 1; omega)), K5.out⟩
      case measure => simp [natJ]; omega
    · obtain rfl : i = n := by omega
      clear hk
      go_wp2_with fail
      exact HQ.out _ _ _ _ _ _ _ _ _ _ _ _ _ _ _ _ HK.out

end Go.Proofs.YtbdnfppbiplpmaaDoor
