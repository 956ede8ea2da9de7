/- The law FitKeeps: the round of the amounts. Conditions: the arguments lie in memory. -/
import Derived.Test.YtejaljcgcmdlgaaDoorFtKa
import Derived.Deep.DeepCutAuto
import Derived.Deep.CutBlock
namespace Go.Proofs.YtejaljcgcmdlgaaDoor
open Go Go.RowKit

/-- What is asked behind it. -/
def keep_b3Q (u2 u3 u4 u5 u7 u8 u9 u10 u16 u17 u18 u19 u20 u21 u22 u23 u24 u25 u26 u27 u28 u29 u30 u31 u32 u33 u34 u35 u36 u37 u38 u39 u40 u41 u42 u43 u44 u45 u46 u47 u48 u49 u50 u51 u52 u53 u54 u55 u56 u57 u58 u59 u60 u61 u62 u63 u64 u65 u66 u67 u68 u69 u70 u71 u72 u73 u74 u75 u76 u77 u78 u79 u80 u81 u82 u83 u84 u85 u86 u87 u88 u151 u152 u153 u154 u155 u156 u157 u158 u159 u160 u161 u162 u163 u164 u165 u166 u167 u168 u169 u170 u171 u172 u173 u174 u175 u176 u177 u178 u179 u180 u181 u182 u183 u184 u185 u186 : Value) (ad adm : Addr) (An : Option Addr) (n cap capm nn cn k : Nat) (Q : Exit → Act → World → Prop) (w : World) : Prop :=
  ∀ (v6 v13 v14 v15 v89 v90 v91 v92 v93 v94 v95 v96 v97 v98 v99 v100 v101 v102 v103 v104 v105 v106 v107 v108 v109 v110 v111 v112 v113 v114 v115 v116 v117 v118 v119 v120 v121 v122 v123 v124 v125 v126 v127 v128 v129 v130 v131 v132 v133 v134 v135 v136 v137 v138 v139 v140 v141 v142 v143 v144 v145 v146 v147 v148 v149 v150 : Value) (w' : World), Below w.heap.size w w' → Q .normal { tmps := #[.slice (some ad) n cap, .slice An nn cn, u2, u3, u4, u5, v6, u7, u8, u9, u10, .slice (some adm) n capm, .int .i64 (k : Int), v13, v14, v15, u16, u17, u18, u19, u20, u21, u22, u23, u24, u25, u26, u27, u28, u29, u30, u31, u32, u33, u34, u35, u36, u37, u38, u39, u40, u41, u42, u43, u44, u45, u46, u47, u48, u49, u50, u51, u52, u53, u54, u55, u56, u57, u58, u59, u60, u61, u62, u63, u64, u65, u66, u67, u68, u69, u70, u71, u72, u73, u74, u75, u76, u77, u78, u79, u80, u81, u82, u83, u84, u85, u86, u87, u88, v89, v90, v91, v92, v93, v94, v95, v96, v97, v98, v99, v100, v101, v102, v103, v104, v105, v106, v107, v108, v109, v110, v111, v112, v113, v114, v115, v116, v117, v118, v119, v120, v121, v122, v123, v124, v125, v126, v127, v128, v129, v130, v131, v132, v133, v134, v135, v136, v137, v138, v139, v140, v141, v142, v143, v144, v145, v146, v147, v148, v149, v150, u151, u152, u153, u154, u155, u156, u157, u158, u159, u160, u161, u162, u163, u164, u165, u166, u167, u168, u169, u170, u171, u172, u173, u174, u175, u176, u177, u178, u179, u180, u181, u182, u183, u184, u185, u186], defers := [] } w'
set_option maxRecDepth 100000 in
set_option maxHeartbeats 6400000 in
/-- The amounts of one resource. -/
theorem keep_b3 (u2 u3 u4 u5 u6 u7 u8 u9 u10 u13 u14 u15 u16 u17 u18 u19 u20 u21 u22 u23 u24 u25 u26 u27 u28 u29 u30 u31 u32 u33 u34 u35 u36 u37 u38 u39 u40 u41 u42 u43 u44 u45 u46 u47 u48 u49 u50 u51 u52 u53 u54 u55 u56 u57 u58 u59 u60 u61 u62 u63 u64 u65 u66 u67 u68 u69 u70 u71 u72 u73 u74 u75 u76 u77 u78 u79 u80 u81 u82 u83 u84 u85 u86 u87 u88 u89 u90 u91 u92 u93 u94 u95 u96 u97 u98 u99 u100 u101 u102 u103 u104 u105 u106 u107 u108 u109 u110 u111 u112 u113 u114 u115 u116 u117 u118 u119 u120 u121 u122 u123 u124 u125 u126 u127 u128 u129 u130 u131 u132 u133 u134 u135 u136 u137 u138 u139 u140 u141 u142 u143 u144 u145 u146 u147 u148 u149 u150 u151 u152 u153 u154 u155 u156 u157 u158 u159 u160 u161 u162 u163 u164 u165 u166 u167 u168 u169 u170 u171 u172 u173 u174 u175 u176 u177 u178 u179 u180 u181 u182 u183 u184 u185 u186 : Value) (ad adm : Addr) (An : Option Addr) (n cap capm nn cn k : Nat) (lefts needs : List V4) (m : List Spt) (Q : Exit → Act → World → Prop) (w : World) (hL : ReadsE encV16 w (some ad) lefts) (hN : ReadsE encV16 w An needs) (hM : ReadsE encSpt w (some adm) m) (hK : Kept k (mkS lefts) m needs) (hn1 : lefts.length = n) (hn2 : needs.length = nn) (hk : k < 4) (hb1 : n ≤ 12) (hb2 : nn ≤ 12)
    (hQ : keep_b3Q u2 u3 u4 u5 u7 u8 u9 u10 u16 u17 u18 u19 u20 u21 u22 u23 u24 u25 u26 u27 u28 u29 u30 u31 u32 u33 u34 u35 u36 u37 u38 u39 u40 u41 u42 u43 u44 u45 u46 u47 u48 u49 u50 u51 u52 u53 u54 u55 u56 u57 u58 u59 u60 u61 u62 u63 u64 u65 u66 u67 u68 u69 u70 u71 u72 u73 u74 u75 u76 u77 u78 u79 u80 u81 u82 u83 u84 u85 u86 u87 u88 u151 u152 u153 u154 u155 u156 u157 u158 u159 u160 u161 u162 u163 u164 u165 u166 u167 u168 u169 u170 u171 u172 u173 u174 u175 u176 u177 u178 u179 u180 u181 u182 u183 u184 u185 u186 ad adm An n cap capm nn cn k Q w) :
    (Code.block 3 (bodyOf Tryd.f4 3)).wp Tryd.prog Q { tmps := #[.slice (some ad) n cap, .slice An nn cn, u2, u3, u4, u5, u6, u7, u8, u9, u10, .slice (some adm) n capm, .int .i64 (k : Int), u13, u14, u15, u16, u17, u18, u19, u20, u21, u22, u23, u24, u25, u26, u27, u28, u29, u30, u31, u32, u33, u34, u35, u36, u37, u38, u39, u40, u41, u42, u43, u44, u45, u46, u47, u48, u49, u50, u51, u52, u53, u54, u55, u56, u57, u58, u59, u60, u61, u62, u63, u64, u65, u66, u67, u68, u69, u70, u71, u72, u73, u74, u75, u76, u77, u78, u79, u80, u81, u82, u83, u84, u85, u86, u87, u88, u89, u90, u91, u92, u93, u94, u95, u96, u97, u98, u99, u100, u101, u102, u103, u104, u105, u106, u107, u108, u109, u110, u111, u112, u113, u114, u115, u116, u117, u118, u119, u120, u121, u122, u123, u124, u125, u126, u127, u128, u129, u130, u131, u132, u133, u134, u135, u136, u137, u138, u139, u140, u141, u142, u143, u144, u145, u146, u147, u148, u149, u150, u151, u152, u153, u154, u155, u156, u157, u158, u159, u160, u161, u162, u163, u164, u165, u166, u167, u168, u169, u170, u171, u172, u173, u174, u175, u176, u177, u178, u179, u180, u181, u182, u183, u184, u185, u186], defers := [] } w := by
  simp only [bodyOf, Tryd.f4, blkOf, Option.bind_some, Option.orElse, Option.getD_some, Nat.reduceEqDiff, if_true, if_false, reduceCtorEq]
  have HQ := Lib.hid hQ
  have HL := Lib.hid hL
  have HN := Lib.hid hN
  have HM := Lib.hid hM
  have HK := Lib.hid hK
  have HN1 := Lib.hid hn1
  have HN2 := Lib.hid hn2
  have HML : Hid (m.length = n) := Lib.hid (by rw [hK.len, mkS_len, hn1])
  have HKK := Lib.hid hk
  have hkz : (k : Int) < 4 := by omega
  clear hQ hL hN hM hK hn1 hn2 hk
  go_upto_region 23 with fail
  go_loopg [13, 14] n (fun gk s13 s14 wr => ∃ (i : Nat), s14 = .int .i64 i ∧ i ≤ n ∧ n - i ≤ gk ∧ s13 = .int .i64 (wrap64 (totV k (lefts.take i) - totS k (m.take i))) ∧ Aside (Below w.heap.size w wr))
  case atStart => exact ⟨0, rfl, Nat.zero_le _, Nat.le_refl _, by simp [totV, totS, wrap64], Below.refl _ _⟩
  case round =>
    obtain ⟨i, rfl, hi, hgk, rfl, IN⟩ := hrel
    have HB := Lib.hid IN.out
    clear IN
    by_cases hlt : i < n
    · have hltz : (i : Int) < (n : Int) := by omega
      obtain ⟨v, hv⟩ : ∃ v, lefts[i]? = some v := ⟨_, List.getElem?_eq_getElem (by have := HN1.out; omega)⟩
      have hvs : (mkS lefts)[i]? = some ⟨(i : Int) + 1, v⟩ := by rw [mkS_get, hv]; rfl
      obtain ⟨s, hs, g0, g1⟩ := HK.out.each i _ hvs
      have HT1 := Lib.hid (totV_take (k := k) hv)
      have HT2 := Lib.hid (totS_take (k := k) hs)
      obtain ⟨p, hp, hpl, hpc⟩ := reads_compS HM.out hs HKK.out
      obtain ⟨q, hq, hql, hqc⟩ := reads_comp HL.out hv HKK.out
      have HP := Lib.hid hp
      have HQ' := Lib.hid hq
      have HCA : Hid (wr.cell? ⟨p.block, p.off + 1 + k, none⟩ = some (.int .i64 (compV k s.left))) := Lib.hid ((HB.out.cell (p := ⟨p.block, p.off + 1 + k, none⟩) hpl).trans hpc)
      have HCB : Hid (wr.cell? (q.add k) = some (.int .i64 (compV k v))) := Lib.hid ((HB.out.cell (p := q.add k) (by rw [block_add16]; exact hql)).trans hqc)
      have HG0 := Lib.hid g0
      have HG1 : Hid (compV k s.left ≤ compV k v) := Lib.hid g1
      clear hv hvs hs g0 g1 hp hpl hpc hq hql hqc
      go_upto_region 25 with fail
      refine wp_reg (opsOf Tryd.f4 25) (by kernel_rfl) ?_
      refine keep_r25 _ _ _ _ _ _ _ _ _ _ _ _ _ _ _ _ _ _ _ _ _ _ _ _ _ _ _ _ _ _ _ _ _ _ _ _ _ _ _ _ _ _ _ _ _ _ _ _ _ _ _ _ _ _ _ _ _ _ _ _ _ _ _ _ _ _ _ _ _ _ _ _ _ _ _ _ _ _ _ _ _ _ _ _ _ _ _ _ _ _ _ _ _ _ _ _ _ _ _ _ _ _ _ _ _ _ _ _ _ _ _ _ _ _ _ _ _ _ _ _ _ _ _ _ _ _ _ _ _ _ _ _ _ _ _ _ _ _ _ _ _ _ _ _ _ _ _ _ _ _ _ _ _ _ _ _ _ _ _ _ _ _ _ _ _ _ _ _ _ _ _ _ _ _ _ _ _ _ _ _ _ _ _ ad adm p q (q.add k) n cap capm k i (compV k s.left) (compV k v) _ wr HP.out HQ'.out rfl hkz hltz HCA.out HCB.out HG0.out HG1.out ?_
      intro _ _ _ _ _ _ _ _ _ _ _ _ _ _ _ _ _ _ _ _ _ _ _ w5 b5
      have HB5 : Hid (Below wr.heap.size wr w5) := Lib.hid b5
      clear b5
      go_upto_region 27 with fail
      refine wp_reg (opsOf Tryd.f4 27) (by kernel_rfl) ?_
      refine keep_r27 _ _ _ _ _ _ _ _ _ _ _ _ _ _ _ _ _ _ _ _ _ _ _ _ _ _ _ _ _ _ _ _ _ _ _ _ _ _ _ _ _ _ _ _ _ _ _ _ _ _ _ _ _ _ _ _ _ _ _ _ _ _ _ _ _ _ _ _ _ _ _ _ _ _ _ _ _ _ _ _ _ _ _ _ _ _ _ _ _ _ _ _ _ _ _ _ _ _ _ _ _ _ _ _ _ _ _ _ _ _ _ _ _ _ _ _ _ _ _ _ _ _ _ _ _ _ _ _ _ _ _ _ _ _ _ _ _ _ _ _ _ _ _ _ _ _ _ _ _ _ _ _ _ _ _ _ _ _ _ _ _ _ _ _ _ _ _ _ _ _ _ _ _ _ _ _ _ _ _ _ _ _ ad adm p q (q.add k) n cap capm k i (compV k s.left) (compV k v) (totV k (lefts.take i) - totS k (m.take i)) _ w5 HP.out HQ'.out rfl hkz hltz ((HB5.out.cell (p := ⟨p.block, p.off + 1 + k, none⟩) (lt_of_cell HCA.out)).trans HCA.out) ((HB5.out.cell (p := q.add k) (lt_of_cell HCB.out)).trans HCB.out) ?_
      intro _ _ _ _ _ _ _ _ _ _ _ _ _ _ _ w6 b6
      have HB6 : Hid (Below w.heap.size w w6) := Lib.hid (HB.out.trans ((HB5.out.trans (b6.mono HB5.out.size)).mono HB.out.size))
      clear b6
      have HE : Hid (totV k (lefts.take i) - totS k (m.take i) + compV k v - compV k s.left = totV k (lefts.take (i + 1)) - totS k (m.take (i + 1))) := Lib.hid (by rw [HT1.out, HT2.out]; omega)
      rw [HE.out]
      go_wp2_with fail
      go_roundg (n - (i + 1))
      case measure => omega
      case rel => exact ⟨i + 1, by go_num, by omega, Nat.le_refl _, rfl, HB6.out⟩
    · obtain rfl : i = n := by omega
      have hlz : ¬ ((i : Int) < (i : Int)) := by omega
      have HT : Hid (totV k (lefts.take i) - totS k (m.take i) = totV k needs) := Lib.hid (by
        rw [List.take_of_length_le (Nat.le_of_eq HN1.out), List.take_of_length_le (Nat.le_of_eq HML.out), HK.out.tot, mkS_tot]; omega)
      rw [HT.out]
      go_upto_region 29 with fail
      go_loopg [13, 15] nn (fun gk s13 s15 wq => ∃ (j : Nat), s15 = .int .i64 j ∧ j ≤ nn ∧ nn - j ≤ gk ∧ s13 = .int .i64 (wrap64 (totV k needs - totV k (needs.take j))) ∧ Aside (Below w.heap.size w wq))
      case atStart => exact ⟨0, rfl, Nat.zero_le _, Nat.le_refl _, by simp [totV], HB.out⟩
      case round =>
        obtain ⟨j, rfl, hj, hgj, rfl, IN⟩ := hrel
        have HB7 := Lib.hid IN.out
        clear IN
        by_cases hjt : j < nn
        · have hjtz : (j : Int) < (nn : Int) := by omega
          have hnn : 0 < nn := by omega
          obtain ⟨v, hv⟩ : ∃ v, needs[j]? = some v := ⟨_, List.getElem?_eq_getElem (by have := HN2.out; omega)⟩
          obtain ⟨ad2, p2, rfl, had2, hg2, hv2⟩ := HN.out j v hv
          obtain ⟨q, hq, hql, hqc⟩ := reads_comp HN.out hv HKK.out
          have HT1 := Lib.hid (totV_take (k := k) hv)
          have hcb := (HB7.out.cell (p := q.add k) (by rw [block_add16]; exact hql)).trans hqc
          have hbl := lt_of_cell hcb
          obtain ⟨qk, hqk⟩ : ∃ qk, q.add k = qk := ⟨_, rfl⟩
          rw [hqk] at hcb hbl
          have hw : wrap64 (wrap64 (totV k needs - totV k (needs.take j)) - compV k v) = wrap64 (totV k needs - totV k (needs.take (j + 1))) := by rw [HT1.out]; unfold wrap64; omega
          have HW := Lib.hid hw
          clear hv had2 hg2 hv2 hql hqc hw
          go_upto_region 30 with fail
          rw [HW.out]
          go_wp2_with fail
          go_roundg (nn - (j + 1))
          case measure => omega
          case rel => exact ⟨j + 1, by go_num, by omega, Nat.le_refl _, rfl, HB7.out⟩
        · obtain rfl : j = nn := by omega
          have hlz : ¬ ((j : Int) < (j : Int)) := by omega
          have HT3 : Hid (wrap64 (totV k needs - totV k (needs.take j)) = 0) := Lib.hid (by rw [List.take_of_length_le (Nat.le_of_eq HN2.out)]; unfold wrap64; omega)
          rw [HT3.out]
          go_wp2_with fail
          exact HQ.out _ _ _ _ _ _ _ _ _ _ _ _ _ _ _ _ _ _ _ _ _ _ _ _ _ _ _ _ _ _ _ _ _ _ _ _ _ _ _ _ _ _ _ _ _ _ _ _ _ _ _ _ _ _ _ _ _ _ _ _ _ _ _ _ _ _ _ HB7.out

end Go.Proofs.YtejaljcgcmdlgaaDoor
