/- Pieces of the law ParkLive, walked on their own: what was live, a deed, what is live. Condition: the sentinels lie as the program's text lays them. -/
import Derived.Test.YtaenpajmgenjhaaDoorPkIa
import Derived.Test.YtaenpajmgenjhaaDoorRgC
import Derived.Deep.DeepCutAuto
import Derived.Deep.CutBlock
import Derived.Deep.RegionHeld3
import Derived.Deep.QuietTactic
namespace Go.Proofs.YtaenpajmgenjhaaDoor
open Go Go.RowKit

/-- What is asked behind it. -/
def live_k0Q (u0 u1 u2 u3 u4 u5 u6 u7 u8 u9 u11 u12 u13 u14 u16 u17 u18 u19 u20 u21 u22 u23 u24 u25 u26 u27 u28 u29 u30 u31 u32 u33 u34 u35 u36 u37 u38 u39 u40 u41 u42 u43 u44 u45 u46 u47 u48 u49 u50 u51 u52 u53 u54 u55 u56 u57 u58 u59 u60 u61 u62 u63 u64 u65 u66 u67 u68 u69 u70 u71 u72 u73 u74 u75 u76 u77 u78 u79 u80 u81 u82 u83 u84 u85 u86 u87 u140 u141 u142 u143 u144 u145 u146 u147 u148 u149 u150 u151 u152 u153 u154 u155 u156 : Value) (T : TypeId) (a : Addr) (Q : Exit → Act → World → Prop) (w : World) : Prop :=
  ∀ (v15 v88 v89 v90 v91 v92 v93 v94 v95 v96 v97 v98 v99 v100 v101 v102 v103 v104 v105 v106 v107 v108 v109 v110 v111 v112 v113 v114 v115 v116 v117 v118 v119 v120 v121 v122 v123 v124 v125 v126 v127 v128 v129 v130 v131 v132 v133 v134 v135 v136 v137 v138 v139 : Value) (w' : World), w' = w → Q .normal { tmps := #[u0, u1, u2, u3, u4, u5, u6, u7, u8, u9, .iface T (.pointer (some a)), u11, u12, u13, u14, v15, u16, u17, u18, u19, u20, u21, u22, u23, u24, u25, u26, u27, u28, u29, u30, u31, u32, u33, u34, u35, u36, u37, u38, u39, u40, u41, u42, u43, u44, u45, u46, u47, u48, u49, u50, u51, u52, u53, u54, u55, u56, u57, u58, u59, u60, u61, u62, u63, u64, u65, u66, u67, u68, u69, u70, u71, u72, u73, u74, u75, u76, u77, u78, u79, u80, u81, u82, u83, u84, u85, u86, u87, v88, v89, v90, v91, v92, v93, v94, v95, v96, v97, v98, v99, v100, v101, v102, v103, v104, v105, v106, v107, v108, v109, v110, v111, v112, v113, v114, v115, v116, v117, v118, v119, v120, v121, v122, v123, v124, v125, v126, v127, v128, v129, v130, v131, v132, v133, v134, v135, v136, v137, v138, v139, u140, u141, u142, u143, u144, u145, u146, u147, u148, u149, u150, u151, u152, u153, u154, u155, u156], defers := [] } w'
set_option maxRecDepth 100000 in
set_option maxHeartbeats 6400000 in
/-- The loop over a vector where the deed failed: nothing is done. -/
theorem live_k0 (u0 u1 u2 u3 u4 u5 u6 u7 u8 u9 u11 u12 u13 u14 u16 u17 u18 u19 u20 u21 u22 u23 u24 u25 u26 u27 u28 u29 u30 u31 u32 u33 u34 u35 u36 u37 u38 u39 u40 u41 u42 u43 u44 u45 u46 u47 u48 u49 u50 u51 u52 u53 u54 u55 u56 u57 u58 u59 u60 u61 u62 u63 u64 u65 u66 u67 u68 u69 u70 u71 u72 u73 u74 u75 u76 u77 u78 u79 u80 u81 u82 u83 u84 u85 u86 u87 u88 u89 u90 u91 u92 u93 u94 u95 u96 u97 u98 u99 u100 u101 u102 u103 u104 u105 u106 u107 u108 u109 u110 u111 u112 u113 u114 u115 u116 u117 u118 u119 u120 u121 u122 u123 u124 u125 u126 u127 u128 u129 u130 u131 u132 u133 u134 u135 u136 u137 u138 u139 u140 u141 u142 u143 u144 u145 u146 u147 u148 u149 u150 u151 u152 u153 u154 u155 u156 : Value) (T : TypeId) (a : Addr) (Q : Exit → Act → World → Prop) (w : World) 
    (hQ : live_k0Q u0 u1 u2 u3 u4 u5 u6 u7 u8 u9 u11 u12 u13 u14 u16 u17 u18 u19 u20 u21 u22 u23 u24 u25 u26 u27 u28 u29 u30 u31 u32 u33 u34 u35 u36 u37 u38 u39 u40 u41 u42 u43 u44 u45 u46 u47 u48 u49 u50 u51 u52 u53 u54 u55 u56 u57 u58 u59 u60 u61 u62 u63 u64 u65 u66 u67 u68 u69 u70 u71 u72 u73 u74 u75 u76 u77 u78 u79 u80 u81 u82 u83 u84 u85 u86 u87 u140 u141 u142 u143 u144 u145 u146 u147 u148 u149 u150 u151 u152 u153 u154 u155 u156 T a Q w) :
    (Code.block 7 (bodyOf Tryd.f4 7)).wp Tryd.prog Q { tmps := #[u0, u1, u2, u3, u4, u5, u6, u7, u8, u9, .iface T (.pointer (some a)), u11, u12, u13, u14, .int .i64 0, u16, u17, u18, u19, u20, u21, u22, u23, u24, u25, u26, u27, u28, u29, u30, u31, u32, u33, u34, u35, u36, u37, u38, u39, u40, u41, u42, u43, u44, u45, u46, u47, u48, u49, u50, u51, u52, u53, u54, u55, u56, u57, u58, u59, u60, u61, u62, u63, u64, u65, u66, u67, u68, u69, u70, u71, u72, u73, u74, u75, u76, u77, u78, u79, u80, u81, u82, u83, u84, u85, u86, u87, u88, u89, u90, u91, u92, u93, u94, u95, u96, u97, u98, u99, u100, u101, u102, u103, u104, u105, u106, u107, u108, u109, u110, u111, u112, u113, u114, u115, u116, u117, u118, u119, u120, u121, u122, u123, u124, u125, u126, u127, u128, u129, u130, u131, u132, u133, u134, u135, u136, u137, u138, u139, u140, u141, u142, u143, u144, u145, u146, u147, u148, u149, u150, u151, u152, u153, u154, u155, u156], defers := [] } w := by
  simp only [bodyOf, Tryd.f4, blkOf, Option.bind_some, Option.orElse, Option.getD_some, Nat.reduceEqDiff, if_true, if_false, reduceCtorEq]
  have HQ := Lib.hid hQ
  clear hQ
  go_wp2_with fail
  refine wp_loop_rounds 1 ?_
  rw [rounds_succ]
  go_wp2_with fail
  exact HQ.out _ _ _ _ _ _ _ _ _ _ _ _ _ _ _ _ _ _ _ _ _ _ _ _ _ _ _ _ _ _ _ _ _ _ _ _ _ _ _ _ _ _ _ _ _ _ _ _ _ _ _ _ _ _ rfl

/-- What is asked behind it. -/
def live_fillQ (u0 u1 u2 u4 u5 u8 u9 u10 u11 u12 u13 u14 u15 u16 u17 u18 u19 u20 u21 u22 u23 u24 u25 u26 u27 u28 u29 u30 u31 u32 u33 u43 u44 u45 u46 u47 u48 u49 u50 u51 u52 u53 u54 u55 u56 u57 u58 u59 u60 u61 u62 u63 u64 u65 u66 u67 u68 u69 u70 u71 u72 u73 u74 u75 u76 u77 u78 u79 u80 u81 u82 u83 u84 u85 u86 u87 u88 u89 u90 u91 u92 u93 u94 u95 u96 u97 u98 u99 u100 u101 u102 u103 u104 u105 u106 u107 u108 u109 u110 u111 u112 u113 u114 u115 u116 u117 u118 u119 u120 u121 u122 u123 u124 u125 u126 u127 u128 u129 u130 u131 u132 u133 u134 u135 u136 u137 u138 u139 u140 u141 u142 u143 u144 u145 u146 u147 u148 u149 u150 u151 u152 u153 u154 u155 u156 : Value) (w0 : World) (q R g : Nat) (P : List Mc) (Q : Exit → Act → World → Prop) (w : World) : Prop :=
  ∀ (v7 v34 v35 v36 v37 v38 v39 v40 v41 v42 : Value) (w' : World), PkAt w0 w' q R P → WB w' g (fun j => if j < 5 then liveP P (j : Int) false else ⟨0, 0, 0, 0⟩) → Chg g g w w' → Q .normal { tmps := #[u0, u1, u2, .pointer (some ⟨q, 0, none⟩), u4, u5, .pointer (some ⟨g, 0, none⟩), v7, u8, u9, u10, u11, u12, u13, u14, u15, u16, u17, u18, u19, u20, u21, u22, u23, u24, u25, u26, u27, u28, u29, u30, u31, u32, u33, v34, v35, v36, v37, v38, v39, v40, v41, v42, u43, u44, u45, u46, u47, u48, u49, u50, u51, u52, u53, u54, u55, u56, u57, u58, u59, u60, u61, u62, u63, u64, u65, u66, u67, u68, u69, u70, u71, u72, u73, u74, u75, u76, u77, u78, u79, u80, u81, u82, u83, u84, u85, u86, u87, u88, u89, u90, u91, u92, u93, u94, u95, u96, u97, u98, u99, u100, u101, u102, u103, u104, u105, u106, u107, u108, u109, u110, u111, u112, u113, u114, u115, u116, u117, u118, u119, u120, u121, u122, u123, u124, u125, u126, u127, u128, u129, u130, u131, u132, u133, u134, u135, u136, u137, u138, u139, u140, u141, u142, u143, u144, u145, u146, u147, u148, u149, u150, u151, u152, u153, u154, u155, u156], defers := [] } w'
set_option maxRecDepth 100000 in
set_option maxHeartbeats 6400000 in
/-- What was live in each cell is kept. -/
theorem live_fill (u0 u1 u2 u4 u5 u8 u9 u10 u11 u12 u13 u14 u15 u16 u17 u18 u19 u20 u21 u22 u23 u24 u25 u26 u27 u28 u29 u30 u31 u32 u33 u34 u35 u36 u37 u38 u39 u40 u41 u42 u43 u44 u45 u46 u47 u48 u49 u50 u51 u52 u53 u54 u55 u56 u57 u58 u59 u60 u61 u62 u63 u64 u65 u66 u67 u68 u69 u70 u71 u72 u73 u74 u75 u76 u77 u78 u79 u80 u81 u82 u83 u84 u85 u86 u87 u88 u89 u90 u91 u92 u93 u94 u95 u96 u97 u98 u99 u100 u101 u102 u103 u104 u105 u106 u107 u108 u109 u110 u111 u112 u113 u114 u115 u116 u117 u118 u119 u120 u121 u122 u123 u124 u125 u126 u127 u128 u129 u130 u131 u132 u133 u134 u135 u136 u137 u138 u139 u140 u141 u142 u143 u144 u145 u146 u147 u148 u149 u150 u151 u152 u153 u154 u155 u156 : Value) (s : Nat → Addr) (w0 : World) (q R g : Nat) (P : List Mc) (Q : Exit → Act → World → Prop) (w : World) (hs : Sent s w0) (hK : PkAt w0 w q R P) (hW : WB w g fun _ => ⟨0, 0, 0, 0⟩) (h1 : g ≠ q) (h2 : g ≠ R) (h3 : w0.heap.size ≤ g)
    (hQ : live_fillQ u0 u1 u2 u4 u5 u8 u9 u10 u11 u12 u13 u14 u15 u16 u17 u18 u19 u20 u21 u22 u23 u24 u25 u26 u27 u28 u29 u30 u31 u32 u33 u43 u44 u45 u46 u47 u48 u49 u50 u51 u52 u53 u54 u55 u56 u57 u58 u59 u60 u61 u62 u63 u64 u65 u66 u67 u68 u69 u70 u71 u72 u73 u74 u75 u76 u77 u78 u79 u80 u81 u82 u83 u84 u85 u86 u87 u88 u89 u90 u91 u92 u93 u94 u95 u96 u97 u98 u99 u100 u101 u102 u103 u104 u105 u106 u107 u108 u109 u110 u111 u112 u113 u114 u115 u116 u117 u118 u119 u120 u121 u122 u123 u124 u125 u126 u127 u128 u129 u130 u131 u132 u133 u134 u135 u136 u137 u138 u139 u140 u141 u142 u143 u144 u145 u146 u147 u148 u149 u150 u151 u152 u153 u154 u155 u156 w0 q R g P Q w) :
    (Code.block 2 (bodyOf Tryd.f4 2)).wp Tryd.prog Q { tmps := #[u0, u1, u2, .pointer (some ⟨q, 0, none⟩), u4, u5, .pointer (some ⟨g, 0, none⟩), .int .i64 0, u8, u9, u10, u11, u12, u13, u14, u15, u16, u17, u18, u19, u20, u21, u22, u23, u24, u25, u26, u27, u28, u29, u30, u31, u32, u33, u34, u35, u36, u37, u38, u39, u40, u41, u42, u43, u44, u45, u46, u47, u48, u49, u50, u51, u52, u53, u54, u55, u56, u57, u58, u59, u60, u61, u62, u63, u64, u65, u66, u67, u68, u69, u70, u71, u72, u73, u74, u75, u76, u77, u78, u79, u80, u81, u82, u83, u84, u85, u86, u87, u88, u89, u90, u91, u92, u93, u94, u95, u96, u97, u98, u99, u100, u101, u102, u103, u104, u105, u106, u107, u108, u109, u110, u111, u112, u113, u114, u115, u116, u117, u118, u119, u120, u121, u122, u123, u124, u125, u126, u127, u128, u129, u130, u131, u132, u133, u134, u135, u136, u137, u138, u139, u140, u141, u142, u143, u144, u145, u146, u147, u148, u149, u150, u151, u152, u153, u154, u155, u156], defers := [] } w := by
  simp only [bodyOf, Tryd.f4, blkOf, Option.bind_some, Option.orElse, Option.getD_some, Nat.reduceEqDiff, if_true, if_false, reduceCtorEq]
  have HQ := Lib.hid hQ
  have HS := Lib.hid hs
  have HK := Lib.hid hK
  have HW := Lib.hid hW
  have HL := Lib.hid (⟨h1, h2, h3⟩ : g ≠ q ∧ g ≠ R ∧ w0.heap.size ≤ g)
  clear hQ hs hK hW h1 h2 h3
  go_wp2_with fail
  go_loopw [7] (fun u W => ∃ k : Nat, k ≤ 5 ∧ u = .int .i64 (k : Int) ∧ PkAt w0 W q R P ∧ WB W g (fun j => if j < k then liveP P (j : Int) false else ⟨0, 0, 0, 0⟩) ∧ Chg g g w W) (fun u _ => 5 - (intOf u).toNat)
  case atStart => exact ⟨0, Nat.zero_le _, rfl, HK.out, HW.out, Chg.refl _ _ _⟩
  case round =>
    clear HK HW
    obtain ⟨k, hk, rfl, h1, h2, h3⟩ := hrel
    have HK := Lib.hid h1; have HW := Lib.hid h2; have HC := Lib.hid h3
    clear h1 h2 h3
    by_cases hk5 : k < 5
    · have hkz : (k : Int) < 5 := by omega
      have hk0 : (0 : Int) ≤ (k : Int) := by omega
      go_wp2_with fail
      refine (HK.out.live HS.out (k : Int)).mono ?_
      rintro e w2 ⟨rfl, hb⟩
      obtain ⟨z0, z1, z2, z3, zf⟩ := (WB.on hb HW.out).cells hk5
      have HW2 := Lib.hid (WB.on hb HW.out)
      have HK2 := Lib.hid (HK.out.on hb)
      have HC2 : Hid (Chg g g w w2) := Lib.hid (HC.out.trans (Chg.of_below hb) (.inl rfl))
      clear hb HK HW HC
      obtain ⟨X, hX⟩ : ∃ X, X = liveP P (k : Int) false := ⟨_, rfl⟩
      rw [← hX]
      have HX := Lib.hid hX
      clear hX
      go_wp2_with fail
      go_roundw
      case rel =>
        have ef : (fun j : Nat => if j < k + 1 then liveP P (j : Int) false else ⟨0, 0, 0, 0⟩) = fun j : Nat => if j = k then X else if j < k then liveP P (j : Int) false else ⟨0, 0, 0, 0⟩ := by
          funext j
          by_cases e : j = k
          · subst e; rw [if_pos (Nat.lt_succ_self _), if_pos rfl, HX.out]
          · rw [if_neg e]
            by_cases e2 : j < k
            · rw [if_pos (by omega), if_pos e2]
            · rw [if_neg (by omega), if_neg e2]
        refine ⟨k + 1, by omega, by go_num, ?_, ?_, ?_⟩
        · have hl := HL.out
          exact (((HK2.out.set (a := ⟨g, k * 4, none⟩) hl.1 hl.2.1 hl.2.2 _).set (a := ⟨g, k * 4 + 1, none⟩) hl.1 hl.2.1 hl.2.2 _).set (a := ⟨g, k * 4 + 2, none⟩) hl.1 hl.2.1 hl.2.2 _).set (a := ⟨g, k * 4 + 3, none⟩) hl.1 hl.2.1 hl.2.2 _
        · rw [ef]
          exact HW2.out.set hk5 X
        · exact Chg.setCell (ad := ⟨g, k * 4 + 3, none⟩) (Chg.setCell (ad := ⟨g, k * 4 + 2, none⟩) (Chg.setCell (ad := ⟨g, k * 4 + 1, none⟩) (Chg.setCell (ad := ⟨g, k * 4, none⟩) HC2.out (.inl rfl) _) (.inl rfl) _) (.inl rfl) _) (.inl rfl) _
      case measure => simp [intOf]; omega
    · obtain rfl : k = 5 := by omega
      go_wp2_with fail
      exact HQ.out _ _ _ _ _ _ _ _ _ _ _ HK.out HW.out HC.out

/-- What is asked behind it. -/
def live_deedQ (u0 u1 u2 u4 u6 u7 u8 u9 u11 u12 u13 u14 u15 u16 u17 u18 u19 u20 u21 u22 u23 u24 u25 u26 u27 u28 u29 u30 u31 u32 u33 u34 u35 u36 u37 u38 u39 u40 u41 u42 u43 u44 u45 u46 u47 u48 u49 u50 u74 u75 u76 u77 u78 u79 u80 u81 u82 u83 u84 u85 u86 u87 u88 u89 u90 u91 u92 u93 u94 u95 u96 u97 u98 u99 u100 u101 u102 u103 u104 u105 u106 u107 u108 u109 u110 u111 u112 u113 u114 u115 u116 u117 u118 u119 u120 u121 u122 u123 u124 u125 u126 u127 u128 u129 u130 u131 u132 u133 u134 u135 u136 u137 u138 u139 u140 u141 u142 u143 u144 u145 u146 u147 u148 u149 u150 u151 u152 u153 u154 u155 u156 : Value) (s : Nat → Addr) (w0 : World) (q R gx : Nat) (P : List Mc) (x : PkAD) (Q : Exit → Act → World → Prop) (w : World) : Prop :=
  ∀ (v52 v53 v54 v55 v56 v57 v58 v59 v60 v61 v62 v63 v64 v65 v66 v67 v68 v69 v70 v71 v72 v73 : Value) (w' : World) (R' : Nat), PkAt w0 w' q R' (deedP P x).1 → (R' = R ∨ w.heap.size ≤ R') → Chg q R w w' → Q .normal { tmps := #[u0, u1, u2, .pointer (some ⟨q, 0, none⟩), u4, .pointer (some ⟨gx, 0, none⟩), u6, u7, u8, u9, errV s (deedP P x).2, u11, u12, u13, u14, u15, u16, u17, u18, u19, u20, u21, u22, u23, u24, u25, u26, u27, u28, u29, u30, u31, u32, u33, u34, u35, u36, u37, u38, u39, u40, u41, u42, u43, u44, u45, u46, u47, u48, u49, u50, .int .i64 x.kind, v52, v53, v54, v55, v56, v57, v58, v59, v60, v61, v62, v63, v64, v65, v66, v67, v68, v69, v70, v71, v72, v73, u74, u75, u76, u77, u78, u79, u80, u81, u82, u83, u84, u85, u86, u87, u88, u89, u90, u91, u92, u93, u94, u95, u96, u97, u98, u99, u100, u101, u102, u103, u104, u105, u106, u107, u108, u109, u110, u111, u112, u113, u114, u115, u116, u117, u118, u119, u120, u121, u122, u123, u124, u125, u126, u127, u128, u129, u130, u131, u132, u133, u134, u135, u136, u137, u138, u139, u140, u141, u142, u143, u144, u145, u146, u147, u148, u149, u150, u151, u152, u153, u154, u155, u156], defers := [] } w'
set_option maxRecDepth 100000 in
set_option maxHeartbeats 6400000 in
/-- A deed. -/
theorem live_deed (u0 u1 u2 u4 u6 u7 u8 u9 u10 u11 u12 u13 u14 u15 u16 u17 u18 u19 u20 u21 u22 u23 u24 u25 u26 u27 u28 u29 u30 u31 u32 u33 u34 u35 u36 u37 u38 u39 u40 u41 u42 u43 u44 u45 u46 u47 u48 u49 u50 u52 u53 u54 u55 u56 u57 u58 u59 u60 u61 u62 u63 u64 u65 u66 u67 u68 u69 u70 u71 u72 u73 u74 u75 u76 u77 u78 u79 u80 u81 u82 u83 u84 u85 u86 u87 u88 u89 u90 u91 u92 u93 u94 u95 u96 u97 u98 u99 u100 u101 u102 u103 u104 u105 u106 u107 u108 u109 u110 u111 u112 u113 u114 u115 u116 u117 u118 u119 u120 u121 u122 u123 u124 u125 u126 u127 u128 u129 u130 u131 u132 u133 u134 u135 u136 u137 u138 u139 u140 u141 u142 u143 u144 u145 u146 u147 u148 u149 u150 u151 u152 u153 u154 u155 u156 : Value) (s : Nat → Addr) (w0 : World) (q R gx : Nat) (P : List Mc) (x : PkAD) (Q : Exit → Act → World → Prop) (w : World) (hs : Sent s w0) (hK : PkAt w0 w q R P) (hX : PkABlk w gx x)
    (hQ : live_deedQ u0 u1 u2 u4 u6 u7 u8 u9 u11 u12 u13 u14 u15 u16 u17 u18 u19 u20 u21 u22 u23 u24 u25 u26 u27 u28 u29 u30 u31 u32 u33 u34 u35 u36 u37 u38 u39 u40 u41 u42 u43 u44 u45 u46 u47 u48 u49 u50 u74 u75 u76 u77 u78 u79 u80 u81 u82 u83 u84 u85 u86 u87 u88 u89 u90 u91 u92 u93 u94 u95 u96 u97 u98 u99 u100 u101 u102 u103 u104 u105 u106 u107 u108 u109 u110 u111 u112 u113 u114 u115 u116 u117 u118 u119 u120 u121 u122 u123 u124 u125 u126 u127 u128 u129 u130 u131 u132 u133 u134 u135 u136 u137 u138 u139 u140 u141 u142 u143 u144 u145 u146 u147 u148 u149 u150 u151 u152 u153 u154 u155 u156 s w0 q R gx P x Q w) :
    (Code.block 4 (bodyOf Tryd.f4 4)).wp Tryd.prog Q { tmps := #[u0, u1, u2, .pointer (some ⟨q, 0, none⟩), u4, .pointer (some ⟨gx, 0, none⟩), u6, u7, u8, u9, u10, u11, u12, u13, u14, u15, u16, u17, u18, u19, u20, u21, u22, u23, u24, u25, u26, u27, u28, u29, u30, u31, u32, u33, u34, u35, u36, u37, u38, u39, u40, u41, u42, u43, u44, u45, u46, u47, u48, u49, u50, .int .i64 x.kind, u52, u53, u54, u55, u56, u57, u58, u59, u60, u61, u62, u63, u64, u65, u66, u67, u68, u69, u70, u71, u72, u73, u74, u75, u76, u77, u78, u79, u80, u81, u82, u83, u84, u85, u86, u87, u88, u89, u90, u91, u92, u93, u94, u95, u96, u97, u98, u99, u100, u101, u102, u103, u104, u105, u106, u107, u108, u109, u110, u111, u112, u113, u114, u115, u116, u117, u118, u119, u120, u121, u122, u123, u124, u125, u126, u127, u128, u129, u130, u131, u132, u133, u134, u135, u136, u137, u138, u139, u140, u141, u142, u143, u144, u145, u146, u147, u148, u149, u150, u151, u152, u153, u154, u155, u156], defers := [] } w := by
  simp only [bodyOf, Tryd.f4, blkOf, Option.bind_some, Option.orElse, Option.getD_some, Nat.reduceEqDiff, if_true, if_false, reduceCtorEq]
  have HQ := Lib.hid hQ
  have HS := Lib.hid hs
  have HK := Lib.hid hK
  obtain ⟨c0, c1, c2, c3, c4, c5, c6, cl⟩ := hX.cells
  have HX := Lib.hid hX
  clear hQ hs hK hX
  by_cases k3 : x.kind = 3
  · have e3 : (x.kind == 3) = true := by simpa using k3
    have hd : deedP P x = dropP P x.id := by unfold deedP; rw [if_pos k3]
    have HD := Lib.hid hd
    clear k3 hd
    go_wp2_with fail
    refine (HK.out.drop HS.out x.id).mono ?_
    rintro e w2 ⟨rfl, h1, h2⟩
    have H1 := Lib.hid h1; have H2 := Lib.hid h2
    rw [← HD.out] at H1 ⊢
    clear h1 h2 c0 c1 c2 c3 c4 c5 c6 cl
    go_wp2_with fail
    exact HQ.out _ _ _ _ _ _ _ _ _ _ _ _ _ _ _ _ _ _ _ _ _ _ _ R H1.out (.inl rfl) H2.out
  · by_cases k4 : x.kind = 4
    · have e3 : (x.kind == 3) = false := by simpa using k3
      have e4 : (x.kind == 4) = true := by simpa using k4
      have hd : deedP P x = setP P x.id x.n := by unfold deedP; rw [if_neg k3, if_pos k4]
      have HD := Lib.hid hd
      clear k3 k4 hd
      go_wp2_with fail
      refine (HK.out.sets HS.out x.id x.n).mono ?_
      rintro e w2 ⟨rfl, h1, h2⟩
      have H1 := Lib.hid h1; have H2 := Lib.hid h2
      rw [← HD.out] at H1 ⊢
      clear h1 h2 c0 c1 c2 c3 c4 c5 c6 cl
      go_wp2_with fail
      exact HQ.out _ _ _ _ _ _ _ _ _ _ _ _ _ _ _ _ _ _ _ _ _ _ _ R H1.out (.inl rfl) H2.out
    · have e3 : (x.kind == 3) = false := by simpa using k3
      have e4 : (x.kind == 4) = false := by simpa using k4
      have hd : deedP P x = addP P x.id x.n x.v := by unfold deedP; rw [if_neg k3, if_neg k4]
      have HD := Lib.hid hd
      clear k3 k4 hd
      go_wp2_with fail
      refine (HK.out.add HS.out x.id x.n x.v).mono ?_
      rintro e w2 ⟨rfl, R', h1, hr, h2⟩
      have H1 := Lib.hid h1; have H2 := Lib.hid h2; have HR := Lib.hid hr
      rw [← HD.out] at H1 ⊢
      clear h1 h2 hr c0 c1 c2 c3 c4 c5 c6 cl
      go_wp2_with fail
      exact HQ.out _ _ _ _ _ _ _ _ _ _ _ _ _ _ _ _ _ _ _ _ _ _ _ R' H1.out HR.out H2.out

/-- What is asked behind it. -/
def live_c1Q (u0 u1 u4 u5 u7 u16 u17 u18 u19 u20 u21 u22 u23 u24 u25 u26 u27 u28 u29 u30 u31 u32 u33 u34 u35 u36 u37 u38 u39 u40 u41 u42 u43 u44 u45 u46 u47 u48 u49 u50 u51 u52 u53 u54 u55 u56 u57 u58 u59 u60 u61 u62 u63 u64 u65 u66 u67 u68 u69 u70 u71 u72 u73 u74 u75 u76 u77 u78 u79 u80 u145 u146 u147 u148 u149 u150 u151 u152 u153 u154 u155 u156 : Value) (w0 : World) (q R g gm gn : Nat) (P : List Mc) (m n : Mc) (b1 b2 : Bool) (Q : Exit → Act → World → Prop) (w : World) : Prop :=
  ∀ (v2 v13 v14 v15 v81 v82 v83 v84 v85 v86 v87 v88 v89 v90 v91 v92 v93 v94 v95 v96 v97 v98 v99 v100 v101 v102 v103 v104 v105 v106 v107 v108 v109 v110 v111 v112 v113 v114 v115 v116 v117 v118 v119 v120 v121 v122 v123 v124 v125 v126 v127 v128 v129 v130 v131 v132 v133 v134 v135 v136 v137 v138 v139 v140 v141 v142 v143 v144 : Value) (w' : World), PkAt w0 w' q R P → McB w' gm m → McB w' gn n → Below w.heap.size w w' → Q .normal { tmps := #[u0, u1, v2, .pointer (some ⟨q, 0, none⟩), u4, u5, .pointer (some ⟨g, 0, none⟩), u7, .pointer (some ⟨gm, 0, none⟩), .bool b1, .nilIface, .pointer (some ⟨gn, 0, none⟩), .bool b2, v13, v14, v15, u16, u17, u18, u19, u20, u21, u22, u23, u24, u25, u26, u27, u28, u29, u30, u31, u32, u33, u34, u35, u36, u37, u38, u39, u40, u41, u42, u43, u44, u45, u46, u47, u48, u49, u50, u51, u52, u53, u54, u55, u56, u57, u58, u59, u60, u61, u62, u63, u64, u65, u66, u67, u68, u69, u70, u71, u72, u73, u74, u75, u76, u77, u78, u79, u80, v81, v82, v83, v84, v85, v86, v87, v88, v89, v90, v91, v92, v93, v94, v95, v96, v97, v98, v99, v100, v101, v102, v103, v104, v105, v106, v107, v108, v109, v110, v111, v112, v113, v114, v115, v116, v117, v118, v119, v120, v121, v122, v123, v124, v125, v126, v127, v128, v129, v130, v131, v132, v133, v134, v135, v136, v137, v138, v139, v140, v141, v142, v143, v144, u145, u146, u147, u148, u149, u150, u151, u152, u153, u154, u155, u156], defers := [] } w'
set_option maxRecDepth 100000 in
set_option maxHeartbeats 6400000 in
/-- What is live is asked of each cell, behind a deed. -/
theorem live_c1 (u0 u1 u2 u4 u5 u7 u14 u15 u16 u17 u18 u19 u20 u21 u22 u23 u24 u25 u26 u27 u28 u29 u30 u31 u32 u33 u34 u35 u36 u37 u38 u39 u40 u41 u42 u43 u44 u45 u46 u47 u48 u49 u50 u51 u52 u53 u54 u55 u56 u57 u58 u59 u60 u61 u62 u63 u64 u65 u66 u67 u68 u69 u70 u71 u72 u73 u74 u75 u76 u77 u78 u79 u80 u81 u82 u83 u84 u85 u86 u87 u88 u89 u90 u91 u92 u93 u94 u95 u96 u97 u98 u99 u100 u101 u102 u103 u104 u105 u106 u107 u108 u109 u110 u111 u112 u113 u114 u115 u116 u117 u118 u119 u120 u121 u122 u123 u124 u125 u126 u127 u128 u129 u130 u131 u132 u133 u134 u135 u136 u137 u138 u139 u140 u141 u142 u143 u144 u145 u146 u147 u148 u149 u150 u151 u152 u153 u154 u155 u156 : Value) (s : Nat → Addr) (w0 : World) (q R g gm gn : Nat) (P : List Mc) (m n : Mc) (b1 b2 : Bool) (G : Nat → V4) (Q : Exit → Act → World → Prop) (w : World) (hs : Sent s w0) (hK : PkAt w0 w q R P) (hW : WB w g G) (hm : McB w gm m) (hn : McB w gn n) (hG : ∀ k, k < 5 → goodV (G k) = true) (hgm : goodV m.has = true ∧ goodV n.has = true) (heq : ∀ k : Nat, k < 5 → liveP P (k : Int) false = addV (subV (G k) (ctV b1 m (k : Int))) (ctV b2 n (k : Int)))
    (hQ : live_c1Q u0 u1 u4 u5 u7 u16 u17 u18 u19 u20 u21 u22 u23 u24 u25 u26 u27 u28 u29 u30 u31 u32 u33 u34 u35 u36 u37 u38 u39 u40 u41 u42 u43 u44 u45 u46 u47 u48 u49 u50 u51 u52 u53 u54 u55 u56 u57 u58 u59 u60 u61 u62 u63 u64 u65 u66 u67 u68 u69 u70 u71 u72 u73 u74 u75 u76 u77 u78 u79 u80 u145 u146 u147 u148 u149 u150 u151 u152 u153 u154 u155 u156 w0 q R g gm gn P m n b1 b2 Q w) :
    (Code.block 5 (bodyOf Tryd.f4 5)).wp Tryd.prog Q { tmps := #[u0, u1, u2, .pointer (some ⟨q, 0, none⟩), u4, u5, .pointer (some ⟨g, 0, none⟩), u7, .pointer (some ⟨gm, 0, none⟩), .bool b1, .nilIface, .pointer (some ⟨gn, 0, none⟩), .bool b2, .int .i64 0, u14, u15, u16, u17, u18, u19, u20, u21, u22, u23, u24, u25, u26, u27, u28, u29, u30, u31, u32, u33, u34, u35, u36, u37, u38, u39, u40, u41, u42, u43, u44, u45, u46, u47, u48, u49, u50, u51, u52, u53, u54, u55, u56, u57, u58, u59, u60, u61, u62, u63, u64, u65, u66, u67, u68, u69, u70, u71, u72, u73, u74, u75, u76, u77, u78, u79, u80, u81, u82, u83, u84, u85, u86, u87, u88, u89, u90, u91, u92, u93, u94, u95, u96, u97, u98, u99, u100, u101, u102, u103, u104, u105, u106, u107, u108, u109, u110, u111, u112, u113, u114, u115, u116, u117, u118, u119, u120, u121, u122, u123, u124, u125, u126, u127, u128, u129, u130, u131, u132, u133, u134, u135, u136, u137, u138, u139, u140, u141, u142, u143, u144, u145, u146, u147, u148, u149, u150, u151, u152, u153, u154, u155, u156], defers := [] } w := by
  simp only [bodyOf, Tryd.f4, blkOf, Option.bind_some, Option.orElse, Option.getD_some, Nat.reduceEqDiff, if_true, if_false, reduceCtorEq]
  have HQ := Lib.hid hQ
  have HS := Lib.hid hs
  have HK := Lib.hid hK; have HW := Lib.hid hW; have HM := Lib.hid hm; have HN := Lib.hid hn
  have HGG := Lib.hid hG; have HGM := Lib.hid hgm; have HEQ := Lib.hid heq
  clear hQ hs hK hW hm hn hG hgm heq
  go_wp2_with fail
  go_loopw [13] (fun u W => ∃ k : Nat, k ≤ 5 ∧ u = .int .i64 (k : Int) ∧ PkAt w0 W q R P ∧ WB W g G ∧ McB W gm m ∧ McB W gn n ∧ Below w.heap.size w W) (fun u _ => 5 - (intOf u).toNat)
  case atStart => exact ⟨0, Nat.zero_le _, rfl, HK.out, HW.out, HM.out, HN.out, Below.refl _ _⟩
  case round =>
    clear HK HW HM HN
    obtain ⟨k, hk, rfl, h1, h2, h3, h4, h5⟩ := hrel
    have HK := Lib.hid h1; have HW := Lib.hid h2; have HM := Lib.hid h3; have HN := Lib.hid h4; have HB := Lib.hid h5
    clear h1 h2 h3 h4 h5
    by_cases hk5 : k < 5
    · have hkz : (k : Int) < 5 := by omega
      have hk0 : (0 : Int) ≤ (k : Int) := by omega
      obtain ⟨z0, z1, z2, z3, zf⟩ := HW.out.cells hk5
      obtain ⟨g14, hg14⟩ : ∃ g14, g14 = wr.heap.size := ⟨_, rfl⟩
      obtain ⟨W3, hW3⟩ : ∃ W3, W3 = wr.alloc (.cells #[.int .i64 (G k).a, .int .i64 (G k).b, .int .i64 (G k).c, .int .i64 (G k).d] 28) := ⟨_, rfl⟩
      have hb3 : Below wr.heap.size wr W3 := by rw [hW3]; exact (Below.refl _ _).alloc (Nat.le_refl _) _
      have HZ3 : Hid (Vb W3 g14 (G k)) := Lib.hid (by rw [hW3, hg14]; exact Vb.new wr (G k))
      have HW3 := Lib.hid hW3
      have HG14 := Lib.hid hg14
      clear hW3
      go_upto_block 7 with fail
      rw [← HW3.out, ← HG14.out]
      clear z0 z1 z2 z3 zf
      refine wp_blk (bodyOf Tryd.f4 7) (by kernel_rfl) ?_
      refine live_k _ _ _ _ _ _ _ _ _ _ _ _ _ _ _ _ _ _ _ _ _ _ _ _ _ _ _ _ _ _ _ _ _ _ _ _ _ _ _ _ _ _ _ _ _ _ _ _ _ _ _ _ _ _ _ _ _ _ _ _ _ _ _ _ _ _ _ _ _ _ _ _ _ _ _ _ _ _ _ _ _ _ _ _ _ _ _ _ _ _ _ _ _ _ _ _ _ _ _ _ _ _ _ _ _ _ _ _ _ _ _ _ _ _ _ _ _ _ _ _ _ _ _ _ _ _ _ _ _ _ _ _ _ _ _ _ _ _ _ _ _ _ _ _ _ _ _ _ _ gm gn g14 m n b1 b2 (k : Int) (G k) _ W3 (McB.on hb3 HM.out) (McB.on hb3 HN.out) HZ3.out (by have := lt_of_row HM.out; omega) (by have := lt_of_row HN.out; omega) (HGG.out k hk5) HGM.out.1 HGM.out.2 ?_
      intro _ _ _ _ _ _ _ _ _ _ _ _ _ _ _ _ _ _ _ _ _ _ _ _ _ _ _ _ _ _ _ _ _ _ _ _ _ _ _ _ _ _ _ _ _ _ _ _ _ _ _ _ _ w4 z4 c4
      have hK4 : PkAt w0 w4 q R P := by
        have hlt := HK.out.mem.lt
        have h3 := HK.out.on hb3
        exact h3.far (h3.below.trans (c4.below (by have := HK.out.below.size; omega) (by have := HK.out.below.size; omega) h3.below.size)) fun j hj => c4.block j (by rcases hj with rfl | rfl <;> (have := hb3.size; omega)) (by rcases hj with rfl | rfl <;> omega) (by rcases hj with rfl | rfl <;> omega)
      have hb4 : Below wr.heap.size wr w4 := hb3.trans (c4.below (by omega) (by omega) hb3.size)
      have HK4 := Lib.hid hK4
      have HB4 := Lib.hid hb4
      obtain ⟨X, hX⟩ : ∃ X, X = liveP P (k : Int) false := ⟨_, rfl⟩
      have HZ4 : Hid (Vb w4 g14 X) := Lib.hid (by rw [hX, HEQ.out k hk5]; exact z4)
      have HLV : Hid (∀ W, Below w4.heap.size w4 W → Calls Tryd.prog 17 #[.pointer (some ⟨q, 0, none⟩), .int .i64 (k : Int)] W fun e w' => e = .returned (.agg #[.int .i64 X.a, .int .i64 X.b, .int .i64 X.c, .int .i64 X.d]) ∧ Below W.heap.size W w') := Lib.hid fun W hb => by rw [hX]; exact (HK4.out.on hb).live HS.out (k : Int)
      have hEX : ∀ W : World, (Op.equalIn 10000 28 (.agg #[.int .i64 X.a, .int .i64 X.b, .int .i64 X.c, .int .i64 X.d]) (.agg #[.int .i64 X.a, .int .i64 X.b, .int .i64 X.c, .int .i64 X.d])).run Tryd.prog W = .ok true W := fun W => (eqVd X X W).trans (by rw [decide_eq_true rfl])
      have HSS : Hid (∀ W, Below w4.heap.size w4 W → W.cell? ⟨g14, 0, none⟩ = some (.int .i64 X.a) ∧ W.cell? ⟨g14, 1, none⟩ = some (.int .i64 X.b) ∧ W.cell? ⟨g14, 2, none⟩ = some (.int .i64 X.c) ∧ W.cell? ⟨g14, 3, none⟩ = some (.int .i64 X.d) ∧ Below w4.heap.size w4 W) := Lib.hid fun W hb => by
        obtain ⟨a0, a1, a2, a3, _, _⟩ := (Vb.on' hb HZ4.out).facts
        exact ⟨a0, a1, a2, a3, hb⟩
      clear hK4 hb4 hX z4 c4 hb3 HW3 HZ3 hg14
      have hb44 := Below.refl w4.heap.size w4
      obtain ⟨y0, y1, y2, y3, _⟩ := HSS.out w4 hb44
      go_upto_region 33 with fail
      go_region_held3 (fun W => W.cell? ⟨g14, 0, none⟩ = some (.int .i64 X.a) ∧ W.cell? ⟨g14, 1, none⟩ = some (.int .i64 X.b) ∧ W.cell? ⟨g14, 2, none⟩ = some (.int .i64 X.c) ∧ W.cell? ⟨g14, 3, none⟩ = some (.int .i64 X.d) ∧ Below w4.heap.size w4 W)
        (exact HSS.out _ (by (repeat' (first | (with_reducible exact Below.refl _ _) | (with_reducible refine below_drewN ?_ _) | (with_reducible refine Below.drew ?_) | (with_reducible refine Below.alloc ?_ ?_ _) | (with_reducible refine Below.setCell ?_ ?_ _) | (with_reducible refine Below.trans ?_ (Below.mono (by with_reducible assumption) ?_)) | omega | (simp only [World.size_drew] at *; omega) | (with_reducible refine Below.size (B := 0) ?_)))))
        (first | (go_at_call 17; refine (HLV.out _ (by (repeat' (first | (with_reducible exact Below.refl _ _) | (with_reducible refine below_drewN ?_ _) | (with_reducible refine Below.drew ?_) | (with_reducible refine Below.alloc ?_ ?_ _) | (with_reducible refine Below.setCell ?_ ?_ _) | (with_reducible refine Below.trans ?_ (Below.mono (by with_reducible assumption) ?_)) | omega | (simp only [World.size_drew] at *; omega) | (with_reducible refine Below.size (B := 0) ?_))))).mono ?_; rintro e w5 ⟨rfl, b5⟩))
      all_goals go_wp2_with fail
      all_goals go_roundw
      all_goals first
        | (simp [intOf]; omega)
        | skip
      all_goals
        have hb45 : Below w4.heap.size w4 w5 := by (repeat' (first | (with_reducible exact Below.refl _ _) | (with_reducible refine below_drewN ?_ _) | (with_reducible refine Below.drew ?_) | (with_reducible refine Below.alloc ?_ ?_ _) | (with_reducible refine Below.setCell ?_ ?_ _) | (with_reducible refine Below.trans ?_ (Below.mono (by with_reducible assumption) ?_)) | omega | (simp only [World.size_drew] at *; omega) | (with_reducible refine Below.size (B := 0) ?_)))
        have hbb : Below wr.heap.size wr w5 := HB4.out.trans (Below.mono hb45 HB4.out.size)
        exact ⟨k + 1, by omega, by go_num, HK4.out.on hb45, WB.on hbb HW.out, McB.on hbb HM.out, McB.on hbb HN.out, HB.out.trans (hbb.mono HB.out.size)⟩
    · obtain rfl : k = 5 := by omega
      go_wp2_with fail
      exact HQ.out _ _ _ _ _ _ _ _ _ _ _ _ _ _ _ _ _ _ _ _ _ _ _ _ _ _ _ _ _ _ _ _ _ _ _ _ _ _ _ _ _ _ _ _ _ _ _ _ _ _ _ _ _ _ _ _ _ _ _ _ _ _ _ _ _ _ _ _ _ HK.out HM.out HN.out HB.out

/-- What is asked behind it. -/
def live_c0Q (u0 u1 u4 u5 u7 u16 u17 u18 u19 u20 u21 u22 u23 u24 u25 u26 u27 u28 u29 u30 u31 u32 u33 u34 u35 u36 u37 u38 u39 u40 u41 u42 u43 u44 u45 u46 u47 u48 u49 u50 u51 u52 u53 u54 u55 u56 u57 u58 u59 u60 u61 u62 u63 u64 u65 u66 u67 u68 u69 u70 u71 u72 u73 u74 u75 u76 u77 u78 u79 u80 u145 u146 u147 u148 u149 u150 u151 u152 u153 u154 u155 u156 : Value) (w0 : World) (q R g gm gn : Nat) (P : List Mc) (m n : Mc) (b1 b2 : Bool) (T : TypeId) (a : Addr) (Q : Exit → Act → World → Prop) (w : World) : Prop :=
  ∀ (v2 v13 v14 v15 v81 v82 v83 v84 v85 v86 v87 v88 v89 v90 v91 v92 v93 v94 v95 v96 v97 v98 v99 v100 v101 v102 v103 v104 v105 v106 v107 v108 v109 v110 v111 v112 v113 v114 v115 v116 v117 v118 v119 v120 v121 v122 v123 v124 v125 v126 v127 v128 v129 v130 v131 v132 v133 v134 v135 v136 v137 v138 v139 v140 v141 v142 v143 v144 : Value) (w' : World), PkAt w0 w' q R P → McB w' gm m → McB w' gn n → Below w.heap.size w w' → Q .normal { tmps := #[u0, u1, v2, .pointer (some ⟨q, 0, none⟩), u4, u5, .pointer (some ⟨g, 0, none⟩), u7, .pointer (some ⟨gm, 0, none⟩), .bool b1, .iface T (.pointer (some a)), .pointer (some ⟨gn, 0, none⟩), .bool b2, v13, v14, v15, u16, u17, u18, u19, u20, u21, u22, u23, u24, u25, u26, u27, u28, u29, u30, u31, u32, u33, u34, u35, u36, u37, u38, u39, u40, u41, u42, u43, u44, u45, u46, u47, u48, u49, u50, u51, u52, u53, u54, u55, u56, u57, u58, u59, u60, u61, u62, u63, u64, u65, u66, u67, u68, u69, u70, u71, u72, u73, u74, u75, u76, u77, u78, u79, u80, v81, v82, v83, v84, v85, v86, v87, v88, v89, v90, v91, v92, v93, v94, v95, v96, v97, v98, v99, v100, v101, v102, v103, v104, v105, v106, v107, v108, v109, v110, v111, v112, v113, v114, v115, v116, v117, v118, v119, v120, v121, v122, v123, v124, v125, v126, v127, v128, v129, v130, v131, v132, v133, v134, v135, v136, v137, v138, v139, v140, v141, v142, v143, v144, u145, u146, u147, u148, u149, u150, u151, u152, u153, u154, u155, u156], defers := [] } w'
set_option maxRecDepth 100000 in
set_option maxHeartbeats 6400000 in
/-- What is live is asked of each cell, where the deed failed. -/
theorem live_c0 (u0 u1 u2 u4 u5 u7 u14 u15 u16 u17 u18 u19 u20 u21 u22 u23 u24 u25 u26 u27 u28 u29 u30 u31 u32 u33 u34 u35 u36 u37 u38 u39 u40 u41 u42 u43 u44 u45 u46 u47 u48 u49 u50 u51 u52 u53 u54 u55 u56 u57 u58 u59 u60 u61 u62 u63 u64 u65 u66 u67 u68 u69 u70 u71 u72 u73 u74 u75 u76 u77 u78 u79 u80 u81 u82 u83 u84 u85 u86 u87 u88 u89 u90 u91 u92 u93 u94 u95 u96 u97 u98 u99 u100 u101 u102 u103 u104 u105 u106 u107 u108 u109 u110 u111 u112 u113 u114 u115 u116 u117 u118 u119 u120 u121 u122 u123 u124 u125 u126 u127 u128 u129 u130 u131 u132 u133 u134 u135 u136 u137 u138 u139 u140 u141 u142 u143 u144 u145 u146 u147 u148 u149 u150 u151 u152 u153 u154 u155 u156 : Value) (s : Nat → Addr) (w0 : World) (q R g gm gn : Nat) (P : List Mc) (m n : Mc) (b1 b2 : Bool) (G : Nat → V4) (T : TypeId) (a : Addr) (Q : Exit → Act → World → Prop) (w : World) (hs : Sent s w0) (hK : PkAt w0 w q R P) (hW : WB w g G) (hm : McB w gm m) (hn : McB w gn n) (hG : ∀ k, k < 5 → goodV (G k) = true) (hgm : goodV m.has = true ∧ goodV n.has = true) (heq : ∀ k : Nat, k < 5 → liveP P (k : Int) false = G k)
    (hQ : live_c0Q u0 u1 u4 u5 u7 u16 u17 u18 u19 u20 u21 u22 u23 u24 u25 u26 u27 u28 u29 u30 u31 u32 u33 u34 u35 u36 u37 u38 u39 u40 u41 u42 u43 u44 u45 u46 u47 u48 u49 u50 u51 u52 u53 u54 u55 u56 u57 u58 u59 u60 u61 u62 u63 u64 u65 u66 u67 u68 u69 u70 u71 u72 u73 u74 u75 u76 u77 u78 u79 u80 u145 u146 u147 u148 u149 u150 u151 u152 u153 u154 u155 u156 w0 q R g gm gn P m n b1 b2 T a Q w) :
    (Code.block 5 (bodyOf Tryd.f4 5)).wp Tryd.prog Q { tmps := #[u0, u1, u2, .pointer (some ⟨q, 0, none⟩), u4, u5, .pointer (some ⟨g, 0, none⟩), u7, .pointer (some ⟨gm, 0, none⟩), .bool b1, .iface T (.pointer (some a)), .pointer (some ⟨gn, 0, none⟩), .bool b2, .int .i64 0, u14, u15, u16, u17, u18, u19, u20, u21, u22, u23, u24, u25, u26, u27, u28, u29, u30, u31, u32, u33, u34, u35, u36, u37, u38, u39, u40, u41, u42, u43, u44, u45, u46, u47, u48, u49, u50, u51, u52, u53, u54, u55, u56, u57, u58, u59, u60, u61, u62, u63, u64, u65, u66, u67, u68, u69, u70, u71, u72, u73, u74, u75, u76, u77, u78, u79, u80, u81, u82, u83, u84, u85, u86, u87, u88, u89, u90, u91, u92, u93, u94, u95, u96, u97, u98, u99, u100, u101, u102, u103, u104, u105, u106, u107, u108, u109, u110, u111, u112, u113, u114, u115, u116, u117, u118, u119, u120, u121, u122, u123, u124, u125, u126, u127, u128, u129, u130, u131, u132, u133, u134, u135, u136, u137, u138, u139, u140, u141, u142, u143, u144, u145, u146, u147, u148, u149, u150, u151, u152, u153, u154, u155, u156], defers := [] } w := by
  simp only [bodyOf, Tryd.f4, blkOf, Option.bind_some, Option.orElse, Option.getD_some, Nat.reduceEqDiff, if_true, if_false, reduceCtorEq]
  have HQ := Lib.hid hQ
  have HS := Lib.hid hs
  have HK := Lib.hid hK; have HW := Lib.hid hW; have HM := Lib.hid hm; have HN := Lib.hid hn
  have HGG := Lib.hid hG; have HGM := Lib.hid hgm; have HEQ := Lib.hid heq
  clear hQ hs hK hW hm hn hG hgm heq
  go_wp2_with fail
  go_loopw [13] (fun u W => ∃ k : Nat, k ≤ 5 ∧ u = .int .i64 (k : Int) ∧ PkAt w0 W q R P ∧ WB W g G ∧ McB W gm m ∧ McB W gn n ∧ Below w.heap.size w W) (fun u _ => 5 - (intOf u).toNat)
  case atStart => exact ⟨0, Nat.zero_le _, rfl, HK.out, HW.out, HM.out, HN.out, Below.refl _ _⟩
  case round =>
    clear HK HW HM HN
    obtain ⟨k, hk, rfl, h1, h2, h3, h4, h5⟩ := hrel
    have HK := Lib.hid h1; have HW := Lib.hid h2; have HM := Lib.hid h3; have HN := Lib.hid h4; have HB := Lib.hid h5
    clear h1 h2 h3 h4 h5
    by_cases hk5 : k < 5
    · have hkz : (k : Int) < 5 := by omega
      have hk0 : (0 : Int) ≤ (k : Int) := by omega
      obtain ⟨z0, z1, z2, z3, zf⟩ := HW.out.cells hk5
      obtain ⟨g14, hg14⟩ : ∃ g14, g14 = wr.heap.size := ⟨_, rfl⟩
      obtain ⟨W3, hW3⟩ : ∃ W3, W3 = wr.alloc (.cells #[.int .i64 (G k).a, .int .i64 (G k).b, .int .i64 (G k).c, .int .i64 (G k).d] 28) := ⟨_, rfl⟩
      have hb3 : Below wr.heap.size wr W3 := by rw [hW3]; exact (Below.refl _ _).alloc (Nat.le_refl _) _
      have HZ3 : Hid (Vb W3 g14 (G k)) := Lib.hid (by rw [hW3, hg14]; exact Vb.new wr (G k))
      have HW3 := Lib.hid hW3
      have HG14 := Lib.hid hg14
      clear hW3
      go_upto_block 7 with fail
      rw [← HW3.out, ← HG14.out]
      clear z0 z1 z2 z3 zf
      refine wp_blk (bodyOf Tryd.f4 7) (by kernel_rfl) ?_
      refine live_k0 _ _ _ _ _ _ _ _ _ _ _ _ _ _ _ _ _ _ _ _ _ _ _ _ _ _ _ _ _ _ _ _ _ _ _ _ _ _ _ _ _ _ _ _ _ _ _ _ _ _ _ _ _ _ _ _ _ _ _ _ _ _ _ _ _ _ _ _ _ _ _ _ _ _ _ _ _ _ _ _ _ _ _ _ _ _ _ _ _ _ _ _ _ _ _ _ _ _ _ _ _ _ _ _ _ _ _ _ _ _ _ _ _ _ _ _ _ _ _ _ _ _ _ _ _ _ _ _ _ _ _ _ _ _ _ _ _ _ _ _ _ _ _ _ _ _ _ _ _ _ _ _ _ _ _ T a _ W3 ?_
      intro _ _ _ _ _ _ _ _ _ _ _ _ _ _ _ _ _ _ _ _ _ _ _ _ _ _ _ _ _ _ _ _ _ _ _ _ _ _ _ _ _ _ _ _ _ _ _ _ _ _ _ _ _ w4 e4
      have z4 : Vb w4 g14 (G k) := by rw [e4]; exact HZ3.out
      have c4 : Chg g14 g14 W3 w4 := by rw [e4]; exact Chg.refl _ _ _
      clear e4
      have hK4 : PkAt w0 w4 q R P := by
        have hlt := HK.out.mem.lt
        have h3 := HK.out.on hb3
        exact h3.far (h3.below.trans (c4.below (by have := HK.out.below.size; omega) (by have := HK.out.below.size; omega) h3.below.size)) fun j hj => c4.block j (by rcases hj with rfl | rfl <;> (have := hb3.size; omega)) (by rcases hj with rfl | rfl <;> omega) (by rcases hj with rfl | rfl <;> omega)
      have hb4 : Below wr.heap.size wr w4 := hb3.trans (c4.below (by omega) (by omega) hb3.size)
      have HK4 := Lib.hid hK4
      have HB4 := Lib.hid hb4
      obtain ⟨X, hX⟩ : ∃ X, X = liveP P (k : Int) false := ⟨_, rfl⟩
      have HZ4 : Hid (Vb w4 g14 X) := Lib.hid (by rw [hX, HEQ.out k hk5]; exact z4)
      have HLV : Hid (∀ W, Below w4.heap.size w4 W → Calls Tryd.prog 17 #[.pointer (some ⟨q, 0, none⟩), .int .i64 (k : Int)] W fun e w' => e = .returned (.agg #[.int .i64 X.a, .int .i64 X.b, .int .i64 X.c, .int .i64 X.d]) ∧ Below W.heap.size W w') := Lib.hid fun W hb => by rw [hX]; exact (HK4.out.on hb).live HS.out (k : Int)
      have hEX : ∀ W : World, (Op.equalIn 10000 28 (.agg #[.int .i64 X.a, .int .i64 X.b, .int .i64 X.c, .int .i64 X.d]) (.agg #[.int .i64 X.a, .int .i64 X.b, .int .i64 X.c, .int .i64 X.d])).run Tryd.prog W = .ok true W := fun W => (eqVd X X W).trans (by rw [decide_eq_true rfl])
      have HSS : Hid (∀ W, Below w4.heap.size w4 W → W.cell? ⟨g14, 0, none⟩ = some (.int .i64 X.a) ∧ W.cell? ⟨g14, 1, none⟩ = some (.int .i64 X.b) ∧ W.cell? ⟨g14, 2, none⟩ = some (.int .i64 X.c) ∧ W.cell? ⟨g14, 3, none⟩ = some (.int .i64 X.d) ∧ Below w4.heap.size w4 W) := Lib.hid fun W hb => by
        obtain ⟨a0, a1, a2, a3, _, _⟩ := (Vb.on' hb HZ4.out).facts
        exact ⟨a0, a1, a2, a3, hb⟩
      clear hK4 hb4 hX z4 c4 hb3 HW3 HZ3 hg14
      have hb44 := Below.refl w4.heap.size w4
      obtain ⟨y0, y1, y2, y3, _⟩ := HSS.out w4 hb44
      go_upto_region 33 with fail
      go_region_held3 (fun W => W.cell? ⟨g14, 0, none⟩ = some (.int .i64 X.a) ∧ W.cell? ⟨g14, 1, none⟩ = some (.int .i64 X.b) ∧ W.cell? ⟨g14, 2, none⟩ = some (.int .i64 X.c) ∧ W.cell? ⟨g14, 3, none⟩ = some (.int .i64 X.d) ∧ Below w4.heap.size w4 W)
        (exact HSS.out _ (by (repeat' (first | (with_reducible exact Below.refl _ _) | (with_reducible refine below_drewN ?_ _) | (with_reducible refine Below.drew ?_) | (with_reducible refine Below.alloc ?_ ?_ _) | (with_reducible refine Below.setCell ?_ ?_ _) | (with_reducible refine Below.trans ?_ (Below.mono (by with_reducible assumption) ?_)) | omega | (simp only [World.size_drew] at *; omega) | (with_reducible refine Below.size (B := 0) ?_)))))
        (first | (go_at_call 17; refine (HLV.out _ (by (repeat' (first | (with_reducible exact Below.refl _ _) | (with_reducible refine below_drewN ?_ _) | (with_reducible refine Below.drew ?_) | (with_reducible refine Below.alloc ?_ ?_ _) | (with_reducible refine Below.setCell ?_ ?_ _) | (with_reducible refine Below.trans ?_ (Below.mono (by with_reducible assumption) ?_)) | omega | (simp only [World.size_drew] at *; omega) | (with_reducible refine Below.size (B := 0) ?_))))).mono ?_; rintro e w5 ⟨rfl, b5⟩))
      all_goals go_wp2_with fail
      all_goals go_roundw
      all_goals first
        | (simp [intOf]; omega)
        | skip
      all_goals
        have hb45 : Below w4.heap.size w4 w5 := by (repeat' (first | (with_reducible exact Below.refl _ _) | (with_reducible refine below_drewN ?_ _) | (with_reducible refine Below.drew ?_) | (with_reducible refine Below.alloc ?_ ?_ _) | (with_reducible refine Below.setCell ?_ ?_ _) | (with_reducible refine Below.trans ?_ (Below.mono (by with_reducible assumption) ?_)) | omega | (simp only [World.size_drew] at *; omega) | (with_reducible refine Below.size (B := 0) ?_)))
        have hbb : Below wr.heap.size wr w5 := HB4.out.trans (Below.mono hb45 HB4.out.size)
        exact ⟨k + 1, by omega, by go_num, HK4.out.on hb45, WB.on hbb HW.out, McB.on hbb HM.out, McB.on hbb HN.out, HB.out.trans (hbb.mono HB.out.size)⟩
    · obtain rfl : k = 5 := by omega
      go_wp2_with fail
      exact HQ.out _ _ _ _ _ _ _ _ _ _ _ _ _ _ _ _ _ _ _ _ _ _ _ _ _ _ _ _ _ _ _ _ _ _ _ _ _ _ _ _ _ _ _ _ _ _ _ _ _ _ _ _ _ _ _ _ _ _ _ _ _ _ _ _ _ _ _ _ _ HK.out HM.out HN.out HB.out

end Go.Proofs.YtaenpajmgenjhaaDoor
