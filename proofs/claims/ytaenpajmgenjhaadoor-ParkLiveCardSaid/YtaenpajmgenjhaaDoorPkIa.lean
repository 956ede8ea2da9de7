/- Pieces of the law ParkLive, walked on their own: a machine in a cell, a loop over a vector. No conditions. -/
import Derived.Test.YtaenpajmgenjhaaDoorPpH
import Derived.Test.YtaenpajmgenjhaaDoorRgC
import Derived.Deep.DeepCutAuto
import Derived.Deep.CutBlock
import Derived.Deep.RegionHeld3
import Derived.Deep.QuietTactic
import Derived.StillTailTactics
namespace Go.Proofs.YtaenpajmgenjhaaDoor
open Go Go.RowKit

/-- What a machine adds, told with its three tests. -/
def ctV (b : Bool) (m : Mc) (c : Int) : V4 := if (b && ((m.st == 0) && (m.cell == c))) = true then m.has else ⟨0, 0, 0, 0⟩
def putV (x : V4) (k : Nat) (v : Int) : V4 := match k with | 0 => { x with a := v } | 1 => { x with b := v } | 2 => { x with c := v } | _ => { x with d := v }
def mixV (k : Nat) (x y : V4) : V4 := match k with | 0 => x | 1 => ⟨y.a, x.b, x.c, x.d⟩ | 2 => ⟨y.a, y.b, x.c, x.d⟩ | 3 => ⟨y.a, y.b, y.c, x.d⟩ | _ => y
theorem Vb.put {w : World} {g : Nat} {x : V4} (h : Vb w g x) (k : Nat) (hk : k < 4) (v : Int) : Vb (w.setCell ⟨g, k, none⟩ (.int .i64 v)) g (putV x k v) := by
  have e := heap_setCell_same w g k _ _ (.int .i64 v) h
  have hc : k = 0 ∨ k = 1 ∨ k = 2 ∨ k = 3 := by omega
  rcases hc with rfl | rfl | rfl | rfl <;> exact e
theorem McB.far {w : World} {g : Nat} {x : Mc} (h : McB w g x) {b : Nat} (hne : g ≠ b) (k : Nat) (v : Value) : McB (w.setCell ⟨b, k, none⟩ v) g x := (heap_setCell_other w ⟨b, k, none⟩ g v hne).trans h

set_option maxRecDepth 100000 in
set_option maxHeartbeats 6400000 in
/-- Is the machine there, up, and in the cell? -/
theorem live29 (u0 u1 u2 u3 u4 u5 u6 u7 u10 u11 u12 u14 u15 u16 u17 u18 u19 u20 u21 u22 u23 u24 u25 u26 u27 u28 u29 u30 u31 u32 u33 u34 u35 u36 u37 u38 u39 u40 u41 u42 u43 u44 u45 u46 u47 u48 u49 u50 u51 u52 u53 u54 u55 u56 u57 u58 u59 u60 u61 u62 u63 u64 u65 u66 u67 u68 u69 u70 u71 u72 u73 u74 u75 u76 u77 u78 u79 u80 u81 u82 u83 u84 u85 u86 u87 u88 u89 u90 u91 u92 u93 u94 u95 u96 u97 u98 u99 u100 u101 u102 u103 u104 u105 u106 u107 u108 u109 u110 u111 u112 u113 u114 u115 u116 u117 u118 u119 u120 u121 u122 u123 u124 u125 u126 u127 u128 u129 u130 u131 u132 u133 u134 u135 u136 u137 u138 u139 u140 u141 u142 u143 u144 u145 u146 u147 u148 u149 u150 u151 u152 u153 u154 u155 u156 : Value) (gm : Nat) (m : Mc) (b : Bool) (c : Int) (Q : Exit → Act → World → Prop) (w : World) (hM : McB w gm m)
    (hQ : ∀ (v96 v97 v98 v99 v100 v101 v102 v103 v104 v105 v106 : Value) (w' : World), w' = w → Q .normal { tmps := #[u0, u1, u2, u3, u4, u5, u6, u7, .pointer (some ⟨gm, 0, none⟩), .bool b, u10, u11, u12, .int .i64 c, u14, u15, u16, u17, u18, u19, u20, u21, u22, u23, u24, u25, u26, u27, u28, u29, u30, u31, u32, u33, u34, u35, u36, u37, u38, u39, u40, u41, u42, u43, u44, u45, u46, u47, u48, u49, u50, u51, u52, u53, u54, u55, u56, u57, u58, u59, u60, u61, u62, u63, u64, u65, u66, u67, u68, u69, u70, u71, u72, u73, u74, u75, u76, u77, u78, u79, u80, u81, u82, u83, u84, u85, u86, u87, u88, u89, u90, u91, u92, u93, u94, u95, v96, v97, v98, v99, v100, v101, v102, v103, v104, v105, v106, .bool (b && ((m.st == 0) && (m.cell == c))), u108, u109, u110, u111, u112, u113, u114, u115, u116, u117, u118, u119, u120, u121, u122, u123, u124, u125, u126, u127, u128, u129, u130, u131, u132, u133, u134, u135, u136, u137, u138, u139, u140, u141, u142, u143, u144, u145, u146, u147, u148, u149, u150, u151, u152, u153, u154, u155, u156], defers := [] } w') :
    (Code.region 29 (opsOf Tryd.f4 29).toArray false).wp Tryd.prog Q { tmps := #[u0, u1, u2, u3, u4, u5, u6, u7, .pointer (some ⟨gm, 0, none⟩), .bool b, u10, u11, u12, .int .i64 c, u14, u15, u16, u17, u18, u19, u20, u21, u22, u23, u24, u25, u26, u27, u28, u29, u30, u31, u32, u33, u34, u35, u36, u37, u38, u39, u40, u41, u42, u43, u44, u45, u46, u47, u48, u49, u50, u51, u52, u53, u54, u55, u56, u57, u58, u59, u60, u61, u62, u63, u64, u65, u66, u67, u68, u69, u70, u71, u72, u73, u74, u75, u76, u77, u78, u79, u80, u81, u82, u83, u84, u85, u86, u87, u88, u89, u90, u91, u92, u93, u94, u95, u96, u97, u98, u99, u100, u101, u102, u103, u104, u105, u106, u107, u108, u109, u110, u111, u112, u113, u114, u115, u116, u117, u118, u119, u120, u121, u122, u123, u124, u125, u126, u127, u128, u129, u130, u131, u132, u133, u134, u135, u136, u137, u138, u139, u140, u141, u142, u143, u144, u145, u146, u147, u148, u149, u150, u151, u152, u153, u154, u155, u156], defers := [] } w := by
  simp only [opsOf, Tryd.f4, regOf, Option.bind_some, Option.orElse, Option.getD_some, Nat.reduceEqDiff, if_true, if_false, reduceCtorEq]
  have HQ := Lib.hid hQ
  obtain ⟨c0, c1, c2, c3, c4, c5, c6, cf, cl⟩ := hM.facts
  clear hQ hM
  cases b with
  | false =>
    go_wp2_with fail
    exact HQ.out _ _ _ _ _ _ _ _ _ _ _ _ rfl
  | true =>
    cases e1 : (m.st == 0) with
    | false =>
      rw [e1] at HQ
      go_wp2_with fail
      exact HQ.out _ _ _ _ _ _ _ _ _ _ _ _ rfl
    | true =>
      rw [e1] at HQ
      cases e2 : (m.cell == c) with
      | false =>
        rw [e2] at HQ
        go_wp2_with fail
        exact HQ.out _ _ _ _ _ _ _ _ _ _ _ _ rfl
      | true =>
        rw [e2] at HQ
        go_wp2_with fail
        exact HQ.out _ _ _ _ _ _ _ _ _ _ _ _ rfl

set_option maxRecDepth 100000 in
set_option maxHeartbeats 6400000 in
/-- Is the machine there, up, and in the cell? -/
theorem live31 (u0 u1 u2 u3 u4 u5 u6 u7 u8 u9 u10 u14 u15 u16 u17 u18 u19 u20 u21 u22 u23 u24 u25 u26 u27 u28 u29 u30 u31 u32 u33 u34 u35 u36 u37 u38 u39 u40 u41 u42 u43 u44 u45 u46 u47 u48 u49 u50 u51 u52 u53 u54 u55 u56 u57 u58 u59 u60 u61 u62 u63 u64 u65 u66 u67 u68 u69 u70 u71 u72 u73 u74 u75 u76 u77 u78 u79 u80 u81 u82 u83 u84 u85 u86 u87 u88 u89 u90 u91 u92 u93 u94 u95 u96 u97 u98 u99 u100 u101 u102 u103 u104 u105 u106 u107 u108 u109 u110 u111 u112 u113 u114 u115 u116 u117 u118 u119 u120 u121 u122 u123 u124 u125 u126 u127 u128 u129 u130 u131 u132 u133 u134 u135 u136 u137 u138 u139 u140 u141 u142 u143 u144 u145 u146 u147 u148 u149 u150 u151 u152 u153 u154 u155 u156 : Value) (gm : Nat) (m : Mc) (b : Bool) (c : Int) (Q : Exit → Act → World → Prop) (w : World) (hM : McB w gm m)
    (hQ : ∀ (v118 v119 v120 v121 v122 v123 v124 v125 v126 v127 v128 : Value) (w' : World), w' = w → Q .normal { tmps := #[u0, u1, u2, u3, u4, u5, u6, u7, u8, u9, u10, .pointer (some ⟨gm, 0, none⟩), .bool b, .int .i64 c, u14, u15, u16, u17, u18, u19, u20, u21, u22, u23, u24, u25, u26, u27, u28, u29, u30, u31, u32, u33, u34, u35, u36, u37, u38, u39, u40, u41, u42, u43, u44, u45, u46, u47, u48, u49, u50, u51, u52, u53, u54, u55, u56, u57, u58, u59, u60, u61, u62, u63, u64, u65, u66, u67, u68, u69, u70, u71, u72, u73, u74, u75, u76, u77, u78, u79, u80, u81, u82, u83, u84, u85, u86, u87, u88, u89, u90, u91, u92, u93, u94, u95, u96, u97, u98, u99, u100, u101, u102, u103, u104, u105, u106, u107, u108, u109, u110, u111, u112, u113, u114, u115, u116, u117, v118, v119, v120, v121, v122, v123, v124, v125, v126, v127, v128, .bool (b && ((m.st == 0) && (m.cell == c))), u130, u131, u132, u133, u134, u135, u136, u137, u138, u139, u140, u141, u142, u143, u144, u145, u146, u147, u148, u149, u150, u151, u152, u153, u154, u155, u156], defers := [] } w') :
    (Code.region 31 (opsOf Tryd.f4 31).toArray false).wp Tryd.prog Q { tmps := #[u0, u1, u2, u3, u4, u5, u6, u7, u8, u9, u10, .pointer (some ⟨gm, 0, none⟩), .bool b, .int .i64 c, u14, u15, u16, u17, u18, u19, u20, u21, u22, u23, u24, u25, u26, u27, u28, u29, u30, u31, u32, u33, u34, u35, u36, u37, u38, u39, u40, u41, u42, u43, u44, u45, u46, u47, u48, u49, u50, u51, u52, u53, u54, u55, u56, u57, u58, u59, u60, u61, u62, u63, u64, u65, u66, u67, u68, u69, u70, u71, u72, u73, u74, u75, u76, u77, u78, u79, u80, u81, u82, u83, u84, u85, u86, u87, u88, u89, u90, u91, u92, u93, u94, u95, u96, u97, u98, u99, u100, u101, u102, u103, u104, u105, u106, u107, u108, u109, u110, u111, u112, u113, u114, u115, u116, u117, u118, u119, u120, u121, u122, u123, u124, u125, u126, u127, u128, u129, u130, u131, u132, u133, u134, u135, u136, u137, u138, u139, u140, u141, u142, u143, u144, u145, u146, u147, u148, u149, u150, u151, u152, u153, u154, u155, u156], defers := [] } w := by
  simp only [opsOf, Tryd.f4, regOf, Option.bind_some, Option.orElse, Option.getD_some, Nat.reduceEqDiff, if_true, if_false, reduceCtorEq]
  have HQ := Lib.hid hQ
  obtain ⟨c0, c1, c2, c3, c4, c5, c6, cf, cl⟩ := hM.facts
  clear hQ hM
  cases b with
  | false =>
    go_wp2_with fail
    exact HQ.out _ _ _ _ _ _ _ _ _ _ _ _ rfl
  | true =>
    cases e1 : (m.st == 0) with
    | false =>
      rw [e1] at HQ
      go_wp2_with fail
      exact HQ.out _ _ _ _ _ _ _ _ _ _ _ _ rfl
    | true =>
      rw [e1] at HQ
      cases e2 : (m.cell == c) with
      | false =>
        rw [e2] at HQ
        go_wp2_with fail
        exact HQ.out _ _ _ _ _ _ _ _ _ _ _ _ rfl
      | true =>
        rw [e2] at HQ
        go_wp2_with fail
        exact HQ.out _ _ _ _ _ _ _ _ _ _ _ _ rfl

/-- What is asked behind it. -/
def live_kQ (u0 u1 u2 u3 u4 u5 u6 u7 u16 u17 u18 u19 u20 u21 u22 u23 u24 u25 u26 u27 u28 u29 u30 u31 u32 u33 u34 u35 u36 u37 u38 u39 u40 u41 u42 u43 u44 u45 u46 u47 u48 u49 u50 u51 u52 u53 u54 u55 u56 u57 u58 u59 u60 u61 u62 u63 u64 u65 u66 u67 u68 u69 u70 u71 u72 u73 u74 u75 u76 u77 u78 u79 u80 u81 u82 u83 u84 u85 u86 u87 u140 u141 u142 u143 u144 u145 u146 u147 u148 u149 u150 u151 u152 u153 u154 u155 u156 : Value) (gm gn g : Nat) (m n : Mc) (b1 b2 : Bool) (c : Int) (x : V4) (Q : Exit → Act → World → Prop) (w : World) : Prop :=
  ∀ (v15 v88 v89 v90 v91 v92 v93 v94 v95 v96 v97 v98 v99 v100 v101 v102 v103 v104 v105 v106 v107 v108 v109 v110 v111 v112 v113 v114 v115 v116 v117 v118 v119 v120 v121 v122 v123 v124 v125 v126 v127 v128 v129 v130 v131 v132 v133 v134 v135 v136 v137 v138 v139 : Value) (w' : World), Vb w' g (addV (subV x (ctV b1 m c)) (ctV b2 n c)) → Chg g g w w' → Q .normal { tmps := #[u0, u1, u2, u3, u4, u5, u6, u7, .pointer (some ⟨gm, 0, none⟩), .bool b1, .nilIface, .pointer (some ⟨gn, 0, none⟩), .bool b2, .int .i64 c, .pointer (some ⟨g, 0, none⟩), v15, u16, u17, u18, u19, u20, u21, u22, u23, u24, u25, u26, u27, u28, u29, u30, u31, u32, u33, u34, u35, u36, u37, u38, u39, u40, u41, u42, u43, u44, u45, u46, u47, u48, u49, u50, u51, u52, u53, u54, u55, u56, u57, u58, u59, u60, u61, u62, u63, u64, u65, u66, u67, u68, u69, u70, u71, u72, u73, u74, u75, u76, u77, u78, u79, u80, u81, u82, u83, u84, u85, u86, u87, v88, v89, v90, v91, v92, v93, v94, v95, v96, v97, v98, v99, v100, v101, v102, v103, v104, v105, v106, v107, v108, v109, v110, v111, v112, v113, v114, v115, v116, v117, v118, v119, v120, v121, v122, v123, v124, v125, v126, v127, v128, v129, v130, v131, v132, v133, v134, v135, v136, v137, v138, v139, u140, u141, u142, u143, u144, u145, u146, u147, u148, u149, u150, u151, u152, u153, u154, u155, u156], defers := [] } w'
set_option maxRecDepth 100000 in
set_option maxHeartbeats 6400000 in
/-- The loop over a vector: what the old machine had goes, what the new one has comes. -/
theorem live_k (u0 u1 u2 u3 u4 u5 u6 u7 u16 u17 u18 u19 u20 u21 u22 u23 u24 u25 u26 u27 u28 u29 u30 u31 u32 u33 u34 u35 u36 u37 u38 u39 u40 u41 u42 u43 u44 u45 u46 u47 u48 u49 u50 u51 u52 u53 u54 u55 u56 u57 u58 u59 u60 u61 u62 u63 u64 u65 u66 u67 u68 u69 u70 u71 u72 u73 u74 u75 u76 u77 u78 u79 u80 u81 u82 u83 u84 u85 u86 u87 u88 u89 u90 u91 u92 u93 u94 u95 u96 u97 u98 u99 u100 u101 u102 u103 u104 u105 u106 u107 u108 u109 u110 u111 u112 u113 u114 u115 u116 u117 u118 u119 u120 u121 u122 u123 u124 u125 u126 u127 u128 u129 u130 u131 u132 u133 u134 u135 u136 u137 u138 u139 u140 u141 u142 u143 u144 u145 u146 u147 u148 u149 u150 u151 u152 u153 u154 u155 u156 : Value) (gm gn g : Nat) (m n : Mc) (b1 b2 : Bool) (c : Int) (x : V4) (Q : Exit → Act → World → Prop) (w : World) (hm : McB w gm m) (hn : McB w gn n) (hz : Vb w g x) (h1 : gm ≠ g) (h2 : gn ≠ g) (gx : goodV x = true) (gmm : goodV m.has = true) (gnn : goodV n.has = true)
    (hQ : live_kQ u0 u1 u2 u3 u4 u5 u6 u7 u16 u17 u18 u19 u20 u21 u22 u23 u24 u25 u26 u27 u28 u29 u30 u31 u32 u33 u34 u35 u36 u37 u38 u39 u40 u41 u42 u43 u44 u45 u46 u47 u48 u49 u50 u51 u52 u53 u54 u55 u56 u57 u58 u59 u60 u61 u62 u63 u64 u65 u66 u67 u68 u69 u70 u71 u72 u73 u74 u75 u76 u77 u78 u79 u80 u81 u82 u83 u84 u85 u86 u87 u140 u141 u142 u143 u144 u145 u146 u147 u148 u149 u150 u151 u152 u153 u154 u155 u156 gm gn g m n b1 b2 c x Q w) :
    (Code.block 7 (bodyOf Tryd.f4 7)).wp Tryd.prog Q { tmps := #[u0, u1, u2, u3, u4, u5, u6, u7, .pointer (some ⟨gm, 0, none⟩), .bool b1, .nilIface, .pointer (some ⟨gn, 0, none⟩), .bool b2, .int .i64 c, .pointer (some ⟨g, 0, none⟩), .int .i64 0, u16, u17, u18, u19, u20, u21, u22, u23, u24, u25, u26, u27, u28, u29, u30, u31, u32, u33, u34, u35, u36, u37, u38, u39, u40, u41, u42, u43, u44, u45, u46, u47, u48, u49, u50, u51, u52, u53, u54, u55, u56, u57, u58, u59, u60, u61, u62, u63, u64, u65, u66, u67, u68, u69, u70, u71, u72, u73, u74, u75, u76, u77, u78, u79, u80, u81, u82, u83, u84, u85, u86, u87, u88, u89, u90, u91, u92, u93, u94, u95, u96, u97, u98, u99, u100, u101, u102, u103, u104, u105, u106, u107, u108, u109, u110, u111, u112, u113, u114, u115, u116, u117, u118, u119, u120, u121, u122, u123, u124, u125, u126, u127, u128, u129, u130, u131, u132, u133, u134, u135, u136, u137, u138, u139, u140, u141, u142, u143, u144, u145, u146, u147, u148, u149, u150, u151, u152, u153, u154, u155, u156], defers := [] } w := by
  simp only [bodyOf, Tryd.f4, blkOf, Option.bind_some, Option.orElse, Option.getD_some, Nat.reduceEqDiff, if_true, if_false, reduceCtorEq]
  have HQ := Lib.hid hQ
  have HM := Lib.hid hm; have HN := Lib.hid hn; have HZ := Lib.hid hz
  have HG1 := Lib.hid (goodV_of gx); have HG2 := Lib.hid (goodV_of gmm); have HG3 := Lib.hid (goodV_of gnn)
  obtain ⟨A, hA⟩ : ∃ A, A = ctV b1 m c := ⟨_, rfl⟩
  obtain ⟨B, hB⟩ : ∃ B, B = ctV b2 n c := ⟨_, rfl⟩
  have HA := Lib.hid hA; have HB := Lib.hid hB
  clear hQ hm hn hz gx gmm gnn hA hB
  go_wp2_with fail
  go_loopw [15] (fun u W => ∃ k : Nat, k ≤ 4 ∧ u = .int .i64 (k : Int) ∧ McB W gm m ∧ McB W gn n ∧ Vb W g (mixV k x (addV (subV x A) B)) ∧ Chg g g w W) (fun u _ => 4 - (intOf u).toNat)
  case atStart => exact ⟨0, Nat.zero_le _, rfl, HM.out, HN.out, HZ.out, Chg.refl _ _ _⟩
  case round =>
    clear HM HN HZ
    obtain ⟨k, hk, rfl, hm, hn, hz, hc⟩ := hrel
    have HM := Lib.hid hm; have HN := Lib.hid hn; have HZ := Lib.hid hz; have HC := Lib.hid hc
    clear hm hn hz hc
    by_cases hk4 : k < 4
    · have hkc : k = 0 ∨ k = 1 ∨ k = 2 ∨ k = 3 := by omega
      clear hk hk4
      rcases hkc with rfl | rfl | rfl | rfl
      · go_upto_region 29 with fail
        refine wp_reg (opsOf Tryd.f4 29) (by kernel_rfl) ?_
        refine live29 _ _ _ _ _ _ _ _ _ _ _ _ _ _ _ _ _ _ _ _ _ _ _ _ _ _ _ _ _ _ _ _ _ _ _ _ _ _ _ _ _ _ _ _ _ _ _ _ _ _ _ _ _ _ _ _ _ _ _ _ _ _ _ _ _ _ _ _ _ _ _ _ _ _ _ _ _ _ _ _ _ _ _ _ _ _ _ _ _ _ _ _ _ _ _ _ _ _ _ _ _ _ _ _ _ _ _ _ _ _ _ _ _ _ _ _ _ _ _ _ _ _ _ _ _ _ _ _ _ _ _ _ _ _ _ _ _ _ _ _ _ _ _ _ _ _ _ _ _ _ _ _ _ _ gm m b1 c _ _ HM.out ?_
        intro _ _ _ _ _ _ _ _ _ _ _ w29 e29
        rw [e29]
        clear e29 w29
        generalize hB1 : (b1 && ((m.st == 0) && (m.cell == c))) = B1
        have hAB : A = if B1 = true then m.has else ⟨0, 0, 0, 0⟩ := by rw [HA.out]; unfold ctV; rw [hB1]
        clear hB1
        cases B1 with
        | true =>
          rw [if_pos rfl] at hAB
          have HAB := Lib.hid hAB
          clear hAB
          obtain ⟨c0, c1, c2, c3, c4, c5, c6, cf, cl⟩ := HM.out.facts
          obtain ⟨z0, z1, z2, z3, zf, zl⟩ := HZ.out.facts
          dsimp only [mixV] at z0 z1 z2 z3
          have hw1 : wrap64 (x.a - m.has.a) = x.a - m.has.a := by have := HG1.out; have := HG2.out; unfold wrap64; omega
          go_upto_region 30 with fail
          go_still_tail 10, (by kernel_rfl)
          change wpList _ _ _ _ _ wr.drew
          go_upto_region 31 with fail
          try rw [hw1]
          obtain ⟨W2, hW2⟩ : ∃ W2, W2 = (wr.setCell ⟨g, 0, none⟩ (.int .i64 (x.a - m.has.a))).drew := ⟨_, rfl⟩
          have HZ2 : Hid (Vb W2 g (putV (mixV 0 x (addV (subV x A) B)) 0 (x.a - m.has.a))) := Lib.hid (by rw [hW2]; exact (HZ.out.put 0 (by omega) _).drew')
          have HN2 : Hid (McB W2 gn n) := Lib.hid (by rw [hW2]; exact (HN.out.far h2 _ _).drew)
          have HM2 : Hid (McB W2 gm m) := Lib.hid (by rw [hW2]; exact (HM.out.far h1 _ _).drew)
          have HC2 : Hid (Chg g g w W2) := Lib.hid (by rw [hW2]; exact (Chg.setCell (ad := ⟨g, 0, none⟩) HC.out (.inl rfl) _).drew)
          have HW2 := Lib.hid hW2
          clear c0 c1 c2 c3 c4 c5 c6 cf cl z0 z1 z2 z3 zf zl hw1 hW2 HM HN HZ HC
          rw [← HW2.out]
          refine wp_reg (opsOf Tryd.f4 31) (by kernel_rfl) ?_
          refine live31 _ _ _ _ _ _ _ _ _ _ _ _ _ _ _ _ _ _ _ _ _ _ _ _ _ _ _ _ _ _ _ _ _ _ _ _ _ _ _ _ _ _ _ _ _ _ _ _ _ _ _ _ _ _ _ _ _ _ _ _ _ _ _ _ _ _ _ _ _ _ _ _ _ _ _ _ _ _ _ _ _ _ _ _ _ _ _ _ _ _ _ _ _ _ _ _ _ _ _ _ _ _ _ _ _ _ _ _ _ _ _ _ _ _ _ _ _ _ _ _ _ _ _ _ _ _ _ _ _ _ _ _ _ _ _ _ _ _ _ _ _ _ _ _ _ _ _ _ _ _ _ _ _ _ gn n b2 c _ _ HN2.out ?_
          intro _ _ _ _ _ _ _ _ _ _ _ w31 e31
          rw [e31]
          clear e31 w31
          generalize hB2 : (b2 && ((n.st == 0) && (n.cell == c))) = B2
          have hBB : B = if B2 = true then n.has else ⟨0, 0, 0, 0⟩ := by rw [HB.out]; unfold ctV; rw [hB2]
          clear hB2
          cases B2 with
          | true =>
            rw [if_pos rfl] at hBB
            have HBB := Lib.hid hBB
            clear hBB
            obtain ⟨d0, d1, d2, d3, d4, d5, d6, df, dl⟩ := HN2.out.facts
            obtain ⟨z0, z1, z2, z3, zf, zl⟩ := HZ2.out.facts
            dsimp only [mixV, putV] at z0 z1 z2 z3
            have hw2 : wrap64 (x.a - m.has.a + n.has.a) = x.a - m.has.a + n.has.a := by have := HG1.out; have := HG2.out; have := HG3.out; unfold wrap64; omega
            go_upto_region 32 with fail
            go_still_tail 10, (by kernel_rfl)
            change wpList _ _ _ _ _ W2.drew
            go_wp2_with fail
            try rw [hw2]
            go_roundw
            case rel =>
              have e : mixV 1 x (addV (subV x A) B) = putV (putV (mixV 0 x (addV (subV x A) B)) 0 (x.a - m.has.a)) 0 (x.a - m.has.a + n.has.a) := by rw [HAB.out, HBB.out]; rfl
              refine ⟨1, by omega, by go_num, (by (repeat' (first | (with_reducible exact HM2.out) | (with_reducible exact HN2.out) | (with_reducible refine McB.drew ?_) | (with_reducible refine McB.far ?_ h1 _ _) | (with_reducible refine McB.far ?_ h2 _ _)))), (by (repeat' (first | (with_reducible exact HM2.out) | (with_reducible exact HN2.out) | (with_reducible refine McB.drew ?_) | (with_reducible refine McB.far ?_ h1 _ _) | (with_reducible refine McB.far ?_ h2 _ _)))), ?_, (by (repeat' (first | (with_reducible exact HC2.out) | (with_reducible refine Chg.drew ?_) | (refine Chg.setCell (ad := ⟨g, _, none⟩) ?_ (.inl rfl) _))))⟩
              rw [e]
              (repeat' (first | (with_reducible exact HZ2.out) | (with_reducible refine Vb.drew' ?_) | (with_reducible refine Vb.put ?_ _ (by omega) _)))
            case measure => simp [intOf]
          | false =>
            rw [if_neg (by decide)] at hBB
            have HBB := Lib.hid hBB
            clear hBB
            go_wp2_with fail
            go_roundw
            case rel =>
              have e : mixV 1 x (addV (subV x A) B) = putV (mixV 0 x (addV (subV x A) B)) 0 (x.a - m.has.a) := by rw [HAB.out, HBB.out]; simp [mixV, putV, addV, subV]
              refine ⟨1, by omega, by go_num, (by (repeat' (first | (with_reducible exact HM2.out) | (with_reducible exact HN2.out) | (with_reducible refine McB.drew ?_) | (with_reducible refine McB.far ?_ h1 _ _) | (with_reducible refine McB.far ?_ h2 _ _)))), (by (repeat' (first | (with_reducible exact HM2.out) | (with_reducible exact HN2.out) | (with_reducible refine McB.drew ?_) | (with_reducible refine McB.far ?_ h1 _ _) | (with_reducible refine McB.far ?_ h2 _ _)))), ?_, (by (repeat' (first | (with_reducible exact HC2.out) | (with_reducible refine Chg.drew ?_) | (refine Chg.setCell (ad := ⟨g, _, none⟩) ?_ (.inl rfl) _))))⟩
              rw [e]
              (repeat' (first | (with_reducible exact HZ2.out) | (with_reducible refine Vb.drew' ?_) | (with_reducible refine Vb.put ?_ _ (by omega) _)))
            case measure => simp [intOf]
        | false =>
          rw [if_neg (by decide)] at hAB
          have HAB := Lib.hid hAB
          clear hAB
          go_upto_region 31 with fail
          have HZ2 : Hid (Vb wr g (mixV 0 x (addV (subV x A) B))) := HZ
          have HN2 := HN
          have HM2 := HM
          have HC2 := HC
          clear HZ HN HM HC
          refine wp_reg (opsOf Tryd.f4 31) (by kernel_rfl) ?_
          refine live31 _ _ _ _ _ _ _ _ _ _ _ _ _ _ _ _ _ _ _ _ _ _ _ _ _ _ _ _ _ _ _ _ _ _ _ _ _ _ _ _ _ _ _ _ _ _ _ _ _ _ _ _ _ _ _ _ _ _ _ _ _ _ _ _ _ _ _ _ _ _ _ _ _ _ _ _ _ _ _ _ _ _ _ _ _ _ _ _ _ _ _ _ _ _ _ _ _ _ _ _ _ _ _ _ _ _ _ _ _ _ _ _ _ _ _ _ _ _ _ _ _ _ _ _ _ _ _ _ _ _ _ _ _ _ _ _ _ _ _ _ _ _ _ _ _ _ _ _ _ _ _ _ _ _ gn n b2 c _ _ HN2.out ?_
          intro _ _ _ _ _ _ _ _ _ _ _ w31 e31
          rw [e31]
          clear e31 w31
          generalize hB2 : (b2 && ((n.st == 0) && (n.cell == c))) = B2
          have hBB : B = if B2 = true then n.has else ⟨0, 0, 0, 0⟩ := by rw [HB.out]; unfold ctV; rw [hB2]
          clear hB2
          cases B2 with
          | true =>
            rw [if_pos rfl] at hBB
            have HBB := Lib.hid hBB
            clear hBB
            obtain ⟨d0, d1, d2, d3, d4, d5, d6, df, dl⟩ := HN2.out.facts
            obtain ⟨z0, z1, z2, z3, zf, zl⟩ := HZ2.out.facts
            dsimp only [mixV, putV] at z0 z1 z2 z3
            have hw2 : wrap64 (x.a + n.has.a) = x.a + n.has.a := by have := HG1.out; have := HG2.out; have := HG3.out; unfold wrap64; omega
            go_upto_region 32 with fail
            go_still_tail 10, (by kernel_rfl)
            change wpList _ _ _ _ _ wr.drew
            go_wp2_with fail
            try rw [hw2]
            go_roundw
            case rel =>
              have e : mixV 1 x (addV (subV x A) B) = putV (mixV 0 x (addV (subV x A) B)) 0 (x.a + n.has.a) := by rw [HAB.out, HBB.out]; simp [mixV, putV, addV, subV]
              refine ⟨1, by omega, by go_num, (by (repeat' (first | (with_reducible exact HM2.out) | (with_reducible exact HN2.out) | (with_reducible refine McB.drew ?_) | (with_reducible refine McB.far ?_ h1 _ _) | (with_reducible refine McB.far ?_ h2 _ _)))), (by (repeat' (first | (with_reducible exact HM2.out) | (with_reducible exact HN2.out) | (with_reducible refine McB.drew ?_) | (with_reducible refine McB.far ?_ h1 _ _) | (with_reducible refine McB.far ?_ h2 _ _)))), ?_, (by (repeat' (first | (with_reducible exact HC2.out) | (with_reducible refine Chg.drew ?_) | (refine Chg.setCell (ad := ⟨g, _, none⟩) ?_ (.inl rfl) _))))⟩
              rw [e]
              (repeat' (first | (with_reducible exact HZ2.out) | (with_reducible refine Vb.drew' ?_) | (with_reducible refine Vb.put ?_ _ (by omega) _)))
            case measure => simp [intOf]
          | false =>
            rw [if_neg (by decide)] at hBB
            have HBB := Lib.hid hBB
            clear hBB
            go_wp2_with fail
            go_roundw
            case rel =>
              have e : mixV 1 x (addV (subV x A) B) = mixV 0 x (addV (subV x A) B) := by rw [HAB.out, HBB.out]; simp [mixV, addV, subV]
              refine ⟨1, by omega, by go_num, (by (repeat' (first | (with_reducible exact HM2.out) | (with_reducible exact HN2.out) | (with_reducible refine McB.drew ?_) | (with_reducible refine McB.far ?_ h1 _ _) | (with_reducible refine McB.far ?_ h2 _ _)))), (by (repeat' (first | (with_reducible exact HM2.out) | (with_reducible exact HN2.out) | (with_reducible refine McB.drew ?_) | (with_reducible refine McB.far ?_ h1 _ _) | (with_reducible refine McB.far ?_ h2 _ _)))), ?_, (by (repeat' (first | (with_reducible exact HC2.out) | (with_reducible refine Chg.drew ?_) | (refine Chg.setCell (ad := ⟨g, _, none⟩) ?_ (.inl rfl) _))))⟩
              rw [e]
              (repeat' (first | (with_reducible exact HZ2.out) | (with_reducible refine Vb.drew' ?_) | (with_reducible refine Vb.put ?_ _ (by omega) _)))
            case measure => simp [intOf]
      · go_upto_region 29 with fail
        refine wp_reg (opsOf Tryd.f4 29) (by kernel_rfl) ?_
        refine live29 _ _ _ _ _ _ _ _ _ _ _ _ _ _ _ _ _ _ _ _ _ _ _ _ _ _ _ _ _ _ _ _ _ _ _ _ _ _ _ _ _ _ _ _ _ _ _ _ _ _ _ _ _ _ _ _ _ _ _ _ _ _ _ _ _ _ _ _ _ _ _ _ _ _ _ _ _ _ _ _ _ _ _ _ _ _ _ _ _ _ _ _ _ _ _ _ _ _ _ _ _ _ _ _ _ _ _ _ _ _ _ _ _ _ _ _ _ _ _ _ _ _ _ _ _ _ _ _ _ _ _ _ _ _ _ _ _ _ _ _ _ _ _ _ _ _ _ _ _ _ _ _ _ _ gm m b1 c _ _ HM.out ?_
        intro _ _ _ _ _ _ _ _ _ _ _ w29 e29
        rw [e29]
        clear e29 w29
        generalize hB1 : (b1 && ((m.st == 0) && (m.cell == c))) = B1
        have hAB : A = if B1 = true then m.has else ⟨0, 0, 0, 0⟩ := by rw [HA.out]; unfold ctV; rw [hB1]
        clear hB1
        cases B1 with
        | true =>
          rw [if_pos rfl] at hAB
          have HAB := Lib.hid hAB
          clear hAB
          obtain ⟨c0, c1, c2, c3, c4, c5, c6, cf, cl⟩ := HM.out.facts
          obtain ⟨z0, z1, z2, z3, zf, zl⟩ := HZ.out.facts
          dsimp only [mixV] at z0 z1 z2 z3
          have hw1 : wrap64 (x.b - m.has.b) = x.b - m.has.b := by have := HG1.out; have := HG2.out; unfold wrap64; omega
          go_upto_region 30 with fail
          go_still_tail 10, (by kernel_rfl)
          change wpList _ _ _ _ _ wr.drew
          go_upto_region 31 with fail
          try rw [hw1]
          obtain ⟨W2, hW2⟩ : ∃ W2, W2 = (wr.setCell ⟨g, 1, none⟩ (.int .i64 (x.b - m.has.b))).drew := ⟨_, rfl⟩
          have HZ2 : Hid (Vb W2 g (putV (mixV 1 x (addV (subV x A) B)) 1 (x.b - m.has.b))) := Lib.hid (by rw [hW2]; exact (HZ.out.put 1 (by omega) _).drew')
          have HN2 : Hid (McB W2 gn n) := Lib.hid (by rw [hW2]; exact (HN.out.far h2 _ _).drew)
          have HM2 : Hid (McB W2 gm m) := Lib.hid (by rw [hW2]; exact (HM.out.far h1 _ _).drew)
          have HC2 : Hid (Chg g g w W2) := Lib.hid (by rw [hW2]; exact (Chg.setCell (ad := ⟨g, 1, none⟩) HC.out (.inl rfl) _).drew)
          have HW2 := Lib.hid hW2
          clear c0 c1 c2 c3 c4 c5 c6 cf cl z0 z1 z2 z3 zf zl hw1 hW2 HM HN HZ HC
          rw [← HW2.out]
          refine wp_reg (opsOf Tryd.f4 31) (by kernel_rfl) ?_
          refine live31 _ _ _ _ _ _ _ _ _ _ _ _ _ _ _ _ _ _ _ _ _ _ _ _ _ _ _ _ _ _ _ _ _ _ _ _ _ _ _ _ _ _ _ _ _ _ _ _ _ _ _ _ _ _ _ _ _ _ _ _ _ _ _ _ _ _ _ _ _ _ _ _ _ _ _ _ _ _ _ _ _ _ _ _ _ _ _ _ _ _ _ _ _ _ _ _ _ _ _ _ _ _ _ _ _ _ _ _ _ _ _ _ _ _ _ _ _ _ _ _ _ _ _ _ _ _ _ _ _ _ _ _ _ _ _ _ _ _ _ _ _ _ _ _ _ _ _ _ _ _ _ _ _ _ gn n b2 c _ _ HN2.out ?_
          intro _ _ _ _ _ _ _ _ _ _ _ w31 e31
          rw [e31]
          clear e31 w31
          generalize hB2 : (b2 && ((n.st == 0) && (n.cell == c))) = B2
          have hBB : B = if B2 = true then n.has else ⟨0, 0, 0, 0⟩ := by rw [HB.out]; unfold ctV; rw [hB2]
          clear hB2
          cases B2 with
          | true =>
            rw [if_pos rfl] at hBB
            have HBB := Lib.hid hBB
            clear hBB
            obtain ⟨d0, d1, d2, d3, d4, d5, d6, df, dl⟩ := HN2.out.facts
            obtain ⟨z0, z1, z2, z3, zf, zl⟩ := HZ2.out.facts
            dsimp only [mixV, putV] at z0 z1 z2 z3
            have hw2 : wrap64 (x.b - m.has.b + n.has.b) = x.b - m.has.b + n.has.b := by have := HG1.out; have := HG2.out; have := HG3.out; unfold wrap64; omega
            go_upto_region 32 with fail
            go_still_tail 10, (by kernel_rfl)
            change wpList _ _ _ _ _ W2.drew
            go_wp2_with fail
            try rw [hw2]
            go_roundw
            case rel =>
              have e : mixV 2 x (addV (subV x A) B) = putV (putV (mixV 1 x (addV (subV x A) B)) 1 (x.b - m.has.b)) 1 (x.b - m.has.b + n.has.b) := by rw [HAB.out, HBB.out]; rfl
              refine ⟨2, by omega, by go_num, (by (repeat' (first | (with_reducible exact HM2.out) | (with_reducible exact HN2.out) | (with_reducible refine McB.drew ?_) | (with_reducible refine McB.far ?_ h1 _ _) | (with_reducible refine McB.far ?_ h2 _ _)))), (by (repeat' (first | (with_reducible exact HM2.out) | (with_reducible exact HN2.out) | (with_reducible refine McB.drew ?_) | (with_reducible refine McB.far ?_ h1 _ _) | (with_reducible refine McB.far ?_ h2 _ _)))), ?_, (by (repeat' (first | (with_reducible exact HC2.out) | (with_reducible refine Chg.drew ?_) | (refine Chg.setCell (ad := ⟨g, _, none⟩) ?_ (.inl rfl) _))))⟩
              rw [e]
              (repeat' (first | (with_reducible exact HZ2.out) | (with_reducible refine Vb.drew' ?_) | (with_reducible refine Vb.put ?_ _ (by omega) _)))
            case measure => simp [intOf]
          | false =>
            rw [if_neg (by decide)] at hBB
            have HBB := Lib.hid hBB
            clear hBB
            go_wp2_with fail
            go_roundw
            case rel =>
              have e : mixV 2 x (addV (subV x A) B) = putV (mixV 1 x (addV (subV x A) B)) 1 (x.b - m.has.b) := by rw [HAB.out, HBB.out]; simp [mixV, putV, addV, subV]
              refine ⟨2, by omega, by go_num, (by (repeat' (first | (with_reducible exact HM2.out) | (with_reducible exact HN2.out) | (with_reducible refine McB.drew ?_) | (with_reducible refine McB.far ?_ h1 _ _) | (with_reducible refine McB.far ?_ h2 _ _)))), (by (repeat' (first | (with_reducible exact HM2.out) | (with_reducible exact HN2.out) | (with_reducible refine McB.drew ?_) | (with_reducible refine McB.far ?_ h1 _ _) | (with_reducible refine McB.far ?_ h2 _ _)))), ?_, (by (repeat' (first | (with_reducible exact HC2.out) | (with_reducible refine Chg.drew ?_) | (refine Chg.setCell (ad := ⟨g, _, none⟩) ?_ (.inl rfl) _))))⟩
              rw [e]
              (repeat' (first | (with_reducible exact HZ2.out) | (with_reducible refine Vb.drew' ?_) | (with_reducible refine Vb.put ?_ _ (by omega) _)))
            case measure => simp [intOf]
        | false =>
          rw [if_neg (by decide)] at hAB
          have HAB := Lib.hid hAB
          clear hAB
          go_upto_region 31 with fail
          have HZ2 : Hid (Vb wr g (mixV 1 x (addV (subV x A) B))) := HZ
          have HN2 := HN
          have HM2 := HM
          have HC2 := HC
          clear HZ HN HM HC
          refine wp_reg (opsOf Tryd.f4 31) (by kernel_rfl) ?_
          refine live31 _ _ _ _ _ _ _ _ _ _ _ _ _ _ _ _ _ _ _ _ _ _ _ _ _ _ _ _ _ _ _ _ _ _ _ _ _ _ _ _ _ _ _ _ _ _ _ _ _ _ _ _ _ _ _ _ _ _ _ _ _ _ _ _ _ _ _ _ _ _ _ _ _ _ _ _ _ _ _ _ _ _ _ _ _ _ _ _ _ _ _ _ _ _ _ _ _ _ _ _ _ _ _ _ _ _ _ _ _ _ _ _ _ _ _ _ _ _ _ _ _ _ _ _ _ _ _ _ _ _ _ _ _ _ _ _ _ _ _ _ _ _ _ _ _ _ _ _ _ _ _ _ _ _ gn n b2 c _ _ HN2.out ?_
          intro _ _ _ _ _ _ _ _ _ _ _ w31 e31
          rw [e31]
          clear e31 w31
          generalize hB2 : (b2 && ((n.st == 0) && (n.cell == c))) = B2
          have hBB : B = if B2 = true then n.has else ⟨0, 0, 0, 0⟩ := by rw [HB.out]; unfold ctV; rw [hB2]
          clear hB2
          cases B2 with
          | true =>
            rw [if_pos rfl] at hBB
            have HBB := Lib.hid hBB
            clear hBB
            obtain ⟨d0, d1, d2, d3, d4, d5, d6, df, dl⟩ := HN2.out.facts
            obtain ⟨z0, z1, z2, z3, zf, zl⟩ := HZ2.out.facts
            dsimp only [mixV, putV] at z0 z1 z2 z3
            have hw2 : wrap64 (x.b + n.has.b) = x.b + n.has.b := by have := HG1.out; have := HG2.out; have := HG3.out; unfold wrap64; omega
            go_upto_region 32 with fail
            go_still_tail 10, (by kernel_rfl)
            change wpList _ _ _ _ _ wr.drew
            go_wp2_with fail
            try rw [hw2]
            go_roundw
            case rel =>
              have e : mixV 2 x (addV (subV x A) B) = putV (mixV 1 x (addV (subV x A) B)) 1 (x.b + n.has.b) := by rw [HAB.out, HBB.out]; simp [mixV, putV, addV, subV]
              refine ⟨2, by omega, by go_num, (by (repeat' (first | (with_reducible exact HM2.out) | (with_reducible exact HN2.out) | (with_reducible refine McB.drew ?_) | (with_reducible refine McB.far ?_ h1 _ _) | (with_reducible refine McB.far ?_ h2 _ _)))), (by (repeat' (first | (with_reducible exact HM2.out) | (with_reducible exact HN2.out) | (with_reducible refine McB.drew ?_) | (with_reducible refine McB.far ?_ h1 _ _) | (with_reducible refine McB.far ?_ h2 _ _)))), ?_, (by (repeat' (first | (with_reducible exact HC2.out) | (with_reducible refine Chg.drew ?_) | (refine Chg.setCell (ad := ⟨g, _, none⟩) ?_ (.inl rfl) _))))⟩
              rw [e]
              (repeat' (first | (with_reducible exact HZ2.out) | (with_reducible refine Vb.drew' ?_) | (with_reducible refine Vb.put ?_ _ (by omega) _)))
            case measure => simp [intOf]
          | false =>
            rw [if_neg (by decide)] at hBB
            have HBB := Lib.hid hBB
            clear hBB
            go_wp2_with fail
            go_roundw
            case rel =>
              have e : mixV 2 x (addV (subV x A) B) = mixV 1 x (addV (subV x A) B) := by rw [HAB.out, HBB.out]; simp [mixV, addV, subV]
              refine ⟨2, by omega, by go_num, (by (repeat' (first | (with_reducible exact HM2.out) | (with_reducible exact HN2.out) | (with_reducible refine McB.drew ?_) | (with_reducible refine McB.far ?_ h1 _ _) | (with_reducible refine McB.far ?_ h2 _ _)))), (by (repeat' (first | (with_reducible exact HM2.out) | (with_reducible exact HN2.out) | (with_reducible refine McB.drew ?_) | (with_reducible refine McB.far ?_ h1 _ _) | (with_reducible refine McB.far ?_ h2 _ _)))), ?_, (by (repeat' (first | (with_reducible exact HC2.out) | (with_reducible refine Chg.drew ?_) | (refine Chg.setCell (ad := ⟨g, _, none⟩) ?_ (.inl rfl) _))))⟩
              rw [e]
              (repeat' (first | (with_reducible exact HZ2.out) | (with_reducible refine Vb.drew' ?_) | (with_reducible refine Vb.put ?_ _ (by omega) _)))
            case measure => simp [intOf]
      · go_upto_region 29 with fail
        refine wp_reg (opsOf Tryd.f4 29) (by kernel_rfl) ?_
        refine live29 _ _ _ _ _ _ _ _ _ _ _ _ _ _ _ _ _ _ _ _ _ _ _ _ _ _ _ _ _ _ _ _ _ _ _ _ _ _ _ _ _ _ _ _ _ _ _ _ _ _ _ _ _ _ _ _ _ _ _ _ _ _ _ _ _ _ _ _ _ _ _ _ _ _ _ _ _ _ _ _ _ _ _ _ _ _ _ _ _ _ _ _ _ _ _ _ _ _ _ _ _ _ _ _ _ _ _ _ _ _ _ _ _ _ _ _ _ _ _ _ _ _ _ _ _ _ _ _ _ _ _ _ _ _ _ _ _ _ _ _ _ _ _ _ _ _ _ _ _ _ _ _ _ _ gm m b1 c _ _ HM.out ?_
        intro _ _ _ _ _ _ _ _ _ _ _ w29 e29
        rw [e29]
        clear e29 w29
        generalize hB1 : (b1 && ((m.st == 0) && (m.cell == c))) = B1
        have hAB : A = if B1 = true then m.has else ⟨0, 0, 0, 0⟩ := by rw [HA.out]; unfold ctV; rw [hB1]
        clear hB1
        cases B1 with
        | true =>
          rw [if_pos rfl] at hAB
          have HAB := Lib.hid hAB
          clear hAB
          obtain ⟨c0, c1, c2, c3, c4, c5, c6, cf, cl⟩ := HM.out.facts
          obtain ⟨z0, z1, z2, z3, zf, zl⟩ := HZ.out.facts
          dsimp only [mixV] at z0 z1 z2 z3
          have hw1 : wrap64 (x.c - m.has.c) = x.c - m.has.c := by have := HG1.out; have := HG2.out; unfold wrap64; omega
          go_upto_region 30 with fail
          go_still_tail 10, (by kernel_rfl)
          change wpList _ _ _ _ _ wr.drew
          go_upto_region 31 with fail
          try rw [hw1]
          obtain ⟨W2, hW2⟩ : ∃ W2, W2 = (wr.setCell ⟨g, 2, none⟩ (.int .i64 (x.c - m.has.c))).drew := ⟨_, rfl⟩
          have HZ2 : Hid (Vb W2 g (putV (mixV 2 x (addV (subV x A) B)) 2 (x.c - m.has.c))) := Lib.hid (by rw [hW2]; exact (HZ.out.put 2 (by omega) _).drew')
          have HN2 : Hid (McB W2 gn n) := Lib.hid (by rw [hW2]; exact (HN.out.far h2 _ _).drew)
          have HM2 : Hid (McB W2 gm m) := Lib.hid (by rw [hW2]; exact (HM.out.far h1 _ _).drew)
          have HC2 : Hid (Chg g g w W2) := Lib.hid (by rw [hW2]; exact (Chg.setCell (ad := ⟨g, 2, none⟩) HC.out (.inl rfl) _).drew)
          have HW2 := Lib.hid hW2
          clear c0 c1 c2 c3 c4 c5 c6 cf cl z0 z1 z2 z3 zf zl hw1 hW2 HM HN HZ HC
          rw [← HW2.out]
          refine wp_reg (opsOf Tryd.f4 31) (by kernel_rfl) ?_
          refine live31 _ _ _ _ _ _ _ _ _ _ _ _ _ _ _ _ _ _ _ _ _ _ _ _ _ _ _ _ _ _ _ _ _ _ _ _ _ _ _ _ _ _ _ _ _ _ _ _ _ _ _ _ _ _ _ _ _ _ _ _ _ _ _ _ _ _ _ _ _ _ _ _ _ _ _ _ _ _ _ _ _ _ _ _ _ _ _ _ _ _ _ _ _ _ _ _ _ _ _ _ _ _ _ _ _ _ _ _ _ _ _ _ _ _ _ _ _ _ _ _ _ _ _ _ _ _ _ _ _ _ _ _ _ _ _ _ _ _ _ _ _ _ _ _ _ _ _ _ _ _ _ _ _ _ gn n b2 c _ _ HN2.out ?_
          intro _ _ _ _ _ _ _ _ _ _ _ w31 e31
          rw [e31]
          clear e31 w31
          generalize hB2 : (b2 && ((n.st == 0) && (n.cell == c))) = B2
          have hBB : B = if B2 = true then n.has else ⟨0, 0, 0, 0⟩ := by rw [HB.out]; unfold ctV; rw [hB2]
          clear hB2
          cases B2 with
          | true =>
            rw [if_pos rfl] at hBB
            have HBB := Lib.hid hBB
            clear hBB
            obtain ⟨d0, d1, d2, d3, d4, d5, d6, df, dl⟩ := HN2.out.facts
            obtain ⟨z0, z1, z2, z3, zf, zl⟩ := HZ2.out.facts
            dsimp only [mixV, putV] at z0 z1 z2 z3
            have hw2 : wrap64 (x.c - m.has.c + n.has.c) = x.c - m.has.c + n.has.c := by have := HG1.out; have := HG2.out; have := HG3.out; unfold wrap64; omega
            go_upto_region 32 with fail
            go_still_tail 10, (by kernel_rfl)
            change wpList _ _ _ _ _ W2.drew
            go_wp2_with fail
            try rw [hw2]
            go_roundw
            case rel =>
              have e : mixV 3 x (addV (subV x A) B) = putV (putV (mixV 2 x (addV (subV x A) B)) 2 (x.c - m.has.c)) 2 (x.c - m.has.c + n.has.c) := by rw [HAB.out, HBB.out]; rfl
              refine ⟨3, by omega, by go_num, (by (repeat' (first | (with_reducible exact HM2.out) | (with_reducible exact HN2.out) | (with_reducible refine McB.drew ?_) | (with_reducible refine McB.far ?_ h1 _ _) | (with_reducible refine McB.far ?_ h2 _ _)))), (by (repeat' (first | (with_reducible exact HM2.out) | (with_reducible exact HN2.out) | (with_reducible refine McB.drew ?_) | (with_reducible refine McB.far ?_ h1 _ _) | (with_reducible refine McB.far ?_ h2 _ _)))), ?_, (by (repeat' (first | (with_reducible exact HC2.out) | (with_reducible refine Chg.drew ?_) | (refine Chg.setCell (ad := ⟨g, _, none⟩) ?_ (.inl rfl) _))))⟩
              rw [e]
              (repeat' (first | (with_reducible exact HZ2.out) | (with_reducible refine Vb.drew' ?_) | (with_reducible refine Vb.put ?_ _ (by omega) _)))
            case measure => simp [intOf]
          | false =>
            rw [if_neg (by decide)] at hBB
            have HBB := Lib.hid hBB
            clear hBB
            go_wp2_with fail
            go_roundw
            case rel =>
              have e : mixV 3 x (addV (subV x A) B) = putV (mixV 2 x (addV (subV x A) B)) 2 (x.c - m.has.c) := by rw [HAB.out, HBB.out]; simp [mixV, putV, addV, subV]
              refine ⟨3, by omega, by go_num, (by (repeat' (first | (with_reducible exact HM2.out) | (with_reducible exact HN2.out) | (with_reducible refine McB.drew ?_) | (with_reducible refine McB.far ?_ h1 _ _) | (with_reducible refine McB.far ?_ h2 _ _)))), (by (repeat' (first | (with_reducible exact HM2.out) | (with_reducible exact HN2.out) | (with_reducible refine McB.drew ?_) | (with_reducible refine McB.far ?_ h1 _ _) | (with_reducible refine McB.far ?_ h2 _ _)))), ?_, (by (repeat' (first | (with_reducible exact HC2.out) | (with_reducible refine Chg.drew ?_) | (refine Chg.setCell (ad := ⟨g, _, none⟩) ?_ (.inl rfl) _))))⟩
              rw [e]
              (repeat' (first | (with_reducible exact HZ2.out) | (with_reducible refine Vb.drew' ?_) | (with_reducible refine Vb.put ?_ _ (by omega) _)))
            case measure => simp [intOf]
        | false =>
          rw [if_neg (by decide)] at hAB
          have HAB := Lib.hid hAB
          clear hAB
          go_upto_region 31 with fail
          have HZ2 : Hid (Vb wr g (mixV 2 x (addV (subV x A) B))) := HZ
          have HN2 := HN
          have HM2 := HM
          have HC2 := HC
          clear HZ HN HM HC
          refine wp_reg (opsOf Tryd.f4 31) (by kernel_rfl) ?_
          refine live31 _ _ _ _ _ _ _ _ _ _ _ _ _ _ _ _ _ _ _ _ _ _ _ _ _ _ _ _ _ _ _ _ _ _ _ _ _ _ _ _ _ _ _ _ _ _ _ _ _ _ _ _ _ _ _ _ _ _ _ _ _ _ _ _ _ _ _ _ _ _ _ _ _ _ _ _ _ _ _ _ _ _ _ _ _ _ _ _ _ _ _ _ _ _ _ _ _ _ _ _ _ _ _ _ _ _ _ _ _ _ _ _ _ _ _ _ _ _ _ _ _ _ _ _ _ _ _ _ _ _ _ _ _ _ _ _ _ _ _ _ _ _ _ _ _ _ _ _ _ _ _ _ _ _ gn n b2 c _ _ HN2.out ?_
          intro _ _ _ _ _ _ _ _ _ _ _ w31 e31
          rw [e31]
          clear e31 w31
          generalize hB2 : (b2 && ((n.st == 0) && (n.cell == c))) = B2
          have hBB : B = if B2 = true then n.has else ⟨0, 0, 0, 0⟩ := by rw [HB.out]; unfold ctV; rw [hB2]
          clear hB2
          cases B2 with
          | true =>
            rw [if_pos rfl] at hBB
            have HBB := Lib.hid hBB
            clear hBB
            obtain ⟨d0, d1, d2, d3, d4, d5, d6, df, dl⟩ := HN2.out.facts
            obtain ⟨z0, z1, z2, z3, zf, zl⟩ := HZ2.out.facts
            dsimp only [mixV, putV] at z0 z1 z2 z3
            have hw2 : wrap64 (x.c + n.has.c) = x.c + n.has.c := by have := HG1.out; have := HG2.out; have := HG3.out; unfold wrap64; omega
            go_upto_region 32 with fail
            go_still_tail 10, (by kernel_rfl)
            change wpList _ _ _ _ _ wr.drew
            go_wp2_with fail
            try rw [hw2]
            go_roundw
            case rel =>
              have e : mixV 3 x (addV (subV x A) B) = putV (mixV 2 x (addV (subV x A) B)) 2 (x.c + n.has.c) := by rw [HAB.out, HBB.out]; simp [mixV, putV, addV, subV]
              refine ⟨3, by omega, by go_num, (by (repeat' (first | (with_reducible exact HM2.out) | (with_reducible exact HN2.out) | (with_reducible refine McB.drew ?_) | (with_reducible refine McB.far ?_ h1 _ _) | (with_reducible refine McB.far ?_ h2 _ _)))), (by (repeat' (first | (with_reducible exact HM2.out) | (with_reducible exact HN2.out) | (with_reducible refine McB.drew ?_) | (with_reducible refine McB.far ?_ h1 _ _) | (with_reducible refine McB.far ?_ h2 _ _)))), ?_, (by (repeat' (first | (with_reducible exact HC2.out) | (with_reducible refine Chg.drew ?_) | (refine Chg.setCell (ad := ⟨g, _, none⟩) ?_ (.inl rfl) _))))⟩
              rw [e]
              (repeat' (first | (with_reducible exact HZ2.out) | (with_reducible refine Vb.drew' ?_) | (with_reducible refine Vb.put ?_ _ (by omega) _)))
            case measure => simp [intOf]
          | false =>
            rw [if_neg (by decide)] at hBB
            have HBB := Lib.hid hBB
            clear hBB
            go_wp2_with fail
            go_roundw
            case rel =>
              have e : mixV 3 x (addV (subV x A) B) = mixV 2 x (addV (subV x A) B) := by rw [HAB.out, HBB.out]; simp [mixV, addV, subV]
              refine ⟨3, by omega, by go_num, (by (repeat' (first | (with_reducible exact HM2.out) | (with_reducible exact HN2.out) | (with_reducible refine McB.drew ?_) | (with_reducible refine McB.far ?_ h1 _ _) | (with_reducible refine McB.far ?_ h2 _ _)))), (by (repeat' (first | (with_reducible exact HM2.out) | (with_reducible exact HN2.out) | (with_reducible refine McB.drew ?_) | (with_reducible refine McB.far ?_ h1 _ _) | (with_reducible refine McB.far ?_ h2 _ _)))), ?_, (by (repeat' (first | (with_reducible exact HC2.out) | (with_reducible refine Chg.drew ?_) | (refine Chg.setCell (ad := ⟨g, _, none⟩) ?_ (.inl rfl) _))))⟩
              rw [e]
              (repeat' (first | (with_reducible exact HZ2.out) | (with_reducible refine Vb.drew' ?_) | (with_reducible refine Vb.put ?_ _ (by omega) _)))
            case measure => simp [intOf]
      · go_upto_region 29 with fail
        refine wp_reg (opsOf Tryd.f4 29) (by kernel_rfl) ?_
        refine live29 _ _ _ _ _ _ _ _ _ _ _ _ _ _ _ _ _ _ _ _ _ _ _ _ _ _ _ _ _ _ _ _ _ _ _ _ _ _ _ _ _ _ _ _ _ _ _ _ _ _ _ _ _ _ _ _ _ _ _ _ _ _ _ _ _ _ _ _ _ _ _ _ _ _ _ _ _ _ _ _ _ _ _ _ _ _ _ _ _ _ _ _ _ _ _ _ _ _ _ _ _ _ _ _ _ _ _ _ _ _ _ _ _ _ _ _ _ _ _ _ _ _ _ _ _ _ _ _ _ _ _ _ _ _ _ _ _ _ _ _ _ _ _ _ _ _ _ _ _ _ _ _ _ _ gm m b1 c _ _ HM.out ?_
        intro _ _ _ _ _ _ _ _ _ _ _ w29 e29
        rw [e29]
        clear e29 w29
        generalize hB1 : (b1 && ((m.st == 0) && (m.cell == c))) = B1
        have hAB : A = if B1 = true then m.has else ⟨0, 0, 0, 0⟩ := by rw [HA.out]; unfold ctV; rw [hB1]
        clear hB1
        cases B1 with
        | true =>
          rw [if_pos rfl] at hAB
          have HAB := Lib.hid hAB
          clear hAB
          obtain ⟨c0, c1, c2, c3, c4, c5, c6, cf, cl⟩ := HM.out.facts
          obtain ⟨z0, z1, z2, z3, zf, zl⟩ := HZ.out.facts
          dsimp only [mixV] at z0 z1 z2 z3
          have hw1 : wrap64 (x.d - m.has.d) = x.d - m.has.d := by have := HG1.out; have := HG2.out; unfold wrap64; omega
          go_upto_region 30 with fail
          go_still_tail 10, (by kernel_rfl)
          change wpList _ _ _ _ _ wr.drew
          go_upto_region 31 with fail
          try rw [hw1]
          obtain ⟨W2, hW2⟩ : ∃ W2, W2 = (wr.setCell ⟨g, 3, none⟩ (.int .i64 (x.d - m.has.d))).drew := ⟨_, rfl⟩
          have HZ2 : Hid (Vb W2 g (putV (mixV 3 x (addV (subV x A) B)) 3 (x.d - m.has.d))) := Lib.hid (by rw [hW2]; exact (HZ.out.put 3 (by omega) _).drew')
          have HN2 : Hid (McB W2 gn n) := Lib.hid (by rw [hW2]; exact (HN.out.far h2 _ _).drew)
          have HM2 : Hid (McB W2 gm m) := Lib.hid (by rw [hW2]; exact (HM.out.far h1 _ _).drew)
          have HC2 : Hid (Chg g g w W2) := Lib.hid (by rw [hW2]; exact (Chg.setCell (ad := ⟨g, 3, none⟩) HC.out (.inl rfl) _).drew)
          have HW2 := Lib.hid hW2
          clear c0 c1 c2 c3 c4 c5 c6 cf cl z0 z1 z2 z3 zf zl hw1 hW2 HM HN HZ HC
          rw [← HW2.out]
          refine wp_reg (opsOf Tryd.f4 31) (by kernel_rfl) ?_
          refine live31 _ _ _ _ _ _ _ _ _ _ _ _ _ _ _ _ _ _ _ _ _ _ _ _ _ _ _ _ _ _ _ _ _ _ _ _ _ _ _ _ _ _ _ _ _ _ _ _ _ _ _ _ _ _ _ _ _ _ _ _ _ _ _ _ _ _ _ _ _ _ _ _ _ _ _ _ _ _ _ _ _ _ _ _ _ _ _ _ _ _ _ _ _ _ _ _ _ _ _ _ _ _ _ _ _ _ _ _ _ _ _ _ _ _ _ _ _ _ _ _ _ _ _ _ _ _ _ _ _ _ _ _ _ _ _ _ _ _ _ _ _ _ _ _ _ _ _ _ _ _ _ _ _ _ gn n b2 c _ _ HN2.out ?_
          intro _ _ _ _ _ _ _ _ _ _ _ w31 e31
          rw [e31]
          clear e31 w31
          generalize hB2 : (b2 && ((n.st == 0) && (n.cell == c))) = B2
          have hBB : B = if B2 = true then n.has else ⟨0, 0, 0, 0⟩ := by rw [HB.out]; unfold ctV; rw [hB2]
          clear hB2
          cases B2 with
          | true =>
            rw [if_pos rfl] at hBB
            have HBB := Lib.hid hBB
            clear hBB
            obtain ⟨d0, d1, d2, d3, d4, d5, d6, df, dl⟩ := HN2.out.facts
            obtain ⟨z0, z1, z2, z3, zf, zl⟩ := HZ2.out.facts
            dsimp only [mixV, putV] at z0 z1 z2 z3
            have hw2 : wrap64 (x.d - m.has.d + n.has.d) = x.d - m.has.d + n.has.d := by have := HG1.out; have := HG2.out; have := HG3.out; unfold wrap64; omega
            go_upto_region 32 with fail
            go_still_tail 10, (by kernel_rfl)
            change wpList _ _ _ _ _ W2.drew
            go_wp2_with fail
            try rw [hw2]
            go_roundw
            case rel =>
              have e : mixV 4 x (addV (subV x A) B) = putV (putV (mixV 3 x (addV (subV x A) B)) 3 (x.d - m.has.d)) 3 (x.d - m.has.d + n.has.d) := by rw [HAB.out, HBB.out]; rfl
              refine ⟨4, by omega, by go_num, (by (repeat' (first | (with_reducible exact HM2.out) | (with_reducible exact HN2.out) | (with_reducible refine McB.drew ?_) | (with_reducible refine McB.far ?_ h1 _ _) | (with_reducible refine McB.far ?_ h2 _ _)))), (by (repeat' (first | (with_reducible exact HM2.out) | (with_reducible exact HN2.out) | (with_reducible refine McB.drew ?_) | (with_reducible refine McB.far ?_ h1 _ _) | (with_reducible refine McB.far ?_ h2 _ _)))), ?_, (by (repeat' (first | (with_reducible exact HC2.out) | (with_reducible refine Chg.drew ?_) | (refine Chg.setCell (ad := ⟨g, _, none⟩) ?_ (.inl rfl) _))))⟩
              rw [e]
              (repeat' (first | (with_reducible exact HZ2.out) | (with_reducible refine Vb.drew' ?_) | (with_reducible refine Vb.put ?_ _ (by omega) _)))
            case measure => simp [intOf]
          | false =>
            rw [if_neg (by decide)] at hBB
            have HBB := Lib.hid hBB
            clear hBB
            go_wp2_with fail
            go_roundw
            case rel =>
              have e : mixV 4 x (addV (subV x A) B) = putV (mixV 3 x (addV (subV x A) B)) 3 (x.d - m.has.d) := by rw [HAB.out, HBB.out]; simp [mixV, putV, addV, subV]
              refine ⟨4, by omega, by go_num, (by (repeat' (first | (with_reducible exact HM2.out) | (with_reducible exact HN2.out) | (with_reducible refine McB.drew ?_) | (with_reducible refine McB.far ?_ h1 _ _) | (with_reducible refine McB.far ?_ h2 _ _)))), (by (repeat' (first | (with_reducible exact HM2.out) | (with_reducible exact HN2.out) | (with_reducible refine McB.drew ?_) | (with_reducible refine McB.far ?_ h1 _ _) | (with_reducible refine McB.far ?_ h2 _ _)))), ?_, (by (repeat' (first | (with_reducible exact HC2.out) | (with_reducible refine Chg.drew ?_) | (refine Chg.setCell (ad := ⟨g, _, none⟩) ?_ (.inl rfl) _))))⟩
              rw [e]
              (repeat' (first | (with_reducible exact HZ2.out) | (with_reducible refine Vb.drew' ?_) | (with_reducible refine Vb.put ?_ _ (by omega) _)))
            case measure => simp [intOf]
        | false =>
          rw [if_neg (by decide)] at hAB
          have HAB := Lib.hid hAB
          clear hAB
          go_upto_region 31 with fail
          have HZ2 : Hid (Vb wr g (mixV 3 x (addV (subV x A) B))) := HZ
          have HN2 := HN
          have HM2 := HM
          have HC2 := HC
          clear HZ HN HM HC
          refine wp_reg (opsOf Tryd.f4 31) (by kernel_rfl) ?_
          refine live31 _ _ _ _ _ _ _ _ _ _ _ _ _ _ _ _ _ _ _ _ _ _ _ _ _ _ _ _ _ _ _ _ _ _ _ _ _ _ _ _ _ _ _ _ _ _ _ _ _ _ _ _ _ _ _ _ _ _ _ _ _ _ _ _ _ _ _ _ _ _ _ _ _ _ _ _ _ _ _ _ _ _ _ _ _ _ _ _ _ _ _ _ _ _ _ _ _ _ _ _ _ _ _ _ _ _ _ _ _ _ _ _ _ _ _ _ _ _ _ _ _ _ _ _ _ _ _ _ _ _ _ _ _ _ _ _ _ _ _ _ _ _ _ _ _ _ _ _ _ _ _ _ _ _ gn n b2 c _ _ HN2.out ?_
          intro _ _ _ _ _ _ _ _ _ _ _ w31 e31
          rw [e31]
          clear e31 w31
          generalize hB2 : (b2 && ((n.st == 0) && (n.cell == c))) = B2
          have hBB : B = if B2 = true then n.has else ⟨0, 0, 0, 0⟩ := by rw [HB.out]; unfold ctV; rw [hB2]
          clear hB2
          cases B2 with
          | true =>
            rw [if_pos rfl] at hBB
            have HBB := Lib.hid hBB
            clear hBB
            obtain ⟨d0, d1, d2, d3, d4, d5, d6, df, dl⟩ := HN2.out.facts
            obtain ⟨z0, z1, z2, z3, zf, zl⟩ := HZ2.out.facts
            dsimp only [mixV, putV] at z0 z1 z2 z3
            have hw2 : wrap64 (x.d + n.has.d) = x.d + n.has.d := by have := HG1.out; have := HG2.out; have := HG3.out; unfold wrap64; omega
            go_upto_region 32 with fail
            go_still_tail 10, (by kernel_rfl)
            change wpList _ _ _ _ _ wr.drew
            go_wp2_with fail
            try rw [hw2]
            go_roundw
            case rel =>
              have e : mixV 4 x (addV (subV x A) B) = putV (mixV 3 x (addV (subV x A) B)) 3 (x.d + n.has.d) := by rw [HAB.out, HBB.out]; simp [mixV, putV, addV, subV]
              refine ⟨4, by omega, by go_num, (by (repeat' (first | (with_reducible exact HM2.out) | (with_reducible exact HN2.out) | (with_reducible refine McB.drew ?_) | (with_reducible refine McB.far ?_ h1 _ _) | (with_reducible refine McB.far ?_ h2 _ _)))), (by (repeat' (first | (with_reducible exact HM2.out) | (with_reducible exact HN2.out) | (with_reducible refine McB.drew ?_) | (with_reducible refine McB.far ?_ h1 _ _) | (with_reducible refine McB.far ?_ h2 _ _)))), ?_, (by (repeat' (first | (with_reducible exact HC2.out) | (with_reducible refine Chg.drew ?_) | (refine Chg.setCell (ad := ⟨g, _, none⟩) ?_ (.inl rfl) _))))⟩
              rw [e]
              (repeat' (first | (with_reducible exact HZ2.out) | (with_reducible refine Vb.drew' ?_) | (with_reducible refine Vb.put ?_ _ (by omega) _)))
            case measure => simp [intOf]
          | false =>
            rw [if_neg (by decide)] at hBB
            have HBB := Lib.hid hBB
            clear hBB
            go_wp2_with fail
            go_roundw
            case rel =>
              have e : mixV 4 x (addV (subV x A) B) = mixV 3 x (addV (subV x A) B) := by rw [HAB.out, HBB.out]; simp [mixV, addV, subV]
              refine ⟨4, by omega, by go_num, (by (repeat' (first | (with_reducible exact HM2.out) | (with_reducible exact HN2.out) | (with_reducible refine McB.drew ?_) | (with_reducible refine McB.far ?_ h1 _ _) | (with_reducible refine McB.far ?_ h2 _ _)))), (by (repeat' (first | (with_reducible exact HM2.out) | (with_reducible exact HN2.out) | (with_reducible refine McB.drew ?_) | (with_reducible refine McB.far ?_ h1 _ _) | (with_reducible refine McB.far ?_ h2 _ _)))), ?_, (by (repeat' (first | (with_reducible exact HC2.out) | (with_reducible refine Chg.drew ?_) | (refine Chg.setCell (ad := ⟨g, _, none⟩) ?_ (.inl rfl) _))))⟩
              rw [e]
              (repeat' (first | (with_reducible exact HZ2.out) | (with_reducible refine Vb.drew' ?_) | (with_reducible refine Vb.put ?_ _ (by omega) _)))
            case measure => simp [intOf]
    · obtain rfl : k = 4 := by omega
      go_wp2_with fail
      exact HQ.out _ _ _ _ _ _ _ _ _ _ _ _ _ _ _ _ _ _ _ _ _ _ _ _ _ _ _ _ _ _ _ _ _ _ _ _ _ _ _ _ _ _ _ _ _ _ _ _ _ _ _ _ _ _ (by rw [← HA.out, ← HB.out]; exact HZ.out) HC.out

end Go.Proofs.YtaenpajmgenjhaaDoor
