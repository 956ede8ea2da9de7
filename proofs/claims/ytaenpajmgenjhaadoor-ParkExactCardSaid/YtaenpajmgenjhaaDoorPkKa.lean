/- Pieces of the law ParkExact, walked on their own: a deed on both sides. Condition: the sentinels lie as the program's text lays them. -/
import Derived.Test.YtaenpajmgenjhaaDoorPpH
import Derived.Test.YtaenpajmgenjhaaDoorRgC
import Derived.Deep.DeepCutAuto
import Derived.Deep.CutBlock
import Derived.Deep.RegionHeld3
import Derived.Deep.QuietTactic
import Derived.StillTailTactics
namespace Go.Proofs.YtaenpajmgenjhaaDoor
open Go Go.RowKit

/-- Both parks of the law. -/
structure PxAt (w0 w : World) (q R u : Nat) (P : List Mc) : Prop where
  p : PkAt w0 w q R P
  r : PkR w u P
  far : u ≠ q ∧ u ≠ R ∧ w0.heap.size ≤ u
theorem PkR.same {w w' : World} {u : Nat} {P : List Mc} (h : PkR w u P) (hs : w'.heap[u]? = w.heap[u]?) : PkR w' u P := by
  obtain ⟨cs, h1, h2⟩ := h
  exact ⟨cs, hs.trans h1, h2⟩
theorem PxAt.on {w0 w w' : World} {q R u : Nat} {P : List Mc} (h : PxAt w0 w q R u P) (hb : Below w.heap.size w w') : PxAt w0 w' q R u P := ⟨h.p.on hb, h.r.on hb, h.far⟩
theorem PxAt.drew {w0 w : World} {q R u : Nat} {P : List Mc} (h : PxAt w0 w q R u P) : PxAt w0 w.drew q R u P := h.on (Below.refl _ _).drew
/-- The cells of a deed. -/
def ActC (W : World) (gx : Nat) (x : PkAD) : Prop := W.cell? ⟨gx, 0, none⟩ = some (.int .i64 x.kind) ∧ W.cell? ⟨gx, 1, none⟩ = some (.int .i64 x.id) ∧ W.cell? ⟨gx, 2, none⟩ = some (.int .i64 x.n) ∧ W.cell? ⟨gx, 3, none⟩ = some (.int .i64 x.v.a) ∧ W.cell? ⟨gx, 4, none⟩ = some (.int .i64 x.v.b) ∧ W.cell? ⟨gx, 5, none⟩ = some (.int .i64 x.v.c) ∧ W.cell? ⟨gx, 6, none⟩ = some (.int .i64 x.v.d)
theorem PkABlk.actC {W : World} {gx : Nat} {x : PkAD} (h : PkABlk W gx x) : ActC W gx x := by
  obtain ⟨c0, c1, c2, c3, c4, c5, c6, _⟩ := h.cells
  exact ⟨c0, c1, c2, c3, c4, c5, c6⟩

/-- Behind the program's deed: its park has done it, the reference's not yet. -/
def ExD1 (w0 : World) (q u gx : Nat) (P P' : List Mc) (x : PkAD) (R1 : Nat) (W : World) : Prop := PkAt w0 W q R1 P' ∧ PkR W u P ∧ PkABlk W gx x ∧ (u ≠ q ∧ u ≠ R1 ∧ w0.heap.size ≤ u) ∧ gx ≠ q ∧ gx ≠ R1 ∧ gx ≠ u ∧ w0.heap.size ≤ gx
/-- Behind both. -/
def ExD2 (w0 : World) (q u gx : Nat) (P' : List Mc) (x : PkAD) (R1 : Nat) (W : World) : Prop := PxAt w0 W q R1 u P' ∧ PkABlk W gx x ∧ gx ≠ q ∧ gx ≠ R1 ∧ gx ≠ u
theorem ExD1.on {w0 w w' : World} {q u gx R1 : Nat} {P P' : List Mc} {x : PkAD} (h : ExD1 w0 q u gx P P' x R1 w) (hb : Below w.heap.size w w') : ExD1 w0 q u gx P P' x R1 w' := ⟨h.1.on hb, h.2.1.on hb, PkABlk.on hb h.2.2.1, h.2.2.2⟩
theorem ExD1.then {w0 w w' : World} {q u gx R1 : Nat} {P P' : List Mc} {x : PkAD} (h : ExD1 w0 q u gx P P' x R1 w) (hr : PkR w' u P') (hc : Chg u u w w') : ExD2 w0 q u gx P' x R1 w' := by
  obtain ⟨h1, h2, h3, h4, h5, h6, h7, h8⟩ := h
  have hl := h1.mem.lt
  have hk := h3.cells.2.2.2.2.2.2.2
  refine ⟨⟨h1.far (h1.below.trans (hc.below h4.2.2 h4.2.2 h1.below.size)) fun j hj => ?_, hr, h4⟩, h3.kept hc h7 h7, h5, h6, h7⟩
  rcases hj with rfl | rfl
  · exact hc.block _ hl.1 h4.1.symm h4.1.symm
  · exact hc.block _ hl.2.1 h4.2.1.symm h4.2.1.symm
/-- What the program's deed leaves. -/
theorem PxAt.d1 {w0 w w' : World} {q R R1 u gx : Nat} {P P' : List Mc} {x : PkAD} (h : PxAt w0 w q R u P) (hx : PkABlk w gx x) (hg : gx ≠ q ∧ gx ≠ R ∧ gx ≠ u ∧ w0.heap.size ≤ gx) (k : PkAt w0 w' q R1 P') (hr : R1 = R ∨ w.heap.size ≤ R1) (hc : Chg q R w w') : ExD1 w0 q u gx P P' x R1 w' := by
  have hk := hx.cells.2.2.2.2.2.2.2
  have hu := h.r.lt
  obtain ⟨f1, f2, f3⟩ := h.far
  refine ⟨k, h.r.same (hc.block u hu f1 f2), hx.kept hc hg.1 hg.2.1, ⟨f1, ?_, f3⟩, hg.1, ?_, hg.2.2.1, hg.2.2.2⟩
  · rcases hr with rfl | hr
    · exact f2
    · omega
  · rcases hr with rfl | hr
    · exact hg.2.1
    · omega

theorem PxAt.dropD {s : Nat → Addr} {w0 w : World} {q R u gx : Nat} {P : List Mc} {x : PkAD} (h : PxAt w0 w q R u P) (hs : Sent s w0) (hx : PkABlk w gx x) (hg : gx ≠ q ∧ gx ≠ R ∧ gx ≠ u ∧ w0.heap.size ≤ gx) :
    Calls Tryd.prog 9 #[.pointer (some ⟨q, 0, none⟩), .int .i64 x.id] w fun e w' => e = .returned (errV s (dropP P x.id).2) ∧ ∃ R1, ExD1 w0 q u gx P (dropP P x.id).1 x R1 w' := by
  refine (h.p.drop hs x.id).mono ?_
  rintro e w' ⟨he, k, hc⟩
  exact ⟨he, _, h.d1 hx hg k (.inl rfl) hc⟩
theorem ExD1.dropR {w0 w : World} {q u gx R1 : Nat} {P : List Mc} {x : PkAD} (h : ExD1 w0 q u gx P (dropP P x.id).1 x R1 w) (hG : GP P) :
    Calls Tryd.prog 10 #[.pointer (some ⟨u, 0, none⟩), .int .i64 x.id] w fun e w' => e = .returned (.int .i64 ((dropP P x.id).2 : Nat)) ∧ ExD2 w0 q u gx (dropP P x.id).1 x R1 w' := by
  refine (rdrop_c u P x.id w h.2.1 hG).mono ?_
  rintro e w' ⟨he, hr, hc⟩
  exact ⟨he, h.then hr hc⟩
theorem PxAt.setD {s : Nat → Addr} {w0 w : World} {q R u gx : Nat} {P : List Mc} {x : PkAD} (h : PxAt w0 w q R u P) (hs : Sent s w0) (hx : PkABlk w gx x) (hg : gx ≠ q ∧ gx ≠ R ∧ gx ≠ u ∧ w0.heap.size ≤ gx) :
    Calls Tryd.prog 11 #[.pointer (some ⟨q, 0, none⟩), .int .i64 x.id, .int .i64 x.n] w fun e w' => e = .returned (errV s (setP P x.id x.n).2) ∧ ∃ R1, ExD1 w0 q u gx P (setP P x.id x.n).1 x R1 w' := by
  refine (h.p.sets hs x.id x.n).mono ?_
  rintro e w' ⟨he, k, hc⟩
  exact ⟨he, _, h.d1 hx hg k (.inl rfl) hc⟩
theorem ExD1.setR {w0 w : World} {q u gx R1 : Nat} {P : List Mc} {x : PkAD} (h : ExD1 w0 q u gx P (setP P x.id x.n).1 x R1 w) (hG : GP P) :
    Calls Tryd.prog 12 #[.pointer (some ⟨u, 0, none⟩), .int .i64 x.id, .int .i64 x.n] w fun e w' => e = .returned (.int .i64 ((setP P x.id x.n).2 : Nat)) ∧ ExD2 w0 q u gx (setP P x.id x.n).1 x R1 w' := by
  refine (rset_c u P x.id x.n w h.2.1 hG).mono ?_
  rintro e w' ⟨he, hr, hc⟩
  exact ⟨he, h.then hr hc⟩
theorem PxAt.addD {s : Nat → Addr} {w0 w : World} {q R u gx : Nat} {P : List Mc} {x : PkAD} (h : PxAt w0 w q R u P) (hs : Sent s w0) (hx : PkABlk w gx x) (hg : gx ≠ q ∧ gx ≠ R ∧ gx ≠ u ∧ w0.heap.size ≤ gx) :
    Calls Tryd.prog 13 #[.pointer (some ⟨q, 0, none⟩), .int .i64 x.id, .int .i64 x.n, .agg #[.int .i64 (x.v).a, .int .i64 (x.v).b, .int .i64 (x.v).c, .int .i64 (x.v).d]] w fun e w' => e = .returned (errV s (addP P x.id x.n x.v).2) ∧ ∃ R1, ExD1 w0 q u gx P (addP P x.id x.n x.v).1 x R1 w' := by
  refine (h.p.add hs x.id x.n x.v).mono ?_
  rintro e w' ⟨he, R1, k, hr, hc⟩
  exact ⟨he, _, h.d1 hx hg k hr hc⟩
theorem ExD1.addR {w0 w : World} {q u gx R1 : Nat} {P : List Mc} {x : PkAD} (h : ExD1 w0 q u gx P (addP P x.id x.n x.v).1 x R1 w) (hG : GP P) :
    Calls Tryd.prog 14 #[.pointer (some ⟨u, 0, none⟩), .int .i64 x.id, .int .i64 x.n, .agg #[.int .i64 (x.v).a, .int .i64 (x.v).b, .int .i64 (x.v).c, .int .i64 (x.v).d]] w fun e w' => e = .returned (.int .i64 ((addP P x.id x.n x.v).2 : Nat)) ∧ ExD2 w0 q u gx (addP P x.id x.n x.v).1 x R1 w' := by
  refine (rpadd_c u P x.id x.n x.v w h.2.1 hG).mono ?_
  rintro e w' ⟨he, hr, hc⟩
  exact ⟨he, h.then hr hc⟩
theorem ExD1.kindD {s : Nat → Addr} {w0 w : World} {q u gx R1 : Nat} {P P' : List Mc} {x : PkAD} (h : ExD1 w0 q u gx P P' x R1 w) (hs : Sent s w0) {d : Nat} (hd : d ≤ 14) :
    Calls Tryd.prog 8 #[errV s d] w fun e w' => e = .returned (.int .i64 (d : Nat)) ∧ ExD1 w0 q u gx P P' x R1 w' := by
  refine (kind_errV s d w (hs.below h.1.below (Nat.le_refl _)) hd).mono ?_
  rintro e w' ⟨he, hb⟩
  exact ⟨he, h.on hb⟩

/-- What is asked behind it. -/
def exact_deedQ (u0 u1 u5 u7 u8 u9 u10 u11 u12 u13 u14 u15 u16 u17 u18 u19 u20 u21 u22 u23 u24 u25 u26 u27 u28 u29 u30 u31 u32 u33 u34 u35 u36 u84 u85 u86 u87 u88 u89 u90 u91 u92 u93 u94 u95 u96 u97 u98 u99 u100 u101 u102 u103 u104 u105 u106 u107 u108 u109 u110 u111 u112 u113 u114 u115 u116 u117 u118 u119 u120 u121 u122 u123 u124 u125 u126 u127 u128 u129 u130 u131 u132 u133 u134 u135 u136 u137 u138 u139 u140 u141 u142 u143 u144 u145 u146 u147 u148 u149 u150 u151 u152 u153 u154 u155 u156 u157 u158 u159 u160 u161 u162 u163 u164 u165 u166 u167 u168 u169 u170 u171 u172 u173 u174 u175 u176 u177 u178 u179 u180 u181 u182 u183 u184 u185 u186 u187 u188 u189 u190 u191 u192 u193 u194 u195 u196 u197 u198 u199 u200 u201 u202 u203 u204 u205 u206 u207 u208 u209 u210 u211 u212 u213 u214 u215 u216 u217 u218 u219 u220 u221 u222 u223 u224 u225 u226 u227 u228 u229 u230 u231 u232 u233 u234 u235 u236 u237 u238 u239 u240 u241 u242 u243 u244 u245 u246 u247 u248 u249 u250 u251 u252 u253 : Value) (w0 : World) (q u gx : Nat) (x : PkAD) (PP : List Mc × Nat) (Q : Exit → Act → World → Prop) : Prop :=
  ∀ (v2 v38 v39 v40 v41 v42 v43 v44 v45 v46 v47 v48 v49 v50 v51 v52 v53 v54 v55 v56 v57 v58 v59 v60 v61 v62 v63 v64 v65 v66 v67 v68 v69 v70 v71 v72 v73 v74 v75 v76 v77 v78 v79 v80 v81 v82 v83 : Value) (w' : World) (R' : Nat), ExD2 w0 q u gx PP.1 x R' w' → Q .normal { tmps := #[u0, u1, v2, .pointer (some ⟨q, 0, none⟩), .pointer (some ⟨u, 0, none⟩), u5, .pointer (some ⟨gx, 0, none⟩), u7, u8, u9, u10, u11, u12, u13, u14, u15, u16, u17, u18, u19, u20, u21, u22, u23, u24, u25, u26, u27, u28, u29, u30, u31, u32, u33, u34, u35, u36, .int .i64 x.kind, v38, v39, v40, v41, v42, v43, v44, v45, v46, v47, v48, v49, v50, v51, v52, v53, v54, v55, v56, v57, v58, v59, v60, v61, v62, v63, v64, v65, v66, v67, v68, v69, v70, v71, v72, v73, v74, v75, v76, v77, v78, v79, v80, v81, v82, v83, u84, u85, u86, u87, u88, u89, u90, u91, u92, u93, u94, u95, u96, u97, u98, u99, u100, u101, u102, u103, u104, u105, u106, u107, u108, u109, u110, u111, u112, u113, u114, u115, u116, u117, u118, u119, u120, u121, u122, u123, u124, u125, u126, u127, u128, u129, u130, u131, u132, u133, u134, u135, u136, u137, u138, u139, u140, u141, u142, u143, u144, u145, u146, u147, u148, u149, u150, u151, u152, u153, u154, u155, u156, u157, u158, u159, u160, u161, u162, u163, u164, u165, u166, u167, u168, u169, u170, u171, u172, u173, u174, u175, u176, u177, u178, u179, u180, u181, u182, u183, u184, u185, u186, u187, u188, u189, u190, u191, u192, u193, u194, u195, u196, u197, u198, u199, u200, u201, u202, u203, u204, u205, u206, u207, u208, u209, u210, u211, u212, u213, u214, u215, u216, u217, u218, u219, u220, u221, u222, u223, u224, u225, u226, u227, u228, u229, u230, u231, u232, u233, u234, u235, u236, u237, u238, u239, u240, u241, u242, u243, u244, u245, u246, u247, u248, u249, u250, u251, u252, u253], defers := [] } w'
set_option maxRecDepth 100000 in
set_option maxHeartbeats 6400000 in
/-- A deed on both sides. -/
theorem exact_deed (u0 u1 u2 u5 u7 u8 u9 u10 u11 u12 u13 u14 u15 u16 u17 u18 u19 u20 u21 u22 u23 u24 u25 u26 u27 u28 u29 u30 u31 u32 u33 u34 u35 u36 u38 u39 u40 u41 u42 u43 u44 u45 u46 u47 u48 u49 u50 u51 u52 u53 u54 u55 u56 u57 u58 u59 u60 u61 u62 u63 u64 u65 u66 u67 u68 u69 u70 u71 u72 u73 u74 u75 u76 u77 u78 u79 u80 u81 u82 u83 u84 u85 u86 u87 u88 u89 u90 u91 u92 u93 u94 u95 u96 u97 u98 u99 u100 u101 u102 u103 u104 u105 u106 u107 u108 u109 u110 u111 u112 u113 u114 u115 u116 u117 u118 u119 u120 u121 u122 u123 u124 u125 u126 u127 u128 u129 u130 u131 u132 u133 u134 u135 u136 u137 u138 u139 u140 u141 u142 u143 u144 u145 u146 u147 u148 u149 u150 u151 u152 u153 u154 u155 u156 u157 u158 u159 u160 u161 u162 u163 u164 u165 u166 u167 u168 u169 u170 u171 u172 u173 u174 u175 u176 u177 u178 u179 u180 u181 u182 u183 u184 u185 u186 u187 u188 u189 u190 u191 u192 u193 u194 u195 u196 u197 u198 u199 u200 u201 u202 u203 u204 u205 u206 u207 u208 u209 u210 u211 u212 u213 u214 u215 u216 u217 u218 u219 u220 u221 u222 u223 u224 u225 u226 u227 u228 u229 u230 u231 u232 u233 u234 u235 u236 u237 u238 u239 u240 u241 u242 u243 u244 u245 u246 u247 u248 u249 u250 u251 u252 u253 : Value) (s : Nat → Addr) (w0 : World) (q R u gx : Nat) (P : List Mc) (x : PkAD) (PP : List Mc × Nat) (Q : Exit → Act → World → Prop) (w : World) (hs : Sent s w0) (hK : PxAt w0 w q R u P) (hX : PkABlk w gx x) (hL : gx ≠ q ∧ gx ≠ R ∧ gx ≠ u ∧ w0.heap.size ≤ gx) (hPP : deedP P x = PP)
    (hQ : exact_deedQ u0 u1 u5 u7 u8 u9 u10 u11 u12 u13 u14 u15 u16 u17 u18 u19 u20 u21 u22 u23 u24 u25 u26 u27 u28 u29 u30 u31 u32 u33 u34 u35 u36 u84 u85 u86 u87 u88 u89 u90 u91 u92 u93 u94 u95 u96 u97 u98 u99 u100 u101 u102 u103 u104 u105 u106 u107 u108 u109 u110 u111 u112 u113 u114 u115 u116 u117 u118 u119 u120 u121 u122 u123 u124 u125 u126 u127 u128 u129 u130 u131 u132 u133 u134 u135 u136 u137 u138 u139 u140 u141 u142 u143 u144 u145 u146 u147 u148 u149 u150 u151 u152 u153 u154 u155 u156 u157 u158 u159 u160 u161 u162 u163 u164 u165 u166 u167 u168 u169 u170 u171 u172 u173 u174 u175 u176 u177 u178 u179 u180 u181 u182 u183 u184 u185 u186 u187 u188 u189 u190 u191 u192 u193 u194 u195 u196 u197 u198 u199 u200 u201 u202 u203 u204 u205 u206 u207 u208 u209 u210 u211 u212 u213 u214 u215 u216 u217 u218 u219 u220 u221 u222 u223 u224 u225 u226 u227 u228 u229 u230 u231 u232 u233 u234 u235 u236 u237 u238 u239 u240 u241 u242 u243 u244 u245 u246 u247 u248 u249 u250 u251 u252 u253 w0 q u gx x PP Q) :
    (Code.block 2 (bodyOf Tryd.f3 2)).wp Tryd.prog Q { tmps := #[u0, u1, u2, .pointer (some ⟨q, 0, none⟩), .pointer (some ⟨u, 0, none⟩), u5, .pointer (some ⟨gx, 0, none⟩), u7, u8, u9, u10, u11, u12, u13, u14, u15, u16, u17, u18, u19, u20, u21, u22, u23, u24, u25, u26, u27, u28, u29, u30, u31, u32, u33, u34, u35, u36, .int .i64 x.kind, u38, u39, u40, u41, u42, u43, u44, u45, u46, u47, u48, u49, u50, u51, u52, u53, u54, u55, u56, u57, u58, u59, u60, u61, u62, u63, u64, u65, u66, u67, u68, u69, u70, u71, u72, u73, u74, u75, u76, u77, u78, u79, u80, u81, u82, u83, u84, u85, u86, u87, u88, u89, u90, u91, u92, u93, u94, u95, u96, u97, u98, u99, u100, u101, u102, u103, u104, u105, u106, u107, u108, u109, u110, u111, u112, u113, u114, u115, u116, u117, u118, u119, u120, u121, u122, u123, u124, u125, u126, u127, u128, u129, u130, u131, u132, u133, u134, u135, u136, u137, u138, u139, u140, u141, u142, u143, u144, u145, u146, u147, u148, u149, u150, u151, u152, u153, u154, u155, u156, u157, u158, u159, u160, u161, u162, u163, u164, u165, u166, u167, u168, u169, u170, u171, u172, u173, u174, u175, u176, u177, u178, u179, u180, u181, u182, u183, u184, u185, u186, u187, u188, u189, u190, u191, u192, u193, u194, u195, u196, u197, u198, u199, u200, u201, u202, u203, u204, u205, u206, u207, u208, u209, u210, u211, u212, u213, u214, u215, u216, u217, u218, u219, u220, u221, u222, u223, u224, u225, u226, u227, u228, u229, u230, u231, u232, u233, u234, u235, u236, u237, u238, u239, u240, u241, u242, u243, u244, u245, u246, u247, u248, u249, u250, u251, u252, u253], defers := [] } w := by
  simp only [bodyOf, Tryd.f3, blkOf, Option.bind_some, Option.orElse, Option.getD_some, Nat.reduceEqDiff, if_true, if_false, reduceCtorEq]
  subst hPP
  have HQ := Lib.hid hQ
  have HS := Lib.hid hs
  have HK := Lib.hid hK
  have HX := Lib.hid hX
  have HL := Lib.hid hL
  have HG := Lib.hid hK.p.good
  have HLE := Lib.hid (deed_le P x)
  obtain ⟨c0, c1, c2, c3, c4, c5, c6⟩ := hX.actC
  have S0 := Lib.hid hX.actC
  clear hQ hs hK hX hL
  by_cases k3 : x.kind = 3
  · have e3 : (x.kind == 3) = true := by simpa using k3
    have hd : deedP P x = dropP P x.id := by unfold deedP; rw [if_pos k3]
    have HD1 : Hid (∀ W, (W = w ∨ W = w.drew) → Calls Tryd.prog 9 #[.pointer (some ⟨q, 0, none⟩), .int .i64 x.id] W fun e w' => e = .returned (errV s (deedP P x).2) ∧ ∃ R1, ExD1 w0 q u gx P (deedP P x).1 x R1 w') := Lib.hid fun W hW => by
      rw [hd]
      rcases hW with rfl | rfl
      · exact HK.out.dropD HS.out HX.out HL.out
      · exact HK.out.drew.dropD HS.out HX.out HL.out
    have HD3 : Hid (∀ W R1, ExD1 w0 q u gx P (deedP P x).1 x R1 W → Calls Tryd.prog 10 #[.pointer (some ⟨u, 0, none⟩), .int .i64 x.id] W fun e w' => e = .returned (.int .i64 ((deedP P x).2 : Nat)) ∧ ExD2 w0 q u gx (deedP P x).1 x R1 w') := Lib.hid fun W R1 h => by
      rw [hd] at h ⊢
      exact h.dropR HG.out
    generalize hdd : (deedP P x).2 = d at HD1 HD3 HLE
    have HDD := Lib.hid hdd
    have HD2 : Hid (∀ W R1, ExD1 w0 q u gx P (deedP P x).1 x R1 W → Calls Tryd.prog 8 #[errV s d] W fun e w' => e = .returned (.int .i64 (d : Nat)) ∧ ExD1 w0 q u gx P (deedP P x).1 x R1 w') := Lib.hid fun W R1 h => h.kindD HS.out HLE.out
    generalize deedP P x = PP at HD1 HD2 HD3 HQ
    clear k3 hd hdd
    go_upto_region 13 with fail
    go_region_held3 (fun W => W.cell? ⟨gx, 0, none⟩ = some (.int .i64 x.kind) ∧ W.cell? ⟨gx, 1, none⟩ = some (.int .i64 x.id) ∧ W.cell? ⟨gx, 2, none⟩ = some (.int .i64 x.n) ∧ W.cell? ⟨gx, 3, none⟩ = some (.int .i64 x.v.a) ∧ W.cell? ⟨gx, 4, none⟩ = some (.int .i64 x.v.b) ∧ W.cell? ⟨gx, 5, none⟩ = some (.int .i64 x.v.c) ∧ W.cell? ⟨gx, 6, none⟩ = some (.int .i64 x.v.d))
      (first | exact S0.out | exact S1.out | exact S2.out | exact S3.out)
      (first
        | (go_at_call 9; refine (HD1.out _ (by first | exact .inl rfl | exact .inr rfl)).mono ?_; rintro e w1 ⟨rfl, R1, k1⟩; have K1 := Lib.hid k1; have S1 := Lib.hid k1.2.2.1.actC; clear k1)
        | (go_at_call 8; refine (HD2.out _ _ K1.out).mono ?_; rintro e w2 ⟨rfl, k2⟩; have K2 := Lib.hid k2; have S2 := Lib.hid k2.2.2.1.actC; clear k2)
        | (go_at_call 10; refine (HD3.out _ _ K2.out).mono ?_; rintro e w4 ⟨rfl, k4⟩; have K3 := Lib.hid k4; have S3 := Lib.hid k4.2.1.actC; clear k4))
    all_goals clear c0 c1 c2 c3 c4 c5 c6
    all_goals go_wp2_with fail
    all_goals exact HQ.out _ _ _ _ _ _ _ _ _ _ _ _ _ _ _ _ _ _ _ _ _ _ _ _ _ _ _ _ _ _ _ _ _ _ _ _ _ _ _ _ _ _ _ _ _ _ _ _ R1 K3.out
  · have e3 : (x.kind == 3) = false := by simpa using k3
    by_cases k4 : x.kind = 4
    · have e4 : (x.kind == 4) = true := by simpa using k4
      have hd : deedP P x = setP P x.id x.n := by unfold deedP; rw [if_neg k3, if_pos k4]
      have HD1 : Hid (∀ W, (W = w ∨ W = w.drew) → Calls Tryd.prog 11 #[.pointer (some ⟨q, 0, none⟩), .int .i64 x.id, .int .i64 x.n] W fun e w' => e = .returned (errV s (deedP P x).2) ∧ ∃ R1, ExD1 w0 q u gx P (deedP P x).1 x R1 w') := Lib.hid fun W hW => by
        rw [hd]
        rcases hW with rfl | rfl
        · exact HK.out.setD HS.out HX.out HL.out
        · exact HK.out.drew.setD HS.out HX.out HL.out
      have HD3 : Hid (∀ W R1, ExD1 w0 q u gx P (deedP P x).1 x R1 W → Calls Tryd.prog 12 #[.pointer (some ⟨u, 0, none⟩), .int .i64 x.id, .int .i64 x.n] W fun e w' => e = .returned (.int .i64 ((deedP P x).2 : Nat)) ∧ ExD2 w0 q u gx (deedP P x).1 x R1 w') := Lib.hid fun W R1 h => by
        rw [hd] at h ⊢
        exact h.setR HG.out
      generalize hdd : (deedP P x).2 = d at HD1 HD3 HLE
      have HDD := Lib.hid hdd
      have HD2 : Hid (∀ W R1, ExD1 w0 q u gx P (deedP P x).1 x R1 W → Calls Tryd.prog 8 #[errV s d] W fun e w' => e = .returned (.int .i64 (d : Nat)) ∧ ExD1 w0 q u gx P (deedP P x).1 x R1 w') := Lib.hid fun W R1 h => h.kindD HS.out HLE.out
      generalize deedP P x = PP at HD1 HD2 HD3 HQ
      clear k3 k4 hd hdd
      go_upto_region 16 with fail
      go_region_held3 (fun W => W.cell? ⟨gx, 0, none⟩ = some (.int .i64 x.kind) ∧ W.cell? ⟨gx, 1, none⟩ = some (.int .i64 x.id) ∧ W.cell? ⟨gx, 2, none⟩ = some (.int .i64 x.n) ∧ W.cell? ⟨gx, 3, none⟩ = some (.int .i64 x.v.a) ∧ W.cell? ⟨gx, 4, none⟩ = some (.int .i64 x.v.b) ∧ W.cell? ⟨gx, 5, none⟩ = some (.int .i64 x.v.c) ∧ W.cell? ⟨gx, 6, none⟩ = some (.int .i64 x.v.d))
        (first | exact S0.out | exact S1.out | exact S2.out | exact S3.out)
        (first
          | (go_at_call 11; refine (HD1.out _ (by first | exact .inl rfl | exact .inr rfl)).mono ?_; rintro e w1 ⟨rfl, R1, k1⟩; have K1 := Lib.hid k1; have S1 := Lib.hid k1.2.2.1.actC; clear k1)
          | (go_at_call 8; refine (HD2.out _ _ K1.out).mono ?_; rintro e w2 ⟨rfl, k2⟩; have K2 := Lib.hid k2; have S2 := Lib.hid k2.2.2.1.actC; clear k2)
          | (go_at_call 12; refine (HD3.out _ _ K2.out).mono ?_; rintro e w4 ⟨rfl, k4⟩; have K3 := Lib.hid k4; have S3 := Lib.hid k4.2.1.actC; clear k4))
      all_goals clear c0 c1 c2 c3 c4 c5 c6
      all_goals go_wp2_with fail
      all_goals exact HQ.out _ _ _ _ _ _ _ _ _ _ _ _ _ _ _ _ _ _ _ _ _ _ _ _ _ _ _ _ _ _ _ _ _ _ _ _ _ _ _ _ _ _ _ _ _ _ _ _ R1 K3.out
    · have e4 : (x.kind == 4) = false := by simpa using k4
      have hd : deedP P x = addP P x.id x.n x.v := by unfold deedP; rw [if_neg k3, if_neg k4]
      have HD1 : Hid (∀ W, (W = w ∨ W = w.drew) → Calls Tryd.prog 13 #[.pointer (some ⟨q, 0, none⟩), .int .i64 x.id, .int .i64 x.n, .agg #[.int .i64 (x.v).a, .int .i64 (x.v).b, .int .i64 (x.v).c, .int .i64 (x.v).d]] W fun e w' => e = .returned (errV s (deedP P x).2) ∧ ∃ R1, ExD1 w0 q u gx P (deedP P x).1 x R1 w') := Lib.hid fun W hW => by
        rw [hd]
        rcases hW with rfl | rfl
        · exact HK.out.addD HS.out HX.out HL.out
        · exact HK.out.drew.addD HS.out HX.out HL.out
      have HD3 : Hid (∀ W R1, ExD1 w0 q u gx P (deedP P x).1 x R1 W → Calls Tryd.prog 14 #[.pointer (some ⟨u, 0, none⟩), .int .i64 x.id, .int .i64 x.n, .agg #[.int .i64 (x.v).a, .int .i64 (x.v).b, .int .i64 (x.v).c, .int .i64 (x.v).d]] W fun e w' => e = .returned (.int .i64 ((deedP P x).2 : Nat)) ∧ ExD2 w0 q u gx (deedP P x).1 x R1 w') := Lib.hid fun W R1 h => by
        rw [hd] at h ⊢
        exact h.addR HG.out
      generalize hdd : (deedP P x).2 = d at HD1 HD3 HLE
      have HDD := Lib.hid hdd
      have HD2 : Hid (∀ W R1, ExD1 w0 q u gx P (deedP P x).1 x R1 W → Calls Tryd.prog 8 #[errV s d] W fun e w' => e = .returned (.int .i64 (d : Nat)) ∧ ExD1 w0 q u gx P (deedP P x).1 x R1 w') := Lib.hid fun W R1 h => h.kindD HS.out HLE.out
      generalize deedP P x = PP at HD1 HD2 HD3 HQ
      clear k3 k4 hd hdd
      go_upto_region 10 with fail
      go_region_held3 (fun W => W.cell? ⟨gx, 0, none⟩ = some (.int .i64 x.kind) ∧ W.cell? ⟨gx, 1, none⟩ = some (.int .i64 x.id) ∧ W.cell? ⟨gx, 2, none⟩ = some (.int .i64 x.n) ∧ W.cell? ⟨gx, 3, none⟩ = some (.int .i64 x.v.a) ∧ W.cell? ⟨gx, 4, none⟩ = some (.int .i64 x.v.b) ∧ W.cell? ⟨gx, 5, none⟩ = some (.int .i64 x.v.c) ∧ W.cell? ⟨gx, 6, none⟩ = some (.int .i64 x.v.d))
        (first | exact S0.out | exact S1.out | exact S2.out | exact S3.out)
        (first
          | (go_at_call 13; refine (HD1.out _ (by first | exact .inl rfl | exact .inr rfl)).mono ?_; rintro e w1 ⟨rfl, R1, k1⟩; have K1 := Lib.hid k1; have S1 := Lib.hid k1.2.2.1.actC; clear k1)
          | (go_at_call 8; refine (HD2.out _ _ K1.out).mono ?_; rintro e w2 ⟨rfl, k2⟩; have K2 := Lib.hid k2; have S2 := Lib.hid k2.2.2.1.actC; clear k2)
          | (go_at_call 14; refine (HD3.out _ _ K2.out).mono ?_; rintro e w4 ⟨rfl, k4⟩; have K3 := Lib.hid k4; have S3 := Lib.hid k4.2.1.actC; clear k4))
      all_goals clear c0 c1 c2 c3 c4 c5 c6
      all_goals go_wp2_with fail
      all_goals exact HQ.out _ _ _ _ _ _ _ _ _ _ _ _ _ _ _ _ _ _ _ _ _ _ _ _ _ _ _ _ _ _ _ _ _ _ _ _ _ _ _ _ _ _ _ _ _ _ _ _ R1 K3.out

end Go.Proofs.YtaenpajmgenjhaaDoor
