/- Pieces of the law ParkEnd, walked on their own. Condition: the sentinels lie as the program's text lays them. -/
import Derived.Test.YtaenpajmgenjhaaDoorPpH
import Derived.Test.YtaenpajmgenjhaaDoorRgC
import Derived.Deep.DeepCutAuto
import Derived.Deep.CutBlock
import Derived.Deep.RegionHeld3
import Derived.Deep.QuietTactic
import Derived.StillTailTactics
namespace Go.Proofs.YtaenpajmgenjhaaDoor
open Go Go.RowKit

/-- All machines up. -/
def upP (L : List Mc) : List Mc := L.map fun m => { m with st := 0 }
theorem up_live (L : List Mc) (c : Int) : liveP (upP L) c true = liveP L c true := by
  unfold liveP upP
  induction L with
  | nil => rfl
  | cons m L ih =>
    rw [List.map_cons, List.filter_cons, List.filter_cons]
    have e : selM c true { m with st := 0 } = selM c true m := by unfold selM; simp
    rw [e]
    split
    · rw [sumV_cons, sumV_cons, ih]
    · exact ih
theorem sum_nn {L : List Mc} (h : ∀ m ∈ L, goodV m.has = true) : (0 ≤ (sumV L).a ∧ 0 ≤ (sumV L).b) ∧ 0 ≤ (sumV L).c ∧ 0 ≤ (sumV L).d := by
  induction L with
  | nil => exact ⟨⟨Int.le_refl _, Int.le_refl _⟩, Int.le_refl _, Int.le_refl _⟩
  | cons m L ih =>
    have h1 := goodV_of (h m (List.mem_cons_self ..))
    have h2 := ih fun x hx => h x (List.mem_cons_of_mem _ hx)
    rw [sumV_cons]
    unfold addV
    simp only
    omega
theorem sumV_app (A B : List Mc) : sumV (A ++ B) = addV (sumV A) (sumV B) := by
  induction A with
  | nil => rw [List.nil_append, sumV_nil, zero_addV]
  | cons m A ih => rw [List.cons_append, sumV_cons, sumV_cons, ih, addV_assoc]
theorem GS.take {P : List Mc} (h : GS P) (hg : ∀ m ∈ P, goodV m.has = true) (k : Nat) : GS (P.take k) := fun c => by
  have h0 := goodV_of (h c)
  unfold liveP at h0 ⊢
  have e : P.filter (selM c true) = (P.take k).filter (selM c true) ++ (P.drop k).filter (selM c true) := by rw [← List.filter_append, List.take_append_drop]
  rw [e, sumV_app] at h0
  have n1 := sum_nn (L := (P.take k).filter (selM c true)) fun m hm => hg m (List.mem_of_mem_take (List.mem_filter.1 hm).1)
  have n2 := sum_nn (L := (P.drop k).filter (selM c true)) fun m hm => hg m (List.mem_of_mem_drop (List.mem_filter.1 hm).1)
  unfold addV at h0
  simp only at h0
  exact goodV_mk (by omega)
/-- The first of those that are left goes. -/
theorem drop_head {P : List Mc} (hG : GP P) {k : Nat} {m : Mc} (hm : P[k]? = some m) : dropP (P.drop k) m.id = (P.drop (k + 1), 0) := by
  obtain ⟨hl, he⟩ := List.getElem?_eq_some_iff.1 hm
  have hd : P.drop k = m :: P.drop (k + 1) := by rw [List.drop_eq_getElem_cons hl, he]
  have ho : (P.drop k).Pairwise fun x y => x.id < y.id := hG.ord.sublist (List.drop_sublist _ _)
  rw [hd] at ho ⊢
  unfold dropP
  have ha : atP (m :: P.drop (k + 1)) m.id = some m := by unfold atP; rw [List.find?_cons_of_pos (by simp)]
  rw [ha]
  simp only [Option.isSome_some, if_true, Prod.mk.injEq, and_true]
  rw [List.filter_cons_of_neg (by simp)]
  exact List.filter_eq_self.2 fun x hx => by have := (List.pairwise_cons.1 ho).1 x hx; simp; omega
/-- The next one comes again. -/
theorem add_next {P : List Mc} (hG : GP P) (hS : GS P) {k : Nat} {m : Mc} (hm : P[k]? = some m) : addP (upP (P.take k)) m.id m.cell m.has = (upP (P.take (k + 1)), 0) := by
  obtain ⟨hl, he⟩ := List.getElem?_eq_some_iff.1 hm
  have hmP := List.mem_of_getElem? hm
  have h1 := hG.ids m hmP
  have h2 := hG.cells m hmP
  have h3 := hG.good m hmP
  have hlow : ∀ x ∈ upP (P.take k), x.id < m.id := fun x hx => by
    obtain ⟨y, hy, rfl⟩ := List.mem_map.1 hx
    obtain ⟨j, hj, rfl⟩ := List.mem_take_iff_getElem.1 hy
    have := List.pairwise_iff_getElem.1 hG.ord j k (by omega) hl (by omega)
    rw [he] at this
    exact this
  have hno : atP (upP (P.take k)) m.id = none := at_none.2 fun x hx e => by have := hlow x hx; omega
  have hlen : (upP (P.take k)).length < 24 := by unfold upP; rw [List.length_map, List.length_take]; have := hG.len; omega
  have htk : P.take (k + 1) = P.take k ++ [m] := by rw [List.take_add_one, hm]; rfl
  have hsum : goodV (addV (liveP (upP (P.take k)) m.cell true) m.has) = true := by
    have h := (hS.take hG.good (k + 1)) m.cell
    rw [htk] at h
    unfold liveP at h
    rw [List.filter_append, sumV_app, List.filter_cons_of_pos (by unfold selM; simp), List.filter_nil] at h
    rw [up_live]
    unfold liveP
    have e : sumV [m] = m.has := by rw [sumV_cons, sumV_nil, addV_zero]
    rwa [e] at h
  unfold addP
  have hgs : GS (upP (P.take k)) := fun c => by rw [up_live]; exact hS.take hG.good k c
  have herr : (addR (liveP (upP (P.take k)) m.cell true) m.has).2 = 0 := by
    rcases Nat.eq_zero_or_pos (addR (liveP (upP (P.take k)) m.cell true) m.has).2 with h | h
    · exact h
    · have := (addR_err hgs m.cell h3).1 (by omega)
      rw [hsum] at this; cases this
  have hb : ¬ (m.id < 1 ∨ 999 < m.id ∨ m.cell < 1 ∨ 4 < m.cell ∨ goodV m.has = false) := by
    rintro (h | h | h | h | h)
    · omega
    · omega
    · omega
    · omega
    · rw [h3] at h; cases h
  rw [if_neg hb, hno]
  simp only [Option.isSome_none, Bool.false_eq_true, if_false]
  rw [if_neg (by omega), if_neg (by omega)]
  simp only [Prod.mk.injEq, and_true]
  unfold insP
  rw [List.filter_eq_self.2 fun x hx => by simpa using hlow x hx, List.filter_eq_nil_iff.2 fun x hx => by have := hlow x hx; simp; omega, htk]
  unfold upP
  rw [List.map_append]
  rfl

/-- What is asked behind it. -/
def end_roundQ (u1 u2 u6 u7 u8 u9 u10 u11 u12 u13 u14 u15 u16 u17 u18 u19 u20 u21 u22 u51 u52 u53 u54 u55 u56 u57 u58 u59 u60 u61 u62 u63 u64 u65 u66 u67 u68 u69 u70 u71 u72 u73 u74 u75 u76 u77 u78 u79 u80 u81 u82 u83 u84 u85 u86 u87 u88 u89 u90 u91 u92 u93 u94 u95 u96 u97 u98 u99 u100 u101 u102 u103 u104 u105 u106 u107 u108 u109 u110 u111 u112 : Value) (A : Option Addr) (c i : Nat) (X : List PkAD) (w0 : World) (q : Nat) (Q : Exit → Act → World → Prop) : Prop :=
  ∀ (v5 v23 v24 v25 v26 v27 v28 v29 v30 v31 v32 v33 v34 v35 v36 v37 v38 v39 v40 v41 v42 v43 v44 v45 v46 v47 v48 v49 v50 : Value) (w' : World) (R' : Nat) (P' : List Mc), PkAt w0 w' q R' P' → Q .normal { tmps := #[.slice A X.length c, u1, u2, .pointer (some ⟨q, 0, none⟩), .int .i64 (i : Int), v5, u6, u7, u8, u9, u10, u11, u12, u13, u14, u15, u16, u17, u18, u19, u20, u21, u22, v23, v24, v25, v26, v27, v28, v29, v30, v31, v32, v33, v34, v35, v36, v37, v38, v39, v40, v41, v42, v43, v44, v45, v46, v47, v48, v49, v50, u51, u52, u53, u54, u55, u56, u57, u58, u59, u60, u61, u62, u63, u64, u65, u66, u67, u68, u69, u70, u71, u72, u73, u74, u75, u76, u77, u78, u79, u80, u81, u82, u83, u84, u85, u86, u87, u88, u89, u90, u91, u92, u93, u94, u95, u96, u97, u98, u99, u100, u101, u102, u103, u104, u105, u106, u107, u108, u109, u110, u111, u112], defers := [] } w'
set_option maxRecDepth 100000 in
set_option maxHeartbeats 6400000 in
/-- A round: a deed. -/
theorem end_round (u1 u2 u5 u6 u7 u8 u9 u10 u11 u12 u13 u14 u15 u16 u17 u18 u19 u20 u21 u22 u23 u24 u25 u26 u27 u28 u29 u30 u31 u32 u33 u34 u35 u36 u37 u38 u39 u40 u41 u42 u43 u44 u45 u46 u47 u48 u49 u50 u51 u52 u53 u54 u55 u56 u57 u58 u59 u60 u61 u62 u63 u64 u65 u66 u67 u68 u69 u70 u71 u72 u73 u74 u75 u76 u77 u78 u79 u80 u81 u82 u83 u84 u85 u86 u87 u88 u89 u90 u91 u92 u93 u94 u95 u96 u97 u98 u99 u100 u101 u102 u103 u104 u105 u106 u107 u108 u109 u110 u111 u112 : Value) (s : Nat → Addr) (A : Option Addr) (c i : Nat) (X : List PkAD) (w0 : World) (q R : Nat) (P : List Mc) (x : PkAD) (Q : Exit → Act → World → Prop) (w : World) (hs : Sent s w0) (hX : PkARow w0 w0.heap.size A X) (hK : PkAt w0 w q R P) (hi : X[i]? = some x)
    (hQ : end_roundQ u1 u2 u6 u7 u8 u9 u10 u11 u12 u13 u14 u15 u16 u17 u18 u19 u20 u21 u22 u51 u52 u53 u54 u55 u56 u57 u58 u59 u60 u61 u62 u63 u64 u65 u66 u67 u68 u69 u70 u71 u72 u73 u74 u75 u76 u77 u78 u79 u80 u81 u82 u83 u84 u85 u86 u87 u88 u89 u90 u91 u92 u93 u94 u95 u96 u97 u98 u99 u100 u101 u102 u103 u104 u105 u106 u107 u108 u109 u110 u111 u112 A c i X w0 q Q) :
    (Code.block 1 (bodyOf Tryd.f5 1)).wp Tryd.prog Q { tmps := #[.slice A X.length c, u1, u2, .pointer (some ⟨q, 0, none⟩), .int .i64 (i : Int), u5, u6, u7, u8, u9, u10, u11, u12, u13, u14, u15, u16, u17, u18, u19, u20, u21, u22, u23, u24, u25, u26, u27, u28, u29, u30, u31, u32, u33, u34, u35, u36, u37, u38, u39, u40, u41, u42, u43, u44, u45, u46, u47, u48, u49, u50, u51, u52, u53, u54, u55, u56, u57, u58, u59, u60, u61, u62, u63, u64, u65, u66, u67, u68, u69, u70, u71, u72, u73, u74, u75, u76, u77, u78, u79, u80, u81, u82, u83, u84, u85, u86, u87, u88, u89, u90, u91, u92, u93, u94, u95, u96, u97, u98, u99, u100, u101, u102, u103, u104, u105, u106, u107, u108, u109, u110, u111, u112], defers := [] } w := by
  simp only [bodyOf, Tryd.f5, blkOf, Option.bind_some, Option.orElse, Option.getD_some, Nat.reduceEqDiff, if_true, if_false, reduceCtorEq]
  have HQ := Lib.hid hQ
  have HS := Lib.hid hs
  have HK := Lib.hid hK
  obtain ⟨ad, rfl, c0, c1, c2, c3, c4, c5, c6⟩ := hX.cells hK.below hi
  have hi0 : (0 : Int) ≤ (i : Int) := by omega
  have hi1 : (i : Int) < (X.length : Int) := by have := (List.getElem?_eq_some_iff.1 hi).1; omega
  obtain ⟨gx, hgx⟩ : ∃ gx, gx = w.heap.size := ⟨_, rfl⟩
  obtain ⟨W1, hW1⟩ : ∃ W1, W1 = w.alloc (.cells #[.int .i64 x.kind, .int .i64 x.id, .int .i64 x.n, .int .i64 x.v.a, .int .i64 x.v.b, .int .i64 x.v.c, .int .i64 x.v.d] 34) := ⟨_, rfl⟩
  have hb1 : Below w.heap.size w W1 := by rw [hW1]; exact (Below.refl _ _).alloc (Nat.le_refl _) _
  have HX1 : Hid (PkABlk W1 gx x) := Lib.hid (by rw [hW1, hgx]; exact PkABlk.new w x)
  have HK1 := Lib.hid (hK.on hb1)
  have HW1 := Lib.hid hW1
  have HGX := Lib.hid hgx
  clear hQ hs hX hK hi hW1 hb1 hgx HK
  go_upto_region 8 with fail
  rw [← HW1.out, ← HGX.out]
  clear c0 c1 c2 c3 c4 c5 c6
  obtain ⟨c0, c1, c2, c3, c4, c5, c6, cl⟩ := HX1.out.cells
  by_cases k3 : x.kind = 3
  · have e3 : (x.kind == 3) = true := by simpa using k3
    clear k3
    go_wp2_with fail
    refine (HK1.out.drop HS.out x.id).mono ?_
    rintro e w2 ⟨rfl, h1, _⟩
    have H1 := Lib.hid h1
    clear h1 c0 c1 c2 c3 c4 c5 c6 cl
    go_wp2_with fail
    exact HQ.out _ _ _ _ _ _ _ _ _ _ _ _ _ _ _ _ _ _ _ _ _ _ _ _ _ _ _ _ _ _ R _ H1.out
  · have e3 : (x.kind == 3) = false := by simpa using k3
    by_cases k4 : x.kind = 4
    · have e4 : (x.kind == 4) = true := by simpa using k4
      clear k3 k4
      go_wp2_with fail
      refine (HK1.out.sets HS.out x.id x.n).mono ?_
      rintro e w2 ⟨rfl, h1, _⟩
      have H1 := Lib.hid h1
      clear h1 c0 c1 c2 c3 c4 c5 c6 cl
      go_wp2_with fail
      exact HQ.out _ _ _ _ _ _ _ _ _ _ _ _ _ _ _ _ _ _ _ _ _ _ _ _ _ _ _ _ _ _ R _ H1.out
    · have e4 : (x.kind == 4) = false := by simpa using k4
      clear k3 k4
      go_wp2_with fail
      refine (HK1.out.add HS.out x.id x.n x.v).mono ?_
      rintro e w2 ⟨rfl, R', h1, _, _⟩
      have H1 := Lib.hid h1
      clear h1 c0 c1 c2 c3 c4 c5 c6 cl
      go_wp2_with fail
      exact HQ.out _ _ _ _ _ _ _ _ _ _ _ _ _ _ _ _ _ _ _ _ _ _ _ _ _ _ _ _ _ _ R' _ H1.out

/-- What is asked behind it. -/
def end_dropsQ (u0 u1 u4 u5 u8 u9 u10 u11 u12 u13 u14 u15 u16 u17 u18 u19 u20 u21 u22 u23 u24 u25 u26 u27 u28 u29 u30 u31 u32 u33 u34 u35 u36 u37 u38 u39 u40 u41 u42 u43 u44 u45 u46 u47 u48 u49 u50 u51 u52 u67 u68 u69 u70 u71 u72 u73 u74 u75 u76 u77 u78 u79 u80 u81 u82 u83 u84 u85 u86 u87 u88 u89 u90 u91 u92 u93 u94 u95 u96 u97 u98 u99 u100 u101 u102 u103 u104 u105 u106 u107 u108 u109 u110 u111 u112 : Value) (w0 : World) (q R base c : Nat) (A : Option Addr) (P : List Mc) (Q : Exit → Act → World → Prop) : Prop :=
  ∀ (v2 v7 v53 v54 v55 v56 v57 v58 v59 v60 v61 v62 v63 v64 v65 v66 : Value) (w' : World), PkAt w0 w' q R [] → OwnE encMc 45 w' base (.slice A P.length c) P → Q .normal { tmps := #[u0, u1, v2, .pointer (some ⟨q, 0, none⟩), u4, u5, .slice A P.length c, v7, u8, u9, u10, u11, u12, u13, u14, u15, u16, u17, u18, u19, u20, u21, u22, u23, u24, u25, u26, u27, u28, u29, u30, u31, u32, u33, u34, u35, u36, u37, u38, u39, u40, u41, u42, u43, u44, u45, u46, u47, u48, u49, u50, u51, u52, v53, v54, v55, v56, v57, v58, v59, v60, v61, v62, v63, v64, v65, v66, u67, u68, u69, u70, u71, u72, u73, u74, u75, u76, u77, u78, u79, u80, u81, u82, u83, u84, u85, u86, u87, u88, u89, u90, u91, u92, u93, u94, u95, u96, u97, u98, u99, u100, u101, u102, u103, u104, u105, u106, u107, u108, u109, u110, u111, u112], defers := [] } w'
set_option maxRecDepth 100000 in
set_option maxHeartbeats 6400000 in
/-- All machines go. -/
theorem end_drops (u0 u1 u2 u4 u5 u8 u9 u10 u11 u12 u13 u14 u15 u16 u17 u18 u19 u20 u21 u22 u23 u24 u25 u26 u27 u28 u29 u30 u31 u32 u33 u34 u35 u36 u37 u38 u39 u40 u41 u42 u43 u44 u45 u46 u47 u48 u49 u50 u51 u52 u53 u54 u55 u56 u57 u58 u59 u60 u61 u62 u63 u64 u65 u66 u67 u68 u69 u70 u71 u72 u73 u74 u75 u76 u77 u78 u79 u80 u81 u82 u83 u84 u85 u86 u87 u88 u89 u90 u91 u92 u93 u94 u95 u96 u97 u98 u99 u100 u101 u102 u103 u104 u105 u106 u107 u108 u109 u110 u111 u112 : Value) (s : Nat → Addr) (w0 : World) (q R base c : Nat) (A : Option Addr) (P : List Mc) (Q : Exit → Act → World → Prop) (w : World) (hs : Sent s w0) (hK : PkAt w0 w q R P) (hO : OwnE encMc 45 w base (.slice A P.length c) P) (hG : GP P) (hne : ∀ j, (Value.slice A P.length c).ownBlock = some j → j ≠ q ∧ j ≠ R)
    (hQ : end_dropsQ u0 u1 u4 u5 u8 u9 u10 u11 u12 u13 u14 u15 u16 u17 u18 u19 u20 u21 u22 u23 u24 u25 u26 u27 u28 u29 u30 u31 u32 u33 u34 u35 u36 u37 u38 u39 u40 u41 u42 u43 u44 u45 u46 u47 u48 u49 u50 u51 u52 u67 u68 u69 u70 u71 u72 u73 u74 u75 u76 u77 u78 u79 u80 u81 u82 u83 u84 u85 u86 u87 u88 u89 u90 u91 u92 u93 u94 u95 u96 u97 u98 u99 u100 u101 u102 u103 u104 u105 u106 u107 u108 u109 u110 u111 u112 w0 q R base c A P Q) :
    (Code.block 3 (bodyOf Tryd.f5 3)).wp Tryd.prog Q { tmps := #[u0, u1, u2, .pointer (some ⟨q, 0, none⟩), u4, u5, .slice A P.length c, .int .i64 0, u8, u9, u10, u11, u12, u13, u14, u15, u16, u17, u18, u19, u20, u21, u22, u23, u24, u25, u26, u27, u28, u29, u30, u31, u32, u33, u34, u35, u36, u37, u38, u39, u40, u41, u42, u43, u44, u45, u46, u47, u48, u49, u50, u51, u52, u53, u54, u55, u56, u57, u58, u59, u60, u61, u62, u63, u64, u65, u66, u67, u68, u69, u70, u71, u72, u73, u74, u75, u76, u77, u78, u79, u80, u81, u82, u83, u84, u85, u86, u87, u88, u89, u90, u91, u92, u93, u94, u95, u96, u97, u98, u99, u100, u101, u102, u103, u104, u105, u106, u107, u108, u109, u110, u111, u112], defers := [] } w := by
  simp only [bodyOf, Tryd.f5, blkOf, Option.bind_some, Option.orElse, Option.getD_some, Nat.reduceEqDiff, if_true, if_false, reduceCtorEq]
  have HQ := Lib.hid hQ
  have HS := Lib.hid hs; have HG := Lib.hid hG; have HNE := Lib.hid hne
  obtain ⟨n, hn⟩ : ∃ n, n = P.length := ⟨_, rfl⟩
  rw [← hn] at hO HNE ⊢
  have HK := Lib.hid hK; have HO := Lib.hid hO
  have hn24 : (n : Int) ≤ 24 := by have := HG.out.len; omega
  have HN := Lib.hid hn
  clear hQ hs hG hne hK hO hn
  go_wp2_with fail
  go_loopw [7] (fun u W => ∃ k : Nat, k ≤ n ∧ u = .int .i64 (k : Int) ∧ PkAt w0 W q R (P.drop k) ∧ OwnE encMc 45 W base (.slice A n c) P) (fun u _ => n - (intOf u).toNat)
  case atStart => exact ⟨0, Nat.zero_le _, rfl, HK.out, HO.out⟩
  case round =>
    clear HK HO
    obtain ⟨k, hk, rfl, h1, h2⟩ := hrel
    have HK := Lib.hid h1; have HO := Lib.hid h2
    clear h1 h2
    by_cases hkn : k < n
    · obtain ⟨m, hm⟩ : ∃ m, P[k]? = some m := ⟨_, List.getElem?_eq_getElem (by have := HN.out; omega)⟩
      have hkz : (k : Int) < (n : Int) := by omega
      have hk0 : (0 : Int) ≤ (k : Int) := by omega
      obtain ⟨ad, g, rfl, hadd, _, hgw, hf, hc⟩ := HO.out.at hm
      have c0 := hc 0 _ rfl
      rw [Nat.add_zero] at c0
      have HD := Lib.hid (drop_head HG.out hm)
      clear hc hm
      go_wp2_with fail
      refine (HK.out.drop HS.out m.id).mono ?_
      rw [HD.out]
      rintro e w2 ⟨rfl, h1, h2⟩
      have HK2 := Lib.hid h1
      have HO2 : Hid (OwnE encMc 45 w2 base (.slice (some ad) n c) P) := Lib.hid (HO.out.same fun j hj => h2.block j (HO.out.lt j hj).2 (HNE.out j hj).1 (HNE.out j hj).2)
      clear h1 h2 c0 hf hgw
      rw [show errV s (P.drop (k + 1), 0).2 = .nilIface from rfl]
      go_wp2_with fail
      go_roundw
      case rel => exact ⟨k + 1, by omega, by go_num, HK2.out, HO2.out⟩
      case measure => simp [intOf]; omega
    · obtain rfl : k = n := by omega
      have hkz : ¬ (k : Int) < (k : Int) := by omega
      have e : P.drop k = [] := List.drop_eq_nil_of_le (by have := HN.out; omega)
      rw [e] at HK
      clear e
      go_wp2_with fail
      have hnn := HN.out
      subst hnn
      exact HQ.out _ _ _ _ _ _ _ _ _ _ _ _ _ _ _ _ _ HK.out HO.out

/-- What is asked behind it. -/
def end_noneQ (u0 u1 u4 u5 u6 u7 u9 u10 u11 u12 u13 u14 u15 u16 u17 u18 u19 u20 u21 u22 u23 u24 u25 u26 u27 u28 u29 u30 u31 u32 u33 u34 u35 u36 u37 u38 u39 u40 u41 u42 u43 u44 u45 u46 u47 u48 u49 u50 u51 u52 u53 u54 u55 u56 u57 u58 u59 u60 u61 u62 u63 u64 u65 u66 u83 u84 u85 u86 u87 u88 u89 u90 u91 u92 u93 u94 u95 u96 u97 u98 u99 u100 u101 u102 u103 u104 u105 u106 u107 u108 u109 u110 u111 u112 : Value) (w0 : World) (q R : Nat) (Q : Exit → Act → World → Prop) (w : World) : Prop :=
  ∀ (v2 v8 v67 v68 v69 v70 v71 v72 v73 v74 v75 v76 v77 v78 v79 v80 v81 v82 : Value) (w' : World), PkAt w0 w' q R [] → Below w.heap.size w w' → Q .normal { tmps := #[u0, u1, v2, .pointer (some ⟨q, 0, none⟩), u4, u5, u6, u7, v8, u9, u10, u11, u12, u13, u14, u15, u16, u17, u18, u19, u20, u21, u22, u23, u24, u25, u26, u27, u28, u29, u30, u31, u32, u33, u34, u35, u36, u37, u38, u39, u40, u41, u42, u43, u44, u45, u46, u47, u48, u49, u50, u51, u52, u53, u54, u55, u56, u57, u58, u59, u60, u61, u62, u63, u64, u65, u66, v67, v68, v69, v70, v71, v72, v73, v74, v75, v76, v77, v78, v79, v80, v81, v82, u83, u84, u85, u86, u87, u88, u89, u90, u91, u92, u93, u94, u95, u96, u97, u98, u99, u100, u101, u102, u103, u104, u105, u106, u107, u108, u109, u110, u111, u112], defers := [] } w'
set_option maxRecDepth 100000 in
set_option maxHeartbeats 6400000 in
/-- Nothing is left. -/
theorem end_none (u0 u1 u2 u4 u5 u6 u7 u9 u10 u11 u12 u13 u14 u15 u16 u17 u18 u19 u20 u21 u22 u23 u24 u25 u26 u27 u28 u29 u30 u31 u32 u33 u34 u35 u36 u37 u38 u39 u40 u41 u42 u43 u44 u45 u46 u47 u48 u49 u50 u51 u52 u53 u54 u55 u56 u57 u58 u59 u60 u61 u62 u63 u64 u65 u66 u67 u68 u69 u70 u71 u72 u73 u74 u75 u76 u77 u78 u79 u80 u81 u82 u83 u84 u85 u86 u87 u88 u89 u90 u91 u92 u93 u94 u95 u96 u97 u98 u99 u100 u101 u102 u103 u104 u105 u106 u107 u108 u109 u110 u111 u112 : Value) (s : Nat → Addr) (w0 : World) (q R : Nat) (Q : Exit → Act → World → Prop) (w : World) (hs : Sent s w0) (hK : PkAt w0 w q R [])
    (hQ : end_noneQ u0 u1 u4 u5 u6 u7 u9 u10 u11 u12 u13 u14 u15 u16 u17 u18 u19 u20 u21 u22 u23 u24 u25 u26 u27 u28 u29 u30 u31 u32 u33 u34 u35 u36 u37 u38 u39 u40 u41 u42 u43 u44 u45 u46 u47 u48 u49 u50 u51 u52 u53 u54 u55 u56 u57 u58 u59 u60 u61 u62 u63 u64 u65 u66 u83 u84 u85 u86 u87 u88 u89 u90 u91 u92 u93 u94 u95 u96 u97 u98 u99 u100 u101 u102 u103 u104 u105 u106 u107 u108 u109 u110 u111 u112 w0 q R Q w) :
    (Code.block 5 (bodyOf Tryd.f5 5)).wp Tryd.prog Q { tmps := #[u0, u1, u2, .pointer (some ⟨q, 0, none⟩), u4, u5, u6, u7, .int .i64 1, u9, u10, u11, u12, u13, u14, u15, u16, u17, u18, u19, u20, u21, u22, u23, u24, u25, u26, u27, u28, u29, u30, u31, u32, u33, u34, u35, u36, u37, u38, u39, u40, u41, u42, u43, u44, u45, u46, u47, u48, u49, u50, u51, u52, u53, u54, u55, u56, u57, u58, u59, u60, u61, u62, u63, u64, u65, u66, u67, u68, u69, u70, u71, u72, u73, u74, u75, u76, u77, u78, u79, u80, u81, u82, u83, u84, u85, u86, u87, u88, u89, u90, u91, u92, u93, u94, u95, u96, u97, u98, u99, u100, u101, u102, u103, u104, u105, u106, u107, u108, u109, u110, u111, u112], defers := [] } w := by
  simp only [bodyOf, Tryd.f5, blkOf, Option.bind_some, Option.orElse, Option.getD_some, Nat.reduceEqDiff, if_true, if_false, reduceCtorEq]
  have HQ := Lib.hid hQ
  have HS := Lib.hid hs; have HK := Lib.hid hK
  clear hQ hs hK
  have hE : ∀ W : World, (Op.equalIn 10000 28 (.agg #[.int .i64 0, .int .i64 0, .int .i64 0, .int .i64 0]) (.agg #[.int .i64 0, .int .i64 0, .int .i64 0, .int .i64 0])).run Tryd.prog W = .ok true W := fun W => (eqV 0 0 0 0 0 0 0 0 W)
  go_wp2_with fail
  go_loopw [8] (fun u W => ∃ k : Nat, 1 ≤ k ∧ k ≤ 5 ∧ u = .int .i64 (k : Int) ∧ PkAt w0 W q R [] ∧ Below w.heap.size w W) (fun u _ => 5 - (intOf u).toNat)
  case atStart => exact ⟨1, Nat.le_refl _, by omega, rfl, HK.out, Below.refl _ _⟩
  case round =>
    clear HK
    obtain ⟨k, hk1, hk, rfl, h1, h2⟩ := hrel
    have HK := Lib.hid h1; have HB := Lib.hid h2
    clear h1 h2
    by_cases hk5 : k < 5
    · have hkz : (k : Int) ≤ 4 := by omega
      go_wp2_with fail
      refine (HK.out.live HS.out (k : Int)).mono ?_
      rw [show liveP [] (k : Int) false = ⟨0, 0, 0, 0⟩ from rfl]
      rintro e w2 ⟨rfl, b2⟩
      have HK2 := Lib.hid (HK.out.on b2)
      have HB2 := Lib.hid (HB.out.trans (b2.mono HB.out.size))
      clear b2
      go_wp2_with fail
      refine (HK2.out.list (k : Int)).mono ?_
      rintro e w3 ⟨v3, rfl, o3, b3⟩
      obtain ⟨A3, n3, rfl⟩ := o3.form
      rw [show (inP [] (k : Int)).length = 0 from rfl]
      have HK3 := Lib.hid (HK2.out.on b3)
      have HB3 := Lib.hid (HB2.out.trans (b3.mono HB2.out.size))
      clear b3 o3
      go_wp2_with fail
      go_roundw
      case rel => exact ⟨k + 1, by omega, by omega, by go_num, HK3.out, HB3.out⟩
      case measure => simp [intOf]; omega
    · obtain rfl : k = 5 := by omega
      go_wp2_with fail
      exact HQ.out _ _ _ _ _ _ _ _ _ _ _ _ _ _ _ _ _ _ _ HK.out HB.out

/-- What is asked behind it. -/
def end_addsQ (u0 u1 u4 u5 u7 u8 u10 u11 u12 u13 u14 u15 u16 u17 u18 u19 u20 u21 u22 u23 u24 u25 u26 u27 u28 u29 u30 u31 u32 u33 u34 u35 u36 u37 u38 u39 u40 u41 u42 u43 u44 u45 u46 u47 u48 u49 u50 u51 u52 u53 u54 u55 u56 u57 u58 u59 u60 u61 u62 u63 u64 u65 u66 u67 u68 u69 u70 u71 u72 u73 u74 u75 u76 u77 u78 u79 u80 u81 u82 u107 u108 u109 u110 u111 u112 : Value) (w0 : World) (q c : Nat) (A : Option Addr) (P : List Mc) (Q : Exit → Act → World → Prop) : Prop :=
  ∀ (v2 v9 v83 v84 v85 v86 v87 v88 v89 v90 v91 v92 v93 v94 v95 v96 v97 v98 v99 v100 v101 v102 v103 v104 v105 v106 : Value) (w' : World) (R' : Nat), PkAt w0 w' q R' (upP P) → Q .normal { tmps := #[u0, u1, v2, .pointer (some ⟨q, 0, none⟩), u4, u5, .slice A P.length c, u7, u8, v9, u10, u11, u12, u13, u14, u15, u16, u17, u18, u19, u20, u21, u22, u23, u24, u25, u26, u27, u28, u29, u30, u31, u32, u33, u34, u35, u36, u37, u38, u39, u40, u41, u42, u43, u44, u45, u46, u47, u48, u49, u50, u51, u52, u53, u54, u55, u56, u57, u58, u59, u60, u61, u62, u63, u64, u65, u66, u67, u68, u69, u70, u71, u72, u73, u74, u75, u76, u77, u78, u79, u80, u81, u82, v83, v84, v85, v86, v87, v88, v89, v90, v91, v92, v93, v94, v95, v96, v97, v98, v99, v100, v101, v102, v103, v104, v105, v106, u107, u108, u109, u110, u111, u112], defers := [] } w'
set_option maxRecDepth 100000 in
set_option maxHeartbeats 6400000 in
/-- All machines come again. -/
theorem end_adds (u0 u1 u2 u4 u5 u7 u8 u10 u11 u12 u13 u14 u15 u16 u17 u18 u19 u20 u21 u22 u23 u24 u25 u26 u27 u28 u29 u30 u31 u32 u33 u34 u35 u36 u37 u38 u39 u40 u41 u42 u43 u44 u45 u46 u47 u48 u49 u50 u51 u52 u53 u54 u55 u56 u57 u58 u59 u60 u61 u62 u63 u64 u65 u66 u67 u68 u69 u70 u71 u72 u73 u74 u75 u76 u77 u78 u79 u80 u81 u82 u83 u84 u85 u86 u87 u88 u89 u90 u91 u92 u93 u94 u95 u96 u97 u98 u99 u100 u101 u102 u103 u104 u105 u106 u107 u108 u109 u110 u111 u112 : Value) (s : Nat → Addr) (w0 : World) (q R base c : Nat) (A : Option Addr) (P : List Mc) (Q : Exit → Act → World → Prop) (w : World) (hs : Sent s w0) (hK : PkAt w0 w q R []) (hO : OwnE encMc 45 w base (.slice A P.length c) P) (hG : GP P) (hne : ∀ j, (Value.slice A P.length c).ownBlock = some j → j ≠ q ∧ j ≠ R) (hGS : GS P)
    (hQ : end_addsQ u0 u1 u4 u5 u7 u8 u10 u11 u12 u13 u14 u15 u16 u17 u18 u19 u20 u21 u22 u23 u24 u25 u26 u27 u28 u29 u30 u31 u32 u33 u34 u35 u36 u37 u38 u39 u40 u41 u42 u43 u44 u45 u46 u47 u48 u49 u50 u51 u52 u53 u54 u55 u56 u57 u58 u59 u60 u61 u62 u63 u64 u65 u66 u67 u68 u69 u70 u71 u72 u73 u74 u75 u76 u77 u78 u79 u80 u81 u82 u107 u108 u109 u110 u111 u112 w0 q c A P Q) :
    (Code.block 7 (bodyOf Tryd.f5 7)).wp Tryd.prog Q { tmps := #[u0, u1, u2, .pointer (some ⟨q, 0, none⟩), u4, u5, .slice A P.length c, u7, u8, .int .i64 0, u10, u11, u12, u13, u14, u15, u16, u17, u18, u19, u20, u21, u22, u23, u24, u25, u26, u27, u28, u29, u30, u31, u32, u33, u34, u35, u36, u37, u38, u39, u40, u41, u42, u43, u44, u45, u46, u47, u48, u49, u50, u51, u52, u53, u54, u55, u56, u57, u58, u59, u60, u61, u62, u63, u64, u65, u66, u67, u68, u69, u70, u71, u72, u73, u74, u75, u76, u77, u78, u79, u80, u81, u82, u83, u84, u85, u86, u87, u88, u89, u90, u91, u92, u93, u94, u95, u96, u97, u98, u99, u100, u101, u102, u103, u104, u105, u106, u107, u108, u109, u110, u111, u112], defers := [] } w := by
  simp only [bodyOf, Tryd.f5, blkOf, Option.bind_some, Option.orElse, Option.getD_some, Nat.reduceEqDiff, if_true, if_false, reduceCtorEq]
  have HQ := Lib.hid hQ
  have HS := Lib.hid hs; have HG := Lib.hid hG; have HGS := Lib.hid hGS
  obtain ⟨n, hn⟩ : ∃ n, n = P.length := ⟨_, rfl⟩
  rw [← hn] at hO hne ⊢
  have HK := Lib.hid hK; have HO := Lib.hid hO; have HNE := Lib.hid hne
  have hn24 : (n : Int) ≤ 24 := by have := HG.out.len; omega
  have HN := Lib.hid hn
  clear hQ hs hG hGS hne hK hO hn
  go_wp2_with fail
  go_loopw [9] (fun u W => ∃ k r : Nat, k ≤ n ∧ u = .int .i64 (k : Int) ∧ PkAt w0 W q r (upP (P.take k)) ∧ OwnE encMc 45 W base (.slice A n c) P ∧ ∀ j, (Value.slice A n c).ownBlock = some j → j ≠ q ∧ j ≠ r) (fun u _ => n - (intOf u).toNat)
  case atStart => exact ⟨0, R, Nat.zero_le _, rfl, HK.out, HO.out, HNE.out⟩
  case round =>
    clear HK HO HNE
    obtain ⟨k, r, hk, rfl, h1, h2, h3⟩ := hrel
    have HK := Lib.hid h1; have HO := Lib.hid h2; have HNE := Lib.hid h3
    clear h1 h2 h3
    by_cases hkn : k < n
    · obtain ⟨m, hm⟩ : ∃ m, P[k]? = some m := ⟨_, List.getElem?_eq_getElem (by have := HN.out; omega)⟩
      have hkz : (k : Int) < (n : Int) := by omega
      have hk0 : (0 : Int) ≤ (k : Int) := by omega
      obtain ⟨ad, g, rfl, hadd, _, hgw, hf, hc⟩ := HO.out.at hm
      have c0 := hc 0 _ rfl
      have c1 := hc 1 _ rfl
      have c2 := hc 2 _ rfl
      have c3 := hc 3 _ rfl
      have c4 := hc 4 _ rfl
      have c5 := hc 5 _ rfl
      rw [Nat.add_zero] at c0
      have HD := Lib.hid (add_next HG.out HGS.out hm)
      clear hc hm
      go_upto_region 28 with fail
      go_still_tail 16, (by kernel_rfl)
      change wpList _ _ _ _ _ wr.drew
      go_wp2_with fail
      refine (HK.out.drew.add HS.out m.id m.cell m.has).mono ?_
      rw [HD.out]
      rintro e w2 ⟨rfl, R', h1, h3, h2⟩
      have HK2 := Lib.hid h1
      have HO2 : Hid (OwnE encMc 45 w2 base (.slice (some ad) n c) P) := Lib.hid (HO.out.same fun j hj => h2.block j (HO.out.lt j hj).2 (HNE.out j hj).1 (HNE.out j hj).2)
      have HN2 : Hid (∀ j, (Value.slice (some ad) n c).ownBlock = some j → j ≠ q ∧ j ≠ R') := Lib.hid fun j hj => ⟨(HNE.out j hj).1, by
        rcases h3 with h3 | h3
        · rw [h3]; exact (HNE.out j hj).2
        · have a1 := (HO.out.lt j hj).2
          have a2 : wr.heap.size ≤ R' := h3
          omega⟩
      clear h1 h2 h3 c0 c1 c2 c3 c4 c5 hf hgw
      rw [show errV s (upP (P.take (k + 1)), 0).2 = .nilIface from rfl]
      go_wp2_with fail
      go_roundw
      case rel => exact ⟨k + 1, R', by omega, by go_num, HK2.out, HO2.out, HN2.out⟩
      case measure => simp [intOf]; omega
    · obtain rfl : k = n := by omega
      have hkz : ¬ (k : Int) < (k : Int) := by omega
      have e : P.take k = P := List.take_of_length_le (by have := HN.out; omega)
      rw [e] at HK
      clear e
      go_wp2_with fail
      have hnn := HN.out
      subst hnn
      exact HQ.out _ _ _ _ _ _ _ _ _ _ _ _ _ _ _ _ _ _ _ _ _ _ _ _ _ _ _ r HK.out

end Go.Proofs.YtaenpajmgenjhaaDoor
