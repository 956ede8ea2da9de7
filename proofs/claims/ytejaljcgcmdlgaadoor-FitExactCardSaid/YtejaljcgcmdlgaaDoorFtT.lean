/- The reference's fit by contract: where the best spot is. Conditions: the spots lie in memory. -/
import Derived.Test.YtejaljcgcmdlgaaDoorFtR
import Derived.Deep.CutBlock
namespace Go.Proofs.YtejaljcgcmdlgaaDoor
open Go Go.RowKit

/-- A spot's five cells. -/
def SpAt (w : World) (g o : Nat) (s : Spt) : Prop := w.cell? ⟨g, o, none⟩ = some (.int .i64 s.id) ∧ w.cell? ⟨g, o + 1, none⟩ = some (.int .i64 s.left.a) ∧ w.cell? ⟨g, o + 2, none⟩ = some (.int .i64 s.left.b) ∧ w.cell? ⟨g, o + 3, none⟩ = some (.int .i64 s.left.c) ∧ w.cell? ⟨g, o + 4, none⟩ = some (.int .i64 s.left.d) ∧ g < w.heap.size ∧ ∀ j, w.frozen? ⟨g, j, none⟩ = false
theorem SpAt.on {w w' : World} {g o : Nat} {s : Spt} (h : SpAt w g o s) (hb : Below w.heap.size w w') : SpAt w' g o s := by
  obtain ⟨c0, c1, c2, c3, c4, hl, hf⟩ := h
  exact ⟨(hb.cell hl).trans c0, (hb.cell hl).trans c1, (hb.cell hl).trans c2, (hb.cell hl).trans c3, (hb.cell hl).trans c4, Nat.lt_of_lt_of_le hl hb.size, fun j => (hb.frozen hl).trans (hf j)⟩

set_option maxRecDepth 100000 in
set_option maxHeartbeats 6400000 in
/-- Does the spot fit? -/
theorem at_r5 (u1 u2 u4 u5 u7 u8 u9 u10 u11 u12 u13 u14 u15 u16 u17 u18 u19 u20 u21 u22 u23 u24 u25 u26 u27 u28 u29 u30 u31 u32 u33 u34 u35 u36 u37 u38 u39 u40 u41 u42 u43 u44 u45 u46 u47 u48 u49 u50 u51 u52 u53 u54 u55 u56 u57 u58 u59 u60 u61 u62 : Value) (ad : Addr) (n cap g ga i : Nat) (s : Spt) (x : V4) (Q : Exit → Act → World → Prop) (w : World) (hadd : ad.add (i * 5) = ⟨ga, i * 5, none⟩) (hi0 : (i : Int) < (n : Int)) (hS : SpAt w ga (i * 5) s) (hV : Vk w g x) (hg : ga < w.heap.size)
    (hQ : ∀ (v18 v19 v20 v21 v22 v23 v17 v24 v25 : Value) (g7 : Nat) (w' : World), Vk w' g7 (remS s x) → w.heap.size ≤ g7 → Below w.heap.size w w' → Q .normal { tmps := #[.slice (some ad) n cap, u1, u2, .pointer (some ⟨g, 0, none⟩), u4, u5, .int .i64 (i : Int), .pointer (some ⟨g7, 0, none⟩), .bool (decide (fitS s x)), u9, u10, u11, u12, u13, u14, u15, u16, v17, v18, v19, v20, v21, v22, v23, v24, v25, u26, u27, u28, u29, u30, u31, u32, u33, u34, u35, u36, u37, u38, u39, u40, u41, u42, u43, u44, u45, u46, u47, u48, u49, u50, u51, u52, u53, u54, u55, u56, u57, u58, u59, u60, u61, u62], defers := [] } w') :
    (Code.region 5 (opsOf Tryd.f9 5).toArray true).wp Tryd.prog Q { tmps := #[.slice (some ad) n cap, u1, u2, .pointer (some ⟨g, 0, none⟩), u4, u5, .int .i64 (i : Int), u7, u8, u9, u10, u11, u12, u13, u14, u15, u16, u17, u18, u19, u20, u21, u22, u23, u24, u25, u26, u27, u28, u29, u30, u31, u32, u33, u34, u35, u36, u37, u38, u39, u40, u41, u42, u43, u44, u45, u46, u47, u48, u49, u50, u51, u52, u53, u54, u55, u56, u57, u58, u59, u60, u61, u62], defers := [] } w := by
  simp only [opsOf, Tryd.f9, regOf, Option.bind_some, Option.orElse, Option.getD_some, Nat.reduceEqDiff, if_true, if_false, reduceCtorEq]
  have HQ := Lib.hid hQ
  have HRF : Hid (∀ W, Calls Tryd.prog 18 #[.agg #[.int .i64 s.id, .int .i64 s.left.a, .int .i64 s.left.b, .int .i64 s.left.c, .int .i64 s.left.d], .agg #[.int .i64 x.a, .int .i64 x.b, .int .i64 x.c, .int .i64 x.d]] W fun e w' => e = .returned (.tuple #[.agg #[.int .i64 (remS s x).a, .int .i64 (remS s x).b, .int .i64 (remS s x).c, .int .i64 (remS s x).d], .bool (decide (fitS s x))]) ∧ Below W.heap.size W w') := Lib.hid fun W => rfits16_c s x W
  have HSS : Hid (∀ W, Below w.heap.size w W → W.cell? ⟨ga, i * 5, none⟩ = some (.int .i64 s.id) ∧ W.cell? ⟨ga, i * 5 + 1, none⟩ = some (.int .i64 s.left.a) ∧ W.cell? ⟨ga, i * 5 + 2, none⟩ = some (.int .i64 s.left.b) ∧ W.cell? ⟨ga, i * 5 + 3, none⟩ = some (.int .i64 s.left.c) ∧ W.cell? ⟨ga, i * 5 + 4, none⟩ = some (.int .i64 s.left.d) ∧ W.cell? ⟨g, 0, none⟩ = some (.int .i64 x.a) ∧ W.cell? ⟨g, 1, none⟩ = some (.int .i64 x.b) ∧ W.cell? ⟨g, 2, none⟩ = some (.int .i64 x.c) ∧ W.cell? ⟨g, 3, none⟩ = some (.int .i64 x.d) ∧ Below w.heap.size w W) := Lib.hid fun W hb => by
    obtain ⟨v0, v1, v2, v3, _, _⟩ := (hV.on hb).cells
    obtain ⟨c0, c1, c2, c3, c4, _, _⟩ := (hS.on hb)
    exact ⟨c0, c1, c2, c3, c4, v0, v1, v2, v3, hb⟩
  have HG := Lib.hid hg
  obtain ⟨c0, c1, c2, c3, c4, v0, v1, v2, v3, hb0⟩ := HSS.out w (Below.refl _ _)
  obtain ⟨y, hy⟩ : ∃ y, remS s x = y := ⟨_, rfl⟩
  obtain ⟨f, hf⟩ : ∃ f, decide (fitS s x) = f := ⟨_, rfl⟩
  rw [hy, hf] at HRF HQ
  clear hQ hS hV hg hy hf hb0
  go_region_held3 (fun W => W.cell? ⟨ga, i * 5, none⟩ = some (.int .i64 s.id) ∧ W.cell? ⟨ga, i * 5 + 1, none⟩ = some (.int .i64 s.left.a) ∧ W.cell? ⟨ga, i * 5 + 2, none⟩ = some (.int .i64 s.left.b) ∧ W.cell? ⟨ga, i * 5 + 3, none⟩ = some (.int .i64 s.left.c) ∧ W.cell? ⟨ga, i * 5 + 4, none⟩ = some (.int .i64 s.left.d) ∧ W.cell? ⟨g, 0, none⟩ = some (.int .i64 x.a) ∧ W.cell? ⟨g, 1, none⟩ = some (.int .i64 x.b) ∧ W.cell? ⟨g, 2, none⟩ = some (.int .i64 x.c) ∧ W.cell? ⟨g, 3, none⟩ = some (.int .i64 x.d) ∧ Below w.heap.size w W)
    (exact HSS.out _ (by (repeat' (first | (with_reducible exact Below.refl _ _) | (with_reducible refine below_drewN ?_ _) | (with_reducible refine Below.drew ?_) | (with_reducible refine Below.alloc ?_ ?_ _) | (with_reducible refine Below.setCell ?_ ?_ _) | (with_reducible refine Below.trans ?_ (Below.mono (by with_reducible assumption) ?_)) | omega | (simp only [World.size_alloc, World.size_drew] at *; omega) | (with_reducible refine Below.size (B := 0) ?_)))))
    (first
      | (go_at_call 18; refine (HRF.out _).mono ?_; rintro e w5 ⟨rfl, b5⟩; (first | (have hz : Vk w5 w.heap.size ⟨0, 0, 0, 0⟩ := (b5.block _ (by simp)).trans (heap_alloc_new w _); obtain ⟨z0, z1, z2, z3, zl, zf⟩ := hz.cells; have HZ := Lib.hid hz; clear hz) | skip))
      | fail)
  all_goals go_wp2_with fail
  · exact HQ.out _ _ _ _ _ _ _ _ _ _ _ (Vk.new_at rfl y) (by have := b5.size; simp at this; omega) (by (repeat' (first | (with_reducible exact Below.refl _ _) | (with_reducible refine below_drewN ?_ _) | (with_reducible refine Below.drew ?_) | (with_reducible refine Below.alloc ?_ ?_ _) | (with_reducible refine Below.setCell ?_ ?_ _) | (with_reducible refine Below.trans ?_ (Below.mono (by with_reducible assumption) ?_)) | omega | (simp only [World.size_drew] at *; omega) | (with_reducible refine Below.size (B := 0) ?_))))
  · exact HQ.out _ _ _ _ _ _ _ _ _ _ _ (HZ.out.set4 y) (Nat.le_refl _) (by (repeat' (first | (with_reducible exact Below.refl _ _) | (with_reducible refine below_drewN ?_ _) | (with_reducible refine Below.drew ?_) | (with_reducible refine Below.alloc ?_ ?_ _) | (with_reducible refine Below.setCell ?_ ?_ _) | (with_reducible refine Below.trans ?_ (Below.mono (by with_reducible assumption) ?_)) | omega | (simp only [World.size_alloc, World.size_drew] at *; omega) | (with_reducible refine Below.size (B := 0) ?_))))

set_option maxRecDepth 100000 in
set_option maxHeartbeats 6400000 in
/-- What is left of the best so far? -/
theorem at_r9 (u1 u2 u4 u6 u7 u8 u9 u10 u11 u12 u13 u14 u15 u16 u17 u18 u19 u20 u21 u22 u23 u24 u25 u26 u27 u28 u29 u30 u31 u32 u33 u34 u35 u36 u37 u38 u39 u40 u41 u42 u43 u44 u45 u46 u47 u48 u49 u50 u51 u52 u53 u54 u55 u56 u57 u58 u59 u60 u61 u62 : Value) (ad : Addr) (n cap g ga i : Nat) (s : Spt) (x : V4) (Q : Exit → Act → World → Prop) (w : World) (hadd : ad.add (i * 5) = ⟨ga, i * 5, none⟩) (hi0 : (i : Int) < (n : Int)) (hS : SpAt w ga (i * 5) s) (hV : Vk w g x) (hg : ga < w.heap.size)
    (hQ : ∀ (v32 v33 v34 v35 v36 v37 v31 v38 v39 : Value) (g7 : Nat) (w' : World), Vk w' g7 (remS s x) → w.heap.size ≤ g7 → Below w.heap.size w w' → Q .normal { tmps := #[.slice (some ad) n cap, u1, u2, .pointer (some ⟨g, 0, none⟩), u4, .int .i64 (i : Int), u6, u7, u8, .pointer (some ⟨g7, 0, none⟩), .bool (decide (fitS s x)), u11, u12, u13, u14, u15, u16, u17, u18, u19, u20, u21, u22, u23, u24, u25, u26, u27, u28, u29, u30, v31, v32, v33, v34, v35, v36, v37, v38, v39, u40, u41, u42, u43, u44, u45, u46, u47, u48, u49, u50, u51, u52, u53, u54, u55, u56, u57, u58, u59, u60, u61, u62], defers := [] } w') :
    (Code.region 9 (opsOf Tryd.f9 9).toArray true).wp Tryd.prog Q { tmps := #[.slice (some ad) n cap, u1, u2, .pointer (some ⟨g, 0, none⟩), u4, .int .i64 (i : Int), u6, u7, u8, u9, u10, u11, u12, u13, u14, u15, u16, u17, u18, u19, u20, u21, u22, u23, u24, u25, u26, u27, u28, u29, u30, u31, u32, u33, u34, u35, u36, u37, u38, u39, u40, u41, u42, u43, u44, u45, u46, u47, u48, u49, u50, u51, u52, u53, u54, u55, u56, u57, u58, u59, u60, u61, u62], defers := [] } w := by
  simp only [opsOf, Tryd.f9, regOf, Option.bind_some, Option.orElse, Option.getD_some, Nat.reduceEqDiff, if_true, if_false, reduceCtorEq]
  have HQ := Lib.hid hQ
  have HRF : Hid (∀ W, Calls Tryd.prog 18 #[.agg #[.int .i64 s.id, .int .i64 s.left.a, .int .i64 s.left.b, .int .i64 s.left.c, .int .i64 s.left.d], .agg #[.int .i64 x.a, .int .i64 x.b, .int .i64 x.c, .int .i64 x.d]] W fun e w' => e = .returned (.tuple #[.agg #[.int .i64 (remS s x).a, .int .i64 (remS s x).b, .int .i64 (remS s x).c, .int .i64 (remS s x).d], .bool (decide (fitS s x))]) ∧ Below W.heap.size W w') := Lib.hid fun W => rfits16_c s x W
  have HSS : Hid (∀ W, Below w.heap.size w W → W.cell? ⟨ga, i * 5, none⟩ = some (.int .i64 s.id) ∧ W.cell? ⟨ga, i * 5 + 1, none⟩ = some (.int .i64 s.left.a) ∧ W.cell? ⟨ga, i * 5 + 2, none⟩ = some (.int .i64 s.left.b) ∧ W.cell? ⟨ga, i * 5 + 3, none⟩ = some (.int .i64 s.left.c) ∧ W.cell? ⟨ga, i * 5 + 4, none⟩ = some (.int .i64 s.left.d) ∧ W.cell? ⟨g, 0, none⟩ = some (.int .i64 x.a) ∧ W.cell? ⟨g, 1, none⟩ = some (.int .i64 x.b) ∧ W.cell? ⟨g, 2, none⟩ = some (.int .i64 x.c) ∧ W.cell? ⟨g, 3, none⟩ = some (.int .i64 x.d) ∧ Below w.heap.size w W) := Lib.hid fun W hb => by
    obtain ⟨v0, v1, v2, v3, _, _⟩ := (hV.on hb).cells
    obtain ⟨c0, c1, c2, c3, c4, _, _⟩ := (hS.on hb)
    exact ⟨c0, c1, c2, c3, c4, v0, v1, v2, v3, hb⟩
  have HG := Lib.hid hg
  obtain ⟨c0, c1, c2, c3, c4, v0, v1, v2, v3, hb0⟩ := HSS.out w (Below.refl _ _)
  obtain ⟨y, hy⟩ : ∃ y, remS s x = y := ⟨_, rfl⟩
  obtain ⟨f, hf⟩ : ∃ f, decide (fitS s x) = f := ⟨_, rfl⟩
  rw [hy, hf] at HRF HQ
  clear hQ hS hV hg hy hf hb0
  go_region_held3 (fun W => W.cell? ⟨ga, i * 5, none⟩ = some (.int .i64 s.id) ∧ W.cell? ⟨ga, i * 5 + 1, none⟩ = some (.int .i64 s.left.a) ∧ W.cell? ⟨ga, i * 5 + 2, none⟩ = some (.int .i64 s.left.b) ∧ W.cell? ⟨ga, i * 5 + 3, none⟩ = some (.int .i64 s.left.c) ∧ W.cell? ⟨ga, i * 5 + 4, none⟩ = some (.int .i64 s.left.d) ∧ W.cell? ⟨g, 0, none⟩ = some (.int .i64 x.a) ∧ W.cell? ⟨g, 1, none⟩ = some (.int .i64 x.b) ∧ W.cell? ⟨g, 2, none⟩ = some (.int .i64 x.c) ∧ W.cell? ⟨g, 3, none⟩ = some (.int .i64 x.d) ∧ Below w.heap.size w W)
    (exact HSS.out _ (by (repeat' (first | (with_reducible exact Below.refl _ _) | (with_reducible refine below_drewN ?_ _) | (with_reducible refine Below.drew ?_) | (with_reducible refine Below.alloc ?_ ?_ _) | (with_reducible refine Below.setCell ?_ ?_ _) | (with_reducible refine Below.trans ?_ (Below.mono (by with_reducible assumption) ?_)) | omega | (simp only [World.size_alloc, World.size_drew] at *; omega) | (with_reducible refine Below.size (B := 0) ?_)))))
    (first
      | (go_at_call 18; refine (HRF.out _).mono ?_; rintro e w5 ⟨rfl, b5⟩; (first | (have hz : Vk w5 w.heap.size ⟨0, 0, 0, 0⟩ := (b5.block _ (by simp)).trans (heap_alloc_new w _); obtain ⟨z0, z1, z2, z3, zl, zf⟩ := hz.cells; have HZ := Lib.hid hz; clear hz) | skip))
      | fail)
  all_goals go_wp2_with fail
  · exact HQ.out _ _ _ _ _ _ _ _ _ _ _ (Vk.new_at rfl y) (by have := b5.size; simp at this; omega) (by (repeat' (first | (with_reducible exact Below.refl _ _) | (with_reducible refine below_drewN ?_ _) | (with_reducible refine Below.drew ?_) | (with_reducible refine Below.alloc ?_ ?_ _) | (with_reducible refine Below.setCell ?_ ?_ _) | (with_reducible refine Below.trans ?_ (Below.mono (by with_reducible assumption) ?_)) | omega | (simp only [World.size_drew] at *; omega) | (with_reducible refine Below.size (B := 0) ?_))))
  · exact HQ.out _ _ _ _ _ _ _ _ _ _ _ (HZ.out.set4 y) (Nat.le_refl _) (by (repeat' (first | (with_reducible exact Below.refl _ _) | (with_reducible refine below_drewN ?_ _) | (with_reducible refine Below.drew ?_) | (with_reducible refine Below.alloc ?_ ?_ _) | (with_reducible refine Below.setCell ?_ ?_ _) | (with_reducible refine Below.trans ?_ (Below.mono (by with_reducible assumption) ?_)) | omega | (simp only [World.size_alloc, World.size_drew] at *; omega) | (with_reducible refine Below.size (B := 0) ?_))))

end Go.Proofs.YtejaljcgcmdlgaaDoor
