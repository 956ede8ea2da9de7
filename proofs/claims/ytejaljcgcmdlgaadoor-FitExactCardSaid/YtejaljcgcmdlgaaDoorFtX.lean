/- The reference's fit by contract: where the best spot is. Conditions: the spots lie in memory. -/
import Derived.Test.YtejaljcgcmdlgaaDoorFtW
import Derived.Deep.CutBlock
namespace Go.Proofs.YtejaljcgcmdlgaaDoor
open Go Go.RowKit

set_option maxRecDepth 100000 in
set_option maxHeartbeats 6400000 in
/-- Does the spot fit? -/
theorem rest_r8 (u0 u2 u3 u4 u5 u6 u10 u11 u12 u13 u14 u15 u16 u17 u18 u19 u20 u21 u22 u23 u24 u25 u26 u27 u28 u29 u30 u31 u32 u33 u34 u35 u36 u37 u38 u39 u40 u41 u42 u43 u44 u45 u46 u47 u48 u49 u50 u51 u52 u53 u54 u55 u56 u57 u58 u59 u60 u61 u62 u63 : Value) (ad ad2 p : Addr) (n cap n2 cap2 ga i j : Nat) (s : Spt) (x : V4) (Q : Exit → Act → World → Prop) (w : World) (hadd : ad.add (i * 5) = ⟨ga, i * 5, none⟩) (hi0 : (i : Int) < (n : Int)) (had2 : ad2.add (j * 4) = p) (hj0 : (j : Int) < (n2 : Int)) (hS : SpAt w ga (i * 5) s) (hV : ∀ r u, (encV16.enc x)[r]? = some u → w.cell? (p.add r) = some u) (hg : p.block < w.heap.size)
    (hQ : ∀ (v34 v35 v36 v37 v38 v39 v40 v41 v42 v33 v43 v44 : Value) (g7 : Nat) (w' : World), Vk w' g7 (remS s x) → w.heap.size ≤ g7 → Below w.heap.size w w' → Q .normal { tmps := #[u0, .slice (some ad2) n2 cap2, u2, u3, u4, u5, u6, .slice (some ad) n cap, .int .i64 (j : Int), .int .i64 (i : Int), .pointer (some ⟨g7, 0, none⟩), .bool (decide (fitS s x)), u12, u13, u14, u15, u16, u17, u18, u19, u20, u21, u22, u23, u24, u25, u26, u27, u28, u29, u30, u31, u32, v33, v34, v35, v36, v37, v38, v39, v40, v41, v42, v43, v44, u45, u46, u47, u48, u49, u50, u51, u52, u53, u54, u55, u56, u57, u58, u59, u60, u61, u62, u63], defers := [] } w') :
    (Code.region 8 (opsOf Tryd.f13 8).toArray true).wp Tryd.prog Q { tmps := #[u0, .slice (some ad2) n2 cap2, u2, u3, u4, u5, u6, .slice (some ad) n cap, .int .i64 (j : Int), .int .i64 (i : Int), u10, u11, u12, u13, u14, u15, u16, u17, u18, u19, u20, u21, u22, u23, u24, u25, u26, u27, u28, u29, u30, u31, u32, u33, u34, u35, u36, u37, u38, u39, u40, u41, u42, u43, u44, u45, u46, u47, u48, u49, u50, u51, u52, u53, u54, u55, u56, u57, u58, u59, u60, u61, u62, u63], defers := [] } w := by
  simp only [opsOf, Tryd.f13, regOf, Option.bind_some, Option.orElse, Option.getD_some, Nat.reduceEqDiff, if_true, if_false, reduceCtorEq]
  have HQ := Lib.hid hQ
  have HRF : Hid (∀ W, Calls Tryd.prog 18 #[.agg #[.int .i64 s.id, .int .i64 s.left.a, .int .i64 s.left.b, .int .i64 s.left.c, .int .i64 s.left.d], .agg #[.int .i64 x.a, .int .i64 x.b, .int .i64 x.c, .int .i64 x.d]] W fun e w' => e = .returned (.tuple #[.agg #[.int .i64 (remS s x).a, .int .i64 (remS s x).b, .int .i64 (remS s x).c, .int .i64 (remS s x).d], .bool (decide (fitS s x))]) ∧ Below W.heap.size W w') := Lib.hid fun W => rfits16_c s x W
  have HSS : Hid (∀ W, Below w.heap.size w W → W.cell? ⟨ga, i * 5, none⟩ = some (.int .i64 s.id) ∧ W.cell? ⟨ga, i * 5 + 1, none⟩ = some (.int .i64 s.left.a) ∧ W.cell? ⟨ga, i * 5 + 2, none⟩ = some (.int .i64 s.left.b) ∧ W.cell? ⟨ga, i * 5 + 3, none⟩ = some (.int .i64 s.left.c) ∧ W.cell? ⟨ga, i * 5 + 4, none⟩ = some (.int .i64 s.left.d) ∧ W.cell? p = some (.int .i64 x.a) ∧ W.cell? ⟨p.block, p.off + 1, none⟩ = some (.int .i64 x.b) ∧ W.cell? ⟨p.block, p.off + 2, none⟩ = some (.int .i64 x.c) ∧ W.cell? ⟨p.block, p.off + 3, none⟩ = some (.int .i64 x.d) ∧ Below w.heap.size w W) := Lib.hid fun W hb => by
    obtain ⟨c0, c1, c2, c3, c4, _, _⟩ := (hS.on hb)
    exact ⟨c0, c1, c2, c3, c4, (hb.cell (p := p) hg).trans ((congrArg w.cell? (add_zeroE p).symm).trans (hV 0 _ rfl)), (hb.cell (p := ⟨p.block, p.off + 1, none⟩) hg).trans (hV 1 _ rfl), (hb.cell (p := ⟨p.block, p.off + 2, none⟩) hg).trans (hV 2 _ rfl), (hb.cell (p := ⟨p.block, p.off + 3, none⟩) hg).trans (hV 3 _ rfl), hb⟩
  obtain ⟨c0, c1, c2, c3, c4, v0, v1, v2, v3, hb0⟩ := HSS.out w (Below.refl _ _)
  obtain ⟨y, hy⟩ : ∃ y, remS s x = y := ⟨_, rfl⟩
  obtain ⟨f, hf⟩ : ∃ f, decide (fitS s x) = f := ⟨_, rfl⟩
  rw [hy, hf] at HRF HQ
  clear hQ hS hV hg hy hf hb0
  go_region_held3 (fun W => W.cell? ⟨ga, i * 5, none⟩ = some (.int .i64 s.id) ∧ W.cell? ⟨ga, i * 5 + 1, none⟩ = some (.int .i64 s.left.a) ∧ W.cell? ⟨ga, i * 5 + 2, none⟩ = some (.int .i64 s.left.b) ∧ W.cell? ⟨ga, i * 5 + 3, none⟩ = some (.int .i64 s.left.c) ∧ W.cell? ⟨ga, i * 5 + 4, none⟩ = some (.int .i64 s.left.d) ∧ W.cell? p = some (.int .i64 x.a) ∧ W.cell? ⟨p.block, p.off + 1, none⟩ = some (.int .i64 x.b) ∧ W.cell? ⟨p.block, p.off + 2, none⟩ = some (.int .i64 x.c) ∧ W.cell? ⟨p.block, p.off + 3, none⟩ = some (.int .i64 x.d) ∧ Below w.heap.size w W)
    (exact HSS.out _ (by (repeat' (first | (with_reducible exact Below.refl _ _) | (with_reducible refine below_drewN ?_ _) | (with_reducible refine Below.drew ?_) | (with_reducible refine Below.alloc ?_ ?_ _) | (with_reducible refine Below.setCell ?_ ?_ _) | (with_reducible refine Below.trans ?_ (Below.mono (by with_reducible assumption) ?_)) | omega | (simp only [World.size_alloc, World.size_drew] at *; omega) | (with_reducible refine Below.size (B := 0) ?_)))))
    (first
      | (go_at_call 18; refine (HRF.out _).mono ?_; rintro e w5 ⟨rfl, b5⟩; (first | (have hz : Vk w5 w.heap.size ⟨0, 0, 0, 0⟩ := (b5.block _ (by simp)).trans (heap_alloc_new w _); obtain ⟨z0, z1, z2, z3, zl, zf⟩ := hz.cells; have HZ := Lib.hid hz; clear hz) | skip))
      | fail)
  all_goals go_wp2_with fail
  · exact HQ.out _ _ _ _ _ _ _ _ _ _ _ _ _ _ (Vk.new_at rfl y) (by have := b5.size; simp at this; omega) (by (repeat' (first | (with_reducible exact Below.refl _ _) | (with_reducible refine below_drewN ?_ _) | (with_reducible refine Below.drew ?_) | (with_reducible refine Below.alloc ?_ ?_ _) | (with_reducible refine Below.setCell ?_ ?_ _) | (with_reducible refine Below.trans ?_ (Below.mono (by with_reducible assumption) ?_)) | omega | (simp only [World.size_drew] at *; omega) | (with_reducible refine Below.size (B := 0) ?_))))
  · exact HQ.out _ _ _ _ _ _ _ _ _ _ _ _ _ _ (HZ.out.set4 y) (Nat.le_refl _) (by (repeat' (first | (with_reducible exact Below.refl _ _) | (with_reducible refine below_drewN ?_ _) | (with_reducible refine Below.drew ?_) | (with_reducible refine Below.alloc ?_ ?_ _) | (with_reducible refine Below.setCell ?_ ?_ _) | (with_reducible refine Below.trans ?_ (Below.mono (by with_reducible assumption) ?_)) | omega | (simp only [World.size_alloc, World.size_drew] at *; omega) | (with_reducible refine Below.size (B := 0) ?_))))

end Go.Proofs.YtejaljcgcmdlgaaDoor
