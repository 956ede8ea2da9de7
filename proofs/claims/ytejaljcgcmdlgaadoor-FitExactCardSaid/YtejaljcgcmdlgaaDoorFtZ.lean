/- The reference's fit by contract: a region of All. Conditions: the spots lie in memory. -/
import Derived.Test.YtejaljcgcmdlgaaDoorFtY
import Derived.Test.YtejaljcgcmdlgaaDoorRgo
import Derived.Deep.CutBlock
namespace Go.Proofs.YtejaljcgcmdlgaaDoor
open Go Go.RowKit

set_option maxRecDepth 100000 in
set_option maxHeartbeats 6400000 in
/-- What fits is taken out. -/
theorem all_r9 (u0 u2 u3 u4 u5 u7 u10 u11 u12 u13 u14 u15 u16 u17 u18 u19 u20 u21 u22 u23 u24 u25 u26 u27 u28 u29 u30 u31 u32 u33 u34 u35 u36 u37 u38 u39 u40 u41 u42 u43 u44 u45 u46 u47 u48 u49 u50 u51 u52 u53 : Value) (B : Nat) (ad ad2 p : Addr) (n cap n2 cap2 ga i j : Nat) (s : Spt) (x : V4) (Q : Exit → Act → World → Prop) (w : World) (hadd : ad.add (i * 5) = ⟨ga, i * 5, none⟩) (hi0 : (i : Int) < (n : Int)) (had2 : ad2.add (j * 4) = p) (hj0 : (j : Int) < (n2 : Int)) (hS : SpAt w ga (i * 5) s) (hV : ∀ r u, (encV16.enc x)[r]? = some u → w.cell? (p.add r) = some u) (hg : p.block < B) (hga : B ≤ ga) (hBw : B ≤ w.heap.size)
    (hQ : ∀ (v30 v31 v32 v33 v34 v35 v36 v37 v38 v39 v40 v29 v41 v42 v43 v44 : Value) (w' : World), Below w.heap.size w w' → Q .normal { tmps := #[u0, .slice (some ad2) n2 cap2, u2, u3, u4, u5, .slice (some ad) n cap, u7, .int .i64 (j : Int), .int .i64 (i : Int), u10, u11, u12, u13, u14, u15, u16, u17, u18, u19, u20, u21, u22, u23, u24, u25, u26, u27, u28, v29, v30, v31, v32, v33, v34, v35, v36, v37, v38, v39, v40, v41, v42, v43, v44, u45, u46, u47, u48, u49, u50, u51, u52, u53], defers := [] } ((((w'.setCell ⟨ga, i * 5 + 1, none⟩ (.int .i64 (remS s x).a)).setCell ⟨ga, i * 5 + 1 + 1, none⟩ (.int .i64 (remS s x).b)).setCell ⟨ga, i * 5 + 1 + 2, none⟩ (.int .i64 (remS s x).c)).setCell ⟨ga, i * 5 + 1 + 3, none⟩ (.int .i64 (remS s x).d))) :
    (Code.region 9 (opsOf Tryd.f11 9).toArray true).wp Tryd.prog Q { tmps := #[u0, .slice (some ad2) n2 cap2, u2, u3, u4, u5, .slice (some ad) n cap, u7, .int .i64 (j : Int), .int .i64 (i : Int), u10, u11, u12, u13, u14, u15, u16, u17, u18, u19, u20, u21, u22, u23, u24, u25, u26, u27, u28, u29, u30, u31, u32, u33, u34, u35, u36, u37, u38, u39, u40, u41, u42, u43, u44, u45, u46, u47, u48, u49, u50, u51, u52, u53], defers := [] } w := by
  simp only [opsOf, Tryd.f11, regOf, Option.bind_some, Option.orElse, Option.getD_some, Nat.reduceEqDiff, if_true, if_false, reduceCtorEq]
  obtain ⟨N, hN⟩ : ∃ N : Act → World → Prop, N = fun a W => Q .normal a W := ⟨_, rfl⟩
  refine Code.wp_mono (Q := fun e a W => match e with | .normal => N a W | _ => False) (fun e a W h => by cases e <;> first | (rw [hN] at h; exact h) | exact h.elim) ?_
  have HQ : Hid (∀ (v30 v31 v32 v33 v34 v35 v36 v37 v38 v39 v40 v29 v41 v42 v43 v44 : Value) (w' : World), Below w.heap.size w w' → N { tmps := #[u0, .slice (some ad2) n2 cap2, u2, u3, u4, u5, .slice (some ad) n cap, u7, .int .i64 (j : Int), .int .i64 (i : Int), u10, u11, u12, u13, u14, u15, u16, u17, u18, u19, u20, u21, u22, u23, u24, u25, u26, u27, u28, v29, v30, v31, v32, v33, v34, v35, v36, v37, v38, v39, v40, v41, v42, v43, v44, u45, u46, u47, u48, u49, u50, u51, u52, u53], defers := [] } ((((w'.setCell ⟨ga, i * 5 + 1, none⟩ (.int .i64 (remS s x).a)).setCell ⟨ga, i * 5 + 1 + 1, none⟩ (.int .i64 (remS s x).b)).setCell ⟨ga, i * 5 + 1 + 2, none⟩ (.int .i64 (remS s x).c)).setCell ⟨ga, i * 5 + 1 + 3, none⟩ (.int .i64 (remS s x).d))) := Lib.hid (by rw [hN]; exact hQ)
  clear hN
  have HRF : Hid (∀ W, Calls Tryd.prog 18 #[.agg #[.int .i64 s.id, .int .i64 s.left.a, .int .i64 s.left.b, .int .i64 s.left.c, .int .i64 s.left.d], .agg #[.int .i64 x.a, .int .i64 x.b, .int .i64 x.c, .int .i64 x.d]] W fun e w' => e = .returned (.tuple #[.agg #[.int .i64 (remS s x).a, .int .i64 (remS s x).b, .int .i64 (remS s x).c, .int .i64 (remS s x).d], .bool (decide (fitS s x))]) ∧ Below W.heap.size W w') := Lib.hid fun W => rfits16_c s x W
  have HSS : Hid (∀ W : World, Below B w W → W.cell? p = some (.int .i64 x.a) ∧ W.cell? ⟨p.block, p.off + 1, none⟩ = some (.int .i64 x.b) ∧ W.cell? ⟨p.block, p.off + 2, none⟩ = some (.int .i64 x.c) ∧ W.cell? ⟨p.block, p.off + 3, none⟩ = some (.int .i64 x.d) ∧ Below B w W) := Lib.hid fun W hb =>
    ⟨(hb.cell (p := p) hg).trans ((congrArg w.cell? (add_zeroE p).symm).trans (hV 0 _ rfl)), (hb.cell (p := ⟨p.block, p.off + 1, none⟩) hg).trans (hV 1 _ rfl), (hb.cell (p := ⟨p.block, p.off + 2, none⟩) hg).trans (hV 2 _ rfl), (hb.cell (p := ⟨p.block, p.off + 3, none⟩) hg).trans (hV 3 _ rfl), hb⟩
  have HSP := Lib.hid hS
  have HGA := Lib.hid hga
  have HBW := Lib.hid hBw
  obtain ⟨c0, c1, c2, c3, c4, _, sf⟩ := hS
  obtain ⟨y, hy⟩ : ∃ y, remS s x = y := ⟨_, rfl⟩
  obtain ⟨f, hf⟩ : ∃ f, decide (fitS s x) = f := ⟨_, rfl⟩
  rw [hy, hf] at HRF
  rw [hy] at HQ
  clear hQ hV hg hga hBw hy hf
  refine wp_region_held_drew (S := fun W => W.cell? p = some (.int .i64 x.a) ∧ W.cell? ⟨p.block, p.off + 1, none⟩ = some (.int .i64 x.b) ∧ W.cell? ⟨p.block, p.off + 2, none⟩ = some (.int .i64 x.c) ∧ W.cell? ⟨p.block, p.off + 3, none⟩ = some (.int .i64 x.d) ∧ Below B w W) (by kernel_rfl) ?_ (fun hHeld => ?_)
  · exact HSS.out _ (by (repeat' (first | (with_reducible exact Below.refl _ _) | (with_reducible refine below_drewN ?_ _) | (with_reducible refine Below.drew ?_) | (with_reducible refine Below.alloc ?_ ?_ _) | (with_reducible refine Below.setCell ?_ ?_ _) | (with_reducible refine Below.trans ?_ (Below.mono (by with_reducible assumption) ?_)) | omega | (simp only [World.size_alloc, World.size_setCell, World.size_drew, Go.Proofs.YtejaljcgcmdlgaaDoor.World.size_drewN] at *; omega) | (with_reducible refine Below.size (B := 0) ?_))))
  refine rg_take 0 (some 30) _ (by kernel_rfl) (by kernel_rfl) (by kernel_rfl) (fun _ _ _ h => h) (by kernel_rfl) (by kernel_rfl) (by intro w' hSw op_ ho; obtain ⟨v0, v1, v2, v3, hb⟩ := hSw; simp only [List.getElem?_toArray, List.getElem?_cons_zero, Option.some.injEq] at ho; subst ho; go_simp; with_reducible rfl) (by assumption) ?_
  try simp only [Act.put, List.setIfInBounds_toArray, List.set_cons_zero, List.set_cons_succ]
  refine rg_take 1 (some 31) _ (by kernel_rfl) (by kernel_rfl) (by kernel_rfl) (fun _ _ _ h => h) (by kernel_rfl) (by kernel_rfl) (by intro w' hSw op_ ho; obtain ⟨v0, v1, v2, v3, hb⟩ := hSw; simp only [List.getElem?_toArray, List.getElem?_cons_succ, List.getElem?_cons_zero, Option.some.injEq] at ho; subst ho; go_simp; with_reducible rfl) (by assumption) ?_
  try simp only [Act.put, List.setIfInBounds_toArray, List.set_cons_zero, List.set_cons_succ]
  refine rg_take 2 (some 32) _ (by kernel_rfl) (by kernel_rfl) (by kernel_rfl) (fun _ _ _ h => h) (by kernel_rfl) (by kernel_rfl) (by intro w' hSw op_ ho; obtain ⟨v0, v1, v2, v3, hb⟩ := hSw; simp only [List.getElem?_toArray, List.getElem?_cons_succ, List.getElem?_cons_zero, Option.some.injEq] at ho; subst ho; go_simp; with_reducible rfl) (by assumption) ?_
  try simp only [Act.put, List.setIfInBounds_toArray, List.set_cons_zero, List.set_cons_succ]
  refine rg_take 3 (some 33) _ (by kernel_rfl) (by kernel_rfl) (by kernel_rfl) (fun _ _ _ h => h) (by kernel_rfl) (by kernel_rfl) (by intro w' hSw op_ ho; obtain ⟨v0, v1, v2, v3, hb⟩ := hSw; simp only [List.getElem?_toArray, List.getElem?_cons_succ, List.getElem?_cons_zero, Option.some.injEq] at ho; subst ho; go_simp; with_reducible rfl) (by assumption) ?_
  try simp only [Act.put, List.setIfInBounds_toArray, List.set_cons_zero, List.set_cons_succ]
  refine rg_take 4 (some 34) _ (by kernel_rfl) (by kernel_rfl) (by kernel_rfl) (fun _ _ _ h => h) (by kernel_rfl) (by kernel_rfl) (by intro w' hSw op_ ho; obtain ⟨v0, v1, v2, v3, hb⟩ := hSw; simp only [List.getElem?_toArray, List.getElem?_cons_succ, List.getElem?_cons_zero, Option.some.injEq] at ho; subst ho; go_simp; with_reducible rfl) (by assumption) ?_
  try simp only [Act.put, List.setIfInBounds_toArray, List.set_cons_zero, List.set_cons_succ]
  refine rg_take 6 (some 36) _ (by kernel_rfl) (by kernel_rfl) (by kernel_rfl) (fun _ _ _ h => h) (by kernel_rfl) (by kernel_rfl) (by intro w' hSw op_ ho; obtain ⟨v0, v1, v2, v3, hb⟩ := hSw; simp only [List.getElem?_toArray, List.getElem?_cons_succ, List.getElem?_cons_zero, Option.some.injEq] at ho; subst ho; go_simp; with_reducible rfl) (by assumption) ?_
  try simp only [Act.put, List.setIfInBounds_toArray, List.set_cons_zero, List.set_cons_succ]
  refine rg_take 7 (some 37) _ (by kernel_rfl) (by kernel_rfl) (by kernel_rfl) (fun _ _ _ h => h) (by kernel_rfl) (by kernel_rfl) (by intro w' hSw op_ ho; obtain ⟨v0, v1, v2, v3, hb⟩ := hSw; simp only [List.getElem?_toArray, List.getElem?_cons_succ, List.getElem?_cons_zero, Option.some.injEq] at ho; subst ho; go_simp; with_reducible rfl) (by assumption) ?_
  try simp only [Act.put, List.setIfInBounds_toArray, List.set_cons_zero, List.set_cons_succ]
  refine rg_take 8 (some 38) _ (by kernel_rfl) (by kernel_rfl) (by kernel_rfl) (fun _ _ _ h => h) (by kernel_rfl) (by kernel_rfl) (by intro w' hSw op_ ho; obtain ⟨v0, v1, v2, v3, hb⟩ := hSw; simp only [List.getElem?_toArray, List.getElem?_cons_succ, List.getElem?_cons_zero, Option.some.injEq] at ho; subst ho; go_simp; with_reducible rfl) (by assumption) ?_
  try simp only [Act.put, List.setIfInBounds_toArray, List.set_cons_zero, List.set_cons_succ]
  refine rg_take 9 (some 39) _ (by kernel_rfl) (by kernel_rfl) (by kernel_rfl) (fun _ _ _ h => h) (by kernel_rfl) (by kernel_rfl) (by intro w' hSw op_ ho; obtain ⟨v0, v1, v2, v3, hb⟩ := hSw; simp only [List.getElem?_toArray, List.getElem?_cons_succ, List.getElem?_cons_zero, Option.some.injEq] at ho; subst ho; go_simp; with_reducible rfl) (by assumption) ?_
  try simp only [Act.put, List.setIfInBounds_toArray, List.set_cons_zero, List.set_cons_succ]
  refine rg_one 5 (by kernel_rfl) (by kernel_rfl) (fun op_ ho K hK => ?_)
  simp only [List.getElem?_toArray, List.getElem?_cons_succ, List.getElem?_cons_zero, Option.some.injEq] at ho
  subst ho
  go_simp
  go_wp2_with fail
  refine hK.out _ _ (by first | assumption | exact HSS.out _ (BA.out.mono HBW.out) | exact HSS.out _ (below_set4 (BA.out.mono HBW.out) HGA.out _ _ _ _)) (fun hHeld => ?_)
  clear hK
  try simp only [Act.put, List.setIfInBounds_toArray, List.set_cons_zero, List.set_cons_succ]
  refine rg_one 10 (by kernel_rfl) (by kernel_rfl) (fun op_ ho K hK => ?_)
  simp only [List.getElem?_toArray, List.getElem?_cons_succ, List.getElem?_cons_zero, Option.some.injEq] at ho
  subst ho
  go_simp
  go_at_call 18
  refine (HRF.out _).mono ?_
  rintro e wa ⟨rfl, ba⟩
  clear c0 c1 c2 c3 c4 sf
  have BA : Hid (Below w.heap.size w wa) := Lib.hid (by (repeat' (first | (with_reducible exact Below.refl _ _) | (with_reducible refine below_drewN ?_ _) | (with_reducible refine Below.drew ?_) | (with_reducible refine Below.alloc ?_ ?_ _) | (with_reducible refine Below.setCell ?_ ?_ _) | (with_reducible refine Below.trans ?_ (Below.mono (by with_reducible assumption) ?_)) | omega | (simp only [World.size_drew] at *; omega) | (with_reducible refine Below.size (B := 0) ?_))))
  obtain ⟨c0, c1, c2, c3, c4, _, sf⟩ := HSP.out.on BA.out
  go_wp2_with fail
  refine hK.out _ _ (by first | assumption | exact HSS.out _ (BA.out.mono HBW.out) | exact HSS.out _ (below_set4 (BA.out.mono HBW.out) HGA.out _ _ _ _)) (fun hHeld => ?_)
  clear hK
  try simp only [Act.put, List.setIfInBounds_toArray, List.set_cons_zero, List.set_cons_succ]
  refine rg_take 11 (some 29) _ (by kernel_rfl) (by kernel_rfl) (by kernel_rfl) (fun _ _ _ h => h) (by kernel_rfl) (by kernel_rfl) (by intro w' hSw op_ ho; obtain ⟨v0, v1, v2, v3, hb⟩ := hSw; simp only [List.getElem?_toArray, List.getElem?_cons_succ, List.getElem?_cons_zero, Option.some.injEq] at ho; subst ho; go_simp; with_reducible rfl) (by assumption) ?_
  try simp only [Act.put, List.setIfInBounds_toArray, List.set_cons_zero, List.set_cons_succ]
  refine rg_take 12 (some 41) _ (by kernel_rfl) (by kernel_rfl) (by kernel_rfl) (fun _ _ _ h => h) (by kernel_rfl) (by kernel_rfl) (by intro w' hSw op_ ho; obtain ⟨v0, v1, v2, v3, hb⟩ := hSw; simp only [List.getElem?_toArray, List.getElem?_cons_succ, List.getElem?_cons_zero, Option.some.injEq] at ho; subst ho; go_simp; with_reducible rfl) (by assumption) ?_
  try simp only [Act.put, List.setIfInBounds_toArray, List.set_cons_zero, List.set_cons_succ]
  refine rg_take 13 (some 42) _ (by kernel_rfl) (by kernel_rfl) (by kernel_rfl) (fun _ _ _ h => h) (by kernel_rfl) (by kernel_rfl) (by intro w' hSw op_ ho; obtain ⟨v0, v1, v2, v3, hb⟩ := hSw; simp only [List.getElem?_toArray, List.getElem?_cons_succ, List.getElem?_cons_zero, Option.some.injEq] at ho; subst ho; go_simp; with_reducible rfl) (by assumption) ?_
  try simp only [Act.put, List.setIfInBounds_toArray, List.set_cons_zero, List.set_cons_succ]
  refine rg_take 14 (some 43) _ (by kernel_rfl) (by kernel_rfl) (by kernel_rfl) (fun _ _ _ h => h) (by kernel_rfl) (by kernel_rfl) (by intro w' hSw op_ ho; obtain ⟨v0, v1, v2, v3, hb⟩ := hSw; simp only [List.getElem?_toArray, List.getElem?_cons_succ, List.getElem?_cons_zero, Option.some.injEq] at ho; subst ho; go_simp; with_reducible rfl) (by assumption) ?_
  try simp only [Act.put, List.setIfInBounds_toArray, List.set_cons_zero, List.set_cons_succ]
  refine rg_take 15 (some 44) _ (by kernel_rfl) (by kernel_rfl) (by kernel_rfl) (fun _ _ _ h => h) (by kernel_rfl) (by kernel_rfl) (by intro w' hSw op_ ho; obtain ⟨v0, v1, v2, v3, hb⟩ := hSw; simp only [List.getElem?_toArray, List.getElem?_cons_succ, List.getElem?_cons_zero, Option.some.injEq] at ho; subst ho; go_simp; with_reducible rfl) (by assumption) ?_
  try simp only [Act.put, List.setIfInBounds_toArray, List.set_cons_zero, List.set_cons_succ]
  refine rg_one 16 (by kernel_rfl) (by kernel_rfl) (fun op_ ho K hK => ?_)
  simp only [List.getElem?_toArray, List.getElem?_cons_succ, List.getElem?_cons_zero, Option.some.injEq] at ho
  subst ho
  go_simp
  go_wp2_with fail
  refine hK.out _ _ (by first | assumption | exact HSS.out _ (BA.out.mono HBW.out) | exact HSS.out _ (below_set4 (BA.out.mono HBW.out) HGA.out _ _ _ _)) (fun hHeld => ?_)
  clear hK
  try simp only [Act.put, List.setIfInBounds_toArray, List.set_cons_zero, List.set_cons_succ]
  refine wpAnyH_done (by kernel_rfl) ?_ _
  exact HQ.out _ _ _ _ _ _ _ _ _ _ _ _ _ _ _ _ wa BA.out

end Go.Proofs.YtejaljcgcmdlgaaDoor
