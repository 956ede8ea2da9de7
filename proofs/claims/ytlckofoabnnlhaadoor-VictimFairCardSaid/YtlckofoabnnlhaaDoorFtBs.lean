/- The program's fit by contract: regions that store what is left. Conditions: the vectors lie in memory. -/
import Derived.Test.YtlckofoabnnlhaaDoorFtU
import Derived.Test.YtlckofoabnnlhaaDoorVecAdd
namespace Go.Proofs.YtlckofoabnnlhaaDoor
open Go Go.RowKit

theorem Vk.off {w : World} {g o gy : Nat} {v : Value} {y : V4} (h : Vk w gy y) (hne : gy ≠ g) : Vk (w.setCell ⟨g, o, none⟩ v) gy y := (heap_setCell_other w ⟨g, o, none⟩ gy v hne).trans h
set_option maxRecDepth 100000 in
set_option maxHeartbeats 6400000 in
/-- It fits. -/
theorem less_r2n (u0 u1 u2 u3 u5 u8 u9 u10 u11 u12 u13 u14 u15 u16 u17 : Value) (gy g : Nat) (y z : V4) (Q : Exit → Act → World → Prop) (w : World) (hY : Vk w gy y) (hZ : Vk w g z) (hne : gy ≠ g)
    (hQ : ∀ (v15 v16 v17 : Value), Q .normal { tmps := #[u0, u1, u2, u3, .pointer (some ⟨g, 0, none⟩), .bool true, .pointer (some ⟨gy, 0, none⟩), .nilIface, u8, u9, u10, u11, u12, u13, u14, v15, v16, v17], defers := [] } ((((w.drew.setCell ⟨g, 0, none⟩ (.int .i64 y.a)).setCell ⟨g, 1, none⟩ (.int .i64 y.b)).setCell ⟨g, 2, none⟩ (.int .i64 y.c)).setCell ⟨g, 3, none⟩ (.int .i64 y.d))) :
    (Code.region 2 (opsOf Tryd.f44 2).toArray true).wp Tryd.prog Q { tmps := #[u0, u1, u2, u3, .pointer (some ⟨g, 0, none⟩), u5, .pointer (some ⟨gy, 0, none⟩), .nilIface, u8, u9, u10, u11, u12, u13, u14, u15, u16, u17], defers := [] } w := by
  simp only [opsOf, Tryd.f44, regOf, Option.bind_some, Option.orElse, Option.getD_some, Nat.reduceEqDiff, if_true, if_false, reduceCtorEq]
  obtain ⟨N, hN⟩ : ∃ N : Act → World → Prop, N = fun a W => Q .normal a W := ⟨_, rfl⟩
  refine Code.wp_mono (Q := fun e a W => match e with | .normal => N a W | _ => False) (fun e a W h => by cases e <;> first | (rw [hN] at h; exact h) | exact h.elim) ?_
  have HQ : Hid (∀ (v15 v16 v17 : Value), N { tmps := #[u0, u1, u2, u3, .pointer (some ⟨g, 0, none⟩), .bool true, .pointer (some ⟨gy, 0, none⟩), .nilIface, u8, u9, u10, u11, u12, u13, u14, v15, v16, v17], defers := [] } ((((w.drew.setCell ⟨g, 0, none⟩ (.int .i64 y.a)).setCell ⟨g, 1, none⟩ (.int .i64 y.b)).setCell ⟨g, 2, none⟩ (.int .i64 y.c)).setCell ⟨g, 3, none⟩ (.int .i64 y.d))) := Lib.hid (by rw [hN]; exact hQ)
  clear hN
  obtain ⟨z0, z1, z2, z3, zl, zf⟩ := hZ.cells
  clear hQ hZ
  refine wp_region_held_drew (S := fun W => Vk W gy y) (by kernel_rfl) hY.drew (fun hHeld => ?_)
  refine rg_take 0 (some 15) _ (by kernel_rfl) (by kernel_rfl) (by kernel_rfl) (fun _ _ _ h => h) (by kernel_rfl) (by kernel_rfl) (by intro w' hSw op_ ho; obtain ⟨y0, y1, y2, y3, yl, yf⟩ := Vk.cells hSw; simp only [List.getElem?_toArray, List.getElem?_cons_zero, Option.some.injEq] at ho; subst ho; go_simp; with_reducible rfl) (by assumption) ?_
  try simp only [Act.put, List.setIfInBounds_toArray, List.set_cons_zero, List.set_cons_succ]
  refine rg_take 1 (some 16) _ (by kernel_rfl) (by kernel_rfl) (by kernel_rfl) (fun _ _ _ h => h) (by kernel_rfl) (by kernel_rfl) (by intro w' hSw op_ ho; obtain ⟨y0, y1, y2, y3, yl, yf⟩ := Vk.cells hSw; simp only [List.getElem?_toArray, List.getElem?_cons_succ, List.getElem?_cons_zero, Option.some.injEq] at ho; subst ho; go_simp; with_reducible rfl) (by assumption) ?_
  try simp only [Act.put, List.setIfInBounds_toArray, List.set_cons_zero, List.set_cons_succ]
  refine rg_take 2 (some 17) _ (by kernel_rfl) (by kernel_rfl) (by kernel_rfl) (fun _ _ _ h => h) (by kernel_rfl) (by kernel_rfl) (by intro w' hSw op_ ho; obtain ⟨y0, y1, y2, y3, yl, yf⟩ := Vk.cells hSw; simp only [List.getElem?_toArray, List.getElem?_cons_succ, List.getElem?_cons_zero, Option.some.injEq] at ho; subst ho; go_simp; with_reducible rfl) (by assumption) ?_
  try simp only [Act.put, List.setIfInBounds_toArray, List.set_cons_zero, List.set_cons_succ]
  refine rg_one 3 (by kernel_rfl) (by kernel_rfl) (fun op_ ho K hK => ?_)
  simp only [List.getElem?_toArray, List.getElem?_cons_succ, List.getElem?_cons_zero, Option.some.injEq] at ho
  subst ho
  go_simp
  go_wp2_with fail
  refine hK.out _ _ ((((Vk.off hHeld hne).off hne).off hne).off hne) (fun hHeld => ?_)
  clear hK
  try simp only [Act.put, List.setIfInBounds_toArray, List.set_cons_zero, List.set_cons_succ]
  refine rg_take 4 (some 5) _ (by kernel_rfl) (by kernel_rfl) (by kernel_rfl) (fun _ _ _ h => h) (by kernel_rfl) (by kernel_rfl) (by intro w' hSw op_ ho; obtain ⟨y0, y1, y2, y3, yl, yf⟩ := Vk.cells hSw; simp only [List.getElem?_toArray, List.getElem?_cons_succ, List.getElem?_cons_zero, Option.some.injEq] at ho; subst ho; go_simp; with_reducible rfl) (by assumption) ?_
  try simp only [Act.put, List.setIfInBounds_toArray, List.set_cons_zero, List.set_cons_succ]
  refine wpAnyH_done (by kernel_rfl) ?_ _
  exact HQ.out _ _ _

set_option maxRecDepth 100000 in
set_option maxHeartbeats 6400000 in
/-- It does not fit. -/
theorem less_r2e (u0 u1 u2 u3 u5 u8 u9 u10 u11 u12 u13 u14 u15 u16 u17 : Value) (gy g : Nat) (y z : V4) (e : Value) (Q : Exit → Act → World → Prop) (w : World) (hY : Vk w gy y) (hZ : Vk w g z) (hne : gy ≠ g)
    (hQ : ∀ (v15 v16 v17 : Value), Q .normal { tmps := #[u0, u1, u2, u3, .pointer (some ⟨g, 0, none⟩), .bool false, .pointer (some ⟨gy, 0, none⟩), .iface 113 e, u8, u9, u10, u11, u12, u13, u14, v15, v16, v17], defers := [] } ((((w.drew.setCell ⟨g, 0, none⟩ (.int .i64 y.a)).setCell ⟨g, 1, none⟩ (.int .i64 y.b)).setCell ⟨g, 2, none⟩ (.int .i64 y.c)).setCell ⟨g, 3, none⟩ (.int .i64 y.d))) :
    (Code.region 2 (opsOf Tryd.f44 2).toArray true).wp Tryd.prog Q { tmps := #[u0, u1, u2, u3, .pointer (some ⟨g, 0, none⟩), u5, .pointer (some ⟨gy, 0, none⟩), .iface 113 e, u8, u9, u10, u11, u12, u13, u14, u15, u16, u17], defers := [] } w := by
  simp only [opsOf, Tryd.f44, regOf, Option.bind_some, Option.orElse, Option.getD_some, Nat.reduceEqDiff, if_true, if_false, reduceCtorEq]
  obtain ⟨N, hN⟩ : ∃ N : Act → World → Prop, N = fun a W => Q .normal a W := ⟨_, rfl⟩
  refine Code.wp_mono (Q := fun e a W => match e with | .normal => N a W | _ => False) (fun e a W h => by cases e <;> first | (rw [hN] at h; exact h) | exact h.elim) ?_
  have HQ : Hid (∀ (v15 v16 v17 : Value), N { tmps := #[u0, u1, u2, u3, .pointer (some ⟨g, 0, none⟩), .bool false, .pointer (some ⟨gy, 0, none⟩), .iface 113 e, u8, u9, u10, u11, u12, u13, u14, v15, v16, v17], defers := [] } ((((w.drew.setCell ⟨g, 0, none⟩ (.int .i64 y.a)).setCell ⟨g, 1, none⟩ (.int .i64 y.b)).setCell ⟨g, 2, none⟩ (.int .i64 y.c)).setCell ⟨g, 3, none⟩ (.int .i64 y.d))) := Lib.hid (by rw [hN]; exact hQ)
  clear hN
  obtain ⟨z0, z1, z2, z3, zl, zf⟩ := hZ.cells
  clear hQ hZ
  refine wp_region_held_drew (S := fun W => Vk W gy y) (by kernel_rfl) hY.drew (fun hHeld => ?_)
  refine rg_take 0 (some 15) _ (by kernel_rfl) (by kernel_rfl) (by kernel_rfl) (fun _ _ _ h => h) (by kernel_rfl) (by kernel_rfl) (by intro w' hSw op_ ho; obtain ⟨y0, y1, y2, y3, yl, yf⟩ := Vk.cells hSw; simp only [List.getElem?_toArray, List.getElem?_cons_zero, Option.some.injEq] at ho; subst ho; go_simp; with_reducible rfl) (by assumption) ?_
  try simp only [Act.put, List.setIfInBounds_toArray, List.set_cons_zero, List.set_cons_succ]
  refine rg_take 1 (some 16) _ (by kernel_rfl) (by kernel_rfl) (by kernel_rfl) (fun _ _ _ h => h) (by kernel_rfl) (by kernel_rfl) (by intro w' hSw op_ ho; obtain ⟨y0, y1, y2, y3, yl, yf⟩ := Vk.cells hSw; simp only [List.getElem?_toArray, List.getElem?_cons_succ, List.getElem?_cons_zero, Option.some.injEq] at ho; subst ho; go_simp; with_reducible rfl) (by assumption) ?_
  try simp only [Act.put, List.setIfInBounds_toArray, List.set_cons_zero, List.set_cons_succ]
  refine rg_take 2 (some 17) _ (by kernel_rfl) (by kernel_rfl) (by kernel_rfl) (fun _ _ _ h => h) (by kernel_rfl) (by kernel_rfl) (by intro w' hSw op_ ho; obtain ⟨y0, y1, y2, y3, yl, yf⟩ := Vk.cells hSw; simp only [List.getElem?_toArray, List.getElem?_cons_succ, List.getElem?_cons_zero, Option.some.injEq] at ho; subst ho; go_simp; with_reducible rfl) (by assumption) ?_
  try simp only [Act.put, List.setIfInBounds_toArray, List.set_cons_zero, List.set_cons_succ]
  refine rg_one 3 (by kernel_rfl) (by kernel_rfl) (fun op_ ho K hK => ?_)
  simp only [List.getElem?_toArray, List.getElem?_cons_succ, List.getElem?_cons_zero, Option.some.injEq] at ho
  subst ho
  go_simp
  go_wp2_with fail
  refine hK.out _ _ ((((Vk.off hHeld hne).off hne).off hne).off hne) (fun hHeld => ?_)
  clear hK
  try simp only [Act.put, List.setIfInBounds_toArray, List.set_cons_zero, List.set_cons_succ]
  refine rg_take 4 (some 5) _ (by kernel_rfl) (by kernel_rfl) (by kernel_rfl) (fun _ _ _ h => h) (by kernel_rfl) (by kernel_rfl) (by intro w' hSw op_ ho; obtain ⟨y0, y1, y2, y3, yl, yf⟩ := Vk.cells hSw; simp only [List.getElem?_toArray, List.getElem?_cons_succ, List.getElem?_cons_zero, Option.some.injEq] at ho; subst ho; go_simp; with_reducible rfl) (by assumption) ?_
  try simp only [Act.put, List.setIfInBounds_toArray, List.set_cons_zero, List.set_cons_succ]
  refine wpAnyH_done (by kernel_rfl) ?_ _
  exact HQ.out _ _ _

set_option maxRecDepth 100000 in
set_option maxHeartbeats 6400000 in
/-- The better one is kept. -/
theorem best_r7 (u0 u1 u2 u3 u4 u5 u6 u9 u11 u12 u13 u14 u15 u16 u17 u18 u19 u20 u21 u22 u23 u24 u25 u26 u27 u28 u29 u30 u31 u32 u33 u34 u35 u36 u37 u38 u39 u40 u41 u42 u43 u44 u45 u46 u47 u48 u49 u50 u51 u52 u53 u54 u55 : Value) (gy g : Nat) (y z : V4) (k : Int) (Q : Exit → Act → World → Prop) (w : World) (hY : Vk w gy y) (hZ : Vk w g z) (hne : gy ≠ g)
    (hQ : ∀ (v51 v52 : Value), Q .normal { tmps := #[u0, u1, u2, u3, u4, u5, .int .i64 k, .pointer (some ⟨g, 0, none⟩), .int .i64 k, u9, .pointer (some ⟨gy, 0, none⟩), u11, u12, u13, u14, u15, u16, u17, u18, u19, u20, u21, u22, u23, u24, u25, u26, u27, u28, u29, u30, u31, u32, u33, u34, u35, u36, u37, u38, u39, u40, u41, u42, u43, u44, u45, u46, u47, u48, u49, u50, v51, v52, u53, u54, u55], defers := [] } ((((w.drew.setCell ⟨g, 0, none⟩ (.int .i64 y.a)).setCell ⟨g, 1, none⟩ (.int .i64 y.b)).setCell ⟨g, 2, none⟩ (.int .i64 y.c)).setCell ⟨g, 3, none⟩ (.int .i64 y.d))) :
    (Code.region 7 (opsOf Tryd.f39 7).toArray true).wp Tryd.prog Q { tmps := #[u0, u1, u2, u3, u4, u5, u6, .pointer (some ⟨g, 0, none⟩), .int .i64 k, u9, .pointer (some ⟨gy, 0, none⟩), u11, u12, u13, u14, u15, u16, u17, u18, u19, u20, u21, u22, u23, u24, u25, u26, u27, u28, u29, u30, u31, u32, u33, u34, u35, u36, u37, u38, u39, u40, u41, u42, u43, u44, u45, u46, u47, u48, u49, u50, u51, u52, u53, u54, u55], defers := [] } w := by
  simp only [opsOf, Tryd.f39, regOf, Option.bind_some, Option.orElse, Option.getD_some, Nat.reduceEqDiff, if_true, if_false, reduceCtorEq]
  obtain ⟨N, hN⟩ : ∃ N : Act → World → Prop, N = fun a W => Q .normal a W := ⟨_, rfl⟩
  refine Code.wp_mono (Q := fun e a W => match e with | .normal => N a W | _ => False) (fun e a W h => by cases e <;> first | (rw [hN] at h; exact h) | exact h.elim) ?_
  have HQ : Hid (∀ (v51 v52 : Value), N { tmps := #[u0, u1, u2, u3, u4, u5, .int .i64 k, .pointer (some ⟨g, 0, none⟩), .int .i64 k, u9, .pointer (some ⟨gy, 0, none⟩), u11, u12, u13, u14, u15, u16, u17, u18, u19, u20, u21, u22, u23, u24, u25, u26, u27, u28, u29, u30, u31, u32, u33, u34, u35, u36, u37, u38, u39, u40, u41, u42, u43, u44, u45, u46, u47, u48, u49, u50, v51, v52, u53, u54, u55], defers := [] } ((((w.drew.setCell ⟨g, 0, none⟩ (.int .i64 y.a)).setCell ⟨g, 1, none⟩ (.int .i64 y.b)).setCell ⟨g, 2, none⟩ (.int .i64 y.c)).setCell ⟨g, 3, none⟩ (.int .i64 y.d))) := Lib.hid (by rw [hN]; exact hQ)
  clear hN
  obtain ⟨z0, z1, z2, z3, zl, zf⟩ := hZ.cells
  clear hQ hZ
  refine wp_region_held_drew (S := fun W => Vk W gy y) (by kernel_rfl) hY.drew (fun hHeld => ?_)
  refine rg_take 0 (some 51) _ (by kernel_rfl) (by kernel_rfl) (by kernel_rfl) (fun _ _ _ h => h) (by kernel_rfl) (by kernel_rfl) (by intro w' hSw op_ ho; obtain ⟨y0, y1, y2, y3, yl, yf⟩ := Vk.cells hSw; simp only [List.getElem?_toArray, List.getElem?_cons_zero, Option.some.injEq] at ho; subst ho; go_simp; with_reducible rfl) (by assumption) ?_
  try simp only [Act.put, List.setIfInBounds_toArray, List.set_cons_zero, List.set_cons_succ]
  refine rg_take 1 (some 52) _ (by kernel_rfl) (by kernel_rfl) (by kernel_rfl) (fun _ _ _ h => h) (by kernel_rfl) (by kernel_rfl) (by intro w' hSw op_ ho; obtain ⟨y0, y1, y2, y3, yl, yf⟩ := Vk.cells hSw; simp only [List.getElem?_toArray, List.getElem?_cons_succ, List.getElem?_cons_zero, Option.some.injEq] at ho; subst ho; go_simp; with_reducible rfl) (by assumption) ?_
  try simp only [Act.put, List.setIfInBounds_toArray, List.set_cons_zero, List.set_cons_succ]
  refine rg_take 2 (some 6) _ (by kernel_rfl) (by kernel_rfl) (by kernel_rfl) (fun _ _ _ h => h) (by kernel_rfl) (by kernel_rfl) (by intro w' hSw op_ ho; obtain ⟨y0, y1, y2, y3, yl, yf⟩ := Vk.cells hSw; simp only [List.getElem?_toArray, List.getElem?_cons_succ, List.getElem?_cons_zero, Option.some.injEq] at ho; subst ho; go_simp; with_reducible rfl) (by assumption) ?_
  try simp only [Act.put, List.setIfInBounds_toArray, List.set_cons_zero, List.set_cons_succ]
  refine rg_one 3 (by kernel_rfl) (by kernel_rfl) (fun op_ ho K hK => ?_)
  simp only [List.getElem?_toArray, List.getElem?_cons_succ, List.getElem?_cons_zero, Option.some.injEq] at ho
  subst ho
  go_simp
  go_wp2_with fail
  refine hK.out _ _ ((((Vk.off hHeld hne).off hne).off hne).off hne) (fun hHeld => ?_)
  clear hK
  try simp only [Act.put, List.setIfInBounds_toArray, List.set_cons_zero, List.set_cons_succ]
  refine wpAnyH_done (by kernel_rfl) ?_ _
  exact HQ.out _ _

set_option maxRecDepth 100000 in
set_option maxHeartbeats 6400000 in
/-- The best one is told. -/
theorem best_r9 (u0 u1 u2 u3 u4 u8 u9 u10 u11 u12 u13 u14 u15 u16 u17 u18 u19 u20 u21 u22 u23 u24 u25 u26 u27 u28 u29 u30 u31 u32 u33 u34 u35 u36 u37 u38 u39 u40 u41 u42 u43 u44 u45 u46 u47 u48 u49 u50 u51 u52 u53 u54 u55 : Value) (gy g : Nat) (y z : V4) (k : Int) (Q : Exit → Act → World → Prop) (w : World) (hY : Vk w gy y) (hZ : Vk w g z) (hne : gy ≠ g)
    (hQ : ∀ (v54 v55 : Value), Q .normal { tmps := #[u0, u1, u2, u3, .int .i64 k, .pointer (some ⟨g, 0, none⟩), .int .i64 k, .pointer (some ⟨gy, 0, none⟩), u8, u9, u10, u11, u12, u13, u14, u15, u16, u17, u18, u19, u20, u21, u22, u23, u24, u25, u26, u27, u28, u29, u30, u31, u32, u33, u34, u35, u36, u37, u38, u39, u40, u41, u42, u43, u44, u45, u46, u47, u48, u49, u50, u51, u52, u53, v54, v55], defers := [] } ((((w.drew.setCell ⟨g, 0, none⟩ (.int .i64 y.a)).setCell ⟨g, 1, none⟩ (.int .i64 y.b)).setCell ⟨g, 2, none⟩ (.int .i64 y.c)).setCell ⟨g, 3, none⟩ (.int .i64 y.d))) :
    (Code.region 9 (opsOf Tryd.f39 9).toArray true).wp Tryd.prog Q { tmps := #[u0, u1, u2, u3, u4, .pointer (some ⟨g, 0, none⟩), .int .i64 k, .pointer (some ⟨gy, 0, none⟩), u8, u9, u10, u11, u12, u13, u14, u15, u16, u17, u18, u19, u20, u21, u22, u23, u24, u25, u26, u27, u28, u29, u30, u31, u32, u33, u34, u35, u36, u37, u38, u39, u40, u41, u42, u43, u44, u45, u46, u47, u48, u49, u50, u51, u52, u53, u54, u55], defers := [] } w := by
  simp only [opsOf, Tryd.f39, regOf, Option.bind_some, Option.orElse, Option.getD_some, Nat.reduceEqDiff, if_true, if_false, reduceCtorEq]
  obtain ⟨N, hN⟩ : ∃ N : Act → World → Prop, N = fun a W => Q .normal a W := ⟨_, rfl⟩
  refine Code.wp_mono (Q := fun e a W => match e with | .normal => N a W | _ => False) (fun e a W h => by cases e <;> first | (rw [hN] at h; exact h) | exact h.elim) ?_
  have HQ : Hid (∀ (v54 v55 : Value), N { tmps := #[u0, u1, u2, u3, .int .i64 k, .pointer (some ⟨g, 0, none⟩), .int .i64 k, .pointer (some ⟨gy, 0, none⟩), u8, u9, u10, u11, u12, u13, u14, u15, u16, u17, u18, u19, u20, u21, u22, u23, u24, u25, u26, u27, u28, u29, u30, u31, u32, u33, u34, u35, u36, u37, u38, u39, u40, u41, u42, u43, u44, u45, u46, u47, u48, u49, u50, u51, u52, u53, v54, v55], defers := [] } ((((w.drew.setCell ⟨g, 0, none⟩ (.int .i64 y.a)).setCell ⟨g, 1, none⟩ (.int .i64 y.b)).setCell ⟨g, 2, none⟩ (.int .i64 y.c)).setCell ⟨g, 3, none⟩ (.int .i64 y.d))) := Lib.hid (by rw [hN]; exact hQ)
  clear hN
  obtain ⟨z0, z1, z2, z3, zl, zf⟩ := hZ.cells
  clear hQ hZ
  refine wp_region_held_drew (S := fun W => Vk W gy y) (by kernel_rfl) hY.drew (fun hHeld => ?_)
  refine rg_take 0 (some 54) _ (by kernel_rfl) (by kernel_rfl) (by kernel_rfl) (fun _ _ _ h => h) (by kernel_rfl) (by kernel_rfl) (by intro w' hSw op_ ho; obtain ⟨y0, y1, y2, y3, yl, yf⟩ := Vk.cells hSw; simp only [List.getElem?_toArray, List.getElem?_cons_zero, Option.some.injEq] at ho; subst ho; go_simp; with_reducible rfl) (by assumption) ?_
  try simp only [Act.put, List.setIfInBounds_toArray, List.set_cons_zero, List.set_cons_succ]
  refine rg_take 1 (some 55) _ (by kernel_rfl) (by kernel_rfl) (by kernel_rfl) (fun _ _ _ h => h) (by kernel_rfl) (by kernel_rfl) (by intro w' hSw op_ ho; obtain ⟨y0, y1, y2, y3, yl, yf⟩ := Vk.cells hSw; simp only [List.getElem?_toArray, List.getElem?_cons_succ, List.getElem?_cons_zero, Option.some.injEq] at ho; subst ho; go_simp; with_reducible rfl) (by assumption) ?_
  try simp only [Act.put, List.setIfInBounds_toArray, List.set_cons_zero, List.set_cons_succ]
  refine rg_take 2 (some 4) _ (by kernel_rfl) (by kernel_rfl) (by kernel_rfl) (fun _ _ _ h => h) (by kernel_rfl) (by kernel_rfl) (by intro w' hSw op_ ho; obtain ⟨y0, y1, y2, y3, yl, yf⟩ := Vk.cells hSw; simp only [List.getElem?_toArray, List.getElem?_cons_succ, List.getElem?_cons_zero, Option.some.injEq] at ho; subst ho; go_simp; with_reducible rfl) (by assumption) ?_
  try simp only [Act.put, List.setIfInBounds_toArray, List.set_cons_zero, List.set_cons_succ]
  refine rg_one 3 (by kernel_rfl) (by kernel_rfl) (fun op_ ho K hK => ?_)
  simp only [List.getElem?_toArray, List.getElem?_cons_succ, List.getElem?_cons_zero, Option.some.injEq] at ho
  subst ho
  go_simp
  go_wp2_with fail
  refine hK.out _ _ ((((Vk.off hHeld hne).off hne).off hne).off hne) (fun hHeld => ?_)
  clear hK
  try simp only [Act.put, List.setIfInBounds_toArray, List.set_cons_zero, List.set_cons_succ]
  refine wpAnyH_done (by kernel_rfl) ?_ _
  exact HQ.out _ _

end Go.Proofs.YtlckofoabnnlhaaDoor
