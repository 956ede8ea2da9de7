/- The law's form of a job, and whether a job is the document's. No conditions. -/
import Derived.Test.YtbfbhlpibclccaaDoorJxF
import Derived.Test.YtbfbhlpibclccaaDoorEqV
import Derived.Laws.CopyOwn
import Derived.Laws.Rows
namespace Go.Proofs.YtbfbhlpibclccaaDoor
open Go Go.RowKit Go.Maps

def formA (j : JR) (q : Nat → Int) : Array Value := #[.int .i64 j.id, .int .i64 j.tenant, .int .i64 j.cell, .int .i64 j.band, .int .i64 j.tasks, .int .i64 j.need.a, .int .i64 j.need.b, .int .i64 j.need.c, .int .i64 j.need.d, .int .i64 j.first, .int .i64 j.windows, .int .i64 j.budget, .bool j.env, .int .i64 j.set, .int .i64 (q 0), .int .i64 (q 1), .int .i64 (q 2), .int .i64 (q 3), .int .i64 (q 4), .int .i64 (q 5), .int .i64 (q 6), .int .i64 (q 7)]
theorem formA_enc (e : JE) : (encRJ.enc e).toArray = formA e.job (plAt e) := rfl
theorem load_rows {P : Program} {w : World} {ty : TypeId} {X : Nat} (Y : Array Value) {t : TypeId} (hc : w.heap[X]? = some (.cells Y t (0, 0)))
    {d : TypeDesc} (hu : P.underlying ty = some d) (hd : d.isRow = true) (hi : (P.info? ty).map (·.size) = some Y.size) : (loadVar ty ⟨X, 0, none⟩).run P w = .ok (.agg Y) w := by
  have hl : (loadCells ⟨X, 0, none⟩ Y.size).run P w = .ok Y w := by
    have := run_loadCells_list (P := P) w ⟨X, 0, none⟩ Y.toList (fun j v hv => by rw [Addr.add_lit, Nat.zero_add, cell_of_heap hc, ← hv]; simp)
    simpa using this
  cases hq : P.info? ty with
  | none => simp [hq] at hi
  | some i =>
    have hs : i.size = Y.size := by simpa [hq] using hi
    have hagg : (isAgg ty).run P w = .ok true w := by
      unfold isAgg
      rw [Sem.run_bind, run_underlying hu w]
      cases d <;> simp_all
    simp [loadVar, Sem.run_bind, hagg, sizeOf, typeInfo, hq, hs, hl]
theorem formA_size (j : JR) (q : Nat → Int) : (formA j q).size = 22 := rfl
theorem formA_one (j : JR) (q : Nat → Int) : (formA j q).all (·.oneCell') = true := by simp [formA, Value.oneCell']
/-- Add. -/
theorem rjadd_c {w : World} {u : Nat} {v : Value} {L : List JE} (h : RjA w u v L) (j : JR) (q : Nat → Int) :
    Calls Tryd.prog 15 #[.pointer (some ⟨u, 0, none⟩), .agg (formA j q)] w fun e w' => e = .returned (.int .i64 ((addJ L j).2 : Nat)) ∧ RjThen w w' u v (addJ L j).1 := by
  unfold formA
  by_cases hc : (addJ L j).2 = 0
  · rw [hc]
    exact rjadd_ok h j q hc
  · have h1 : (addJ L j).1 = L := by
      unfold addJ at hc ⊢
      by_cases k1 : goodJ j = false
      · rw [if_pos k1]
      · rw [if_neg k1] at hc ⊢
        by_cases k2 : (findJ L j.id).isSome = true
        · rw [if_pos k2]
        · rw [if_neg k2] at hc ⊢
          by_cases k3 : 32 ≤ L.length
          · rw [if_pos k3]
          · rw [if_neg k3] at hc; simp at hc
    rw [h1]
    exact (rjadd_no h j q hc).mono fun _ _ ⟨k1, k2⟩ => ⟨k1, h.then_same k2⟩
theorem rjgood_f (j : JR) (q : Nat → Int) (w : World) : Calls Tryd.prog 22 #[.agg (formA j q)] w fun e w' => e = .returned (.bool (goodJ j)) ∧ Below w.heap.size w w' := rjgood_c j q w
theorem part0RJ (a0 a1 a2 a3 a4 a5 a6 a7 a8 a9 a10 a11 a12 a13 a14 a15 a16 a17 a18 a19 a20 a21 : Value) (W : World) : (part 3 #[a0, a1, a2, a3, a4, a5, a6, a7, a8, a9, a10, a11, a12, a13, a14, a15, a16, a17, a18, a19, a20, a21] 0).run Tryd.prog W = .ok a0 W := by kernel_rfl
theorem part1RJ (a0 a1 a2 a3 a4 a5 a6 a7 a8 a9 a10 a11 a12 a13 a14 a15 a16 a17 a18 a19 a20 a21 : Value) (W : World) : (part 3 #[a0, a1, a2, a3, a4, a5, a6, a7, a8, a9, a10, a11, a12, a13, a14, a15, a16, a17, a18, a19, a20, a21] 1).run Tryd.prog W = .ok a1 W := by kernel_rfl
theorem part2RJ (a0 a1 a2 a3 a4 a5 a6 a7 a8 a9 a10 a11 a12 a13 a14 a15 a16 a17 a18 a19 a20 a21 : Value) (W : World) : (part 3 #[a0, a1, a2, a3, a4, a5, a6, a7, a8, a9, a10, a11, a12, a13, a14, a15, a16, a17, a18, a19, a20, a21] 2).run Tryd.prog W = .ok a2 W := by kernel_rfl
theorem part3RJ (a0 a1 a2 a3 a4 a5 a6 a7 a8 a9 a10 a11 a12 a13 a14 a15 a16 a17 a18 a19 a20 a21 : Value) (W : World) : (part 3 #[a0, a1, a2, a3, a4, a5, a6, a7, a8, a9, a10, a11, a12, a13, a14, a15, a16, a17, a18, a19, a20, a21] 3).run Tryd.prog W = .ok a3 W := by kernel_rfl
theorem part4RJ (a0 a1 a2 a3 a4 a5 a6 a7 a8 a9 a10 a11 a12 a13 a14 a15 a16 a17 a18 a19 a20 a21 : Value) (W : World) : (part 3 #[a0, a1, a2, a3, a4, a5, a6, a7, a8, a9, a10, a11, a12, a13, a14, a15, a16, a17, a18, a19, a20, a21] 4).run Tryd.prog W = .ok a4 W := by kernel_rfl
theorem part9RJ (a0 a1 a2 a3 a4 a5 a6 a7 a8 a9 a10 a11 a12 a13 a14 a15 a16 a17 a18 a19 a20 a21 : Value) (W : World) : (part 3 #[a0, a1, a2, a3, a4, a5, a6, a7, a8, a9, a10, a11, a12, a13, a14, a15, a16, a17, a18, a19, a20, a21] 9).run Tryd.prog W = .ok a9 W := by kernel_rfl
theorem part10RJ (a0 a1 a2 a3 a4 a5 a6 a7 a8 a9 a10 a11 a12 a13 a14 a15 a16 a17 a18 a19 a20 a21 : Value) (W : World) : (part 3 #[a0, a1, a2, a3, a4, a5, a6, a7, a8, a9, a10, a11, a12, a13, a14, a15, a16, a17, a18, a19, a20, a21] 10).run Tryd.prog W = .ok a10 W := by kernel_rfl
theorem part11RJ (a0 a1 a2 a3 a4 a5 a6 a7 a8 a9 a10 a11 a12 a13 a14 a15 a16 a17 a18 a19 a20 a21 : Value) (W : World) : (part 3 #[a0, a1, a2, a3, a4, a5, a6, a7, a8, a9, a10, a11, a12, a13, a14, a15, a16, a17, a18, a19, a20, a21] 11).run Tryd.prog W = .ok a11 W := by kernel_rfl
theorem part13RJ (a0 a1 a2 a3 a4 a5 a6 a7 a8 a9 a10 a11 a12 a13 a14 a15 a16 a17 a18 a19 a20 a21 : Value) (W : World) : (part 3 #[a0, a1, a2, a3, a4, a5, a6, a7, a8, a9, a10, a11, a12, a13, a14, a15, a16, a17, a18, a19, a20, a21] 13).run Tryd.prog W = .ok a13 W := by kernel_rfl
theorem part12RJ (a0 a1 a2 a3 a4 a5 a6 a7 a8 a9 a10 a11 a12 a13 a14 a15 a16 a17 a18 a19 a20 a21 : Value) (W : World) : (part 4 #[a0, a1, a2, a3, a4, a5, a6, a7, a8, a9, a10, a11, a12, a13, a14, a15, a16, a17, a18, a19, a20, a21] 12).run Tryd.prog W = .ok a12 W := by kernel_rfl
theorem part5RJ (a0 a1 a2 a3 a4 a5 a6 a7 a8 a9 a10 a11 a12 a13 a14 a15 a16 a17 a18 a19 a20 a21 : Value) (W : World) : (part 31 #[a0, a1, a2, a3, a4, a5, a6, a7, a8, a9, a10, a11, a12, a13, a14, a15, a16, a17, a18, a19, a20, a21] 5).run Tryd.prog W = .ok (.agg #[a5, a6, a7, a8]) W := by kernel_rfl
theorem part14RJ (a0 a1 a2 a3 a4 a5 a6 a7 a8 a9 a10 a11 a12 a13 a14 a15 a16 a17 a18 a19 a20 a21 : Value) (W : World) : (part 48 #[a0, a1, a2, a3, a4, a5, a6, a7, a8, a9, a10, a11, a12, a13, a14, a15, a16, a17, a18, a19, a20, a21] 14).run Tryd.prog W = .ok (.agg #[a14, a15, a16, a17, a18, a19, a20, a21]) W := by kernel_rfl
theorem eqA8 (x0 x1 x2 x3 x4 x5 x6 x7 : Int) (w : World) : (Op.equalIn 9999 48 (.agg #[.int .i64 x0, .int .i64 x1, .int .i64 x2, .int .i64 x3, .int .i64 x4, .int .i64 x5, .int .i64 x6, .int .i64 x7]) (.agg #[.int .i64 x0, .int .i64 x1, .int .i64 x2, .int .i64 x3, .int .i64 x4, .int .i64 x5, .int .i64 x6, .int .i64 x7])).run Tryd.prog w = .ok true w := by
  have hi : (Tryd.prog.info? 3).isSome = true := by kernel_rfl
  obtain ⟨i, hi⟩ := Option.isSome_iff_exists.1 hi
  have hc : Tryd.prog.cellsOf 3 = 1 := by kernel_rfl
  have hu : Tryd.prog.underlying 48 = some (.array 8 3) := by kernel_rfl
  have q0 : ∀ (W : World) (b0 b1 b2 b3 b4 b5 b6 b7 : Value), (part 3 #[b0, b1, b2, b3, b4, b5, b6, b7] 0).run Tryd.prog W = .ok b0 W := fun _ _ _ _ _ _ _ _ _ => by kernel_rfl
  have q1 : ∀ (W : World) (b0 b1 b2 b3 b4 b5 b6 b7 : Value), (part 3 #[b0, b1, b2, b3, b4, b5, b6, b7] 1).run Tryd.prog W = .ok b1 W := fun _ _ _ _ _ _ _ _ _ => by kernel_rfl
  have q2 : ∀ (W : World) (b0 b1 b2 b3 b4 b5 b6 b7 : Value), (part 3 #[b0, b1, b2, b3, b4, b5, b6, b7] 2).run Tryd.prog W = .ok b2 W := fun _ _ _ _ _ _ _ _ _ => by kernel_rfl
  have q3 : ∀ (W : World) (b0 b1 b2 b3 b4 b5 b6 b7 : Value), (part 3 #[b0, b1, b2, b3, b4, b5, b6, b7] 3).run Tryd.prog W = .ok b3 W := fun _ _ _ _ _ _ _ _ _ => by kernel_rfl
  have q4 : ∀ (W : World) (b0 b1 b2 b3 b4 b5 b6 b7 : Value), (part 3 #[b0, b1, b2, b3, b4, b5, b6, b7] 4).run Tryd.prog W = .ok b4 W := fun _ _ _ _ _ _ _ _ _ => by kernel_rfl
  have q5 : ∀ (W : World) (b0 b1 b2 b3 b4 b5 b6 b7 : Value), (part 3 #[b0, b1, b2, b3, b4, b5, b6, b7] 5).run Tryd.prog W = .ok b5 W := fun _ _ _ _ _ _ _ _ _ => by kernel_rfl
  have q6 : ∀ (W : World) (b0 b1 b2 b3 b4 b5 b6 b7 : Value), (part 3 #[b0, b1, b2, b3, b4, b5, b6, b7] 6).run Tryd.prog W = .ok b6 W := fun _ _ _ _ _ _ _ _ _ => by kernel_rfl
  have q7 : ∀ (W : World) (b0 b1 b2 b3 b4 b5 b6 b7 : Value), (part 3 #[b0, b1, b2, b3, b4, b5, b6, b7] 7).run Tryd.prog W = .ok b7 W := fun _ _ _ _ _ _ _ _ _ => by kernel_rfl
  rw [run_equalIn_array w 9998 _ _ hu hi, hc]
  simp [Op.eqItems, List.range, List.range.loop, q0, q1, q2, q3, q4, q5, q6, q7, run_equalIn_int _ _ _ _ _ _ _ Tryd.underlying3]
/-- A row of the reference is itself. -/
theorem eqRJ_self (j : JR) (q : Nat → Int) (w : World) : (Op.equalIn 10000 50 (.agg (formA j q)) (.agg (formA j q))).run Tryd.prog w = .ok true w := by
  have hs : Tryd.prog.stoodInHeld 50 = false := by kernel_rfl
  have ht : Tryd.prog.underlying 50 = some (.struct (Tryd.prog.fieldsOf 50)) := by kernel_rfl
  have hf : ∃ fs, Tryd.prog.fieldsOf 50 = fs ∧ Tryd.prog.underlying 50 = some (.struct fs) := ⟨_, rfl, ht⟩
  obtain ⟨fs, h1, h2⟩ := hf
  rw [Tryd.underlying50] at h2
  simp only [Option.some.injEq, TypeDesc.struct.injEq] at h2
  subst h2
  rw [run_equalIn_agg w 9999 50 _ _ ht hs, h1]
  unfold formA
  simp [Op.eqFields, part0RJ, part1RJ, part2RJ, part3RJ, part4RJ, part5RJ, part9RJ, part10RJ, part11RJ, part12RJ, part13RJ, part14RJ, eqV9d ⟨j.need.a, j.need.b, j.need.c, j.need.d⟩ ⟨j.need.a, j.need.b, j.need.c, j.need.d⟩, eqA8, run_equalIn_bool _ _ _ _ _ Tryd.underlying4, run_equalIn_int _ _ _ _ _ _ _ Tryd.underlying3]
theorem formA_zero (j : JR) (q : Nat → Int) : ((((((((formA j q).setIfInBounds 14 (.int .i64 0)).setIfInBounds 15 (.int .i64 0)).setIfInBounds 16 (.int .i64 0)).setIfInBounds 17 (.int .i64 0)).setIfInBounds 18 (.int .i64 0)).setIfInBounds 19 (.int .i64 0)).setIfInBounds 20 (.int .i64 0)).setIfInBounds 21 (.int .i64 0) = formA j (fun _ => 0) := by simp [formA]
/-- The two boxes of alike. -/
def HS2 (X Y : Nat) (j : JR) (W : World) : Prop := W.heap[X]? = some (.cells #[.int .i64 j.id, .int .i64 j.tenant, .int .i64 j.cell, .int .i64 j.band, .int .i64 j.tasks, .int .i64 j.need.a, .int .i64 j.need.b, .int .i64 j.need.c, .int .i64 j.need.d, .int .i64 j.first, .int .i64 j.windows, .int .i64 j.budget, .bool j.env, .int .i64 j.set] 33 (0, 0)) ∧ W.heap[Y]? = some (.cells (formA j fun _ => 0) 50 (0, 0))
theorem HS2.on {X Y : Nat} {j : JR} {W W' : World} (h : HS2 X Y j W) (hb : Below W.heap.size W W') : HS2 X Y j W' := ⟨(hb.block X (lt_of_row h.1)).trans h.1, (hb.block Y (lt_of_row h.2)).trans h.2⟩
set_option maxRecDepth 100000 in
set_option maxHeartbeats 3200000 in
/-- form. -/
theorem form_c (j : JR) (w : World) : Calls Tryd.prog 16 #[.agg #[.int .i64 j.id, .int .i64 j.tenant, .int .i64 j.cell, .int .i64 j.band, .int .i64 j.tasks, .int .i64 j.need.a, .int .i64 j.need.b, .int .i64 j.need.c, .int .i64 j.need.d, .int .i64 j.first, .int .i64 j.windows, .int .i64 j.budget, .bool j.env, .int .i64 j.set]] w fun e w' => e = .returned (.agg (formA j fun _ => 0)) ∧ Below w.heap.size w w' := by
  obtain ⟨X, hX⟩ : ∃ X, w.heap.size = X := ⟨_, rfl⟩
  obtain ⟨Z, hZ⟩ : ∃ Z : Array Value, #[.int .i64 0, .int .i64 0, .int .i64 0, .int .i64 0, .int .i64 0, .int .i64 0, .int .i64 0, .int .i64 0, .int .i64 0, .int .i64 0, .int .i64 0, .int .i64 0, .bool false, .int .i64 0, .int .i64 0, .int .i64 0, .int .i64 0, .int .i64 0, .int .i64 0, .int .i64 0, .int .i64 0, .int .i64 0] = Z := ⟨_, rfl⟩
  have hzs : Z.size = 22 := by rw [← hZ]; rfl
  obtain ⟨Wa, hWa⟩ : ∃ Wa, w.alloc (.cells #[.int .i64 j.id, .int .i64 j.tenant, .int .i64 j.cell, .int .i64 j.band, .int .i64 j.tasks, .int .i64 j.need.a, .int .i64 j.need.b, .int .i64 j.need.c, .int .i64 j.need.d, .int .i64 j.first, .int .i64 j.windows, .int .i64 j.budget, .bool j.env, .int .i64 j.set] 33) = Wa := ⟨_, rfl⟩
  obtain ⟨Y, hY⟩ : ∃ Y, Wa.heap.size = Y := ⟨_, rfl⟩
  obtain ⟨W1, hW1⟩ : ∃ W1, Wa.alloc (.cells Z 50) = W1 := ⟨_, rfl⟩
  have hba : Below w.heap.size w Wa := by rw [← hWa]; exact (Below.refl _ _).alloc (Nat.le_refl _) _
  have hxa : Wa.heap[X]? = some (.cells #[.int .i64 j.id, .int .i64 j.tenant, .int .i64 j.cell, .int .i64 j.band, .int .i64 j.tasks, .int .i64 j.need.a, .int .i64 j.need.b, .int .i64 j.need.c, .int .i64 j.need.d, .int .i64 j.first, .int .i64 j.windows, .int .i64 j.budget, .bool j.env, .int .i64 j.set] 33 (0, 0)) := by rw [← hWa, ← hX]; exact heap_alloc_new _ _
  have hb1 : Below w.heap.size w W1 := by rw [← hW1]; exact hba.alloc hba.size _
  have hx1 : W1.heap[X]? = some (.cells #[.int .i64 j.id, .int .i64 j.tenant, .int .i64 j.cell, .int .i64 j.band, .int .i64 j.tasks, .int .i64 j.need.a, .int .i64 j.need.b, .int .i64 j.need.c, .int .i64 j.need.d, .int .i64 j.first, .int .i64 j.windows, .int .i64 j.budget, .bool j.env, .int .i64 j.set] 33 (0, 0)) := by rw [← hW1]; exact (Below.heap_alloc _ _ _ (lt_of_row hxa)).trans hxa
  have hy1 : W1.heap[Y]? = some (.cells Z 50 (0, 0)) := by rw [← hW1, ← hY]; exact heap_alloc_new _ _
  have HXY : Hid (w.heap.size ≤ Y) := Lib.hid (by rw [← hY]; exact hba.size)
  have HY0 : Hid (X + 1 = Y) := Lib.hid (by rw [← hY, ← hX, ← hWa]; simp)
  have HWa := Lib.hid hWa; have HW1 := Lib.hid hW1; have HX := Lib.hid hX; have HB1 := Lib.hid hb1; have HY1 := Lib.hid hy1; have HZ := Lib.hid hZ; have HZS := Lib.hid hzs
  have x0 := cell_of_heap hx1 0
  have x1 := cell_of_heap hx1 1
  have x2 := cell_of_heap hx1 2
  have x3 := cell_of_heap hx1 3
  have x4 := cell_of_heap hx1 4
  have x5 := cell_of_heap hx1 5
  have x6 := cell_of_heap hx1 6
  have x7 := cell_of_heap hx1 7
  have x8 := cell_of_heap hx1 8
  have x9 := cell_of_heap hx1 9
  have x10 := cell_of_heap hx1 10
  have x11 := cell_of_heap hx1 11
  have x12 := cell_of_heap hx1 12
  have x13 := cell_of_heap hx1 13
  simp at x0 x1 x2 x3 x4 x5 x6 x7 x8 x9 x10 x11 x12 x13
  clear hX hWa hY hW1 hba hxa hb1 hx1 hy1 hZ hzs
  go_enter Tryd.func16, Tryd.ntmps16
  go_upto_region 1 with fail
  rw [HZ.out, HWa.out, HX.out, HW1.out, HY0.out]
  go_wp2_with (refine wpList_store_rowTo rfl 50 (.tmp 2) (.tmp 25) rfl rfl Y (formA j fun _ => 0) rfl rfl 50 Z HY1.out (by rw [formA_size]; exact Tryd.sizRJ) (by rw [formA_size]; exact HZS.out) (formA_one j _) ?_)
  have hr : (W1.setRow Y (formA j fun _ => 0)).heap[Y]? = some (.cells (formA j fun _ => 0) 50 (0, 0)) := setRow_heap W1 Y Z _ _ _ HY1.out
  have hb2 : Below w.heap.size w (W1.setRow Y (formA j fun _ => 0)) := below_setRow HB1.out HXY.out _
  clear x0 x1 x2 x3 x4 x5 x6 x7 x8 x9 x10 x11 x12 x13
  refine bodyPost_ret (v := .agg (formA j fun _ => 0)) (results_cell_row rfl _ _ Y _ _ _ _ rfl hr Tryd.underlying50 rfl (by rw [formA_size]; exact Tryd.sizRJ)) rfl ?_
  exact ⟨rfl, hb2⟩
end Go.Proofs.YtbfbhlpibclccaaDoor
