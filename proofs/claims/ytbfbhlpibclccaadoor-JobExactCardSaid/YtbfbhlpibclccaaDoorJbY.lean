/- The answers that the document fixes by number: the law's own awake. Condition: the sentinels lie as the program's text lays them. -/
import Derived.Test.YtbfbhlpibclccaaDoorJbX
import Derived.Test.YtbfbhlpibclccaaDoorEqV
namespace Go.Proofs.YtbfbhlpibclccaaDoor
open Go Go.RowKit Go.Maps Go.Sort

def jA : JR := ⟨3, 1, 1, 0, 2, ⟨1, 0, 0, 0⟩, 0, 1, 0, false, 0⟩
def jC : Obj := .cells #[.int .i64 3, .int .i64 1, .int .i64 1, .int .i64 0, .int .i64 2, .int .i64 1, .int .i64 0, .int .i64 0, .int .i64 0, .int .i64 0, .int .i64 1, .int .i64 0, .bool false, .int .i64 0] 33 (0, 0)
set_option maxRecDepth 100000 in
set_option maxHeartbeats 6400000 in
theorem awake18_c (s : Nat → Addr) (w : World) (hs : Sent s w) : Calls Tryd.prog 6 #[] w fun e w' => e = .returned (.bool true) ∧ Below w.heap.size w w' := by
  have HS := Lib.hid hs
  have i3 : i64 3 := by unfold i64; omega
  obtain ⟨L1, hL1⟩ : ∃ L1, L1 = (addJ [] jA).1 := ⟨_, rfl⟩
  have a1 : (addJ [] jA).2 = 0 := by kernel_rfl
  obtain ⟨L2, hL2⟩ : ∃ L2, L2 = (putJ L1 ⟨3, 0⟩ 7).1 := ⟨_, rfl⟩
  have p1 : (putJ L1 ⟨3, 0⟩ 7).2 = 0 := by rw [hL1]; kernel_rfl
  have sc : scaleR jA.need jA.tasks = (⟨2, 0, 0, 0⟩, 0) := by rfl
  have t1 : tasksJ selW L2 = [⟨3, 1⟩] := by rw [hL2, hL1]; rfl
  have t2 : tasksJ (selA 7) L2 = [⟨3, 0⟩] := by rw [hL2, hL1]; rfl
  have p2 : putJ L2 ⟨3, 0⟩ 8 = (L2, 13) := by rw [hL2, hL1]; rfl
  have w2' : waitJ L2 ⟨3, 2⟩ = (L2, 1) := by rw [hL2, hL1]; rfl
  have HL1 := Lib.hid hL1; have HL2 := Lib.hid hL2; have A1 := Lib.hid a1; have P1 := Lib.hid p1; have SC := Lib.hid sc; have T1 := Lib.hid t1; have T2 := Lib.hid t2; have P2 := Lib.hid p2; have W2 := Lib.hid w2'
  clear hs hL1 hL2 a1 p1 sc t1 t2 p2 w2'
  go_enter Tryd.func6, Tryd.ntmps6
  go_wp2_with fail
  refine (jx_new (w0 := w) (Below.refl _ _)).mono ?_
  rintro e w1 ⟨q, rfl, h1⟩
  go_upto_region 5 with fail
  obtain ⟨X, hX⟩ : ∃ X, w1.heap.size = X := ⟨_, rfl⟩
  obtain ⟨V2, hV2⟩ : ∃ V2, w1.alloc (.cells #[.int .i64 3, .int .i64 1, .int .i64 1, .int .i64 0, .int .i64 2, .int .i64 1, .int .i64 0, .int .i64 0, .int .i64 0, .int .i64 0, .int .i64 1, .int .i64 0, .bool false, .int .i64 0] 33) = V2 := ⟨_, rfl⟩
  have h2 : JX w V2 q [] (fun W => W.heap[X]? = some jC) := by
    rw [← hV2, ← hX]
    exact (h1.new jC).drop fun W h => h.2
  have H2 := Lib.hid h2
  rw [hV2, hX]
  clear hV2 hX h1 h2
  have x0 := cell_of_heap (show V2.heap[X]? = some (.cells #[.int .i64 3, .int .i64 1, .int .i64 1, .int .i64 0, .int .i64 2, .int .i64 1, .int .i64 0, .int .i64 0, .int .i64 0, .int .i64 0, .int .i64 1, .int .i64 0, .bool false, .int .i64 0] 33 (0, 0)) from H2.out.has) 0
  have x1 := cell_of_heap (show V2.heap[X]? = some (.cells #[.int .i64 3, .int .i64 1, .int .i64 1, .int .i64 0, .int .i64 2, .int .i64 1, .int .i64 0, .int .i64 0, .int .i64 0, .int .i64 0, .int .i64 1, .int .i64 0, .bool false, .int .i64 0] 33 (0, 0)) from H2.out.has) 1
  have x2 := cell_of_heap (show V2.heap[X]? = some (.cells #[.int .i64 3, .int .i64 1, .int .i64 1, .int .i64 0, .int .i64 2, .int .i64 1, .int .i64 0, .int .i64 0, .int .i64 0, .int .i64 0, .int .i64 1, .int .i64 0, .bool false, .int .i64 0] 33 (0, 0)) from H2.out.has) 2
  have x3 := cell_of_heap (show V2.heap[X]? = some (.cells #[.int .i64 3, .int .i64 1, .int .i64 1, .int .i64 0, .int .i64 2, .int .i64 1, .int .i64 0, .int .i64 0, .int .i64 0, .int .i64 0, .int .i64 1, .int .i64 0, .bool false, .int .i64 0] 33 (0, 0)) from H2.out.has) 3
  have x4 := cell_of_heap (show V2.heap[X]? = some (.cells #[.int .i64 3, .int .i64 1, .int .i64 1, .int .i64 0, .int .i64 2, .int .i64 1, .int .i64 0, .int .i64 0, .int .i64 0, .int .i64 0, .int .i64 1, .int .i64 0, .bool false, .int .i64 0] 33 (0, 0)) from H2.out.has) 4
  have x5 := cell_of_heap (show V2.heap[X]? = some (.cells #[.int .i64 3, .int .i64 1, .int .i64 1, .int .i64 0, .int .i64 2, .int .i64 1, .int .i64 0, .int .i64 0, .int .i64 0, .int .i64 0, .int .i64 1, .int .i64 0, .bool false, .int .i64 0] 33 (0, 0)) from H2.out.has) 5
  have x6 := cell_of_heap (show V2.heap[X]? = some (.cells #[.int .i64 3, .int .i64 1, .int .i64 1, .int .i64 0, .int .i64 2, .int .i64 1, .int .i64 0, .int .i64 0, .int .i64 0, .int .i64 0, .int .i64 1, .int .i64 0, .bool false, .int .i64 0] 33 (0, 0)) from H2.out.has) 6
  have x7 := cell_of_heap (show V2.heap[X]? = some (.cells #[.int .i64 3, .int .i64 1, .int .i64 1, .int .i64 0, .int .i64 2, .int .i64 1, .int .i64 0, .int .i64 0, .int .i64 0, .int .i64 0, .int .i64 1, .int .i64 0, .bool false, .int .i64 0] 33 (0, 0)) from H2.out.has) 7
  have x8 := cell_of_heap (show V2.heap[X]? = some (.cells #[.int .i64 3, .int .i64 1, .int .i64 1, .int .i64 0, .int .i64 2, .int .i64 1, .int .i64 0, .int .i64 0, .int .i64 0, .int .i64 0, .int .i64 1, .int .i64 0, .bool false, .int .i64 0] 33 (0, 0)) from H2.out.has) 8
  have x9 := cell_of_heap (show V2.heap[X]? = some (.cells #[.int .i64 3, .int .i64 1, .int .i64 1, .int .i64 0, .int .i64 2, .int .i64 1, .int .i64 0, .int .i64 0, .int .i64 0, .int .i64 0, .int .i64 1, .int .i64 0, .bool false, .int .i64 0] 33 (0, 0)) from H2.out.has) 9
  have x10 := cell_of_heap (show V2.heap[X]? = some (.cells #[.int .i64 3, .int .i64 1, .int .i64 1, .int .i64 0, .int .i64 2, .int .i64 1, .int .i64 0, .int .i64 0, .int .i64 0, .int .i64 0, .int .i64 1, .int .i64 0, .bool false, .int .i64 0] 33 (0, 0)) from H2.out.has) 10
  have x11 := cell_of_heap (show V2.heap[X]? = some (.cells #[.int .i64 3, .int .i64 1, .int .i64 1, .int .i64 0, .int .i64 2, .int .i64 1, .int .i64 0, .int .i64 0, .int .i64 0, .int .i64 0, .int .i64 1, .int .i64 0, .bool false, .int .i64 0] 33 (0, 0)) from H2.out.has) 11
  have x12 := cell_of_heap (show V2.heap[X]? = some (.cells #[.int .i64 3, .int .i64 1, .int .i64 1, .int .i64 0, .int .i64 2, .int .i64 1, .int .i64 0, .int .i64 0, .int .i64 0, .int .i64 0, .int .i64 1, .int .i64 0, .bool false, .int .i64 0] 33 (0, 0)) from H2.out.has) 12
  have x13 := cell_of_heap (show V2.heap[X]? = some (.cells #[.int .i64 3, .int .i64 1, .int .i64 1, .int .i64 0, .int .i64 2, .int .i64 1, .int .i64 0, .int .i64 0, .int .i64 0, .int .i64 0, .int .i64 1, .int .i64 0, .bool false, .int .i64 0] 33 (0, 0)) from H2.out.has) 13
  simp at x0 x1 x2 x3 x4 x5 x6 x7 x8 x9 x10 x11 x12 x13
  go_wp2_with fail
  have c3 := H2.out.add_c HS.out jA
  rw [← HL1.out, A1.out, errA0] at c3
  refine c3.mono ?_
  rintro e w3 ⟨rfl, h3⟩
  have H3 := Lib.hid h3
  clear h3 c3 H2
  clear x0 x1 x2 x3 x4 x5 x6 x7 x8 x9 x10 x11 x12 x13
  go_wp2_with fail
  have c4 := H3.out.put_c HS.out (t := ⟨3, 0⟩) i3 7
  rw [← HL2.out, P1.out, errA0] at c4
  refine c4.mono ?_
  rintro e w4 ⟨rfl, h4⟩
  have H4 := Lib.hid h4
  clear h4 c4 H3
  have x0 := cell_of_heap (show w4.heap[X]? = some (.cells #[.int .i64 3, .int .i64 1, .int .i64 1, .int .i64 0, .int .i64 2, .int .i64 1, .int .i64 0, .int .i64 0, .int .i64 0, .int .i64 0, .int .i64 1, .int .i64 0, .bool false, .int .i64 0] 33 (0, 0)) from H4.out.has) 0
  have x1 := cell_of_heap (show w4.heap[X]? = some (.cells #[.int .i64 3, .int .i64 1, .int .i64 1, .int .i64 0, .int .i64 2, .int .i64 1, .int .i64 0, .int .i64 0, .int .i64 0, .int .i64 0, .int .i64 1, .int .i64 0, .bool false, .int .i64 0] 33 (0, 0)) from H4.out.has) 1
  have x2 := cell_of_heap (show w4.heap[X]? = some (.cells #[.int .i64 3, .int .i64 1, .int .i64 1, .int .i64 0, .int .i64 2, .int .i64 1, .int .i64 0, .int .i64 0, .int .i64 0, .int .i64 0, .int .i64 1, .int .i64 0, .bool false, .int .i64 0] 33 (0, 0)) from H4.out.has) 2
  have x3 := cell_of_heap (show w4.heap[X]? = some (.cells #[.int .i64 3, .int .i64 1, .int .i64 1, .int .i64 0, .int .i64 2, .int .i64 1, .int .i64 0, .int .i64 0, .int .i64 0, .int .i64 0, .int .i64 1, .int .i64 0, .bool false, .int .i64 0] 33 (0, 0)) from H4.out.has) 3
  have x4 := cell_of_heap (show w4.heap[X]? = some (.cells #[.int .i64 3, .int .i64 1, .int .i64 1, .int .i64 0, .int .i64 2, .int .i64 1, .int .i64 0, .int .i64 0, .int .i64 0, .int .i64 0, .int .i64 1, .int .i64 0, .bool false, .int .i64 0] 33 (0, 0)) from H4.out.has) 4
  have x5 := cell_of_heap (show w4.heap[X]? = some (.cells #[.int .i64 3, .int .i64 1, .int .i64 1, .int .i64 0, .int .i64 2, .int .i64 1, .int .i64 0, .int .i64 0, .int .i64 0, .int .i64 0, .int .i64 1, .int .i64 0, .bool false, .int .i64 0] 33 (0, 0)) from H4.out.has) 5
  have x6 := cell_of_heap (show w4.heap[X]? = some (.cells #[.int .i64 3, .int .i64 1, .int .i64 1, .int .i64 0, .int .i64 2, .int .i64 1, .int .i64 0, .int .i64 0, .int .i64 0, .int .i64 0, .int .i64 1, .int .i64 0, .bool false, .int .i64 0] 33 (0, 0)) from H4.out.has) 6
  have x7 := cell_of_heap (show w4.heap[X]? = some (.cells #[.int .i64 3, .int .i64 1, .int .i64 1, .int .i64 0, .int .i64 2, .int .i64 1, .int .i64 0, .int .i64 0, .int .i64 0, .int .i64 0, .int .i64 1, .int .i64 0, .bool false, .int .i64 0] 33 (0, 0)) from H4.out.has) 7
  have x8 := cell_of_heap (show w4.heap[X]? = some (.cells #[.int .i64 3, .int .i64 1, .int .i64 1, .int .i64 0, .int .i64 2, .int .i64 1, .int .i64 0, .int .i64 0, .int .i64 0, .int .i64 0, .int .i64 1, .int .i64 0, .bool false, .int .i64 0] 33 (0, 0)) from H4.out.has) 8
  have x9 := cell_of_heap (show w4.heap[X]? = some (.cells #[.int .i64 3, .int .i64 1, .int .i64 1, .int .i64 0, .int .i64 2, .int .i64 1, .int .i64 0, .int .i64 0, .int .i64 0, .int .i64 0, .int .i64 1, .int .i64 0, .bool false, .int .i64 0] 33 (0, 0)) from H4.out.has) 9
  have x10 := cell_of_heap (show w4.heap[X]? = some (.cells #[.int .i64 3, .int .i64 1, .int .i64 1, .int .i64 0, .int .i64 2, .int .i64 1, .int .i64 0, .int .i64 0, .int .i64 0, .int .i64 0, .int .i64 1, .int .i64 0, .bool false, .int .i64 0] 33 (0, 0)) from H4.out.has) 10
  have x11 := cell_of_heap (show w4.heap[X]? = some (.cells #[.int .i64 3, .int .i64 1, .int .i64 1, .int .i64 0, .int .i64 2, .int .i64 1, .int .i64 0, .int .i64 0, .int .i64 0, .int .i64 0, .int .i64 1, .int .i64 0, .bool false, .int .i64 0] 33 (0, 0)) from H4.out.has) 11
  have x12 := cell_of_heap (show w4.heap[X]? = some (.cells #[.int .i64 3, .int .i64 1, .int .i64 1, .int .i64 0, .int .i64 2, .int .i64 1, .int .i64 0, .int .i64 0, .int .i64 0, .int .i64 0, .int .i64 1, .int .i64 0, .bool false, .int .i64 0] 33 (0, 0)) from H4.out.has) 12
  have x13 := cell_of_heap (show w4.heap[X]? = some (.cells #[.int .i64 3, .int .i64 1, .int .i64 1, .int .i64 0, .int .i64 2, .int .i64 1, .int .i64 0, .int .i64 0, .int .i64 0, .int .i64 0, .int .i64 1, .int .i64 0, .bool false, .int .i64 0] 33 (0, 0)) from H4.out.has) 13
  simp at x0 x1 x2 x3 x4 x5 x6 x7 x8 x9 x10 x11 x12 x13
  go_wp2_with fail
  have c5 := jtotal_c s jA w4 (H4.out.sentw HS.out)
  rw [SC.out, errA0] at c5
  refine c5.mono ?_
  rintro e w5 ⟨rfl, b5⟩
  have h5 := (H4.out.on b5).drop (K' := fun _ => True) fun _ _ => trivial
  obtain ⟨Y, hY⟩ : ∃ Y, w5.heap.size = Y := ⟨_, rfl⟩
  obtain ⟨V6, hV6⟩ : ∃ V6, w5.alloc (.cells #[.int .i64 2, .int .i64 0, .int .i64 0, .int .i64 0] 31) = V6 := ⟨_, rfl⟩
  have h6 : JX w V6 q L2 (fun W => W.heap[Y]? = some (.cells #[.int .i64 2, .int .i64 0, .int .i64 0, .int .i64 0] 31 (0, 0))) := by
    rw [← hV6, ← hY]
    exact (h5.new _).drop fun W h => h.2
  have H6 := Lib.hid h6
  have HV6 := Lib.hid hV6; have HY := Lib.hid hY
  clear hV6 hY h5 h6 b5 c5 H4
  clear x0 x1 x2 x3 x4 x5 x6 x7 x8 x9 x10 x11 x12 x13
  go_upto_region 8 with fail
  rw [HV6.out, HY.out]
  go_wp2_with fail
  have c7 := H6.out.waiting_c
  rw [T1.out] at c7
  refine c7.mono ?_
  rintro e w7 ⟨A7, n7, rfl, h7⟩
  have H7 := Lib.hid h7
  clear h7 c7 H6
  simp only [List.length_singleton]
  go_wp2_with fail
  have hb8 : Below w7.heap.size w7 (w7.alloc (.cells #[.int .i64 3, .int .i64 1] 35)) := (Below.refl _ _).alloc (Nat.le_refl _) _
  have H8 := Lib.hid (H7.out.on hb8)
  have hlit : OwnE encTk 35 (w7.alloc (.cells #[.int .i64 3, .int .i64 1] 35)) w7.heap.size (.slice (some ⟨w7.heap.size, 0, none⟩) 1 1) [⟨3, 1⟩] := by
    have := own_lit encTk (w := w7.alloc (.cells #[.int .i64 3, .int .i64 1] 35)) (g := w7.heap.size) (t := 35) [⟨3, 1⟩] (heap_alloc_new w7 _) (by simp [maxLen])
    exact this
  have cs := same_c H8.out.has.2 hlit rfl rfl (by simp)
  rw [decide_eq_true rfl] at cs
  refine cs.mono ?_
  rintro e w9 ⟨rfl, b9⟩
  have H9 := Lib.hid ((H8.out.on b9).drop fun _ h => h.1)
  clear cs hlit b9 H8 hb8 H7
  go_wp2_with fail
  have c10 := H9.out.at_c (p := 7) (by omega)
  rw [T2.out] at c10
  refine c10.mono ?_
  rintro e w10 ⟨A10, n10, rfl, h10⟩
  have H10 := Lib.hid h10
  clear h10 c10 H9
  simp only [List.length_singleton]
  go_wp2_with fail
  have hb11 : Below w10.heap.size w10 (w10.alloc (.cells #[.int .i64 3, .int .i64 0] 35)) := (Below.refl _ _).alloc (Nat.le_refl _) _
  have H11 := Lib.hid (H10.out.on hb11)
  have hlit : OwnE encTk 35 (w10.alloc (.cells #[.int .i64 3, .int .i64 0] 35)) w10.heap.size (.slice (some ⟨w10.heap.size, 0, none⟩) 1 1) [⟨3, 0⟩] := by
    have := own_lit encTk (w := w10.alloc (.cells #[.int .i64 3, .int .i64 0] 35)) (g := w10.heap.size) (t := 35) [⟨3, 0⟩] (heap_alloc_new w10 _) (by simp [maxLen])
    exact this
  have cs := same_c H11.out.has.2 hlit rfl rfl (by simp)
  rw [decide_eq_true rfl] at cs
  refine cs.mono ?_
  rintro e w12 ⟨rfl, b12⟩
  have H12 := Lib.hid ((H11.out.on b12).drop fun _ h => h.1)
  clear cs hlit b12 H11 hb11 H10
  have y0 := cell_of_heap H12.out.has 0
  have y1 := cell_of_heap H12.out.has 1
  have y2 := cell_of_heap H12.out.has 2
  have y3 := cell_of_heap H12.out.has 3
  simp at y0 y1 y2 y3
  have hE := fun W => eqV 2 0 0 0 2 0 0 0 W
  simp at hE
  go_wp2_with fail
  have c13 := H12.out.put_c HS.out (t := ⟨3, 0⟩) i3 8
  rw [P2.out, errA s 13 (by omega)] at c13
  refine c13.mono ?_
  rintro e w13 ⟨rfl, h13⟩
  have H13 := Lib.hid h13
  clear h13 c13 H12 y0 y1 y2 y3 hE
  go_wp2_with fail
  have ck := H13.out.kind_c HS.out (d := 13) (by omega)
  rw [errA s 13 (by omega)] at ck
  refine ck.mono ?_
  rintro e w14 ⟨rfl, h14⟩
  have H14 := Lib.hid h14
  clear ck h14 H13
  go_wp2_with fail
  have c15 := H14.out.wait_c HS.out (t := ⟨3, 2⟩) i3
  rw [W2.out, errA s 1 (by omega)] at c15
  refine c15.mono ?_
  rintro e w15 ⟨rfl, h15⟩
  have H15 := Lib.hid h15
  clear h15 c15 H14
  go_wp2_with fail
  have ck := H15.out.kind_c HS.out (d := 1) (by omega)
  rw [errA s 1 (by omega)] at ck
  refine ck.mono ?_
  rintro e w16 ⟨rfl, h16⟩
  have HB := Lib.hid h16.below
  clear ck h16 H15
  go_wp2_with fail
  go_ret
  exact ⟨rfl, HB.out⟩
end Go.Proofs.YtbfbhlpibclccaaDoor
