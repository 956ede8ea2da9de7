/- Equality of spots; the answers that the document fixes by number. Condition: the sentinels lie as the program's text lays them. -/
import Derived.Test.YtfikkjdkgigikaaDoorAlQ
import Derived.Test.YtfikkjdkgigikaaDoorEqV
import Derived.Deep.DeepCutAuto
import Derived.Deep.CutBlock
namespace Go.Proofs.YtfikkjdkgigikaaDoor
open Go Go.RowKit Go.Maps Go.Sort

theorem part0S (a0 a1 a2 a3 a4 : Value) (W : World) : (part 3 #[a0, a1, a2, a3, a4] 0).run Tryd.prog W = .ok a0 W := by kernel_rfl
theorem part1S (a0 a1 a2 a3 a4 : Value) (W : World) : (part 34 #[a0, a1, a2, a3, a4] 1).run Tryd.prog W = .ok (.agg #[a1, a2, a3, a4]) W := by kernel_rfl
/-- Two spots are the same if their numbers and what is left are. -/
theorem eqSp (x y : Spt) (w : World) : (Op.equalIn 10000 65 (.agg #[.int .i64 x.id, .int .i64 x.left.a, .int .i64 x.left.b, .int .i64 x.left.c, .int .i64 x.left.d]) (.agg #[.int .i64 y.id, .int .i64 y.left.a, .int .i64 y.left.b, .int .i64 y.left.c, .int .i64 y.left.d])).run Tryd.prog w = .ok (decide (x.id = y.id) && decide (x.left = y.left)) w := by
  have hs : Tryd.prog.stoodInHeld 65 = false := by kernel_rfl
  have ht : Tryd.prog.underlying 65 = some (.struct (Tryd.prog.fieldsOf 65)) := by kernel_rfl
  have hf : ∃ fs, Tryd.prog.fieldsOf 65 = fs ∧ Tryd.prog.underlying 65 = some (.struct fs) := ⟨_, rfl, ht⟩
  obtain ⟨fs, h1, h2⟩ := hf
  rw [Tryd.underlying65] at h2
  simp only [Option.some.injEq, TypeDesc.struct.injEq] at h2
  subst h2
  rw [run_equalIn_agg w 9999 65 _ _ ht hs, h1]
  have n1 : ("Id" ≠ "_") = True := by simp
  have n2 : ("Left" ≠ "_") = True := by simp
  by_cases e0 : x.id = y.id <;> cases e1 : decide (x.left = y.left) <;>
    simp [Op.eqFields, n1, n2, part0S, part1S, eqV9d, run_equalIn_int _ _ _ _ _ _ _ Tryd.underlying3, e0, e1]
theorem eqSp_self (x : Spt) (w : World) : (Op.equalIn 10000 65 (.agg #[.int .i64 x.id, .int .i64 x.left.a, .int .i64 x.left.b, .int .i64 x.left.c, .int .i64 x.left.d]) (.agg #[.int .i64 x.id, .int .i64 x.left.a, .int .i64 x.left.b, .int .i64 x.left.c, .int .i64 x.left.d])).run Tryd.prog w = .ok true w := by rw [eqSp]; simp
theorem neE (s : Nat → Addr) {d : Nat} (h : d = 0) : errV s d = .nilIface := by rw [h]; rfl
set_option maxRecDepth 100000 in
set_option maxHeartbeats 6400000 in
theorem awake17_c (s : Nat → Addr) (w : World) (hs : Sent s w) : Calls Tryd.prog 6 #[] w fun e w' => e = .returned (.bool true) ∧ Below w.heap.size w w' := by
  have HS := Lib.hid hs
  obtain ⟨t, ht⟩ : ∃ t : Tk, t = ⟨9, 1⟩ := ⟨_, rfl⟩
  have i3 : i64 3 := by unfold i64; omega
  have HT : Hid (okT t) := Lib.hid (by rw [ht]; unfold okT i64; simp only; omega)
  obtain ⟨g1, hg1⟩ : ∃ g1, g1 = (openA ⟨[], []⟩ 3 2 ⟨8, 8, 8, 8⟩).1 := ⟨_, rfl⟩
  have o1 : (openA ⟨[], []⟩ 3 2 ⟨8, 8, 8, 8⟩).2 = 0 := by kernel_rfl
  have p1 : putA g1 t 3 0 ⟨5, 0, 0, 0⟩ = (g1, 13) := by rw [hg1, ht]; rfl
  obtain ⟨g2, hg2⟩ : ∃ g2, g2 = (turnA g1 3 0 true).1 := ⟨_, rfl⟩
  have r1 : (turnA g1 3 0 true).2 = 0 := by rw [hg1]; kernel_rfl
  obtain ⟨g3, hg3⟩ : ∃ g3, g3 = (putA g2 t 3 0 ⟨5, 0, 0, 0⟩).1 := ⟨_, rfl⟩
  have p2 : (putA g2 t 3 0 ⟨5, 0, 0, 0⟩).2 = 0 := by rw [hg2, hg1, ht]; kernel_rfl
  have s1 : spotsOf g3 3 = [⟨0, ⟨3, 8, 8, 8⟩⟩] := by rw [hg3, hg2, hg1, ht]; rfl
  obtain ⟨g4, hg4⟩ : ∃ g4, g4 = (turnA g3 3 0 false).1 := ⟨_, rfl⟩
  have f1 : (turnA g3 3 0 false).2 = 0 := by rw [hg3, hg2, hg1, ht]; kernel_rfl
  have n1 : insideA g3 3 0 = [t] := by rw [hg3, hg2, hg1, ht]; rfl
  have k1 : (takeA g4 t).2 = 5 := by rw [hg4, hg3, hg2, hg1, ht]; kernel_rfl
  have l1 : g1.tasks.length = 0 := by rw [hg1]; rfl
  have l2 : g2.tasks.length = 0 := by rw [hg2, hg1]; rfl
  have l3 : g3.tasks.length = 1 := by rw [hg3, hg2, hg1, ht]; rfl
  have HG1 := Lib.hid hg1; have HG2 := Lib.hid hg2; have HG3 := Lib.hid hg3; have HG4 := Lib.hid hg4
  have O1 := Lib.hid o1; have P1 := Lib.hid p1; have R1 := Lib.hid r1; have P2 := Lib.hid p2; have S1 := Lib.hid s1; have F1 := Lib.hid f1; have N1 := Lib.hid n1; have K1 := Lib.hid k1
  have L1 := Lib.hid l1; have L2 := Lib.hid l2; have L3 := Lib.hid l3
  have HTT := Lib.hid ht
  clear hs hg1 hg2 hg3 hg4 o1 p1 r1 p2 s1 f1 n1 k1 l1 l2 l3 ht
  go_enter Tryd.func6, Tryd.ntmps6
  go_wp2_with fail
  refine (alb_new w).mono ?_
  rintro e w1 ⟨q, P, rfl, h1⟩
  go_upto_region 5 with fail
  obtain ⟨X, hX⟩ : ∃ X, w1.heap.size = X := ⟨_, rfl⟩
  obtain ⟨W2, hW2⟩ : ∃ W2, w1.alloc (.cells #[.int .i64 9, .int .i64 1] 32) = W2 := ⟨_, rfl⟩
  have h2 : AlB w W2 P q ⟨[], []⟩ (fun W => W.heap[X]? = some (.cells #[.int .i64 9, .int .i64 1] 32 (0, 0))) := by
    rw [← hW2, ← hX]
    exact (h1.new (.cells #[.int .i64 9, .int .i64 1] 32 (0, 0))).drop fun W h => h.2
  have H2 := Lib.hid h2
  rw [hW2, hX]
  clear hW2 hX h1 h2
  go_wp2_with fail
  refine (H2.out.open_c HS.out 3 2 ⟨8, 8, 8, 8⟩).mono ?_
  rintro e w3 ⟨rfl, P3, h3⟩
  rw [← HG1.out] at h3
  rw [neE s O1.out]
  have x0 := cell_of_heap h3.has 0
  have x1 := cell_of_heap h3.has 1
  have H3 := Lib.hid h3
  clear h3 H2
  go_wp2_with fail
  have c3 := H3.out.put_c HS.out HT.out i3 0 ⟨5, 0, 0, 0⟩ (by rw [L1.out]; omega)
  rw [P1.out, errA s 13 (by omega), HTT.out] at c3
  refine c3.mono ?_
  rintro e w4 ⟨rfl, h4⟩
  have H4 := Lib.hid h4
  clear c3 h4 H3 x0 x1
  go_wp2_with fail
  refine (H4.out.raise_c HS.out i3 0).mono ?_
  rintro e w5 ⟨rfl, h5⟩
  rw [← HG2.out] at h5
  rw [neE s R1.out]
  have x0 := cell_of_heap h5.has 0
  have x1 := cell_of_heap h5.has 1
  have H5 := Lib.hid h5
  clear h5 H4
  go_wp2_with fail
  have c5 := H5.out.put_c HS.out HT.out i3 0 ⟨5, 0, 0, 0⟩ (by rw [L2.out]; omega)
  rw [← HG3.out, P2.out, errA0, HTT.out] at c5
  refine c5.mono ?_
  rintro e w6 ⟨rfl, h6⟩
  have H6 := Lib.hid h6
  clear c5 h6 H5 x0 x1
  go_wp2_with fail
  have c6 := H6.out.spots_c i3
  rw [S1.out] at c6
  refine c6.mono ?_
  rintro e w7 ⟨vl, rfl, h7⟩
  have H7 := Lib.hid h7
  clear c6 h7 H6
  go_wp2_with fail
  have c7 := H7.out.fall_c HS.out i3 0 (by rw [L3.out]; omega)
  rw [← HG4.out, F1.out, N1.out, if_pos rfl, errA0] at c7
  refine c7.mono ?_
  rintro e w8 ⟨vx, rfl, h8⟩
  have H8 := Lib.hid h8
  clear c7 h8 H7
  have hhas := H8.out.has
  obtain ⟨⟨_, hl⟩, hx⟩ := hhas
  obtain ⟨gl, cl, el, _⟩ := hl.some (by simp)
  obtain ⟨gx, cx, ex, _⟩ := hx.some (by simp)
  subst el; subst ex
  clear hl hx
  go_wp2_with fail
  have ck := H8.out.kind_c HS.out (d := 13) (by omega)
  rw [errA s 13 (by omega)] at ck
  refine ck.mono ?_
  rintro e w9 ⟨rfl, h9⟩
  have H9 := Lib.hid h9
  clear ck h9 H8
  obtain ⟨⟨hX, hl⟩, hx⟩ := H9.out.has
  obtain ⟨gl', cl', el, _, _, _, hlf, hlc⟩ := hl.some (by simp)
  simp only [List.length_singleton, Value.slice.injEq, Option.some.injEq, Addr.mk.injEq, and_true] at el
  obtain ⟨rfl, _⟩ := el
  have l0 : w9.cell? ⟨gl, 0, none⟩ = some (.int .i64 0) := hlc 0 _ rfl 0 _ rfl
  have l1 : w9.cell? ⟨gl, 1, none⟩ = some (.int .i64 3) := hlc 0 _ rfl 1 _ rfl
  have l2 : w9.cell? ⟨gl, 2, none⟩ = some (.int .i64 8) := hlc 0 _ rfl 2 _ rfl
  have l3 : w9.cell? ⟨gl, 3, none⟩ = some (.int .i64 8) := hlc 0 _ rfl 3 _ rfl
  have l4 : w9.cell? ⟨gl, 4, none⟩ = some (.int .i64 8) := hlc 0 _ rfl 4 _ rfl
  have x0 := cell_of_heap hX 0
  have x1 := cell_of_heap hX 1
  have hE := eqSp_self ⟨0, ⟨3, 8, 8, 8⟩⟩
  simp only at hE
  clear hl hx hlc hlf hX
  go_wp2_with fail
  have hb9 : Below w9.heap.size w9 (w9.alloc (.cells #[.int .i64 9, .int .i64 1] 32)) := (Below.refl _ _).alloc (Nat.le_refl _) _
  have hxr := (H9.out.on hb9).has.2
  have hlit : OwnE encTk 32 (w9.alloc (.cells #[.int .i64 9, .int .i64 1] 32)) w9.heap.size (.slice (some ⟨w9.heap.size, 0, none⟩) 1 1) [t] := by
    have := own_lit encTk (w := w9.alloc (.cells #[.int .i64 9, .int .i64 1] 32)) (g := w9.heap.size) (t := 32) [t] (by rw [HTT.out]; exact heap_alloc_new w9 _) (by simp [maxLen])
    exact this
  have H10 := Lib.hid (H9.out.on hb9)
  have cs := same_c hxr hlit rfl rfl (by simp)
  rw [decide_eq_true rfl] at cs
  refine cs.mono ?_
  rintro e w10 ⟨rfl, b10⟩
  have H11 := Lib.hid (H10.out.on b10)
  obtain ⟨⟨hX, _⟩, _⟩ := H11.out.has
  clear cs hxr hlit b10 H10 hb9 l0 l1 l2 l3 l4 x0 x1 hE
  have x0 := cell_of_heap hX 0
  have x1 := cell_of_heap hX 1
  clear hX
  go_wp2_with fail
  have ct := H11.out.take_c HS.out HT.out
  rw [K1.out, errA s 5 (by omega), HTT.out] at ct
  refine ct.mono ?_
  rintro e w12 ⟨rfl, h12⟩
  have H12 := Lib.hid h12
  clear ct h12 H11 x0 x1
  go_wp2_with fail
  have ck := H12.out.kind_c HS.out (d := 5) (by omega)
  rw [errA s 5 (by omega)] at ck
  refine ck.mono ?_
  rintro e w13 ⟨rfl, h13⟩
  have HB := Lib.hid h13.below
  clear ck h13 H12
  go_wp2_with fail
  go_ret
  exact ⟨rfl, HB.out⟩
end Go.Proofs.YtfikkjdkgigikaaDoor
