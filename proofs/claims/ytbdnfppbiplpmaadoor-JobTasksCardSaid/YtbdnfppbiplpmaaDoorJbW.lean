/- The program's table of jobs by contracts: Waiting, At, Jobs. Condition: the table lies in memory as its map has it. -/
import Derived.Test.YtbdnfppbiplpmaaDoorJbT
namespace Go.Proofs.YtbdnfppbiplpmaaDoor
open Go Go.RowKit Go.Maps

section
variable {w : World} {P : Nat → Prop} {q : Nat} {L : List JE}
/-- Table.Waiting. -/
theorem JbW.waiting_c (h : JbW w P q L) :
    Calls Tryd.prog 50 #[.pointer (some ⟨q, 0, none⟩)] w fun e w' => ∃ v, e = .returned v ∧ OwnE encTk 32 w' w.heap.size v (tasksJ selW L) ∧ Below w.heap.size w w' := by
  obtain ⟨b, T, bl, h⟩ := h
  have HK := Lib.hid (jknown_c q b w h.box)
  have HT := Lib.hid (jtasks_w h)
  clear h
  go_enter Tryd.func50, Tryd.ntmps50
  go_wp2_with fail
  refine HK.out.mono ?_
  rintro e w1 ⟨rfl, rfl⟩
  go_wp2_with fail
  refine HT.out.mono ?_
  rintro e w2 ⟨v, rfl, k1, k2⟩
  have H1 := Lib.hid k1; have H2 := Lib.hid k2
  clear k1 k2
  go_wp2_with fail
  go_ret
  exact ⟨_, rfl, H1.out, H2.out⟩
/-- Table.At, at a place. -/
theorem JbW.at_c (h : JbW w P q L) {p : Int} (hp : 0 ≤ p) :
    Calls Tryd.prog 52 #[.pointer (some ⟨q, 0, none⟩), .int .i64 p] w fun e w' => ∃ v, e = .returned v ∧ OwnE encTk 32 w' w.heap.size v (tasksJ (selA p) L) ∧ Below w.heap.size w w' := by
  obtain ⟨b, T, bl, h⟩ := h
  obtain ⟨X, hX⟩ : ∃ X, w.heap.size = X := ⟨_, rfl⟩
  obtain ⟨W1, hW1⟩ : ∃ W1, w.alloc (.cells #[.int .i64 p] 3) = W1 := ⟨_, rfl⟩
  have hb1 : Below w.heap.size w W1 := by rw [← hW1]; exact (Below.refl _ _).alloc (Nat.le_refl _) _
  have hx1 : W1.heap[X]? = some (.cells #[.int .i64 p] 3 (0, 0)) := by rw [← hW1, ← hX]; exact heap_alloc_new _ _
  have hk := jknown_c q b W1 (h.on hb1).box
  have ht := jtasks_a (h.on hb1) p X hx1
  have c0 := cell_of_heap hx1 0
  simp at c0
  have HK := Lib.hid hk; have HT := Lib.hid ht; have HB := Lib.hid hb1; have HX := Lib.hid hX; have HW := Lib.hid hW1
  have dp : decide (p < 0) = false := decide_eq_false (by omega)
  clear h hk ht hb1 hx1 hX hW1
  go_enter Tryd.func52, Tryd.ntmps52
  go_upto_region 1 with fail
  rw [HW.out, HX.out]
  go_wp2_with fail
  refine HK.out.mono ?_
  rintro e w1 ⟨rfl, rfl⟩
  go_wp2_with fail
  refine HT.out.mono ?_
  rintro e w2 ⟨v, rfl, k1, k2⟩
  have H1 := Lib.hid k1; have H2 := Lib.hid k2
  clear k1 k2
  go_wp2_with fail
  go_ret
  exact ⟨_, rfl, H1.out.base HB.out.size, HB.out.trans (H2.out.mono HB.out.size)⟩
theorem Tryd.infoJR : (Tryd.prog.info? 78).map (fun i => (i.zero, i.size, i.bytes)) = some (some (.agg #[.int .i64 0, .int .i64 0, .int .i64 0, .int .i64 0, .int .i64 0, .int .i64 0, .int .i64 0, .int .i64 0, .int .i64 0, .int .i64 0, .int .i64 0, .int .i64 0, .bool false, .int .i64 0]), 14, 112) := by kernel_rfl
theorem infoJR_parts : ∃ i, Tryd.prog.info? 78 = some i ∧ i.zero = some (.agg #[.int .i64 0, .int .i64 0, .int .i64 0, .int .i64 0, .int .i64 0, .int .i64 0, .int .i64 0, .int .i64 0, .int .i64 0, .int .i64 0, .int .i64 0, .int .i64 0, .bool false, .int .i64 0]) ∧ i.size = 14 ∧ i.bytes = 112 := by
  obtain ⟨i, h1, h2⟩ := Option.map_eq_some_iff.1 Tryd.infoJR
  simp only [Prod.mk.injEq] at h2
  exact ⟨i, h1, h2.1, h2.2.1, h2.2.2⟩
set_option maxRecDepth 100000 in
set_option maxHeartbeats 6400000 in
/-- Table.Jobs. -/
theorem JbW.jobs_c (h : JbW w P q L) :
    Calls Tryd.prog 53 #[.pointer (some ⟨q, 0, none⟩)] w fun e w' => ∃ v, e = .returned v ∧ OwnE encJR 78 w' w.heap.size v (L.map (·.job)) ∧ Below w.heap.size w w' := by
  obtain ⟨b, T, bl, h⟩ := h
  have HK := Lib.hid (jknown_c q b w h.box)
  have HS := Lib.hid h.sorted_c
  obtain ⟨N, hN⟩ : ∃ N, L.length = N := ⟨_, rfl⟩
  have hN32 : N ≤ 32 := by rw [← hN]; exact h.good.few
  have HNN := Lib.hid hN
  obtain ⟨i0, hi0, hz0, hz1, hz2⟩ := infoJR_parts
  have HI0 := Lib.hid hi0; have HZ0 := Lib.hid hz0; have HZ1 := Lib.hid hz1; have HZ2 := Lib.hid hz2
  clear h hi0 hz0 hz1 hz2
  go_enter Tryd.func53, Tryd.ntmps53
  go_wp2_with fail
  refine HK.out.mono ?_
  rintro e w1 ⟨rfl, rfl⟩
  go_wp2_with fail
  refine HS.out.mono ?_
  rintro e w2 ⟨v, rfl, hv, hb2⟩
  obtain ⟨A, c, rfl⟩ := hv.form
  have HR : Hid (∀ W, Below w2.heap.size w2 W → ReadsE encEn W A (L.map (enOf bl))) := Lib.hid fun W hb => (own_reads hv).on hb
  have HB2 := Lib.hid hb2
  rw [List.length_map, hN]
  clear hv hb2 HS HK hN
  go_wp2_with fail
  go_loopw [3, 10] (fun V I wr => ∃ i : Nat, i ≤ N ∧ I = .int .i64 (i : Int) ∧ OwnE encJR 78 wr w2.heap.size V ((L.take i).map (·.job)) ∧ Below w2.heap.size w2 wr) (fun _ I _ => N - natJ I)
  case atStart => exact ⟨0, Nat.zero_le _, rfl, OwnE.nil _ _ _, Below.refl _ _⟩
  case round =>
    obtain ⟨i, hi, rfl, ho, hb⟩ := hrel
    obtain ⟨VA, vc, hV⟩ := ho.form
    subst hV
    have hvl : ((L.take i).map (·.job)).length = i := by rw [List.length_map, List.length_take, HNN.out]; omega
    rw [hvl] at ho ⊢
    have HVL := Lib.hid hvl
    have HO := Lib.hid ho; have HB := Lib.hid hb
    clear ho hb hvl
    have i0' : (0 : Int) ≤ (i : Int) := by omega
    by_cases hiN : i < N
    · have i1' : (i : Int) < (N : Int) := by omega
      have hw1 : wrap64 ((i : Int) + 1) = ((i + 1 : Nat) : Int) := by unfold wrap64; omega
      obtain ⟨e, he⟩ : ∃ e, L[i]? = some e := ⟨_, List.getElem?_eq_getElem (by have := HNN.out; omega)⟩
      obtain ⟨y, hy⟩ : ∃ y, enOf bl e = y := ⟨_, rfl⟩
      have hyi : (L.map (enOf bl))[i]? = some y := by rw [List.getElem?_map, he, Option.map_some, hy]
      obtain ⟨ad, pa, hA, hadd, -, hcc⟩ := HR.out wr HB.out i y hyi
      subst hA
      have HTS : Hid ((L.take (i + 1)).map (·.job) = (L.take i).map (·.job) ++ [y.job]) := Lib.hid (by rw [List.take_add_one, he, List.map_append, ← hy]; rfl)
      have d0 := hcc 0 _ rfl
      have d1 := hcc 1 _ rfl
      have d2 := hcc 2 _ rfl
      have d3 := hcc 3 _ rfl
      have d4 := hcc 4 _ rfl
      have d5 := hcc 5 _ rfl
      have d6 := hcc 6 _ rfl
      have d7 := hcc 7 _ rfl
      have d8 := hcc 8 _ rfl
      have d9 := hcc 9 _ rfl
      have d10 := hcc 10 _ rfl
      have d11 := hcc 11 _ rfl
      have d12 := hcc 12 _ rfl
      have d13 := hcc 13 _ rfl
      have d14 := hcc 14 _ rfl
      rw [add_zeroE] at d0
      rw [add_posJ _ (by omega)] at d1 d2 d3 d4 d5 d6 d7 d8 d9 d10 d11 d12 d13 d14
      obtain ⟨gx, hgx⟩ : ∃ gx, wr.heap.size = gx := ⟨_, rfl⟩
      obtain ⟨W3, hW3⟩ : ∃ W3, wr.alloc (.cells #[.int .i64 y.job.id, .int .i64 y.job.tenant, .int .i64 y.job.cell, .int .i64 y.job.band, .int .i64 y.job.tasks, .int .i64 y.job.need.a, .int .i64 y.job.need.b, .int .i64 y.job.need.c, .int .i64 y.job.need.d, .int .i64 y.job.first, .int .i64 y.job.windows, .int .i64 y.job.budget, .bool y.job.env, .int .i64 y.job.set, .slice (some ⟨y.g, 0, none⟩) y.n y.n] 140) = W3 := ⟨_, rfl⟩
      have hb3 : Below wr.heap.size wr W3 := by rw [← hW3]; exact (Below.refl _ _).alloc (Nat.le_refl _) _
      have hx3 : W3.heap[gx]? = some (.cells #[.int .i64 y.job.id, .int .i64 y.job.tenant, .int .i64 y.job.cell, .int .i64 y.job.band, .int .i64 y.job.tasks, .int .i64 y.job.need.a, .int .i64 y.job.need.b, .int .i64 y.job.need.c, .int .i64 y.job.need.d, .int .i64 y.job.first, .int .i64 y.job.windows, .int .i64 y.job.budget, .bool y.job.env, .int .i64 y.job.set, .slice (some ⟨y.g, 0, none⟩) y.n y.n] 140 (0, 0)) := by rw [← hW3, ← hgx]; exact heap_alloc_new _ _
      obtain ⟨W4, hW4⟩ : ∃ W4, W3.alloc (.cells #[.int .i64 ((y.job)).id, .int .i64 ((y.job)).tenant, .int .i64 ((y.job)).cell, .int .i64 ((y.job)).band, .int .i64 ((y.job)).tasks, .int .i64 ((y.job)).need.a, .int .i64 ((y.job)).need.b, .int .i64 ((y.job)).need.c, .int .i64 ((y.job)).need.d, .int .i64 ((y.job)).first, .int .i64 ((y.job)).windows, .int .i64 ((y.job)).budget, .bool ((y.job)).env, .int .i64 ((y.job)).set] 78) = W4 := ⟨_, rfl⟩
      have hb4 : Below W3.heap.size W3 W4 := by rw [← hW4]; exact (Below.refl _ _).alloc (Nat.le_refl _) _
      have hb04 : Below wr.heap.size wr W4 := hb3.trans (hb4.mono hb3.size)
      have A1 : Hid (OwnE encJR 78 W4 w2.heap.size (.slice VA i vc) ((L.take i).map (·.job))) := Lib.hid (HO.out.on hb04)
      have B2 : Hid (LiesE encJR W4 (.slice (some ⟨W3.heap.size, 0, none⟩) 1 1) [y.job]) := Lib.hid (by
        have := lies_lit encJR (w := W4) (g := W3.heap.size) (t := 78) [y.job] (by rw [← hW4]; exact heap_alloc_new W3 _)
        exact this)
      have A3 : Hid (((L.take i).map (·.job)).length + [y.job].length ≤ maxLen) := Lib.hid (by rw [HVL.out]; simp only [List.length_singleton, maxLen]; omega)
      have A4 : Hid ((((L.take i).map (·.job)).length + [y.job].length) * 112 ≤ 140737488355328) := Lib.hid (by rw [HVL.out]; simp only [List.length_singleton]; omega)
      have hb24 : Below w2.heap.size w2 W4 := HB.out.trans (hb04.mono HB.out.size)
      have A5 : Hid (w2.heap.size ≤ W4.heap.size) := Lib.hid hb24.size
      have HB4 := Lib.hid hb24
      have HGX := Lib.hid hgx; have HW3 := Lib.hid hW3; have HW4 := Lib.hid hW4
      clear he hyi hcc hy hb3 hgx hW3 hb4 hb04 hb24 hW4
      have z0 := cell_of_heap hx3 0
      have z1 := cell_of_heap hx3 1
      have z2 := cell_of_heap hx3 2
      have z3 := cell_of_heap hx3 3
      have z4 := cell_of_heap hx3 4
      have z5 := cell_of_heap hx3 5
      have z6 := cell_of_heap hx3 6
      have z7 := cell_of_heap hx3 7
      have z8 := cell_of_heap hx3 8
      have z9 := cell_of_heap hx3 9
      have z10 := cell_of_heap hx3 10
      have z11 := cell_of_heap hx3 11
      have z12 := cell_of_heap hx3 12
      have z13 := cell_of_heap hx3 13
      simp at z0 z1 z2 z3 z4 z5 z6 z7 z8 z9 z10 z11 z12 z13
      clear hx3
      go_upto_region 5 with fail
      rw [HW3.out, HGX.out]
      clear hadd d0 d1 d2 d3 d4 d5 d6 d7 d8 d9 d10 d11 d12 d13 d14
      have f0 := HI0.out; have f1 := HZ0.out; have f2 := HZ1.out; have f3 := HZ2.out
      go_wp2_with (at_builtin; rw [HW4.out]; refine wpList_append_E (E := encJR) rfl _ _ 100 rfl i0 _ 112 Tryd.underlying100 f0 f1 f2 f3 rfl (by decide) rfl A1.out rfl B2.out A3.out A4.out A5.out ?_; intro v' w' hv hgr hown)
      have HV := Lib.hid hv
      have HB7 : Hid (Below w2.heap.size w2 w') := Lib.hid (HB4.out.grown hgr HB4.out.size (fun j hj => (A1.out.lt j hj).1))
      clear hv hgr hown f0 f1 f2 f3 z0 z1 z2 z3 z4 z5 z6 z7 z8 z9 z10 z11 z12 z13
      go_wp2_with fail
      go_roundw
      case rel => exact ⟨i + 1, by omega, by first | (rw [← hw1]; done) | (rw [← hw1]; first | rfl | (congr 1; omega)), by rw [HTS.out]; exact HV.out, HB7.out⟩
      case measure => simp [natJ]; omega
    · obtain rfl : i = N := by omega
      have hall : L.take i = L := by rw [← HNN.out]; exact List.take_length
      have HALL := Lib.hid hall
      clear hall
      go_wp2_with fail
      go_ret
      refine ⟨_, rfl, ?_, HB2.out.trans (HB.out.mono HB2.out.size)⟩
      have := HO.out
      rw [HALL.out] at this
      exact this.base HB2.out.size
end
end Go.Proofs.YtbdnfppbiplpmaaDoor
