/- No table: Add. Condition: the sentinels lie where the program's text lays them. -/
import Derived.Test.YtbfbhlpibclccaaDoorJxK
import Derived.Shelf.SlIterI.Nil
import Derived.Test.YtbfbhlpibclccaaDoorJbAc
namespace Go.Proofs.YtbfbhlpibclccaaDoor
open Go Go.RowKit Go.Maps

set_option maxRecDepth 100000 in
set_option maxHeartbeats 1600000 in
/-- Add. -/
theorem jadd_nil (s : Nat → Addr) (w : World) (hs : Sent s w) (j : JR) :
    Calls Tryd.prog 14 #[.pointer none, .agg #[.int .i64 j.id, .int .i64 j.tenant, .int .i64 j.cell, .int .i64 j.band, .int .i64 j.tasks, .int .i64 j.need.a, .int .i64 j.need.b, .int .i64 j.need.c, .int .i64 j.need.d, .int .i64 j.first, .int .i64 j.windows, .int .i64 j.budget, .bool j.env, .int .i64 j.set]] w fun r w' => r = .returned (errV s 2) ∧ Below w.heap.size w w' := by
  obtain ⟨X, hX⟩ : ∃ X, w.heap.size = X := ⟨_, rfl⟩
  obtain ⟨W1, hW1⟩ : ∃ W1, w.alloc (.cells #[.int .i64 j.id, .int .i64 j.tenant, .int .i64 j.cell, .int .i64 j.band, .int .i64 j.tasks, .int .i64 j.need.a, .int .i64 j.need.b, .int .i64 j.need.c, .int .i64 j.need.d, .int .i64 j.first, .int .i64 j.windows, .int .i64 j.budget, .bool j.env, .int .i64 j.set] 33) = W1 := ⟨_, rfl⟩
  have hb1 : Below w.heap.size w W1 := by rw [← hW1]; exact (Below.refl _ _).alloc (Nat.le_refl _) _
  obtain ⟨_, _, _, e1⟩ := errs_at s hs _ hb1
  rw [errA s 2 (by omega)]
  have HB1 := Lib.hid hb1
  have HW1 := Lib.hid hW1
  have HX := Lib.hid hX
  clear hs hb1 hW1 hX
  go_enter Tryd.func14, Tryd.ntmps14
  go_upto_block 0 with fail
  rw [HW1.out, HX.out]
  go_wp2_with fail
  go_ret
  exact ⟨rfl, HB1.out⟩
end Go.Proofs.YtbfbhlpibclccaaDoor

/- No table: the tasks that wait, those at a place, all jobs. No conditions. -/
namespace Go.Proofs.YtbfbhlpibclccaaDoor
open Go Go.RowKit Go.Maps Go.Sort

set_option maxRecDepth 100000 in
set_option maxHeartbeats 1000000 in
theorem valsN_in (n : Nat) (l Bm : Nat) (J : List EN → World → Prop) (W : World) (hJ : AbidesFrom W.heap.size J) (hm : W.cell? ⟨Bm, 0, none⟩ = some (.map none)) (h0 : J [] W) :
    CallsIn Fence.wide n Tryd.prog 80 #[.func (.yield l) #[] #[], .pointer (some ⟨Bm, 0, none⟩)] W fun e W' => (∃ v, e = .returned v) ∧ J [] W' := by
  have hro : Fence.wide.round = none := rfl
  have hrg := run_range_nilMap (P := Tryd.prog) W 96 3 107 Tryd.underlying96
  have hnx : ∀ ty, (Instr.next (.pointer (some ⟨W.heap.size, 0, none⟩)) false ty).run Tryd.prog (W.alloc (.mapIter none 0 #[] 0)) = _ := fun ty => run_next_nilMap _ ty 0 0 #[]
  refine callsIn_of_wp Tryd.func80 rfl trivial ?_ hro
  simp only [Tryd.ntmps80, List.size_toArray, List.length_cons, List.length_nil, Nat.reduceAdd, Nat.reduceSub, Array.replicate_succ, Array.replicate_zero, List.push_toArray, List.append_toArray, List.nil_append, List.cons_append]
  gi_wp2
  refine wpIn_loop_rounds 1 ?_
  rw [roundsIn_succ]
  gi_wp2
  go_end0
  exact ⟨⟨_, rfl⟩, hJ [] W _ none h0 (World.grownBy_alloc W _ none) (fun r e => by cases e)⟩
theorem valsN_stops (n : Nat) (Bm : Nat) (w : World) (hm : w.cell? ⟨Bm, 0, none⟩ = some (.map none)) :
    SeqStopsK Fence.wide n Tryd.prog 80 #[.pointer (some ⟨Bm, 0, none⟩)] (fun x => #[encEv x]) KeepsWalks (fun ss : List EN => ss = []) (fun _ => True) 0 w := fun l J _Jx W hW hJ _ _ h0 =>
  (valsN_in n l Bm J W hJ ((hW.cell (p := ⟨Bm, 0, none⟩) (lt_of_cell hm)).trans hm) h0).mono fun _ _ ⟨k1, k2⟩ => ⟨k1, .inl ⟨[], rfl, k2⟩⟩
set_option maxRecDepth 100000 in
set_option maxHeartbeats 1000000 in
theorem sortedN_c (w : World) : Calls Tryd.prog 53 #[.map none] w fun e w' => ∃ v, e = .returned v ∧ OwnE encEn 107 w' w.heap.size v [] ∧ Below w.heap.size w w' := by
  have HV := Lib.hid (fun W => mvals_c none W)
  have HS : Hid (Calls Tryd.prog 66 #[.func (.func 80) #[] #[.pointer (some ⟨w.heap.size, 0, none⟩)], .func (.func 68) #[] #[]] (w.alloc (.cells #[.map none] 96)) fun e w' =>
      ∃ v, e = .returned v ∧ OwnE encEn 107 w' w.heap.size v [] ∧ Below w.heap.size w w') := Lib.hid (by
    have eg : ∀ args w, (callFunc 80 args).run Tryd.prog w = .ok (.enter 80 args) w := enters_of Tryd.func80 (by kernel_rfl) rfl
    have hbox : (w.alloc (.cells #[.map none] 96)).cell? ⟨w.heap.size, 0, none⟩ = some (.map none) := cell_of_heap (heap_alloc_new w _) 0
    have C := callsIn_wide.1 (collect_in 5 (by omega) 80 #[.pointer (some ⟨w.heap.size, 0, none⟩)] eg _ _ 0 (by omega) _ (valsN_stops 3 w.heap.size _ hbox))
    have CC := Lib.hid C
    have hbase : Below w.heap.size w (w.alloc (.cells #[.map none] 96)) := (Below.refl _ w).alloc (Nat.le_refl _) _
    have HB := Lib.hid hbase
    have e1 : (w.alloc (.cells #[.map none] 96)).heap.size = w.heap.size + 1 := by simp
    have E1 := Lib.hid e1
    obtain ⟨W, hW⟩ : ∃ W, w.alloc (.cells #[.map none] 96) = W := ⟨_, rfl⟩
    rw [hW] at CC HB E1 ⊢
    clear C hbase e1 hW hbox eg HV
    go_enter Tryd.func66, Tryd.ntmps66
    go_wp2_with fail
    refine CC.out.mono ?_
    rintro e w1 ⟨v, ss, rfl, rfl, hrow, hb⟩
    have HR := Lib.hid hrow; have HB1 := Lib.hid hb
    obtain ⟨A, c, hv⟩ := hrow.form
    have cS := Lib.hid (sortE_own _ v [] w1 hrow (by simp))
    subst hv
    clear hrow hb
    go_wp2_with fail
    refine cS.out.mono ?_
    rintro e w2 ⟨rfl, M, hM, hU, hown, hg⟩
    obtain rfl : M = [] := hM.eq_nil
    have HW := Lib.hid hown; have HG := Lib.hid hg
    clear hM hU hown hg
    go_wp2_with fail
    go_ret
    refine ⟨_, rfl, HW.out.base (by rw [E1.out]; omega), ?_⟩
    have hb1 : Below w.heap.size w w1 := HB.out.trans (HB1.out.mono (by rw [E1.out]; omega))
    exact hb1.grown HG.out hb1.size fun k e => by have := (HR.out.lt k e).1; rw [E1.out] at this; omega)
  go_enter Tryd.func53, Tryd.ntmps53
  go_wp2_with fail
  refine (HV.out _).mono ?_
  rintro e w1 ⟨rfl, rfl⟩
  go_wp2_with fail
  refine HS.out.mono ?_
  rintro e w2 ⟨v, rfl, k4, k5⟩
  have H4 := Lib.hid k4; have H5 := Lib.hid k5
  clear k4 k5
  go_wp2_with fail
  go_ret
  exact ⟨_, rfl, H4.out, H5.out⟩
set_option maxRecDepth 100000 in
set_option maxHeartbeats 1000000 in
theorem tasksN_c (f : Value) (w : World) : Calls Tryd.prog 50 #[.map none, f] w fun e w' => e = .returned (.slice none 0 0) ∧ Below w.heap.size w w' := by
  have HS := Lib.hid (fun W => sortedN_c W)
  go_enter Tryd.func50, Tryd.ntmps50
  go_wp2_with fail
  refine (HS.out _).mono ?_
  rintro e w1 ⟨v, rfl, h4, h5⟩
  obtain ⟨A, c, rfl⟩ := h4.form
  have H5 := Lib.hid h5
  clear h4 h5
  go_wp2_with fail
  refine wp_loop_rounds 1 ?_
  rw [rounds_succ]
  go_wp2_with fail
  go_ret
  exact ⟨rfl, H5.out⟩
set_option maxRecDepth 100000 in
set_option maxHeartbeats 1000000 in
theorem jwaiting_nil (w : World) : Calls Tryd.prog 27 #[.pointer none] w fun e w' => e = .returned (.slice none 0 0) ∧ Below w.heap.size w w' := by
  have HK := Lib.hid (fun W => jknown_nil W)
  have HT := Lib.hid (fun f W => tasksN_c f W)
  go_enter Tryd.func27, Tryd.ntmps27
  go_wp2_with fail
  refine (HK.out _).mono ?_
  rintro e w1 ⟨rfl, rfl⟩
  go_wp2_with fail
  refine (HT.out _ _).mono ?_
  rintro e w2 ⟨rfl, h5⟩
  have H5 := Lib.hid h5
  clear h5
  go_wp2_with fail
  go_ret
  exact ⟨rfl, H5.out⟩
set_option maxRecDepth 100000 in
set_option maxHeartbeats 1000000 in
theorem jjobs_nil (w : World) : Calls Tryd.prog 30 #[.pointer none] w fun e w' => e = .returned (.slice none 0 0) ∧ Below w.heap.size w w' := by
  have HK := Lib.hid (fun W => jknown_nil W)
  have HS := Lib.hid (fun W => sortedN_c W)
  go_enter Tryd.func30, Tryd.ntmps30
  go_wp2_with fail
  refine (HK.out _).mono ?_
  rintro e w1 ⟨rfl, rfl⟩
  go_wp2_with fail
  refine (HS.out _).mono ?_
  rintro e w2 ⟨v, rfl, h4, h5⟩
  obtain ⟨A, c, rfl⟩ := h4.form
  have H5 := Lib.hid h5
  clear h4 h5
  go_wp2_with fail
  refine wp_loop_rounds 1 ?_
  rw [rounds_succ]
  go_wp2_with fail
  go_ret
  exact ⟨rfl, H5.out⟩
set_option maxRecDepth 100000 in
set_option maxHeartbeats 1000000 in
theorem jat_nil (p : Int) (hp : 0 ≤ p) (w : World) : Calls Tryd.prog 29 #[.pointer none, .int .i64 p] w fun e w' => e = .returned (.slice none 0 0) ∧ Below w.heap.size w w' := by
  have HK := Lib.hid (fun W => jknown_nil W)
  have HT := Lib.hid (fun f W => tasksN_c f W)
  have hb1 : Below w.heap.size w (w.alloc (.cells #[.int .i64 p] 3)) := (Below.refl _ _).alloc (Nat.le_refl _) _
  have HB1 := Lib.hid hb1
  have x0 : (w.alloc (.cells #[.int .i64 p] 3)).cell? ⟨w.heap.size, 0, none⟩ = some (.int .i64 p) := cell_of_heap (heap_alloc_new w _) 0
  have d0 : decide (p < 0) = false := decide_eq_false (by omega)
  clear hb1 hp
  go_enter Tryd.func29, Tryd.ntmps29
  go_wp2_with fail
  refine (HK.out _).mono ?_
  rintro e w1 ⟨rfl, rfl⟩
  go_wp2_with fail
  refine (HT.out _ _).mono ?_
  rintro e w2 ⟨rfl, h5⟩
  have H5 := Lib.hid (HB1.out.trans (h5.mono HB1.out.size))
  clear h5
  go_wp2_with fail
  go_ret
  exact ⟨rfl, H5.out⟩
end Go.Proofs.YtbfbhlpibclccaaDoor

/- JobExact, plain: what a deed makes of the rows; where a job stands. No conditions. -/
namespace Go.Proofs.YtbfbhlpibclccaaDoor
open Go Go.RowKit

/-- What a deed of JobExact makes of the rows. -/
def deedX (L : List JE) (x : AcJ) : List JE :=
  if x.kind = 3 then (dropJ L x.job.id).1 else if x.kind = 4 ∨ x.kind = 5 ∨ x.kind = 6 then (putJ L x.tk x.n).1 else if x.kind = 7 then (waitJ L x.tk).1 else (addJ L x.job).1
theorem GJ.deedX {L : List JE} (h : GJ L) (x : AcJ) : GJ (deedX L x) := by
  unfold Go.Proofs.YtbfbhlpibclccaaDoor.deedX
  split
  · exact h.drop _
  · split
    · exact h.put _ _
    · split
      · exact h.wait _
      · exact h.add _
theorem pos_is {L : List JE} (h : GJ L) (id : Int) : decide (0 ≤ posJ L id) = (findJ L id).isSome := by
  rcases posJ_cases h id with ⟨h1, h2⟩ | ⟨i, e, h1, _, _, h2⟩
  · rw [h1, h2]; rfl
  · rw [h1, h2]; exact decide_eq_true (by omega)
theorem pos_at {L : List JE} (h : GJ L) {id : Int} (hf : (findJ L id).isSome = true) : ∃ (i : Nat) (e : JE), posJ L id = (i : Int) ∧ L[i]? = some e ∧ ofJ L id = e.job := by
  rcases posJ_cases h id with ⟨_, h2⟩ | ⟨i, e, h1, _, h3, h2⟩
  · rw [h2] at hf; cases hf
  · exact ⟨i, e, h1, h3, by unfold ofJ; rw [h2]; rfl⟩
end Go.Proofs.YtbfbhlpibclccaaDoor
