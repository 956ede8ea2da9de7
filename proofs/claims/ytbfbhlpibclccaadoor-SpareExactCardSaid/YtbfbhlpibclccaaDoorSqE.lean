/- Expire, Drop and List of a book of counts, by contracts. Condition: the book lies in memory as its map has it. -/
import Derived.Test.YtbfbhlpibclccaaDoorSqD
import Derived.Test.YtbfbhlpibclccaaDoorSqS
namespace Go.Proofs.YtbfbhlpibclccaaDoor
open Go Go.RowKit Go.Maps Go.Sort

set_option maxRecDepth 100000 in
/-- Whether a window is below one. -/
theorem sexp1_c (k : K2) (n : Int) (g : Nat) (W : World) (hg : W.heap[g]? = some (.cells #[.int .i64 n] 3 (0, 0))) :
    Calls Tryd.prog 56 #[.agg #[.int .i64 k.job, .int .i64 k.win], .pointer (some ⟨g, 0, none⟩)] W fun e w' => e = .returned (.bool (decide (k.win < n))) ∧ Below W.heap.size W w' := by
  obtain ⟨X, hX⟩ : ∃ X, W.heap.size = X := ⟨_, rfl⟩
  obtain ⟨W1, hW1⟩ : ∃ W1, W.alloc (.cells #[.int .i64 k.job, .int .i64 k.win] 124) = W1 := ⟨_, rfl⟩
  have hb1 : Below W.heap.size W W1 := by rw [← hW1]; exact (Below.refl _ _).alloc (Nat.le_refl _) _
  have hx1 : W1.heap[X]? = some (.cells #[.int .i64 k.job, .int .i64 k.win] 124 (0, 0)) := by rw [← hW1, ← hX]; exact heap_alloc_new _ _
  have x1 := cell_of_heap hx1 1
  have q0 := cell_of_heap ((hb1.block g (lt_of_row hg)).trans hg) 0
  simp at x1 q0
  have HX := Lib.hid hX; have HW1 := Lib.hid hW1; have HB := Lib.hid hb1
  clear hX hW1 hb1 hx1 hg
  go_enter Tryd.func56, Tryd.ntmps56
  go_upto_region 1 with fail
  rw [HW1.out, HX.out]
  go_wp2_with fail
  go_ret
  exact ⟨rfl, HB.out⟩
set_option maxRecDepth 100000 in
/-- Whether it is that job. -/
theorem sdrop1_c (k : K2) (n : Int) (g : Nat) (W : World) (hg : W.heap[g]? = some (.cells #[.int .i64 n] 3 (0, 0))) :
    Calls Tryd.prog 57 #[.agg #[.int .i64 k.job, .int .i64 k.win], .pointer (some ⟨g, 0, none⟩)] W fun e w' => e = .returned (.bool (k.job == n)) ∧ Below W.heap.size W w' := by
  obtain ⟨X, hX⟩ : ∃ X, W.heap.size = X := ⟨_, rfl⟩
  obtain ⟨W1, hW1⟩ : ∃ W1, W.alloc (.cells #[.int .i64 k.job, .int .i64 k.win] 124) = W1 := ⟨_, rfl⟩
  have hb1 : Below W.heap.size W W1 := by rw [← hW1]; exact (Below.refl _ _).alloc (Nat.le_refl _) _
  have hx1 : W1.heap[X]? = some (.cells #[.int .i64 k.job, .int .i64 k.win] 124 (0, 0)) := by rw [← hW1, ← hX]; exact heap_alloc_new _ _
  have x0 := cell_of_heap hx1 0
  have q0 := cell_of_heap ((hb1.block g (lt_of_row hg)).trans hg) 0
  simp at x0 q0
  have HX := Lib.hid hX; have HW1 := Lib.hid hW1; have HB := Lib.hid hb1
  clear hX hW1 hb1 hx1 hg
  go_enter Tryd.func57, Tryd.ntmps57
  go_upto_region 1 with fail
  rw [HW1.out, HX.out]
  go_wp2_with fail
  go_ret
  exact ⟨rfl, HB.out⟩
set_option maxRecDepth 100000 in
set_option maxHeartbeats 1000000 in
/-- The closure that forget makes. -/
theorem sfor1_c (gf : Nat) (cbf : Array Value) (pd : K2 → Bool) (k : K2) (v : Ct) (gb : Nat) (W : World) (eg : ∀ args w, (callFunc gf args).run Tryd.prog w = .ok (.enter gf args) w) (hg : W.heap[gb]? = some (.cells #[.func (.func gf) #[] cbf] 125 (0, 0)))
    (hc : ∀ W', Below W.heap.size W W' → Calls Tryd.prog gf (#[.agg #[.int .i64 k.job, .int .i64 k.win]] ++ cbf) W' fun e w' => e = .returned (.bool (pd k)) ∧ Below W'.heap.size W' w') :
    Calls Tryd.prog 71 #[kvQ k, encCv v, .pointer (some ⟨gb, 0, none⟩)] W fun e w' => e = .returned (.bool (pd k)) ∧ Below W.heap.size W w' := by
  unfold kvQ encCv
  obtain ⟨X, hX⟩ : ∃ X, W.heap.size = X := ⟨_, rfl⟩
  obtain ⟨W1, hW1⟩ : ∃ W1, (W.alloc (.cells #[.int .i64 k.job, .int .i64 k.win] 124)).alloc (.cells #[.int .i64 v.job, .int .i64 v.win, .int .i64 v.free, .int .i64 v.forced] 85) = W1 := ⟨_, rfl⟩
  have hb1 : Below W.heap.size W W1 := by rw [← hW1]; exact ((Below.refl _ _).alloc (Nat.le_refl _) _).alloc (by simp) _
  have hx1 : W1.heap[X]? = some (.cells #[.int .i64 k.job, .int .i64 k.win] 124 (0, 0)) := by rw [← hW1, ← hX]; exact (Below.heap_alloc _ _ _ (by simp)).trans (heap_alloc_new W _)
  have x0 := cell_of_heap hx1 0
  have x1 := cell_of_heap hx1 1
  have q0 := cell_of_heap ((hb1.block gb (lt_of_row hg)).trans hg) 0
  simp at x0 x1 q0
  have HC := Lib.hid (hc W1 hb1)
  have HX := Lib.hid hX; have HW1 := Lib.hid hW1; have HB := Lib.hid hb1
  clear hX hW1 hb1 hx1 hg hc
  go_enter Tryd.func71, Tryd.ntmps71
  go_upto_region 1 with fail
  rw [HW1.out, HX.out]
  go_wp2_with (go_at_fn gf; refine HC.out.mono ?_; rintro e w2 ⟨rfl, hb2⟩; have HB2 := Lib.hid hb2; clear hb2)
  go_ret
  exact ⟨rfl, HB.out.trans (HB2.out.mono HB.out.size)⟩
set_option maxRecDepth 100000 in
set_option maxHeartbeats 1000000 in
/-- counts.forget. -/
theorem sforget_c (gf : Nat) (cbf : Array Value) (pd : K2 → Bool) (b : Nat) (T : List (K2 × Ct)) (w : World) (eg : ∀ args w, (callFunc gf args).run Tryd.prog w = .ok (.enter gf args) w) (hown : MapG Tryd.prog 124 klQ okQ encCv w b T)
    (hc : ∀ (W : World) (k : K2), w.grownBy W (some b) → okQ k → Calls Tryd.prog gf (#[.agg #[.int .i64 k.job, .int .i64 k.win]] ++ cbf) W fun e w' => e = .returned (.bool (pd k)) ∧ Below W.heap.size W w') :
    Calls Tryd.prog 55 #[.map (some b), .func (.func gf) #[] cbf] w fun e w' => e = .returned (.tuple #[]) ∧ MapG Tryd.prog 124 klQ okQ encCv w' b (T.filter fun p => !pd p.1) ∧ w.grownBy w' (some b) := by
  obtain ⟨X, hX⟩ : ∃ X, w.heap.size = X := ⟨_, rfl⟩
  obtain ⟨W1, hW1⟩ : ∃ W1, w.alloc (.cells #[.func (.func gf) #[] cbf] 125) = W1 := ⟨_, rfl⟩
  have hb1 : Below w.heap.size w W1 := by rw [← hW1]; exact (Below.refl _ _).alloc (Nat.le_refl _) _
  have hx1 : W1.heap[X]? = some (.cells #[.func (.func gf) #[] cbf] 125 (0, 0)) := by rw [← hW1, ← hX]; exact heap_alloc_new _ _
  have hm1 : MapG Tryd.prog 124 klQ okQ encCv W1 b T := hown.on hb1 (Nat.le_refl _)
  have hXb : X ≠ b := by have := hown.lt; omega
  have hg1 := grown_none hb1
  have hg1' : w.grownBy W1 (some b) := hg1.but _
  have eg1 : ∀ args w, (callFunc 71 args).run Tryd.prog w = .ok (.enter 71 args) w := enters_of Tryd.func71 (by kernel_rfl) rfl
  have HD := Lib.hid (sdelf_c pd 71 #[.pointer (some ⟨X, 0, none⟩)] b T W1 eg1 hm1 (fun W k v hg hk => by
    refine sfor1_c gf cbf pd k v X W eg ((hg.block X (lt_of_row hx1) (fun e => hXb (Option.some.inj e))).trans hx1) (fun W' hb' => hc W' k ?_ hk)
    exact (hg1'.andThen hg (fun j hj => .inr hj)).andThen (grown_none hb') (fun j hj => by cases hj)))
  have HX := Lib.hid hX; have HW1 := Lib.hid hW1; have HG := Lib.hid hg1'
  clear hX hW1 hb1 hx1 hm1 hXb hg1 hg1' hc hown
  go_enter Tryd.func55, Tryd.ntmps55
  go_upto_region 1 with fail
  rw [HW1.out, HX.out]
  go_wp2_with fail
  refine HD.out.mono ?_
  rintro e w2 ⟨rfl, hm2, hg2⟩
  have HM := Lib.hid hm2; have HG2 := Lib.hid hg2
  clear hm2 hg2
  go_wp2_with fail
  go_end0
  exact ⟨rfl, HM.out, HG.out.andThen HG2.out (fun j hj => .inr hj)⟩
set_option maxRecDepth 100000 in
set_option maxHeartbeats 1000000 in
theorem sforget_nil (g : Nat) (cb : Array Value) (w : World) : Calls Tryd.prog 55 #[.map none, .func (.func g) #[] cb] w fun e w' => e = .returned (.tuple #[]) ∧ Below w.heap.size w w' := by
  have HD := Lib.hid (fun fv W => sdelf_nil fv W)
  have hb1 : Below w.heap.size w (w.alloc (.cells #[.func (.func g) #[] cb] 125)) := (Below.refl _ _).alloc (Nat.le_refl _) _
  have HB1 := Lib.hid hb1
  clear hb1
  go_enter Tryd.func55, Tryd.ntmps55
  go_wp2_with fail
  refine (HD.out _ _).mono ?_
  rintro e w2 ⟨rfl, hb2⟩
  have HB2 := Lib.hid hb2
  clear hb2
  go_wp2_with fail
  go_end0
  exact ⟨rfl, HB1.out.trans (HB2.out.mono HB1.out.size)⟩
set_option maxRecDepth 100000 in
set_option maxHeartbeats 1000000 in
/-- Expire. -/
theorem SqP.expire_c {w : World} {q b : Nat} {T : List (K2 × Ct)} (h : SqP w q b T) (n : Int) :
    Calls Tryd.prog 33 #[.pointer (some ⟨q, 0, none⟩), .int .i64 n] w fun e w' => e = .returned (.tuple #[]) ∧ SqP w' q b (T.filter fun p => !(fun k : K2 => decide (k.win < n)) p.1) ∧ ChP (fun i => i = b) w w' := by
  obtain ⟨X, hX⟩ : ∃ X, w.heap.size = X := ⟨_, rfl⟩
  obtain ⟨W1, hW1⟩ : ∃ W1, w.alloc (.cells #[.int .i64 n] 3) = W1 := ⟨_, rfl⟩
  have hb1 : Below w.heap.size w W1 := by rw [← hW1]; exact (Below.refl _ _).alloc (Nat.le_refl _) _
  have hx1 : W1.heap[X]? = some (.cells #[.int .i64 n] 3 (0, 0)) := by rw [← hW1, ← hX]; exact heap_alloc_new _ _
  have h1 := h.on hb1
  have hXb : X ≠ b := by have := h.lt.2; omega
  have eg1 : ∀ args w, (callFunc 56 args).run Tryd.prog w = .ok (.enter 56 args) w := enters_of Tryd.func56 (by kernel_rfl) rfl
  have HK := Lib.hid (sknown_c q b W1 h1.box)
  have HF := Lib.hid (sforget_c 56 #[.pointer (some ⟨X, 0, none⟩)] (fun k => decide (k.win < n)) b T W1 eg1 h1.m (fun W k hg _ => sexp1_c k n X W ((hg.block X (lt_of_row hx1) (fun e => hXb (Option.some.inj e))).trans hx1)))
  have HX := Lib.hid hX; have HW1 := Lib.hid hW1; have HB1 := Lib.hid hb1; have H1 := Lib.hid h1
  clear hX hW1 hb1 hx1 h1 hXb h
  go_enter Tryd.func33, Tryd.ntmps33
  go_upto_region 1 with fail
  rw [HW1.out, HX.out]
  go_wp2_with fail
  refine HK.out.mono ?_
  rintro e w2 ⟨rfl, rfl⟩
  go_wp2_with fail
  refine HF.out.mono ?_
  rintro e w3 ⟨rfl, hm3, hg3⟩
  have HM := Lib.hid hm3; have HG := Lib.hid hg3
  clear hm3 hg3
  go_wp2_with fail
  go_end0
  exact ⟨rfl, H1.out.turn HM.out HG.out, (ChP.of_below HB1.out).grown HG.out fun i e => .inl (Option.some.inj e).symm⟩
set_option maxRecDepth 100000 in
theorem sexpire_nil (n : Int) (w : World) : Calls Tryd.prog 33 #[.pointer none, .int .i64 n] w fun e w' => e = .returned (.tuple #[]) ∧ Below w.heap.size w w' := by
  have HK := Lib.hid (fun W => sknown_nil W)
  have HD := Lib.hid (fun g cb W => sforget_nil g cb W)
  have hb1 : Below w.heap.size w (w.alloc (.cells #[.int .i64 n] 3)) := (Below.refl _ _).alloc (Nat.le_refl _) _
  have HB1 := Lib.hid hb1
  clear hb1
  go_enter Tryd.func33, Tryd.ntmps33
  go_wp2_with fail
  refine (HK.out _).mono ?_
  rintro e w2 ⟨rfl, rfl⟩
  go_wp2_with fail
  refine (HD.out _ _ _).mono ?_
  rintro e w3 ⟨rfl, hb3⟩
  have HB3 := Lib.hid hb3
  clear hb3
  go_wp2_with fail
  go_end0
  exact ⟨rfl, HB1.out.trans (HB3.out.mono HB1.out.size)⟩
set_option maxRecDepth 100000 in
set_option maxHeartbeats 1000000 in
/-- Drop. -/
theorem SqP.drop_c {w : World} {q b : Nat} {T : List (K2 × Ct)} (h : SqP w q b T) (n : Int) :
    Calls Tryd.prog 35 #[.pointer (some ⟨q, 0, none⟩), .int .i64 n] w fun e w' => e = .returned (.tuple #[]) ∧ SqP w' q b (T.filter fun p => !(fun k : K2 => k.job == n) p.1) ∧ ChP (fun i => i = b) w w' := by
  obtain ⟨X, hX⟩ : ∃ X, w.heap.size = X := ⟨_, rfl⟩
  obtain ⟨W1, hW1⟩ : ∃ W1, w.alloc (.cells #[.int .i64 n] 3) = W1 := ⟨_, rfl⟩
  have hb1 : Below w.heap.size w W1 := by rw [← hW1]; exact (Below.refl _ _).alloc (Nat.le_refl _) _
  have hx1 : W1.heap[X]? = some (.cells #[.int .i64 n] 3 (0, 0)) := by rw [← hW1, ← hX]; exact heap_alloc_new _ _
  have h1 := h.on hb1
  have hXb : X ≠ b := by have := h.lt.2; omega
  have eg1 : ∀ args w, (callFunc 57 args).run Tryd.prog w = .ok (.enter 57 args) w := enters_of Tryd.func57 (by kernel_rfl) rfl
  have HK := Lib.hid (sknown_c q b W1 h1.box)
  have HF := Lib.hid (sforget_c 57 #[.pointer (some ⟨X, 0, none⟩)] (fun k => k.job == n) b T W1 eg1 h1.m (fun W k hg _ => sdrop1_c k n X W ((hg.block X (lt_of_row hx1) (fun e => hXb (Option.some.inj e))).trans hx1)))
  have HX := Lib.hid hX; have HW1 := Lib.hid hW1; have HB1 := Lib.hid hb1; have H1 := Lib.hid h1
  clear hX hW1 hb1 hx1 h1 hXb h
  go_enter Tryd.func35, Tryd.ntmps35
  go_upto_region 1 with fail
  rw [HW1.out, HX.out]
  go_wp2_with fail
  refine HK.out.mono ?_
  rintro e w2 ⟨rfl, rfl⟩
  go_wp2_with fail
  refine HF.out.mono ?_
  rintro e w3 ⟨rfl, hm3, hg3⟩
  have HM := Lib.hid hm3; have HG := Lib.hid hg3
  clear hm3 hg3
  go_wp2_with fail
  go_end0
  exact ⟨rfl, H1.out.turn HM.out HG.out, (ChP.of_below HB1.out).grown HG.out fun i e => .inl (Option.some.inj e).symm⟩
set_option maxRecDepth 100000 in
theorem sdrop_nil (n : Int) (w : World) : Calls Tryd.prog 35 #[.pointer none, .int .i64 n] w fun e w' => e = .returned (.tuple #[]) ∧ Below w.heap.size w w' := by
  have HK := Lib.hid (fun W => sknown_nil W)
  have HD := Lib.hid (fun g cb W => sforget_nil g cb W)
  have hb1 : Below w.heap.size w (w.alloc (.cells #[.int .i64 n] 3)) := (Below.refl _ _).alloc (Nat.le_refl _) _
  have HB1 := Lib.hid hb1
  clear hb1
  go_enter Tryd.func35, Tryd.ntmps35
  go_wp2_with fail
  refine (HK.out _).mono ?_
  rintro e w2 ⟨rfl, rfl⟩
  go_wp2_with fail
  refine (HD.out _ _ _).mono ?_
  rintro e w3 ⟨rfl, hb3⟩
  have HB3 := Lib.hid hb3
  clear hb3
  go_wp2_with fail
  go_end0
  exact ⟨rfl, HB1.out.trans (HB3.out.mono HB1.out.size)⟩
set_option maxRecDepth 100000 in
set_option maxHeartbeats 1000000 in
theorem valsN_in (n : Nat) (l Bm : Nat) (J : List Ct → World → Prop) (W : World) (hJ : AbidesFrom W.heap.size J) (hm : W.cell? ⟨Bm, 0, none⟩ = some (.map none)) (h0 : J [] W) :
    CallsIn Fence.wide n Tryd.prog 74 #[.func (.yield l) #[] #[], .pointer (some ⟨Bm, 0, none⟩)] W fun e W' => (∃ v, e = .returned v) ∧ J [] W' := by
  have hro : Fence.wide.round = none := rfl
  have hrg := run_range_nilMap (P := Tryd.prog) W 118 124 85 Tryd.underlying118
  have hnx : ∀ ty, (Instr.next (.pointer (some ⟨W.heap.size, 0, none⟩)) false ty).run Tryd.prog (W.alloc (.mapIter none 0 #[] 0)) = _ := fun ty => run_next_nilMap _ ty 0 0 #[]
  refine callsIn_of_wp Tryd.func74 rfl trivial ?_ hro
  simp only [Tryd.ntmps74, List.size_toArray, List.length_cons, List.length_nil, Nat.reduceAdd, Nat.reduceSub, Array.replicate_succ, Array.replicate_zero, List.push_toArray, List.append_toArray, List.nil_append, List.cons_append]
  gi_wp2
  refine wpIn_loop_rounds 1 ?_
  rw [roundsIn_succ]
  gi_wp2
  go_end0
  exact ⟨⟨_, rfl⟩, hJ [] W _ none h0 (World.grownBy_alloc W _ none) (fun r e => by cases e)⟩
theorem valsN_stops (n : Nat) (Bm : Nat) (w : World) (hm : w.cell? ⟨Bm, 0, none⟩ = some (.map none)) :
    SeqStopsK Fence.wide n Tryd.prog 74 #[.pointer (some ⟨Bm, 0, none⟩)] (fun x => #[encCv x]) KeepsWalks (fun ss : List Ct => ss = []) (fun _ => True) 0 w := fun l J Jx W hW hJ _ _ h0 =>
  (valsN_in n l Bm J W hJ ((hW.cell (p := ⟨Bm, 0, none⟩) (lt_of_cell hm)).trans hm) h0).mono fun _ _ ⟨k1, k2⟩ => ⟨k1, .inl ⟨[], rfl, k2⟩⟩
set_option maxRecDepth 100000 in
set_option maxHeartbeats 1000000 in
theorem sortedN_c (w : World) : Calls Tryd.prog 58 #[.func (.func 74) #[] #[.pointer (some ⟨w.heap.size, 0, none⟩)], .func (.func 60) #[] #[]] (w.alloc (.cells #[.map none] 118)) fun e w' =>
      ∃ v, e = .returned v ∧ OwnE encCt 85 w' w.heap.size v [] ∧ Below w.heap.size w w' := by
  have eg : ∀ args w, (callFunc 74 args).run Tryd.prog w = .ok (.enter 74 args) w := enters_of Tryd.func74 (by kernel_rfl) rfl
  have hbox : (w.alloc (.cells #[.map none] 118)).cell? ⟨w.heap.size, 0, none⟩ = some (.map none) := cell_of_heap (heap_alloc_new w _) 0
  have C := callsIn_wide.1 (collect_in 5 (by omega) 74 #[.pointer (some ⟨w.heap.size, 0, none⟩)] eg _ _ 0 (by omega) _ (valsN_stops 3 w.heap.size _ hbox))
  have CC := Lib.hid C
  have hbase : Below w.heap.size w (w.alloc (.cells #[.map none] 118)) := (Below.refl _ w).alloc (Nat.le_refl _) _
  have HB := Lib.hid hbase
  have e1 : (w.alloc (.cells #[.map none] 118)).heap.size = w.heap.size + 1 := by simp
  have E1 := Lib.hid e1
  obtain ⟨W, hW⟩ : ∃ W, w.alloc (.cells #[.map none] 118) = W := ⟨_, rfl⟩
  rw [hW] at CC HB E1 ⊢
  clear C hbase e1 hW hbox eg
  go_enter Tryd.func58, Tryd.ntmps58
  go_wp2_with fail
  refine CC.out.mono ?_
  rintro e w1 ⟨v, ss, rfl, rfl, hrow, hb⟩
  have HR := Lib.hid hrow; have HB1 := Lib.hid hb
  obtain ⟨A, c, hv⟩ := hrow.form
  have cS := Lib.hid (sortC_own _ v [] w1 hrow (by simp))
  subst hv
  clear hrow hb
  go_wp2_with fail
  refine cS.out.mono ?_
  rintro e w2 ⟨rfl, M, hM, hU, hown, hg⟩
  obtain rfl : M = [] := hM.eq_nil
  have HW := Lib.hid hown; have HG := Lib.hid hg
  clear hM hU hown hg
  go_wp2_with fail
  go_ret
  refine ⟨_, rfl, HW.out.base (by rw [E1.out]; omega), ?_⟩
  have hb1 : Below w.heap.size w w1 := HB.out.trans (HB1.out.mono (by rw [E1.out]; omega))
  exact hb1.grown HG.out hb1.size fun k e => by have := (HR.out.lt k e).1; rw [E1.out] at this; omega
set_option maxRecDepth 100000 in
set_option maxHeartbeats 1000000 in
/-- List of no book. -/
theorem slist_nil (w : World) : Calls Tryd.prog 40 #[.pointer none] w fun e w' => ∃ A c, e = .returned (.slice A 0 c) ∧ Below w.heap.size w w' := by
  have HK := Lib.hid (fun W => sknown_nil W)
  have HV := Lib.hid (fun W => mvals_c none W)
  have HS := Lib.hid (fun W => sortedN_c W)
  go_enter Tryd.func40, Tryd.ntmps40
  go_wp2_with fail
  refine (HK.out _).mono ?_
  rintro e w1 ⟨rfl, rfl⟩
  go_wp2_with fail
  refine (HV.out _).mono ?_
  rintro e w2 ⟨rfl, rfl⟩
  go_wp2_with fail
  refine (HS.out _).mono ?_
  rintro e w3 ⟨v, rfl, h4, h5⟩
  obtain ⟨A, c, rfl⟩ := h4.form
  have H5 := Lib.hid h5
  clear h4 h5
  go_wp2_with fail
  go_ret
  exact ⟨_, _, rfl, H5.out⟩
set_option maxRecDepth 100000 in
set_option maxHeartbeats 1000000 in
/-- List. -/
theorem SqP.list_c {w : World} {q b : Nat} {T : List (K2 × Ct)} (h : SqP w q b T) (hf : T.length ≤ 1000000) :
    Calls Tryd.prog 40 #[.pointer (some ⟨q, 0, none⟩)] w fun e w' => ∃ (A : Option Addr) (c : Nat) (M : List Ct), e = .returned (.slice A M.length c) ∧ (∃ ks : List K2, ks.Perm (T.map (·.1)) ∧ M.Perm (ks.map (valQ T))) ∧ (M.Pairwise fun a b => ¬ ltC b a) ∧ OwnE encCt 85 w' w.heap.size (.slice A M.length c) M ∧ Below w.heap.size w w' := by
  have HK := Lib.hid (sknown_c q b w h.box)
  have HV := Lib.hid (fun W => mvals_c (some b) W)
  have HS := Lib.hid (sortedVals_c b T w h.m hf)
  clear h hf
  go_enter Tryd.func40, Tryd.ntmps40
  go_wp2_with fail
  refine HK.out.mono ?_
  rintro e w1 ⟨rfl, rfl⟩
  go_wp2_with fail
  refine (HV.out _).mono ?_
  rintro e w2 ⟨rfl, rfl⟩
  go_wp2_with fail
  refine HS.out.mono ?_
  rintro e w3 ⟨v, M, rfl, hk, ho, h4, h5⟩
  obtain ⟨A, c, rfl⟩ := h4.form
  have H4 := Lib.hid h4; have H5 := Lib.hid h5; have HKS := Lib.hid hk; have HO := Lib.hid ho
  clear h4 h5 hk ho
  go_wp2_with fail
  go_ret
  exact ⟨_, _, M, rfl, HKS.out, HO.out, H4.out, H5.out⟩
end Go.Proofs.YtbfbhlpibclccaaDoor
