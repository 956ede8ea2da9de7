/- A book of counts in memory: New, Of, Left, Add by contracts. Condition: the book lies in memory as its map has it. -/
import Derived.Test.YtbfbhlpibclccaaDoorSqK
import Derived.Test.YtbfbhlpibclccaaDoorChP
import Derived.Test.YtbfbhlpibclccaaDoorErrs
import Derived.StillTailTactics
import Derived.Deep.DeepCutAuto
import Derived.Deep.CutBlock
import Derived.Laws.OwnMore
import Derived.IntWalk
import Derived.Deep.RegionHeld3
import Derived.Deep.QuietTactic
import Derived.LoopTactic
import Derived.Lib.Hide
import Derived.Carry
namespace Go.Proofs.YtbfbhlpibclccaaDoor
open Go Go.RowKit Go.Maps

/-- A book: its box, its map. -/
structure SqP (w : World) (q b : Nat) (T : List (K2 × Ct)) : Prop where
  box : w.heap[q]? = some (.cells #[.map (some b)] 120 (0, 0))
  m : MapG Tryd.prog 124 klQ okQ encCv w b T
  ne : q ≠ b
section
variable {w w' : World} {q b : Nat} {T : List (K2 × Ct)}
theorem SqP.same (h : SqP w q b T) (hq : w'.heap[q]? = w.heap[q]?) (hb : w'.heap[b]? = w.heap[b]?) : SqP w' q b T := ⟨hq.trans h.box, h.m.same hb, h.ne⟩
theorem SqP.lt (h : SqP w q b T) : q < w.heap.size ∧ b < w.heap.size := ⟨lt_of_row h.box, h.m.lt⟩
theorem SqP.on (h : SqP w q b T) (hb : Below w.heap.size w w') : SqP w' q b T := h.same (hb.block q h.lt.1) (hb.block b h.lt.2)
theorem SqP.far {R : Nat → Prop} (h : SqP w q b T) (hc : ChP R w w') (h1 : ¬ R q) (h2 : ¬ R b) : SqP w' q b T := h.same (hc.block q h.lt.1 h1) (hc.block b h.lt.2 h2)
theorem SqP.turn {T' : List (K2 × Ct)} (h : SqP w q b T) (hm : MapG Tryd.prog 124 klQ okQ encCv w' b T') (hg : w.grownBy w' (some b)) : SqP w' q b T' := ⟨(hg.block q h.lt.1 (fun e => h.ne (Option.some.inj e))).trans h.box, hm, h.ne⟩
theorem SqP.apart (h : SqP w q b T) : Apart T := h.m.apart
end
theorem lkq_nil (w : World) {k : K2} (hk : okQ k) : (Instr.lookup 118 (.map none) (.agg #[.int .i64 k.job, .int .i64 k.win]) false).run Tryd.prog w = .ok (.agg #[.int .i64 0, .int .i64 0, .int .i64 0, .int .i64 0]) w :=
  Maps.look_nil false kitQ.keyed Tryd.underlying118 (Tryd.zeroC w) (kitQ.of hk)
theorem SqP.lk {w : World} {q b : Nat} {T : List (K2 × Ct)} (h : SqP w q b T) {k : K2} (hk : okQ k) : (Instr.lookup 118 (.map (some b)) (.agg #[.int .i64 k.job, .int .i64 k.win]) false).run Tryd.prog w = .ok (.agg #[.int .i64 (valQ T k).job, .int .i64 (valQ T k).win, .int .i64 (valQ T k).free, .int .i64 (valQ T k).forced]) w :=
  run_lookG kitQ Tryd.underlying118 (enc := encCv) (z := z0C) (Tryd.zeroC w) h.m hk
/-- spare.New. -/
theorem snew_c (w : World) : Calls Tryd.prog 32 #[] w fun e w' => ∃ q b, e = .returned (.pointer (some ⟨q, 0, none⟩)) ∧ SqP w' q b [] ∧ w.heap.size ≤ q ∧ w.heap.size ≤ b ∧ Below w.heap.size w w' := by
  have hmm := @run_makeMap Tryd.prog
  go_enter Tryd.func32, Tryd.ntmps32
  go_wp2
  go_ret
  obtain ⟨W1, hW1⟩ : ∃ W1, w.alloc (.map #[] 0) = W1 := ⟨_, rfl⟩
  have s1 : W1.heap.size = w.heap.size + 1 := by rw [← hW1]; simp
  have m1 : MapG Tryd.prog 124 klQ okQ encCv W1 w.heap.size [] := by rw [← hW1]; exact MapG.made _ _ _ _ _ _
  have b1 : Below w.heap.size w W1 := by rw [← hW1]; exact (Below.refl _ _).alloc (Nat.le_refl _) _
  rw [hW1]
  refine ⟨w.heap.size + 1, w.heap.size, by simp, ⟨?_, m1.alloc _, by omega⟩, by omega, Nat.le_refl _, b1.alloc b1.size _⟩
  rw [← s1]; exact heap_alloc_new _ _
/-- known. -/
theorem sknown_c (q b : Nat) (w : World) (h : w.heap[q]? = some (.cells #[.map (some b)] 120 (0, 0))) :
    Calls Tryd.prog 54 #[.pointer (some ⟨q, 0, none⟩)] w fun e w' => e = .returned (.map (some b)) ∧ w' = w := by
  have c0 := cell_of_heap h 0
  clear h
  go_enter Tryd.func54, Tryd.ntmps54
  go_wp2
  go_ret
  exact ⟨rfl, rfl⟩
theorem sknown_nil (w : World) : Calls Tryd.prog 54 #[.pointer none] w fun e w' => e = .returned (.map none) ∧ w' = w := by
  go_enter Tryd.func54, Tryd.ntmps54
  go_wp2
  go_ret
  exact ⟨rfl, rfl⟩
set_option maxRecDepth 100000 in
set_option maxHeartbeats 1600000 in
theorem sof_any (qp : Option Addr) (m : Option Nat) (job win a b c d : Int) (w : World) (hk : ∀ W, Below w.heap.size w W → Calls Tryd.prog 54 #[.pointer qp] W fun e w' => e = .returned (.map m) ∧ w' = W)
    (hl : ∀ W, Below w.heap.size w W → (Instr.lookup 118 (.map m) (.agg #[.int .i64 job, .int .i64 win]) false).run Tryd.prog W = .ok (.agg #[.int .i64 a, .int .i64 b, .int .i64 c, .int .i64 d]) W) :
    Calls Tryd.prog 38 #[.pointer qp, .int .i64 job, .int .i64 win] w fun r w' => r = .returned (.agg #[.int .i64 job, .int .i64 win, .int .i64 c, .int .i64 d]) ∧ Below w.heap.size w w' := by
  obtain ⟨W1, hW1⟩ : ∃ W1, w.alloc (.cells #[.int .i64 0, .int .i64 0, .int .i64 0, .int .i64 0] 85) = W1 := ⟨_, rfl⟩
  obtain ⟨X, hX⟩ : ∃ X, w.heap.size = X := ⟨_, rfl⟩
  have hb1 : Below w.heap.size w W1 := by rw [← hW1]; exact (Below.refl _ _).alloc (Nat.le_refl _) _
  have hx1 : W1.heap[X]? = some (.cells #[.int .i64 0, .int .i64 0, .int .i64 0, .int .i64 0] 85 (0, 0)) := by rw [← hW1, ← hX]; exact heap_alloc_new _ _
  obtain ⟨W2, hW2⟩ : ∃ W2, W1.alloc (.cells #[.int .i64 a, .int .i64 b, .int .i64 c, .int .i64 d] 85) = W2 := ⟨_, rfl⟩
  obtain ⟨Y, hY⟩ : ∃ Y, W1.heap.size = Y := ⟨_, rfl⟩
  have hb2 : Below w.heap.size w W2 := by rw [← hW2]; exact hb1.alloc hb1.size _
  have hx2 : W2.heap[X]? = some (.cells #[.int .i64 0, .int .i64 0, .int .i64 0, .int .i64 0] 85 (0, 0)) := by rw [← hW2]; exact (Below.heap_alloc _ _ _ (lt_of_row hx1)).trans hx1
  have hy2 : W2.heap[Y]? = some (.cells #[.int .i64 a, .int .i64 b, .int .i64 c, .int .i64 d] 85 (0, 0)) := by rw [← hW2, ← hY]; exact heap_alloc_new _ _
  have hXY : X ≠ Y := by have := lt_of_row hx1; omega
  have hwX : w.heap.size ≤ X := by omega
  have hwY : w.heap.size ≤ Y := by have := hb1.size; omega
  obtain ⟨W3, hW3⟩ : ∃ W3, (W2.setCell ⟨Y, 0, none⟩ (.int .i64 job)).setCell ⟨Y, 1, none⟩ (.int .i64 win) = W3 := ⟨_, rfl⟩
  have hy3 : W3.heap[Y]? = some (.cells #[.int .i64 job, .int .i64 win, .int .i64 c, .int .i64 d] 85 (0, 0)) := by
    rw [← hW3]
    have h0 := heap_setCell_same _ _ 0 _ _ (.int .i64 job) hy2
    have h1 := heap_setCell_same _ _ 1 _ _ (.int .i64 win) h0
    exact h1
  have hx3 : W3.heap[X]? = some (.cells #[.int .i64 0, .int .i64 0, .int .i64 0, .int .i64 0] 85 (0, 0)) := by
    rw [← hW3]
    exact ((heap_setCell_other _ _ _ _ hXY).trans (heap_setCell_other _ _ _ _ hXY)).trans hx2
  have hb3 : Below w.heap.size w W3 := by rw [← hW3]; exact (hb2.setCell hwY _).setCell hwY _
  obtain ⟨W4, hW4⟩ : ∃ W4, (((W3.setCell ⟨X, 0, none⟩ (.int .i64 job)).setCell ⟨X, 1, none⟩ (.int .i64 win)).setCell ⟨X, 2, none⟩ (.int .i64 c)).setCell ⟨X, 3, none⟩ (.int .i64 d) = W4 := ⟨_, rfl⟩
  have hx4 : W4.heap[X]? = some (.cells #[.int .i64 job, .int .i64 win, .int .i64 c, .int .i64 d] 85 (0, 0)) := by
    rw [← hW4]
    have h0 := heap_setCell_same _ _ 0 _ _ (.int .i64 job) hx3
    have h1 := heap_setCell_same _ _ 1 _ _ (.int .i64 win) h0
    have h2 := heap_setCell_same _ _ 2 _ _ (.int .i64 c) h1
    have h3 := heap_setCell_same _ _ 3 _ _ (.int .i64 d) h2
    exact h3
  have hb4 : Below w.heap.size w W4 := by rw [← hW4]; exact (((hb3.setCell hwX _).setCell hwX _).setCell hwX _).setCell hwX _
  have HK := Lib.hid (hk W1 hb1)
  have HL := hl W1 hb1
  have HW1 := Lib.hid hW1; have HW2 := Lib.hid hW2; have HW3 := Lib.hid hW3; have HW4 := Lib.hid hW4
  have HX := Lib.hid hX; have HY := Lib.hid hY; have HB4 := Lib.hid hb4; have HX4 := Lib.hid hx4
  have yf := fun r => frozen_of_heap hy2 r
  have HY3 := Lib.hid hy3; have HX3 := Lib.hid hx3; have HY2 := Lib.hid hy2
  clear hk hl hW1 hX hb1 hx1 hW2 hY hb2 hx2 hy2 hXY hwX hwY hW3 hy3 hx3 hb3 hW4 hx4 hb4
  go_enter Tryd.func38, Tryd.ntmps38
  go_upto_region 1 with fail
  rw [HW1.out, HX.out]
  go_wp2_with fail
  refine HK.out.mono ?_
  rintro e w2 ⟨rfl, rfl⟩
  go_upto_region 2 with fail
  rw [HW2.out, HY.out]
  clear HL
  have v0 := cell_of_heap HY2.out 0
  have v1 := cell_of_heap HY2.out 1
  simp at v0 v1
  go_upto_region 3 with fail
  rw [HW3.out]
  clear v0 v1
  have y0 := cell_of_heap HY3.out 0
  have y1 := cell_of_heap HY3.out 1
  have y2 := cell_of_heap HY3.out 2
  have y3 := cell_of_heap HY3.out 3
  have z0 := cell_of_heap HX3.out 0
  have z1 := cell_of_heap HX3.out 1
  have z2 := cell_of_heap HX3.out 2
  have z3 := cell_of_heap HX3.out 3
  simp at y0 y1 y2 y3 z0 z1 z2 z3
  have xf := fun r => frozen_of_heap HX3.out r
  clear yf
  go_wp2_with fail
  rw [HW4.out]
  have x0 := cell_of_heap HX4.out 0
  have x1 := cell_of_heap HX4.out 1
  have x2 := cell_of_heap HX4.out 2
  have x3 := cell_of_heap HX4.out 3
  simp at x0 x1 x2 x3
  refine bodyPost_ret (v := .agg #[.int .i64 job, .int .i64 win, .int .i64 c, .int .i64 d]) (by simp [results, Tryd.results38, go_sem, x0, x1, x2, x3]) rfl ?_
  exact ⟨rfl, HB4.out⟩
/-- Of. -/
theorem SqP.of_c {w : World} {q b : Nat} {T : List (K2 × Ct)} (h : SqP w q b T) {k : K2} (hk : okQ k) :
    Calls Tryd.prog 38 #[.pointer (some ⟨q, 0, none⟩), .int .i64 k.job, .int .i64 k.win] w fun r w' => r = .returned (.agg #[.int .i64 k.job, .int .i64 k.win, .int .i64 (valQ T k).free, .int .i64 (valQ T k).forced]) ∧ Below w.heap.size w w' :=
  sof_any _ (some b) _ _ _ _ _ _ w (fun W hW => sknown_c q b W (h.on hW).box) fun W hW => (h.on hW).lk hk
theorem sof_nil (w : World) {k : K2} (hk : okQ k) :
    Calls Tryd.prog 38 #[.pointer none, .int .i64 k.job, .int .i64 k.win] w fun r w' => r = .returned (.agg #[.int .i64 k.job, .int .i64 k.win, .int .i64 0, .int .i64 0]) ∧ Below w.heap.size w w' :=
  sof_any _ none _ _ _ _ _ _ w (fun W _ => sknown_nil W) fun W _ => lkq_nil W hk
/-- What is left of a budget. -/
def leftI (used budget : Int) : Int := if budget ≤ used then 0 else budget - used
theorem fieldC2 (a0 a1 a2 a3 : Value) (W : World) : (Instr.field 85 (.agg #[a0, a1, a2, a3]) 2).run Tryd.prog W = .ok a2 W := by kernel_rfl
set_option maxRecDepth 100000 in
theorem sleft_any (qp : Option Addr) (job win a c budget : Int) (w : World) (hc : 0 ≤ c) (hB : i64 budget)
    (ho : Calls Tryd.prog 38 #[.pointer qp, .int .i64 job, .int .i64 win] w fun r w' => r = .returned (.agg #[.int .i64 job, .int .i64 win, .int .i64 c, .int .i64 a]) ∧ Below w.heap.size w w') :
    Calls Tryd.prog 39 #[.pointer qp, .int .i64 job, .int .i64 win, .int .i64 budget] w fun r w' => r = .returned (.int .i64 (leftI c budget)) ∧ Below w.heap.size w w' := by
  have HO := Lib.hid ho
  have hf2 := fieldC2
  unfold leftI
  by_cases h : budget ≤ c
  · have e1 : decide (budget ≤ c) = true := decide_eq_true h
    rw [if_pos h]
    clear ho h hc hB
    go_enter Tryd.func39, Tryd.ntmps39
    go_wp2_with fail
    refine HO.out.mono ?_
    rintro r w2 ⟨rfl, hb⟩
    have HB := Lib.hid hb
    clear hb
    go_wp2_with fail
    refine bodyPost_ret (v := .int .i64 0) (by simp [results, Tryd.results39, go_sem]) rfl ?_
    exact ⟨rfl, HB.out⟩
  · have e1 : decide (budget ≤ c) = false := decide_eq_false h
    have HE2 : Hid (wrap64 (budget - c) = budget - c) := Lib.hid (by unfold i64 at hB; unfold wrap64; omega)
    rw [if_neg h]
    clear ho h hc hB
    go_enter Tryd.func39, Tryd.ntmps39
    go_wp2_with fail
    refine HO.out.mono ?_
    rintro r w2 ⟨rfl, hb⟩
    have HB := Lib.hid hb
    clear hb
    go_wp2_with fail
    go_ret
    refine ⟨?_, HB.out⟩
    show Ending.returned (.int .i64 (wrap64 (budget - c))) = _
    rw [HE2.out]
/-- Left. -/
theorem SqP.left_c {w : World} {q b : Nat} {T : List (K2 × Ct)} (h : SqP w q b T) {k : K2} (hk : okQ k) (hf : 0 ≤ (valQ T k).free) {budget : Int} (hB : i64 budget) :
    Calls Tryd.prog 39 #[.pointer (some ⟨q, 0, none⟩), .int .i64 k.job, .int .i64 k.win, .int .i64 budget] w fun r w' => r = .returned (.int .i64 (leftI (valQ T k).free budget)) ∧ Below w.heap.size w w' :=
  sleft_any _ _ _ _ _ _ w hf hB (h.of_c hk)
theorem sleft_nil (w : World) {k : K2} (hk : okQ k) {budget : Int} (hB : i64 budget) :
    Calls Tryd.prog 39 #[.pointer none, .int .i64 k.job, .int .i64 k.win, .int .i64 budget] w fun r w' => r = .returned (.int .i64 (leftI 0 budget)) ∧ Below w.heap.size w w' :=
  sleft_any _ _ _ _ _ _ w (Int.le_refl 0) hB (sof_nil w hk)
/-- A count, one more. -/
def upC (k : K2) (v : Ct) (f : Bool) : Ct := if f then ⟨k.job, k.win, v.free, v.forced + 1⟩ else ⟨k.job, k.win, v.free + 1, v.forced⟩
theorem maxLen_isQ : maxLen = 9223372036854775807 := by unfold maxLen; decide
set_option maxRecDepth 100000 in
set_option maxHeartbeats 3200000 in
/-- Add. -/
theorem SqP.add_c {w : World} {q b : Nat} {T : List (K2 × Ct)} (h : SqP w q b T) {k : K2} (hk : okQ k) (f : Bool) (h0 : 0 ≤ (valQ T k).free ∧ (valQ T k).free ≤ 1000000) (h1 : 0 ≤ (valQ T k).forced ∧ (valQ T k).forced ≤ 1000000) (hT : T.length ≤ 1000000) :
    Calls Tryd.prog 36 #[.pointer (some ⟨q, 0, none⟩), .int .i64 k.job, .int .i64 k.win, .bool f] w fun r w' => r = .returned .nilIface ∧ SqP w' q b (enter T k (upC k (valQ T k) f)) ∧ ChP (fun i => i = b) w w' := by
  have HO := Lib.hid (h.of_c hk)
  have HH := Lib.hid h
  have hTm : T.length < maxLen := by rw [maxLen_isQ]; omega
  obtain ⟨job, win⟩ := k
  simp only at HO
  obtain ⟨v, hv⟩ : ∃ v, valQ T ⟨job, win⟩ = v := ⟨_, rfl⟩
  rw [hv] at HO h0 h1 ⊢
  obtain ⟨c, hc⟩ : ∃ c, v.free = c := ⟨_, rfl⟩
  obtain ⟨d, hd⟩ : ∃ d, v.forced = d := ⟨_, rfl⟩
  rw [hc] at HO h0; rw [hd] at HO h1
  have w1 : wrap64 (c + 1) = c + 1 := by unfold wrap64; omega
  have w2 : wrap64 (d + 1) = d + 1 := by unfold wrap64; omega
  have HU : Hid (upC ⟨job, win⟩ v f = if f then ⟨job, win, c, d + 1⟩ else ⟨job, win, c + 1, d⟩) := Lib.hid (by unfold upC; rw [hc, hd])
  have HTM := Lib.hid hTm; have HKK := Lib.hid hk
  clear h hk h0 h1 hT hTm hv hc hd
  rw [HU.out]
  clear HU
  cases f with
  | true =>
    go_enter Tryd.func36, Tryd.ntmps36
    go_wp2_with fail
    refine HO.out.mono ?_
    rintro r w2 ⟨rfl, hb⟩
    have hbox : (w2.alloc (.cells #[.int .i64 job, .int .i64 win, .int .i64 c, .int .i64 d] 85)).heap[w2.heap.size]? = some (.cells #[.int .i64 job, .int .i64 win, .int .i64 c, .int .i64 d] 85 (0, 0)) := heap_alloc_new _ _
    obtain ⟨g, hg⟩ : ∃ g, w2.heap.size = g := ⟨_, rfl⟩
    obtain ⟨W3, hW3⟩ : ∃ W3, w2.alloc (.cells #[.int .i64 job, .int .i64 win, .int .i64 c, .int .i64 d] 85) = W3 := ⟨_, rfl⟩
    have hb3 : Below w.heap.size w W3 := by rw [← hW3]; exact hb.alloc hb.size _
    rw [hW3, hg] at hbox
    obtain ⟨W4, hW4⟩ : ∃ W4, W3.setCell ⟨g, 3, none⟩ (.int .i64 (d + 1)) = W4 := ⟨_, rfl⟩
    have hbox4 : W4.heap[g]? = some (.cells #[.int .i64 job, .int .i64 win, .int .i64 c, .int .i64 (d + 1)] 85 (0, 0)) := by
      rw [← hW4]; exact heap_setCell_same _ _ 3 _ _ (.int .i64 (d + 1)) hbox
    have hgw : w.heap.size ≤ g := by rw [← hg]; exact hb.size
    have hb4 : Below w.heap.size w W4 := by rw [← hW4]; exact hb3.setCell hgw _
    have H4 := Lib.hid (HH.out.on hb4)
    have HB4 := Lib.hid hb4; have HW3 := Lib.hid hW3; have HG := Lib.hid hg; have HW4 := Lib.hid hW4; have HBX := Lib.hid hbox4
    have c3 := cell_of_heap hbox 3
    simp at c3
    have gf := fun r => frozen_of_heap hbox r
    clear hb hbox hg hW3 hb3 hW4 hbox4 hgw hb4
    go_upto_region 4 with fail
    rw [HW3.out, HG.out]
    go_upto_region 7 with fail
    rw [HW4.out]
    have g0 := cell_of_heap HBX.out 0
    have g1 := cell_of_heap HBX.out 1
    have g2 := cell_of_heap HBX.out 2
    have g3 := cell_of_heap HBX.out 3
    simp at g0 g1 g2 g3
    have q0 := cell_of_heap H4.out.box 0
    simp at q0
    clear c3 gf
    go_still_tail 8, (by kernel_rfl)
    change wpList _ _ _ _ _ W4.drew
    have hm4 : MapG Tryd.prog 124 klQ okQ encCv W4.drew b T := H4.out.m.on (Below.refl _ _).drew (Nat.le_refl _)
    go_wp2_with (at_mapUpdate; refine wpList_putG _ kitQ rfl _ _ _ 118 rfl 85 Tryd.underlying118 encCv b T rfl hm4 HTM.out ⟨job, win⟩ rfl HKK.out ⟨job, win, c, d + 1⟩ rfl ?_; intro w9 hm9 hg9)
    go_ret
    exact ⟨rfl, (H4.out.on (Below.refl _ _).drew).turn hm9 hg9, (ChP.of_below HB4.out).drew.grown hg9 fun i e => .inl (Option.some.inj e).symm⟩
  | false =>
    go_enter Tryd.func36, Tryd.ntmps36
    go_wp2_with fail
    refine HO.out.mono ?_
    rintro r w2 ⟨rfl, hb⟩
    have hbox : (w2.alloc (.cells #[.int .i64 job, .int .i64 win, .int .i64 c, .int .i64 d] 85)).heap[w2.heap.size]? = some (.cells #[.int .i64 job, .int .i64 win, .int .i64 c, .int .i64 d] 85 (0, 0)) := heap_alloc_new _ _
    obtain ⟨g, hg⟩ : ∃ g, w2.heap.size = g := ⟨_, rfl⟩
    obtain ⟨W3, hW3⟩ : ∃ W3, w2.alloc (.cells #[.int .i64 job, .int .i64 win, .int .i64 c, .int .i64 d] 85) = W3 := ⟨_, rfl⟩
    have hb3 : Below w.heap.size w W3 := by rw [← hW3]; exact hb.alloc hb.size _
    rw [hW3, hg] at hbox
    obtain ⟨W4, hW4⟩ : ∃ W4, W3.setCell ⟨g, 2, none⟩ (.int .i64 (c + 1)) = W4 := ⟨_, rfl⟩
    have hbox4 : W4.heap[g]? = some (.cells #[.int .i64 job, .int .i64 win, .int .i64 (c + 1), .int .i64 d] 85 (0, 0)) := by
      rw [← hW4]; exact heap_setCell_same _ _ 2 _ _ (.int .i64 (c + 1)) hbox
    have hgw : w.heap.size ≤ g := by rw [← hg]; exact hb.size
    have hb4 : Below w.heap.size w W4 := by rw [← hW4]; exact hb3.setCell hgw _
    have H4 := Lib.hid (HH.out.on hb4)
    have HB4 := Lib.hid hb4; have HW3 := Lib.hid hW3; have HG := Lib.hid hg; have HW4 := Lib.hid hW4; have HBX := Lib.hid hbox4
    have c2 := cell_of_heap hbox 2
    simp at c2
    have gf := fun r => frozen_of_heap hbox r
    clear hb hbox hg hW3 hb3 hW4 hbox4 hgw hb4
    go_upto_region 4 with fail
    rw [HW3.out, HG.out]
    go_upto_region 7 with fail
    rw [HW4.out]
    have g0 := cell_of_heap HBX.out 0
    have g1 := cell_of_heap HBX.out 1
    have g2 := cell_of_heap HBX.out 2
    have g3 := cell_of_heap HBX.out 3
    simp at g0 g1 g2 g3
    have q0 := cell_of_heap H4.out.box 0
    simp at q0
    clear c2 gf
    go_still_tail 8, (by kernel_rfl)
    change wpList _ _ _ _ _ W4.drew
    have hm4 : MapG Tryd.prog 124 klQ okQ encCv W4.drew b T := H4.out.m.on (Below.refl _ _).drew (Nat.le_refl _)
    go_wp2_with (at_mapUpdate; refine wpList_putG _ kitQ rfl _ _ _ 118 rfl 85 Tryd.underlying118 encCv b T rfl hm4 HTM.out ⟨job, win⟩ rfl HKK.out ⟨job, win, c + 1, d⟩ rfl ?_; intro w9 hm9 hg9)
    go_ret
    exact ⟨rfl, (H4.out.on (Below.refl _ _).drew).turn hm9 hg9, (ChP.of_below HB4.out).drew.grown hg9 fun i e => .inl (Option.some.inj e).symm⟩
theorem sadd_nil (a : Addr) (w : World) (he : w.cell? ⟨0, 0, none⟩ = some (.iface 201 (.pointer (some a)))) (job win : Int) (f : Bool) :
    Calls Tryd.prog 36 #[.pointer none, .int .i64 job, .int .i64 win, .bool f] w fun r w' => r = .returned (.iface 201 (.pointer (some a))) ∧ w = w' := by
  go_enter Tryd.func36, Tryd.ntmps36
  go_wp2_with fail
  refine bodyPost_ret (v := .iface 201 (.pointer (some a))) (by simp [results, Tryd.results36, go_sem]) rfl ?_
  exact ⟨rfl, rfl⟩
/-- errors.Is of an error and itself. -/
theorem is_same (a : Addr) (w : World) : Calls Tryd.prog 41 #[.iface 201 (.pointer (some a)), .iface 201 (.pointer (some a))] w fun e w' => e = .returned (.bool true) ∧ w = w' := by
  obtain ⟨i, hi, hcmp⟩ := Option.map_eq_some_iff.1 Tryd.isComp
  obtain ⟨jj, hjj, hjs⟩ := Option.map_eq_some_iff.1 Tryd.isSize
  have h8 := @run_callFunc_extern Tryd.prog 61 _ Extern.ReflectliteType.typeOf Tryd.func61 (by kernel_rfl) (by kernel_rfl) (by kernel_rfl) (by kernel_rfl)
  have h32 := @run_callFunc_extern Tryd.prog 133 _ entComparable Tryd.func133 (by kernel_rfl) (by kernel_rfl) (by kernel_rfl) (by kernel_rfl)
  have tT := Tryd.isTypeOf
  have cT := Tryd.isComparable
  have nE := Tryd.noIsE
  have uE := Tryd.noUnwrapE
  have vE := Tryd.noUnwrapsE
  have heq := run_eql_iface_ptr_same (P := Tryd.prog) w a Tryd.underlying40 Tryd.underlying201 hi hcmp hjj
  go_enter Tryd.func41, Tryd.ntmps41
  go_wp2
  go_rounds 1
  go_ret
  exact ⟨by simp, rfl⟩
end Go.Proofs.YtbfbhlpibclccaaDoor
