/- The program's table of jobs by contracts: Drop, Of, Total, Good. Conditions: the table lies in memory as its map has it; the sentinels lie where the program's text lays them. -/
import Derived.Test.YtbfbhlpibclccaaDoorJbG
namespace Go.Proofs.YtbfbhlpibclccaaDoor
open Go Go.RowKit Go.Maps

section
variable {w : World} {P : Nat → Prop} {q b : Nat} {T : List (Int × Option EN)} {bl : Int → Nat} {L : List JE}
/-- A job goes. -/
theorem JbP.dropped (h : JbP w P q b T bl L) {id : Int} (hs : (findJ L id).isSome = true) {w9 : World} (hm : JobsAt w9 b (strike T id)) (hg : w.grownBy w9 (some b)) :
    JbP w9 P q b (strike T id) bl (dropJ L id).1 ∧ ChP P w w9 := by
  have hgd := h.good.drop id
  have hc : dropJ L id = (L.filter (fun e => !decide (e.job.id = id)), 0) := by unfold dropJ; rw [if_neg (by rw [hs]; simp)]
  rw [hc] at hgd ⊢
  have keep : ∀ k, P k → k ≠ b → w9.heap[k]? = w.heap[k]? := fun k hk hne => hg.block k (h.old k hk) (by simpa using hne)
  have hset : ∀ j, findJ (L.filter fun e => !decide (e.job.id = id)) j = if j = id then none else findJ L j := fun j => find_filter (fun e : JE => e.job.id) id j
  refine ⟨⟨(keep q h.pq h.qb).trans h.box, hm, fun j => ?_, fun e he => ?_, fun e he f hf => h.inj e (List.mem_filter.1 he).1 f (List.mem_filter.1 hf).1, hgd, h.pq, h.pb, fun e he => h.pr e (List.mem_filter.1 he).1, fun k hk => Nat.lt_of_lt_of_le (h.old k hk) hg.size⟩, (ChP.refl _ _).grown hg (fun k e => .inl (by cases e; exact h.pb))⟩
  · rw [look_strike, hset]
    split
    · rfl
    · exact h.ents j
  · have he' := (List.mem_filter.1 he).1
    refine (h.rows e he').same fun k hk => ?_
    simp [Value.ownBlock] at hk; subst hk
    exact keep _ (h.pr e he') (h.rb he')
set_option maxRecDepth 100000 in
set_option maxHeartbeats 1600000 in
/-- Table.Drop. -/
theorem JbP.drop_c (s : Nat → Addr) (h : JbP w P q b T bl L) (hs : SentP s P w) {id : Int} (hid : i64 id) :
    Calls Tryd.prog 9 #[.pointer (some ⟨q, 0, none⟩), .int .i64 id] w fun r w' => r = .returned (errV s (dropJ L id).2) ∧ JbW w' P q (dropJ L id).1 ∧ ChP P w w' := by
  have c0 := cell_of_heap h.box 0
  have HH := Lib.hid (jhas_c h hid)
  have HON : Hid (∀ W, Below w.heap.size w W → JbP W P q b T bl L ∧ W.cell? ⟨q, 0, none⟩ = some (.map (some b)) ∧ W.cell? ⟨4, 0, none⟩ = some (.iface 201 (.pointer (some (s 4))))) := Lib.hid fun W hb => ⟨h.on hb, cell_of_heap (h.on hb).box 0, (errs_at s hs.here W hb).2.1⟩
  cases hf : (findJ L id).isSome with
  | false =>
    have hd : dropJ L id = (L, 5) := by unfold dropJ; rw [if_pos hf]
    rw [hd, errA s 5 (by omega)]
    rw [hf] at HH
    clear h hs hf hd
    go_enter Tryd.func9, Tryd.ntmps9
    go_wp2_with fail
    refine HH.out.mono ?_
    rintro r w2 ⟨rfl, hb⟩
    obtain ⟨hj, c1, e4⟩ := HON.out w2 hb
    have HJ := Lib.hid hj
    have HB := Lib.hid hb
    clear hj hb c0
    go_wp2_with fail
    go_ret
    exact ⟨rfl, HJ.out.any, ChP.of_below HB.out⟩
  | true =>
    have hd : (dropJ L id).2 = 0 := by unfold dropJ; rw [if_neg (by rw [hf]; simp)]
    rw [hd, errA0]
    have HD : Hid (∀ W w9, JbP W P q b T bl L → JobsAt w9 b (strike T id) → W.grownBy w9 (some b) → JbP w9 P q b (strike T id) bl (dropJ L id).1 ∧ ChP P W w9) := Lib.hid fun W w9 hW hm hg => hW.dropped hf hm hg
    rw [hf] at HH
    clear h hs hf hd
    go_enter Tryd.func9, Tryd.ntmps9
    go_wp2_with fail
    refine HH.out.mono ?_
    rintro r w2 ⟨rfl, hb⟩
    obtain ⟨hj, c1, e4⟩ := HON.out w2 hb
    have hmW := hj.m
    have HJ := Lib.hid hj
    have HB := Lib.hid hb
    clear hj hb c0 e4
    go_wp2_with (at_delete; refine wpList_delG _ kitI rfl _ _ 96 rfl 107 Tryd.underlying96 optV b T rfl hmW id rfl hid ?_; intro w9 hm9 hg9)
    go_ret
    obtain ⟨k1, k2⟩ := HD.out w2 w9 HJ.out hm9 hg9
    exact ⟨rfl, k1.any, (ChP.of_below HB.out).trans k2 fun i hi => .inl hi⟩
/-- What Of tells where there is none. -/
def jr0 : JR := ⟨0, 0, 0, 0, 0, ⟨0, 0, 0, 0⟩, 0, 0, 0, false, 0⟩
def ofJ (L : List JE) (id : Int) : JR := ((findJ L id).map (·.job)).getD jr0
theorem put14 {W : World} {X : Nat} {z0 z1 z2 z3 z4 z5 z6 z7 z8 z9 z10 z11 z12 z13 : Value} {t : TypeId} (h : W.heap[X]? = some (.cells #[z0, z1, z2, z3, z4, z5, z6, z7, z8, z9, z10, z11, z12, z13] t (0, 0))) (a0 a1 a2 a3 a4 a5 a6 a7 a8 a9 a10 a11 a12 a13 : Value) :
    ((((((((((((((W.setCell ⟨X, 0, none⟩ a0).setCell ⟨X, 1, none⟩ a1).setCell ⟨X, 2, none⟩ a2).setCell ⟨X, 3, none⟩ a3).setCell ⟨X, 4, none⟩ a4).setCell ⟨X, 5, none⟩ a5).setCell ⟨X, 6, none⟩ a6).setCell ⟨X, 7, none⟩ a7).setCell ⟨X, 8, none⟩ a8).setCell ⟨X, 9, none⟩ a9).setCell ⟨X, 10, none⟩ a10).setCell ⟨X, 11, none⟩ a11).setCell ⟨X, 12, none⟩ a12).setCell ⟨X, 13, none⟩ a13).heap[X]? = some (.cells #[a0, a1, a2, a3, a4, a5, a6, a7, a8, a9, a10, a11, a12, a13] t (0, 0)) ∧ Below X W ((((((((((((((W.setCell ⟨X, 0, none⟩ a0).setCell ⟨X, 1, none⟩ a1).setCell ⟨X, 2, none⟩ a2).setCell ⟨X, 3, none⟩ a3).setCell ⟨X, 4, none⟩ a4).setCell ⟨X, 5, none⟩ a5).setCell ⟨X, 6, none⟩ a6).setCell ⟨X, 7, none⟩ a7).setCell ⟨X, 8, none⟩ a8).setCell ⟨X, 9, none⟩ a9).setCell ⟨X, 10, none⟩ a10).setCell ⟨X, 11, none⟩ a11).setCell ⟨X, 12, none⟩ a12).setCell ⟨X, 13, none⟩ a13) := by
  refine ⟨?_, (((((((((((((((Below.refl X W).setCell (Nat.le_refl _) _).setCell (Nat.le_refl _) _).setCell (Nat.le_refl _) _).setCell (Nat.le_refl _) _).setCell (Nat.le_refl _) _).setCell (Nat.le_refl _) _).setCell (Nat.le_refl _) _).setCell (Nat.le_refl _) _).setCell (Nat.le_refl _) _).setCell (Nat.le_refl _) _).setCell (Nat.le_refl _) _).setCell (Nat.le_refl _) _).setCell (Nat.le_refl _) _).setCell (Nat.le_refl _) _)⟩
  simp [World.setCell, Array.getElem?_modify, h]
set_option maxRecDepth 100000 in
set_option maxHeartbeats 1600000 in
theorem of_none (qp : Option Addr) (m : Option Nat) (id : Int) (w : World) (hk : ∀ W, Below w.heap.size w W → Calls Tryd.prog 47 #[.pointer qp] W fun e w' => e = .returned (.map m) ∧ w' = W)
    (hl : ∀ W, Below w.heap.size w W → (Instr.lookup 96 (.map m) (.int .i64 id) true).run Tryd.prog W = .ok (.tuple #[.agg #[.int .i64 0, .int .i64 0, .int .i64 0, .int .i64 0, .int .i64 0, .int .i64 0, .int .i64 0, .int .i64 0, .int .i64 0, .int .i64 0, .int .i64 0, .int .i64 0, .bool false, .int .i64 0, .slice none 0 0], .bool false]) W) :
    Calls Tryd.prog 19 #[.pointer qp, .int .i64 id] w fun e w' => e = .returned (.tuple #[.agg #[.int .i64 0, .int .i64 0, .int .i64 0, .int .i64 0, .int .i64 0, .int .i64 0, .int .i64 0, .int .i64 0, .int .i64 0, .int .i64 0, .int .i64 0, .int .i64 0, .bool false, .int .i64 0], .bool false]) ∧ Below w.heap.size w w' := by
  obtain ⟨W1, hW1⟩ : ∃ W1, w.alloc (.cells #[.int .i64 0, .int .i64 0, .int .i64 0, .int .i64 0, .int .i64 0, .int .i64 0, .int .i64 0, .int .i64 0, .int .i64 0, .int .i64 0, .int .i64 0, .int .i64 0, .bool false, .int .i64 0] 33) = W1 := ⟨_, rfl⟩
  obtain ⟨X, hX⟩ : ∃ X, w.heap.size = X := ⟨_, rfl⟩
  have hb1 : Below w.heap.size w W1 := by rw [← hW1]; exact (Below.refl _ _).alloc (Nat.le_refl _) _
  have hx1 : W1.heap[X]? = some (.cells #[.int .i64 0, .int .i64 0, .int .i64 0, .int .i64 0, .int .i64 0, .int .i64 0, .int .i64 0, .int .i64 0, .int .i64 0, .int .i64 0, .int .i64 0, .int .i64 0, .bool false, .int .i64 0] 33 (0, 0)) := by rw [← hW1, ← hX]; exact heap_alloc_new _ _
  have HK := Lib.hid (hk W1 hb1)
  have HL := hl W1 hb1
  have HB1 := Lib.hid hb1
  have HW1 := Lib.hid hW1
  have HXX := Lib.hid hX
  have hE : ∀ j u, (#[.int .i64 0, .int .i64 0, .int .i64 0, .int .i64 0, .int .i64 0, .int .i64 0, .int .i64 0, .int .i64 0, .int .i64 0, .int .i64 0, .int .i64 0, .int .i64 0, .bool false, .int .i64 0, .slice none 0 0] : Array Value)[j]? = some u → (W1.alloc (.cells #[.int .i64 0, .int .i64 0, .int .i64 0, .int .i64 0, .int .i64 0, .int .i64 0, .int .i64 0, .int .i64 0, .int .i64 0, .int .i64 0, .int .i64 0, .int .i64 0, .bool false, .int .i64 0, .slice none 0 0] 107)).cell? ⟨W1.heap.size, j, none⟩ = some u := fun j u hu => by rw [cell_of_heap (heap_alloc_new W1 _) j]; exact hu
  obtain ⟨W2, hW2⟩ : ∃ W2, W1.alloc (.cells #[.int .i64 0, .int .i64 0, .int .i64 0, .int .i64 0, .int .i64 0, .int .i64 0, .int .i64 0, .int .i64 0, .int .i64 0, .int .i64 0, .int .i64 0, .int .i64 0, .bool false, .int .i64 0, .slice none 0 0] 107) = W2 := ⟨_, rfl⟩
  obtain ⟨Y, hY⟩ : ∃ Y, W1.heap.size = Y := ⟨_, rfl⟩
  have hb2 : Below W1.heap.size W1 W2 := by rw [← hW2]; exact (Below.refl _ _).alloc (Nat.le_refl _) _
  have hx2 : W2.heap[X]? = some (.cells #[.int .i64 0, .int .i64 0, .int .i64 0, .int .i64 0, .int .i64 0, .int .i64 0, .int .i64 0, .int .i64 0, .int .i64 0, .int .i64 0, .int .i64 0, .int .i64 0, .bool false, .int .i64 0] 33 (0, 0)) := (hb2.block X (lt_of_row hx1)).trans hx1
  have hxf := fun j => frozen_of_heap hx2 j
  rw [hW2, hY] at hE
  have HE := Lib.hid hE
  have HX2 := Lib.hid hx2
  have HB2 := Lib.hid hb2
  have HW2 := Lib.hid hW2
  have HYY := Lib.hid hY
  have HXS : Hid (w.heap.size ≤ X) := Lib.hid (by omega)
  clear hk hl hb1 hW1 hX hx1 hE hW2 hY hb2
  go_enter Tryd.func19, Tryd.ntmps19
  go_upto_region 1 with fail
  rw [HW1.out, HXX.out]
  go_wp2_with fail
  refine HK.out.mono ?_
  rintro e w2 ⟨rfl, rfl⟩
  go_upto_region 2 with fail
  rw [HW2.out, HYY.out]
  have e0 := HE.out 0 _ rfl
  have e1 := HE.out 1 _ rfl
  have e2 := HE.out 2 _ rfl
  have e3 := HE.out 3 _ rfl
  have e4 := HE.out 4 _ rfl
  have e5 := HE.out 5 _ rfl
  have e6 := HE.out 6 _ rfl
  have e7 := HE.out 7 _ rfl
  have e8 := HE.out 8 _ rfl
  have e9 := HE.out 9 _ rfl
  have e10 := HE.out 10 _ rfl
  have e11 := HE.out 11 _ rfl
  have e12 := HE.out 12 _ rfl
  have e13 := HE.out 13 _ rfl
  have z0 := cell_of_heap hx2 0
  have z1 := cell_of_heap hx2 1
  have z2 := cell_of_heap hx2 2
  have z3 := cell_of_heap hx2 3
  have z4 := cell_of_heap hx2 4
  have z5 := cell_of_heap hx2 5
  have z6 := cell_of_heap hx2 6
  have z7 := cell_of_heap hx2 7
  have z8 := cell_of_heap hx2 8
  have z9 := cell_of_heap hx2 9
  have z10 := cell_of_heap hx2 10
  have z11 := cell_of_heap hx2 11
  have z12 := cell_of_heap hx2 12
  have z13 := cell_of_heap hx2 13
  simp at z0 z1 z2 z3 z4 z5 z6 z7 z8 z9 z10 z11 z12 z13
  clear hx2
  go_wp2_with fail
  obtain ⟨W3, hW3⟩ : ∃ W3, ((((((((((((((W2.setCell ⟨X, 0, none⟩ (.int .i64 0)).setCell ⟨X, 1, none⟩ (.int .i64 0)).setCell ⟨X, 2, none⟩ (.int .i64 0)).setCell ⟨X, 3, none⟩ (.int .i64 0)).setCell ⟨X, 4, none⟩ (.int .i64 0)).setCell ⟨X, 5, none⟩ (.int .i64 0)).setCell ⟨X, 6, none⟩ (.int .i64 0)).setCell ⟨X, 7, none⟩ (.int .i64 0)).setCell ⟨X, 8, none⟩ (.int .i64 0)).setCell ⟨X, 9, none⟩ (.int .i64 0)).setCell ⟨X, 10, none⟩ (.int .i64 0)).setCell ⟨X, 11, none⟩ (.int .i64 0)).setCell ⟨X, 12, none⟩ (.bool false)).setCell ⟨X, 13, none⟩ (.int .i64 0)) = W3 := ⟨_, rfl⟩
  rw [hW3]
  have h3 := put14 HX2.out (.int .i64 0) (.int .i64 0) (.int .i64 0) (.int .i64 0) (.int .i64 0) (.int .i64 0) (.int .i64 0) (.int .i64 0) (.int .i64 0) (.int .i64 0) (.int .i64 0) (.int .i64 0) (.bool false) (.int .i64 0)
  rw [hW3] at h3
  clear hW3 e0 z0 e1 z1 e2 z2 e3 z3 e4 z4 e5 z5 e6 z6 e7 z7 e8 z8 e9 z9 e10 z10 e11 z11 e12 z12 e13 z13
  obtain ⟨hx3, hb3⟩ := h3
  have y0 := cell_of_heap hx3 0
  have y1 := cell_of_heap hx3 1
  have y2 := cell_of_heap hx3 2
  have y3 := cell_of_heap hx3 3
  have y4 := cell_of_heap hx3 4
  have y5 := cell_of_heap hx3 5
  have y6 := cell_of_heap hx3 6
  have y7 := cell_of_heap hx3 7
  have y8 := cell_of_heap hx3 8
  have y9 := cell_of_heap hx3 9
  have y10 := cell_of_heap hx3 10
  have y11 := cell_of_heap hx3 11
  have y12 := cell_of_heap hx3 12
  have y13 := cell_of_heap hx3 13
  simp at y0 y1 y2 y3 y4 y5 y6 y7 y8 y9 y10 y11 y12 y13
  refine bodyPost_ret (v := .tuple #[.agg #[.int .i64 0, .int .i64 0, .int .i64 0, .int .i64 0, .int .i64 0, .int .i64 0, .int .i64 0, .int .i64 0, .int .i64 0, .int .i64 0, .int .i64 0, .int .i64 0, .bool false, .int .i64 0], .bool false]) (by simp [results, Tryd.results19, go_sem, y0, y1, y2, y3, y4, y5, y6, y7, y8, y9, y10, y11, y12, y13]) rfl ?_
  refine ⟨rfl, ?_⟩
  have h1 := HB1.out.size
  have hb12 := HB1.out.trans (HB2.out.mono h1)
  exact hb12.trans (hb3.mono HXS.out)
set_option maxRecDepth 100000 in
set_option maxHeartbeats 1600000 in
theorem of_some (qp : Option Addr) (m : Option Nat) (id : Int) (w : World) (y : EN) (hk : ∀ W, Below w.heap.size w W → Calls Tryd.prog 47 #[.pointer qp] W fun e w' => e = .returned (.map m) ∧ w' = W)
    (hl : ∀ W, Below w.heap.size w W → (Instr.lookup 96 (.map m) (.int .i64 id) true).run Tryd.prog W = .ok (.tuple #[.agg #[.int .i64 y.job.id, .int .i64 y.job.tenant, .int .i64 y.job.cell, .int .i64 y.job.band, .int .i64 y.job.tasks, .int .i64 y.job.need.a, .int .i64 y.job.need.b, .int .i64 y.job.need.c, .int .i64 y.job.need.d, .int .i64 y.job.first, .int .i64 y.job.windows, .int .i64 y.job.budget, .bool y.job.env, .int .i64 y.job.set, .slice (some ⟨y.g, 0, none⟩) y.n y.n], .bool true]) W) :
    Calls Tryd.prog 19 #[.pointer qp, .int .i64 id] w fun e w' => e = .returned (.tuple #[.agg #[.int .i64 y.job.id, .int .i64 y.job.tenant, .int .i64 y.job.cell, .int .i64 y.job.band, .int .i64 y.job.tasks, .int .i64 y.job.need.a, .int .i64 y.job.need.b, .int .i64 y.job.need.c, .int .i64 y.job.need.d, .int .i64 y.job.first, .int .i64 y.job.windows, .int .i64 y.job.budget, .bool y.job.env, .int .i64 y.job.set], .bool true]) ∧ Below w.heap.size w w' := by
  obtain ⟨W1, hW1⟩ : ∃ W1, w.alloc (.cells #[.int .i64 0, .int .i64 0, .int .i64 0, .int .i64 0, .int .i64 0, .int .i64 0, .int .i64 0, .int .i64 0, .int .i64 0, .int .i64 0, .int .i64 0, .int .i64 0, .bool false, .int .i64 0] 33) = W1 := ⟨_, rfl⟩
  obtain ⟨X, hX⟩ : ∃ X, w.heap.size = X := ⟨_, rfl⟩
  have hb1 : Below w.heap.size w W1 := by rw [← hW1]; exact (Below.refl _ _).alloc (Nat.le_refl _) _
  have hx1 : W1.heap[X]? = some (.cells #[.int .i64 0, .int .i64 0, .int .i64 0, .int .i64 0, .int .i64 0, .int .i64 0, .int .i64 0, .int .i64 0, .int .i64 0, .int .i64 0, .int .i64 0, .int .i64 0, .bool false, .int .i64 0] 33 (0, 0)) := by rw [← hW1, ← hX]; exact heap_alloc_new _ _
  have HK := Lib.hid (hk W1 hb1)
  have HL := hl W1 hb1
  have HB1 := Lib.hid hb1
  have HW1 := Lib.hid hW1
  have HXX := Lib.hid hX
  have hE : ∀ j u, (#[.int .i64 y.job.id, .int .i64 y.job.tenant, .int .i64 y.job.cell, .int .i64 y.job.band, .int .i64 y.job.tasks, .int .i64 y.job.need.a, .int .i64 y.job.need.b, .int .i64 y.job.need.c, .int .i64 y.job.need.d, .int .i64 y.job.first, .int .i64 y.job.windows, .int .i64 y.job.budget, .bool y.job.env, .int .i64 y.job.set, .slice (some ⟨y.g, 0, none⟩) y.n y.n] : Array Value)[j]? = some u → (W1.alloc (.cells #[.int .i64 y.job.id, .int .i64 y.job.tenant, .int .i64 y.job.cell, .int .i64 y.job.band, .int .i64 y.job.tasks, .int .i64 y.job.need.a, .int .i64 y.job.need.b, .int .i64 y.job.need.c, .int .i64 y.job.need.d, .int .i64 y.job.first, .int .i64 y.job.windows, .int .i64 y.job.budget, .bool y.job.env, .int .i64 y.job.set, .slice (some ⟨y.g, 0, none⟩) y.n y.n] 107)).cell? ⟨W1.heap.size, j, none⟩ = some u := fun j u hu => by rw [cell_of_heap (heap_alloc_new W1 _) j]; exact hu
  obtain ⟨W2, hW2⟩ : ∃ W2, W1.alloc (.cells #[.int .i64 y.job.id, .int .i64 y.job.tenant, .int .i64 y.job.cell, .int .i64 y.job.band, .int .i64 y.job.tasks, .int .i64 y.job.need.a, .int .i64 y.job.need.b, .int .i64 y.job.need.c, .int .i64 y.job.need.d, .int .i64 y.job.first, .int .i64 y.job.windows, .int .i64 y.job.budget, .bool y.job.env, .int .i64 y.job.set, .slice (some ⟨y.g, 0, none⟩) y.n y.n] 107) = W2 := ⟨_, rfl⟩
  obtain ⟨Y, hY⟩ : ∃ Y, W1.heap.size = Y := ⟨_, rfl⟩
  have hb2 : Below W1.heap.size W1 W2 := by rw [← hW2]; exact (Below.refl _ _).alloc (Nat.le_refl _) _
  have hx2 : W2.heap[X]? = some (.cells #[.int .i64 0, .int .i64 0, .int .i64 0, .int .i64 0, .int .i64 0, .int .i64 0, .int .i64 0, .int .i64 0, .int .i64 0, .int .i64 0, .int .i64 0, .int .i64 0, .bool false, .int .i64 0] 33 (0, 0)) := (hb2.block X (lt_of_row hx1)).trans hx1
  have hxf := fun j => frozen_of_heap hx2 j
  rw [hW2, hY] at hE
  have HE := Lib.hid hE
  have HX2 := Lib.hid hx2
  have HB2 := Lib.hid hb2
  have HW2 := Lib.hid hW2
  have HYY := Lib.hid hY
  have HXS : Hid (w.heap.size ≤ X) := Lib.hid (by omega)
  clear hk hl hb1 hW1 hX hx1 hE hW2 hY hb2
  go_enter Tryd.func19, Tryd.ntmps19
  go_upto_region 1 with fail
  rw [HW1.out, HXX.out]
  go_wp2_with fail
  refine HK.out.mono ?_
  rintro e w2 ⟨rfl, rfl⟩
  go_upto_region 2 with fail
  rw [HW2.out, HYY.out]
  have e0 := HE.out 0 _ rfl
  have e1 := HE.out 1 _ rfl
  have e2 := HE.out 2 _ rfl
  have e3 := HE.out 3 _ rfl
  have e4 := HE.out 4 _ rfl
  have e5 := HE.out 5 _ rfl
  have e6 := HE.out 6 _ rfl
  have e7 := HE.out 7 _ rfl
  have e8 := HE.out 8 _ rfl
  have e9 := HE.out 9 _ rfl
  have e10 := HE.out 10 _ rfl
  have e11 := HE.out 11 _ rfl
  have e12 := HE.out 12 _ rfl
  have e13 := HE.out 13 _ rfl
  have z0 := cell_of_heap hx2 0
  have z1 := cell_of_heap hx2 1
  have z2 := cell_of_heap hx2 2
  have z3 := cell_of_heap hx2 3
  have z4 := cell_of_heap hx2 4
  have z5 := cell_of_heap hx2 5
  have z6 := cell_of_heap hx2 6
  have z7 := cell_of_heap hx2 7
  have z8 := cell_of_heap hx2 8
  have z9 := cell_of_heap hx2 9
  have z10 := cell_of_heap hx2 10
  have z11 := cell_of_heap hx2 11
  have z12 := cell_of_heap hx2 12
  have z13 := cell_of_heap hx2 13
  simp at z0 z1 z2 z3 z4 z5 z6 z7 z8 z9 z10 z11 z12 z13
  clear hx2
  go_wp2_with fail
  obtain ⟨W3, hW3⟩ : ∃ W3, ((((((((((((((W2.setCell ⟨X, 0, none⟩ (.int .i64 y.job.id)).setCell ⟨X, 1, none⟩ (.int .i64 y.job.tenant)).setCell ⟨X, 2, none⟩ (.int .i64 y.job.cell)).setCell ⟨X, 3, none⟩ (.int .i64 y.job.band)).setCell ⟨X, 4, none⟩ (.int .i64 y.job.tasks)).setCell ⟨X, 5, none⟩ (.int .i64 y.job.need.a)).setCell ⟨X, 6, none⟩ (.int .i64 y.job.need.b)).setCell ⟨X, 7, none⟩ (.int .i64 y.job.need.c)).setCell ⟨X, 8, none⟩ (.int .i64 y.job.need.d)).setCell ⟨X, 9, none⟩ (.int .i64 y.job.first)).setCell ⟨X, 10, none⟩ (.int .i64 y.job.windows)).setCell ⟨X, 11, none⟩ (.int .i64 y.job.budget)).setCell ⟨X, 12, none⟩ (.bool y.job.env)).setCell ⟨X, 13, none⟩ (.int .i64 y.job.set)) = W3 := ⟨_, rfl⟩
  rw [hW3]
  have h3 := put14 HX2.out (.int .i64 y.job.id) (.int .i64 y.job.tenant) (.int .i64 y.job.cell) (.int .i64 y.job.band) (.int .i64 y.job.tasks) (.int .i64 y.job.need.a) (.int .i64 y.job.need.b) (.int .i64 y.job.need.c) (.int .i64 y.job.need.d) (.int .i64 y.job.first) (.int .i64 y.job.windows) (.int .i64 y.job.budget) (.bool y.job.env) (.int .i64 y.job.set)
  rw [hW3] at h3
  clear hW3 e0 z0 e1 z1 e2 z2 e3 z3 e4 z4 e5 z5 e6 z6 e7 z7 e8 z8 e9 z9 e10 z10 e11 z11 e12 z12 e13 z13
  obtain ⟨hx3, hb3⟩ := h3
  have y0 := cell_of_heap hx3 0
  have y1 := cell_of_heap hx3 1
  have y2 := cell_of_heap hx3 2
  have y3 := cell_of_heap hx3 3
  have y4 := cell_of_heap hx3 4
  have y5 := cell_of_heap hx3 5
  have y6 := cell_of_heap hx3 6
  have y7 := cell_of_heap hx3 7
  have y8 := cell_of_heap hx3 8
  have y9 := cell_of_heap hx3 9
  have y10 := cell_of_heap hx3 10
  have y11 := cell_of_heap hx3 11
  have y12 := cell_of_heap hx3 12
  have y13 := cell_of_heap hx3 13
  simp at y0 y1 y2 y3 y4 y5 y6 y7 y8 y9 y10 y11 y12 y13
  refine bodyPost_ret (v := .tuple #[.agg #[.int .i64 y.job.id, .int .i64 y.job.tenant, .int .i64 y.job.cell, .int .i64 y.job.band, .int .i64 y.job.tasks, .int .i64 y.job.need.a, .int .i64 y.job.need.b, .int .i64 y.job.need.c, .int .i64 y.job.need.d, .int .i64 y.job.first, .int .i64 y.job.windows, .int .i64 y.job.budget, .bool y.job.env, .int .i64 y.job.set], .bool true]) (by simp [results, Tryd.results19, go_sem, y0, y1, y2, y3, y4, y5, y6, y7, y8, y9, y10, y11, y12, y13]) rfl ?_
  refine ⟨rfl, ?_⟩
  have h1 := HB1.out.size
  have hb12 := HB1.out.trans (HB2.out.mono h1)
  exact hb12.trans (hb3.mono HXS.out)
theorem JbW.of_c {w : World} {P : Nat → Prop} {q : Nat} {L : List JE} (h : JbW w P q L) {id : Int} (hid : i64 id) :
    Calls Tryd.prog 19 #[.pointer (some ⟨q, 0, none⟩), .int .i64 id] w fun r w' => r = .returned (.tuple #[.agg #[.int .i64 ((ofJ L id)).id, .int .i64 ((ofJ L id)).tenant, .int .i64 ((ofJ L id)).cell, .int .i64 ((ofJ L id)).band, .int .i64 ((ofJ L id)).tasks, .int .i64 ((ofJ L id)).need.a, .int .i64 ((ofJ L id)).need.b, .int .i64 ((ofJ L id)).need.c, .int .i64 ((ofJ L id)).need.d, .int .i64 ((ofJ L id)).first, .int .i64 ((ofJ L id)).windows, .int .i64 ((ofJ L id)).budget, .bool ((ofJ L id)).env, .int .i64 ((ofJ L id)).set], .bool (findJ L id).isSome]) ∧ Below w.heap.size w w' := by
  obtain ⟨b, T, bl, h⟩ := h
  cases e : findJ L id with
  | none =>
    have := of_none (some ⟨q, 0, none⟩) (some b) id w (fun W hb => jknown_c q b W (h.on hb).box) (fun W hb => (h.on hb).lk hid (x := none) (by rw [e]; rfl) (by rw [e]; rfl))
    unfold ofJ; rw [e]; exact this
  | some x =>
    have := of_some (some ⟨q, 0, none⟩) (some b) id w (enOf bl x) (fun W hb => jknown_c q b W (h.on hb).box) (fun W hb => (h.on hb).lk hid (x := some (enOf bl x)) (by rw [e]; rfl) (by rw [e]; rfl))
    unfold ofJ; rw [e]; exact this
theorem jof_nil (w : World) {id : Int} (hid : i64 id) :
    Calls Tryd.prog 19 #[.pointer none, .int .i64 id] w fun r w' => r = .returned (.tuple #[.agg #[.int .i64 jr0.id, .int .i64 jr0.tenant, .int .i64 jr0.cell, .int .i64 jr0.band, .int .i64 jr0.tasks, .int .i64 jr0.need.a, .int .i64 jr0.need.b, .int .i64 jr0.need.c, .int .i64 jr0.need.d, .int .i64 jr0.first, .int .i64 jr0.windows, .int .i64 jr0.budget, .bool jr0.env, .int .i64 jr0.set], .bool false]) ∧ Below w.heap.size w w' :=
  of_none none none id w (fun W _ => jknown_nil W) (fun W _ => lk_nil W hid)
theorem JbW.drop_c {w : World} {P : Nat → Prop} {q : Nat} {L : List JE} (s : Nat → Addr) (h : JbW w P q L) (hs : SentP s P w) {id : Int} (hid : i64 id) :
    Calls Tryd.prog 9 #[.pointer (some ⟨q, 0, none⟩), .int .i64 id] w fun r w' => r = .returned (errV s (dropJ L id).2) ∧ JbW w' P q (dropJ L id).1 ∧ ChP P w w' := by
  obtain ⟨b, T, bl, h⟩ := h
  exact h.drop_c s hs hid
theorem jdrop_nil (s : Nat → Addr) (w : World) (hs : Sent s w) (id : Int) :
    Calls Tryd.prog 9 #[.pointer none, .int .i64 id] w fun r w' => r = .returned (errV s 2) ∧ Below w.heap.size w w' := by
  obtain ⟨_, _, _, e1⟩ := errs_at s hs w (Below.refl _ _)
  rw [errA s 2 (by omega)]
  clear hs
  go_enter Tryd.func9, Tryd.ntmps9
  go_wp2_with fail
  go_ret
  exact ⟨rfl, Below.refl _ _⟩
end
end Go.Proofs.YtbfbhlpibclccaaDoor
