/- The program's table of jobs by contracts: Add. Conditions: the table lies in memory as its map has it; the sentinels lie where the program's text lays them. -/
import Derived.Test.YtbfbhlpibclccaaDoorJbI
import Derived.Test.YtbfbhlpibclccaaDoorJbR
import Derived.Test.YtbfbhlpibclccaaDoorRgo
namespace Go.Proofs.YtbfbhlpibclccaaDoor
open Go Go.RowKit Go.Maps

/-- An entry of a map: one operation of a region that draws its order. -/
theorem opwp_putG {P : Program} {k : TypeId} {κ α : Type} [DecidableEq κ] {kv : κ → Value} {kl : κ → Lit} {ok : κ → Prop} (K : KeyKit P k kv kl ok) {o : Oper} {a : Act} {w : World} {Q : Exit → Act → World → Prop} {Kc : Act → World → Prop} {ys : Tmp → Option Bool}
    (hg : o.guard = none) (m x v : Operand) (t : TypeId) (hop : o.op = Op.mapUpdate t m x v) (e : TypeId) (ht : P.underlying t = some (.map k e))
    (enc : α → Value) (b : Nat) (T : List (κ × α)) (hm : a.eval m = .map (some b)) (h : MapG P k kl ok enc w b T) (hn : T.length < maxLen) (y : κ) (hx : a.eval x = kv y) (hy : ok y) (u : α) (hv : a.eval v = enc u)
    (hK : ∀ w', MapG P k kl ok enc w' b (enter T y u) → w.grownBy w' (some b) → Kc (a.put o.dst undef) w') : if Region.wanted o ys = true then Oper.wp P o a w Kc Q else Kc (a.put o.dst undef) w := by
  obtain ⟨D, hown, hme⟩ := h
  rw [if_pos (by simp [Region.wanted, hg])]
  obtain ⟨w', hrun, r1, r2⟩ := hown.update K.keyed ht hn (val := enc u) (d := .held (enc u)) (ps := []) (K.of hy) rfl
  unfold Oper.wp
  simp [execOp, hop, hm, hx, hv, hrun, Result.andThen]
  have hme' := hme.put K (hown.tidy K.keyed) hy u
  exact hK w' ⟨_, own_fitG r1 (Nat.le_of_eq hme'.size), hme'⟩ r2
section
variable {w : World} {P : Nat → Prop} {q b : Nat} {T : List (Int × Option EN)} {bl : Int → Nat} {L : List JE}
/-- A job comes. -/
theorem JbP.added (h : JbP w P q b T bl L) {j : JR} {n : Nat} (hno : findJ L j.id = none) (hgd : GJ (insJ ⟨j, List.replicate n (-1)⟩ L)) {w6 w9 : World} {g : Nat} (hb : Below w.heap.size w w6) (hgw : w.heap.size ≤ g)
    (ho : OwnE encI 3 w6 0 (.slice (some ⟨g, 0, none⟩) n n) (List.replicate n (-1))) (hm : JobsAt w9 b (enter T j.id (some ⟨j, g, n⟩))) (hg : w6.grownBy w9 (some b)) :
    JbP w9 (fun k => P k ∨ k = g) q b (enter T j.id (some ⟨j, g, n⟩)) (fun i => if i = j.id then g else bl i) (insJ ⟨j, List.replicate n (-1)⟩ L) ∧ ChP P w w9 := by
  have h6 := h.on hb
  have keep : ∀ k, P k → k ≠ b → w9.heap[k]? = w6.heap[k]? := fun k hk hne => hg.block k (h6.old k hk) (by simpa using hne)
  have hold : ∀ k, P k → k ≠ g := fun k hk => by have := h.old k hk; omega
  have hg6 : g < w6.heap.size := by obtain ⟨cur, hh, _⟩ := ownE_raw ho; exact lt_of_row hh
  have hgb : g ≠ b := (hold b h.pb).symm
  have hne : ∀ e ∈ L, e.job.id ≠ j.id := findJ_none.1 hno
  have hmem : ∀ e ∈ insJ ⟨j, List.replicate n (-1)⟩ L, e = ⟨j, List.replicate n (-1)⟩ ∨ e ∈ L := fun e he => insJ_mem.1 he
  refine ⟨⟨(keep q h.pq h.qb).trans h6.box, hm, fun i => ?_, fun e he => ?_, fun e he f hf hef => ?_, hgd, .inl h.pq, .inl h.pb, fun e he => ?_, fun k hk => ?_⟩, (ChP.of_below hb).grown hg (fun k e => .inl (by cases e; exact h.pb))⟩
  · have hf := findJ_ins h.good (x := ⟨j, List.replicate n (-1)⟩) hno hgd i
    rw [look_enter, hf]
    by_cases hi : i = j.id
    · rw [if_pos hi, if_pos hi]
      simp [enOf]
    · rw [if_neg hi, if_neg hi, h.ents]
      cases hfi : findJ L i with
      | none => rfl
      | some e =>
        simp only [Option.map_some]
        simp [enOf, hne e (findJ_mem h.good hfi)]
  · rcases hmem e he with rfl | he'
    · simp only [if_true, List.length_replicate]
      refine ho.same fun k hk => ?_
      simp [Value.ownBlock] at hk; subst hk
      exact hg.block _ hg6 (by simpa using hgb)
    · simp only [if_neg (hne e he')]
      refine (h6.rows e he').same fun k hk => ?_
      simp [Value.ownBlock] at hk; subst hk
      exact keep _ (h.pr e he') (h.rb he')
  · rcases hmem e he with rfl | he'
    · rcases hmem f hf with rfl | hf'
      · rfl
      · simp only [if_true, if_neg (hne f hf')] at hef
        exact absurd hef.symm (hold _ (h.pr f hf'))
    · rcases hmem f hf with rfl | hf'
      · simp only [if_true, if_neg (hne e he')] at hef
        exact absurd hef (hold _ (h.pr e he'))
      · simp only [if_neg (hne e he'), if_neg (hne f hf')] at hef
        exact h.inj e he' f hf' hef
  · rcases hmem e he with rfl | he'
    · simp only [if_true]; exact .inr trivial
    · simp only [if_neg (hne e he')]; exact .inl (h.pr e he')
  · rcases hk with hk | rfl
    · exact Nat.lt_of_lt_of_le (h6.old k hk) hg.size
    · exact Nat.lt_of_lt_of_le hg6 hg.size
/-- The sentinels that Add tells of. -/
theorem adds_at (s : Nat → Addr) {w : World} (hs : Sent s w) (W : World) (hb : Below w.heap.size w W) : W.cell? ⟨1, 0, none⟩ = some (.iface 201 (.pointer (some (s 0)))) ∧ W.cell? ⟨5, 0, none⟩ = some (.iface 201 (.pointer (some (s 5)))) ∧ W.cell? ⟨6, 0, none⟩ = some (.iface 201 (.pointer (some (s 6)))) := by
  have hs' := hs.below hb (Nat.le_refl _)
  have e0 := hs'.cell 0 (by omega)
  have e5 := hs'.cell 5 (by omega)
  have e6 := hs'.cell 6 (by omega)
  simp only [gnum, List.getD_cons_zero, List.getD_cons_succ] at e0 e5 e6
  exact ⟨e0, e5, e6⟩
/-- What Add looks at: its own job in block X, and the table's map. -/
def AddS (q b X : Nat) (j : JR) (W : World) : Prop := W.cell? ⟨q, 0, none⟩ = some (.map (some b)) ∧ W.cell? ⟨X, 0, none⟩ = some (.int .i64 j.id) ∧ W.cell? ⟨X, 1, none⟩ = some (.int .i64 j.tenant) ∧ W.cell? ⟨X, 2, none⟩ = some (.int .i64 j.cell) ∧ W.cell? ⟨X, 3, none⟩ = some (.int .i64 j.band) ∧ W.cell? ⟨X, 4, none⟩ = some (.int .i64 j.tasks) ∧ W.cell? ⟨X, 5, none⟩ = some (.int .i64 j.need.a) ∧ W.cell? ⟨X, 6, none⟩ = some (.int .i64 j.need.b) ∧ W.cell? ⟨X, 7, none⟩ = some (.int .i64 j.need.c) ∧ W.cell? ⟨X, 8, none⟩ = some (.int .i64 j.need.d) ∧ W.cell? ⟨X, 9, none⟩ = some (.int .i64 j.first) ∧ W.cell? ⟨X, 10, none⟩ = some (.int .i64 j.windows) ∧ W.cell? ⟨X, 11, none⟩ = some (.int .i64 j.budget) ∧ W.cell? ⟨X, 12, none⟩ = some (.bool j.env) ∧ W.cell? ⟨X, 13, none⟩ = some (.int .i64 j.set)
set_option maxRecDepth 100000 in
set_option maxHeartbeats 6400000 in
theorem jadd_bad (s : Nat → Addr) (h : JbP w P q b T bl L) (hs : SentP s P w) {j : JR} (hg : goodJ j = false) :
    Calls Tryd.prog 14 #[.pointer (some ⟨q, 0, none⟩), .agg #[.int .i64 j.id, .int .i64 j.tenant, .int .i64 j.cell, .int .i64 j.band, .int .i64 j.tasks, .int .i64 j.need.a, .int .i64 j.need.b, .int .i64 j.need.c, .int .i64 j.need.d, .int .i64 j.first, .int .i64 j.windows, .int .i64 j.budget, .bool j.env, .int .i64 j.set]] w fun r w' => r = .returned (errV s 1) ∧ Below w.heap.size w w' := by
  obtain ⟨X, hX⟩ : ∃ X, w.heap.size = X := ⟨_, rfl⟩
  obtain ⟨W1, hW1⟩ : ∃ W1, w.alloc (.cells #[.int .i64 j.id, .int .i64 j.tenant, .int .i64 j.cell, .int .i64 j.band, .int .i64 j.tasks, .int .i64 j.need.a, .int .i64 j.need.b, .int .i64 j.need.c, .int .i64 j.need.d, .int .i64 j.first, .int .i64 j.windows, .int .i64 j.budget, .bool j.env, .int .i64 j.set] 33) = W1 := ⟨_, rfl⟩
  have hb1 : Below w.heap.size w W1 := by rw [← hW1]; exact (Below.refl _ _).alloc (Nat.le_refl _) _
  have hx1 : W1.heap[X]? = some (.cells #[.int .i64 j.id, .int .i64 j.tenant, .int .i64 j.cell, .int .i64 j.band, .int .i64 j.tasks, .int .i64 j.need.a, .int .i64 j.need.b, .int .i64 j.need.c, .int .i64 j.need.d, .int .i64 j.first, .int .i64 j.windows, .int .i64 j.budget, .bool j.env, .int .i64 j.set] 33 (0, 0)) := by rw [← hW1, ← hX]; exact heap_alloc_new _ _
  have HON : Hid (∀ W, Below W1.heap.size W1 W → JbP W P q b T bl L ∧ AddS q b X j W ∧ Sent s W) := Lib.hid fun W hb => by
    have hx := (hb.block X (lt_of_row hx1)).trans hx1
    have hj := (h.on hb1).on hb
    exact ⟨hj, ⟨cell_of_heap hj.box 0, cell_of_heap hx 0, cell_of_heap hx 1, cell_of_heap hx 2, cell_of_heap hx 3, cell_of_heap hx 4, cell_of_heap hx 5, cell_of_heap hx 6, cell_of_heap hx 7, cell_of_heap hx 8, cell_of_heap hx 9, cell_of_heap hx 10, cell_of_heap hx 11, cell_of_heap hx 12, cell_of_heap hx 13⟩, (hs.here.below hb1 (Nat.le_refl _)).below hb (Nat.le_refl _)⟩
  have HG := Lib.hid (jgood_c s j W1 (hs.here.below hb1 (Nat.le_refl _)))
  obtain ⟨c0, x0, x1, x2, x3, x4, x5, x6, x7, x8, x9, x10, x11, x12, x13⟩ := (HON.out W1 (Below.refl _ _)).2.1
  have HW1 := Lib.hid hW1; have HX := Lib.hid hX; have HB1 := Lib.hid hb1
  have HE := Lib.hid (fun W hb => adds_at s hs.here W hb)
  rw [hg] at HG
  rw [errA s 1 (by omega)]
  clear h hs hg hX hW1 hb1 hx1
  go_enter Tryd.func14, Tryd.ntmps14
  go_upto_region 1 with fail
  rw [HW1.out, HX.out]
  go_wp2_with fail
  refine HG.out.mono ?_
  rintro e w2 ⟨rfl, hb2⟩
  obtain ⟨hj2, ha2, hs2⟩ := HON.out w2 hb2
  have HB2 := Lib.hid hb2
  have HJ2 := Lib.hid hj2
  have HS2 := Lib.hid hs2
  clear c0 x0 x1 x2 x3 x4 x5 x6 x7 x8 x9 x10 x11 x12 x13 hb2 hj2 hs2
  obtain ⟨e0, -, -⟩ := HE.out w2 (HB1.out.trans (HB2.out.mono HB1.out.size))
  clear ha2
  go_wp2_with fail
  go_ret
  exact ⟨rfl, HB1.out.trans (HB2.out.mono HB1.out.size)⟩
set_option maxRecDepth 100000 in
set_option maxHeartbeats 6400000 in
theorem jadd_dup (s : Nat → Addr) (h : JbP w P q b T bl L) (hs : SentP s P w) {j : JR} (hg : goodJ j = true) (hf : (findJ L j.id).isSome = true) :
    Calls Tryd.prog 14 #[.pointer (some ⟨q, 0, none⟩), .agg #[.int .i64 j.id, .int .i64 j.tenant, .int .i64 j.cell, .int .i64 j.band, .int .i64 j.tasks, .int .i64 j.need.a, .int .i64 j.need.b, .int .i64 j.need.c, .int .i64 j.need.d, .int .i64 j.first, .int .i64 j.windows, .int .i64 j.budget, .bool j.env, .int .i64 j.set]] w fun r w' => r = .returned (errV s 6) ∧ Below w.heap.size w w' := by
  obtain ⟨X, hX⟩ : ∃ X, w.heap.size = X := ⟨_, rfl⟩
  obtain ⟨W1, hW1⟩ : ∃ W1, w.alloc (.cells #[.int .i64 j.id, .int .i64 j.tenant, .int .i64 j.cell, .int .i64 j.band, .int .i64 j.tasks, .int .i64 j.need.a, .int .i64 j.need.b, .int .i64 j.need.c, .int .i64 j.need.d, .int .i64 j.first, .int .i64 j.windows, .int .i64 j.budget, .bool j.env, .int .i64 j.set] 33) = W1 := ⟨_, rfl⟩
  have hb1 : Below w.heap.size w W1 := by rw [← hW1]; exact (Below.refl _ _).alloc (Nat.le_refl _) _
  have hx1 : W1.heap[X]? = some (.cells #[.int .i64 j.id, .int .i64 j.tenant, .int .i64 j.cell, .int .i64 j.band, .int .i64 j.tasks, .int .i64 j.need.a, .int .i64 j.need.b, .int .i64 j.need.c, .int .i64 j.need.d, .int .i64 j.first, .int .i64 j.windows, .int .i64 j.budget, .bool j.env, .int .i64 j.set] 33 (0, 0)) := by rw [← hW1, ← hX]; exact heap_alloc_new _ _
  have HON : Hid (∀ W, Below W1.heap.size W1 W → JbP W P q b T bl L ∧ AddS q b X j W ∧ Sent s W) := Lib.hid fun W hb => by
    have hx := (hb.block X (lt_of_row hx1)).trans hx1
    have hj := (h.on hb1).on hb
    exact ⟨hj, ⟨cell_of_heap hj.box 0, cell_of_heap hx 0, cell_of_heap hx 1, cell_of_heap hx 2, cell_of_heap hx 3, cell_of_heap hx 4, cell_of_heap hx 5, cell_of_heap hx 6, cell_of_heap hx 7, cell_of_heap hx 8, cell_of_heap hx 9, cell_of_heap hx 10, cell_of_heap hx 11, cell_of_heap hx 12, cell_of_heap hx 13⟩, (hs.here.below hb1 (Nat.le_refl _)).below hb (Nat.le_refl _)⟩
  have HG := Lib.hid (jgood_c s j W1 (hs.here.below hb1 (Nat.le_refl _)))
  obtain ⟨c0, x0, x1, x2, x3, x4, x5, x6, x7, x8, x9, x10, x11, x12, x13⟩ := (HON.out W1 (Below.refl _ _)).2.1
  have HW1 := Lib.hid hW1; have HX := Lib.hid hX; have HB1 := Lib.hid hb1
  have HE := Lib.hid (fun W hb => adds_at s hs.here W hb)
  have hid : i64 j.id := by have := (goodJ_nums hg).1; unfold i64; omega
  have HH := Lib.hid (fun W (hb : Below W1.heap.size W1 W) => jhas_c (HON.out W hb).1 hid)
  rw [hf] at HH
  rw [hg] at HG
  rw [errA s 6 (by omega)]
  clear h hs hg hX hW1 hb1 hx1 hf hid
  go_enter Tryd.func14, Tryd.ntmps14
  go_upto_region 1 with fail
  rw [HW1.out, HX.out]
  go_wp2_with fail
  refine HG.out.mono ?_
  rintro e w2 ⟨rfl, hb2⟩
  obtain ⟨hj2, ha2, hs2⟩ := HON.out w2 hb2
  have HB2 := Lib.hid hb2
  have HJ2 := Lib.hid hj2
  have HS2 := Lib.hid hs2
  clear c0 x0 x1 x2 x3 x4 x5 x6 x7 x8 x9 x10 x11 x12 x13 hb2 hj2 hs2
  obtain ⟨c0, x0, x1, x2, x3, x4, x5, x6, x7, x8, x9, x10, x11, x12, x13⟩ := ha2
  have S2 : Hid (AddS q b X j w2) := Lib.hid ⟨c0, x0, x1, x2, x3, x4, x5, x6, x7, x8, x9, x10, x11, x12, x13⟩
  have HA : Hid (∀ W, Below w2.heap.size w2 W → AddS q b X j W) := Lib.hid fun W hb => (HON.out W (HB2.out.trans (hb.mono HB2.out.size))).2.1
  have HHC : Hid (∀ W, (W = w2 ∨ W = w2.drew) → Calls Tryd.prog 42 #[.map (some b), .int .i64 j.id] W fun e w' => e = .returned (.bool true) ∧ Below W.heap.size W w' ∧ Below w2.heap.size w2 w') := Lib.hid fun W hW => by
    rcases hW with rfl | rfl
    · exact (HH.out _ HB2.out).mono fun _ _ ⟨k1, k2⟩ => ⟨k1, k2, k2⟩
    · exact (HH.out _ HB2.out.drew).mono fun _ _ ⟨k1, k2⟩ => ⟨k1, k2, (Below.refl _ _).drew.trans k2⟩
  unfold AddS at S2 HA
  go_upto_region 5 with fail
  go_region_held3 (fun W => W.cell? ⟨q, 0, none⟩ = some (.map (some b)) ∧ W.cell? ⟨X, 0, none⟩ = some (.int .i64 j.id) ∧ W.cell? ⟨X, 1, none⟩ = some (.int .i64 j.tenant) ∧ W.cell? ⟨X, 2, none⟩ = some (.int .i64 j.cell) ∧ W.cell? ⟨X, 3, none⟩ = some (.int .i64 j.band) ∧ W.cell? ⟨X, 4, none⟩ = some (.int .i64 j.tasks) ∧ W.cell? ⟨X, 5, none⟩ = some (.int .i64 j.need.a) ∧ W.cell? ⟨X, 6, none⟩ = some (.int .i64 j.need.b) ∧ W.cell? ⟨X, 7, none⟩ = some (.int .i64 j.need.c) ∧ W.cell? ⟨X, 8, none⟩ = some (.int .i64 j.need.d) ∧ W.cell? ⟨X, 9, none⟩ = some (.int .i64 j.first) ∧ W.cell? ⟨X, 10, none⟩ = some (.int .i64 j.windows) ∧ W.cell? ⟨X, 11, none⟩ = some (.int .i64 j.budget) ∧ W.cell? ⟨X, 12, none⟩ = some (.bool j.env) ∧ W.cell? ⟨X, 13, none⟩ = some (.int .i64 j.set))
    (first | exact S2.out | exact HA.out _ B3.out)
    (first
      | (go_at_call 42; refine (HHC.out _ (by first | exact .inl rfl | exact .inr rfl)).mono ?_; rintro e w3 ⟨rfl, b3, bb3⟩; have B3 := Lib.hid bb3; clear b3 bb3))
  all_goals obtain ⟨-, e5, -⟩ := HE.out w3 (HB1.out.trans ((HB2.out.trans (B3.out.mono HB2.out.size)).mono HB1.out.size))
  all_goals clear c0 x0 x1 x2 x3 x4 x5 x6 x7 x8 x9 x10 x11 x12 x13
  all_goals go_wp2_with fail
  all_goals go_ret
  all_goals exact ⟨rfl, HB1.out.trans ((HB2.out.trans (B3.out.mono HB2.out.size)).mono HB1.out.size)⟩
set_option maxRecDepth 100000 in
set_option maxHeartbeats 6400000 in
theorem jadd_full (s : Nat → Addr) (h : JbP w P q b T bl L) (hs : SentP s P w) {j : JR} (hg : goodJ j = true) (hf : (findJ L j.id).isSome = false) (hfull : 32 ≤ L.length) :
    Calls Tryd.prog 14 #[.pointer (some ⟨q, 0, none⟩), .agg #[.int .i64 j.id, .int .i64 j.tenant, .int .i64 j.cell, .int .i64 j.band, .int .i64 j.tasks, .int .i64 j.need.a, .int .i64 j.need.b, .int .i64 j.need.c, .int .i64 j.need.d, .int .i64 j.first, .int .i64 j.windows, .int .i64 j.budget, .bool j.env, .int .i64 j.set]] w fun r w' => r = .returned (errV s 7) ∧ Below w.heap.size w w' := by
  obtain ⟨X, hX⟩ : ∃ X, w.heap.size = X := ⟨_, rfl⟩
  obtain ⟨W1, hW1⟩ : ∃ W1, w.alloc (.cells #[.int .i64 j.id, .int .i64 j.tenant, .int .i64 j.cell, .int .i64 j.band, .int .i64 j.tasks, .int .i64 j.need.a, .int .i64 j.need.b, .int .i64 j.need.c, .int .i64 j.need.d, .int .i64 j.first, .int .i64 j.windows, .int .i64 j.budget, .bool j.env, .int .i64 j.set] 33) = W1 := ⟨_, rfl⟩
  have hb1 : Below w.heap.size w W1 := by rw [← hW1]; exact (Below.refl _ _).alloc (Nat.le_refl _) _
  have hx1 : W1.heap[X]? = some (.cells #[.int .i64 j.id, .int .i64 j.tenant, .int .i64 j.cell, .int .i64 j.band, .int .i64 j.tasks, .int .i64 j.need.a, .int .i64 j.need.b, .int .i64 j.need.c, .int .i64 j.need.d, .int .i64 j.first, .int .i64 j.windows, .int .i64 j.budget, .bool j.env, .int .i64 j.set] 33 (0, 0)) := by rw [← hW1, ← hX]; exact heap_alloc_new _ _
  have HON : Hid (∀ W, Below W1.heap.size W1 W → JbP W P q b T bl L ∧ AddS q b X j W ∧ Sent s W) := Lib.hid fun W hb => by
    have hx := (hb.block X (lt_of_row hx1)).trans hx1
    have hj := (h.on hb1).on hb
    exact ⟨hj, ⟨cell_of_heap hj.box 0, cell_of_heap hx 0, cell_of_heap hx 1, cell_of_heap hx 2, cell_of_heap hx 3, cell_of_heap hx 4, cell_of_heap hx 5, cell_of_heap hx 6, cell_of_heap hx 7, cell_of_heap hx 8, cell_of_heap hx 9, cell_of_heap hx 10, cell_of_heap hx 11, cell_of_heap hx 12, cell_of_heap hx 13⟩, (hs.here.below hb1 (Nat.le_refl _)).below hb (Nat.le_refl _)⟩
  have HG := Lib.hid (jgood_c s j W1 (hs.here.below hb1 (Nat.le_refl _)))
  obtain ⟨c0, x0, x1, x2, x3, x4, x5, x6, x7, x8, x9, x10, x11, x12, x13⟩ := (HON.out W1 (Below.refl _ _)).2.1
  have HW1 := Lib.hid hW1; have HX := Lib.hid hX; have HB1 := Lib.hid hb1
  have HE := Lib.hid (fun W hb => adds_at s hs.here W hb)
  have hid : i64 j.id := by have := (goodJ_nums hg).1; unfold i64; omega
  have hl8 : (32 : Int) ≤ (T.length : Int) := by rw [h.len]; omega
  have HH := Lib.hid (fun W (hb : Below W1.heap.size W1 W) => jhas_c (HON.out W hb).1 hid)
  rw [hf] at HH
  rw [hg] at HG
  rw [errA s 7 (by omega)]
  clear h hs hg hX hW1 hb1 hx1 hf hid hfull
  go_enter Tryd.func14, Tryd.ntmps14
  go_upto_region 1 with fail
  rw [HW1.out, HX.out]
  go_wp2_with fail
  refine HG.out.mono ?_
  rintro e w2 ⟨rfl, hb2⟩
  obtain ⟨hj2, ha2, hs2⟩ := HON.out w2 hb2
  have HB2 := Lib.hid hb2
  have HJ2 := Lib.hid hj2
  have HS2 := Lib.hid hs2
  clear c0 x0 x1 x2 x3 x4 x5 x6 x7 x8 x9 x10 x11 x12 x13 hb2 hj2 hs2
  obtain ⟨c0, x0, x1, x2, x3, x4, x5, x6, x7, x8, x9, x10, x11, x12, x13⟩ := ha2
  have S2 : Hid (AddS q b X j w2) := Lib.hid ⟨c0, x0, x1, x2, x3, x4, x5, x6, x7, x8, x9, x10, x11, x12, x13⟩
  have HA : Hid (∀ W, Below w2.heap.size w2 W → AddS q b X j W) := Lib.hid fun W hb => (HON.out W (HB2.out.trans (hb.mono HB2.out.size))).2.1
  have HHC : Hid (∀ W, (W = w2 ∨ W = w2.drew) → Calls Tryd.prog 42 #[.map (some b), .int .i64 j.id] W fun e w' => e = .returned (.bool false) ∧ Below W.heap.size W w' ∧ Below w2.heap.size w2 w') := Lib.hid fun W hW => by
    rcases hW with rfl | rfl
    · exact (HH.out _ HB2.out).mono fun _ _ ⟨k1, k2⟩ => ⟨k1, k2, k2⟩
    · exact (HH.out _ HB2.out.drew).mono fun _ _ ⟨k1, k2⟩ => ⟨k1, k2, (Below.refl _ _).drew.trans k2⟩
  unfold AddS at S2 HA
  go_upto_region 5 with fail
  go_region_held3 (fun W => W.cell? ⟨q, 0, none⟩ = some (.map (some b)) ∧ W.cell? ⟨X, 0, none⟩ = some (.int .i64 j.id) ∧ W.cell? ⟨X, 1, none⟩ = some (.int .i64 j.tenant) ∧ W.cell? ⟨X, 2, none⟩ = some (.int .i64 j.cell) ∧ W.cell? ⟨X, 3, none⟩ = some (.int .i64 j.band) ∧ W.cell? ⟨X, 4, none⟩ = some (.int .i64 j.tasks) ∧ W.cell? ⟨X, 5, none⟩ = some (.int .i64 j.need.a) ∧ W.cell? ⟨X, 6, none⟩ = some (.int .i64 j.need.b) ∧ W.cell? ⟨X, 7, none⟩ = some (.int .i64 j.need.c) ∧ W.cell? ⟨X, 8, none⟩ = some (.int .i64 j.need.d) ∧ W.cell? ⟨X, 9, none⟩ = some (.int .i64 j.first) ∧ W.cell? ⟨X, 10, none⟩ = some (.int .i64 j.windows) ∧ W.cell? ⟨X, 11, none⟩ = some (.int .i64 j.budget) ∧ W.cell? ⟨X, 12, none⟩ = some (.bool j.env) ∧ W.cell? ⟨X, 13, none⟩ = some (.int .i64 j.set))
    (first | exact S2.out | exact HA.out _ B3.out)
    (first
      | (go_at_call 42; refine (HHC.out _ (by first | exact .inl rfl | exact .inr rfl)).mono ?_; rintro e w3 ⟨rfl, b3, bb3⟩; have B3 := Lib.hid bb3; clear b3 bb3))
  all_goals obtain ⟨hj3, ha3, -⟩ := HON.out w3 (HB2.out.trans (B3.out.mono HB2.out.size))
  all_goals obtain ⟨-, -, e6⟩ := HE.out w3 (HB1.out.trans ((HB2.out.trans (B3.out.mono HB2.out.size)).mono HB1.out.size))
  all_goals have hm3 := hj3.m
  all_goals have c3 := ha3.1
  all_goals clear c0 x0 x1 x2 x3 x4 x5 x6 x7 x8 x9 x10 x11 x12 x13 hj3 ha3
  all_goals go_wp2_with (at_len; refine wpList_lenG _ rfl _ 96 rfl 107 Tryd.underlying96 optV b T rfl hm3 ?_)
  all_goals go_ret
  all_goals exact ⟨rfl, HB1.out.trans ((HB2.out.trans (B3.out.mono HB2.out.size)).mono HB1.out.size)⟩
set_option maxRecDepth 100000 in
set_option maxHeartbeats 6400000 in
theorem jadd_ok (s : Nat → Addr) (h : JbP w P q b T bl L) (hs : SentP s P w) {j : JR} (hg : goodJ j = true) (hf : (findJ L j.id).isSome = false) (hfull : L.length < 32) :
    Calls Tryd.prog 14 #[.pointer (some ⟨q, 0, none⟩), .agg #[.int .i64 j.id, .int .i64 j.tenant, .int .i64 j.cell, .int .i64 j.band, .int .i64 j.tasks, .int .i64 j.need.a, .int .i64 j.need.b, .int .i64 j.need.c, .int .i64 j.need.d, .int .i64 j.first, .int .i64 j.windows, .int .i64 j.budget, .bool j.env, .int .i64 j.set]] w fun r w' => r = .returned .nilIface ∧ (∃ P', JbW w' P' q (insJ ⟨j, List.replicate j.tasks.toNat (-1)⟩ L) ∧ ∀ k, P' k → P k ∨ w.heap.size ≤ k) ∧ ChP P w w' := by
  obtain ⟨X, hX⟩ : ∃ X, w.heap.size = X := ⟨_, rfl⟩
  obtain ⟨W1, hW1⟩ : ∃ W1, w.alloc (.cells #[.int .i64 j.id, .int .i64 j.tenant, .int .i64 j.cell, .int .i64 j.band, .int .i64 j.tasks, .int .i64 j.need.a, .int .i64 j.need.b, .int .i64 j.need.c, .int .i64 j.need.d, .int .i64 j.first, .int .i64 j.windows, .int .i64 j.budget, .bool j.env, .int .i64 j.set] 33) = W1 := ⟨_, rfl⟩
  have hb1 : Below w.heap.size w W1 := by rw [← hW1]; exact (Below.refl _ _).alloc (Nat.le_refl _) _
  have hx1 : W1.heap[X]? = some (.cells #[.int .i64 j.id, .int .i64 j.tenant, .int .i64 j.cell, .int .i64 j.band, .int .i64 j.tasks, .int .i64 j.need.a, .int .i64 j.need.b, .int .i64 j.need.c, .int .i64 j.need.d, .int .i64 j.first, .int .i64 j.windows, .int .i64 j.budget, .bool j.env, .int .i64 j.set] 33 (0, 0)) := by rw [← hW1, ← hX]; exact heap_alloc_new _ _
  have HON : Hid (∀ W, Below W1.heap.size W1 W → JbP W P q b T bl L ∧ AddS q b X j W ∧ Sent s W) := Lib.hid fun W hb => by
    have hx := (hb.block X (lt_of_row hx1)).trans hx1
    have hj := (h.on hb1).on hb
    exact ⟨hj, ⟨cell_of_heap hj.box 0, cell_of_heap hx 0, cell_of_heap hx 1, cell_of_heap hx 2, cell_of_heap hx 3, cell_of_heap hx 4, cell_of_heap hx 5, cell_of_heap hx 6, cell_of_heap hx 7, cell_of_heap hx 8, cell_of_heap hx 9, cell_of_heap hx 10, cell_of_heap hx 11, cell_of_heap hx 12, cell_of_heap hx 13⟩, (hs.here.below hb1 (Nat.le_refl _)).below hb (Nat.le_refl _)⟩
  have HG := Lib.hid (jgood_c s j W1 (hs.here.below hb1 (Nat.le_refl _)))
  obtain ⟨c0, x0, x1, x2, x3, x4, x5, x6, x7, x8, x9, x10, x11, x12, x13⟩ := (HON.out W1 (Below.refl _ _)).2.1
  have HW1 := Lib.hid hW1; have HX := Lib.hid hX; have HB1 := Lib.hid hb1
  have hid : i64 j.id := by have := (goodJ_nums hg).1; unfold i64; omega
  have hl8 : (T.length : Int) < 32 := by rw [h.len]; omega
  have hml : T.length < maxLen := by unfold maxLen; omega
  obtain ⟨n, hn⟩ : ∃ n : Nat, j.tasks = (n : Int) := ⟨j.tasks.toNat, by have := (goodJ_nums hg).2; omega⟩
  have hn18 : 1 ≤ n ∧ n ≤ 8 := by have := (goodJ_nums hg).2; omega
  have hno : findJ L j.id = none := by simpa using hf
  have hgd : GJ (insJ ⟨j, List.replicate n (-1)⟩ L) := h.good.ins (x := ⟨j, List.replicate n (-1)⟩) hno hg (by simp only [List.length_replicate]; rw [hn]; exact (Int.toNat_natCast n).symm) (fun p hp => by rw [List.eq_of_mem_replicate hp]; omega) hfull
  have HFIN : Hid (∀ (w6 w9 : World) (g : Nat), Below w.heap.size w w6 → w.heap.size ≤ g → OwnE encI 3 w6 0 (.slice (some ⟨g, 0, none⟩) n n) (List.replicate n (-1)) → JobsAt w9 b (enter T j.id (some ⟨j, g, n⟩)) → w6.grownBy w9 (some b) →
      (∃ P', JbW w9 P' q (insJ ⟨j, List.replicate n (-1)⟩ L) ∧ ∀ k, P' k → P k ∨ w.heap.size ≤ k) ∧ ChP P w w9) := Lib.hid fun w6 w9 g hb hgw ho hm hgr => by
    obtain ⟨k1, k2⟩ := h.added hno hgd hb hgw ho hm hgr
    exact ⟨⟨_, k1.any, fun k hk => by rcases hk with hk | rfl; exact .inl hk; exact .inr hgw⟩, k2⟩
  have HRP : Hid (∀ gx W, W.heap[gx]? = some (.cells #[.int .i64 (-1)] 3 (0, 0)) → Calls Tryd.prog 44 #[.slice (some ⟨gx, 0, none⟩) 1 1, .int .i64 j.tasks] W fun e w' => ∃ g, e = .returned (.slice (some ⟨g, 0, none⟩) n n) ∧ OwnE encI 3 w' W.heap.size (.slice (some ⟨g, 0, none⟩) n n) (List.replicate n (-1)) ∧ Below W.heap.size W w') := Lib.hid fun gx W hx => by rw [hn]; exact irep_c n hn18.1 hn18.2 (-1) gx W hx
  have HH := Lib.hid (fun W (hb : Below W1.heap.size W1 W) => jhas_c (HON.out W hb).1 hid)
  rw [hf] at HH
  rw [hg] at HG
  rw [show j.tasks.toNat = n by rw [hn]; exact Int.toNat_natCast n]
  have HID := Lib.hid hid
  have HML := Lib.hid hml
  clear h hs hg hX hW1 hb1 hx1 hf hid hfull hml hn hn18 hno hgd
  go_enter Tryd.func14, Tryd.ntmps14
  go_upto_region 1 with fail
  rw [HW1.out, HX.out]
  go_wp2_with fail
  refine HG.out.mono ?_
  rintro e w2 ⟨rfl, hb2⟩
  obtain ⟨hj2, ha2, hs2⟩ := HON.out w2 hb2
  have HB2 := Lib.hid hb2
  have HJ2 := Lib.hid hj2
  have HS2 := Lib.hid hs2
  clear c0 x0 x1 x2 x3 x4 x5 x6 x7 x8 x9 x10 x11 x12 x13 hb2 hj2 hs2
  obtain ⟨c0, x0, x1, x2, x3, x4, x5, x6, x7, x8, x9, x10, x11, x12, x13⟩ := ha2
  have S2 : Hid (AddS q b X j w2) := Lib.hid ⟨c0, x0, x1, x2, x3, x4, x5, x6, x7, x8, x9, x10, x11, x12, x13⟩
  have HA : Hid (∀ W, Below w2.heap.size w2 W → AddS q b X j W) := Lib.hid fun W hb => (HON.out W (HB2.out.trans (hb.mono HB2.out.size))).2.1
  have HHC : Hid (∀ W, (W = w2 ∨ W = w2.drew) → Calls Tryd.prog 42 #[.map (some b), .int .i64 j.id] W fun e w' => e = .returned (.bool false) ∧ Below W.heap.size W w' ∧ Below w2.heap.size w2 w') := Lib.hid fun W hW => by
    rcases hW with rfl | rfl
    · exact (HH.out _ HB2.out).mono fun _ _ ⟨k1, k2⟩ => ⟨k1, k2, k2⟩
    · exact (HH.out _ HB2.out.drew).mono fun _ _ ⟨k1, k2⟩ => ⟨k1, k2, (Below.refl _ _).drew.trans k2⟩
  unfold AddS at S2 HA
  go_upto_region 5 with fail
  go_region_held3 (fun W => W.cell? ⟨q, 0, none⟩ = some (.map (some b)) ∧ W.cell? ⟨X, 0, none⟩ = some (.int .i64 j.id) ∧ W.cell? ⟨X, 1, none⟩ = some (.int .i64 j.tenant) ∧ W.cell? ⟨X, 2, none⟩ = some (.int .i64 j.cell) ∧ W.cell? ⟨X, 3, none⟩ = some (.int .i64 j.band) ∧ W.cell? ⟨X, 4, none⟩ = some (.int .i64 j.tasks) ∧ W.cell? ⟨X, 5, none⟩ = some (.int .i64 j.need.a) ∧ W.cell? ⟨X, 6, none⟩ = some (.int .i64 j.need.b) ∧ W.cell? ⟨X, 7, none⟩ = some (.int .i64 j.need.c) ∧ W.cell? ⟨X, 8, none⟩ = some (.int .i64 j.need.d) ∧ W.cell? ⟨X, 9, none⟩ = some (.int .i64 j.first) ∧ W.cell? ⟨X, 10, none⟩ = some (.int .i64 j.windows) ∧ W.cell? ⟨X, 11, none⟩ = some (.int .i64 j.budget) ∧ W.cell? ⟨X, 12, none⟩ = some (.bool j.env) ∧ W.cell? ⟨X, 13, none⟩ = some (.int .i64 j.set))
    (first | exact S2.out | exact HA.out _ B3.out)
    (first
      | (go_at_call 42; refine (HHC.out _ (by first | exact .inl rfl | exact .inr rfl)).mono ?_; rintro e w3 ⟨rfl, b3, bb3⟩; have B3 := Lib.hid bb3; clear b3 bb3))
  all_goals obtain ⟨hj3, ha3, -⟩ := HON.out w3 (HB2.out.trans (B3.out.mono HB2.out.size))
  all_goals have hm3 := hj3.m
  all_goals have c3 := ha3.1
  all_goals clear c0 x0 x1 x2 x3 x4 x5 x6 x7 x8 x9 x10 x11 x12 x13 hj3 ha3
  all_goals go_wp2_with (at_len; refine wpList_lenG _ rfl _ 96 rfl 107 Tryd.underlying96 optV b T rfl hm3 ?_)
  have HB3 : Hid (Below W1.heap.size W1 w3) := Lib.hid (HB2.out.trans (B3.out.mono HB2.out.size))
  have HSS : Hid (∀ W, Below w3.heap.size w3 W → Below w3.heap.size w3 W ∧ AddS q b X j W) := Lib.hid fun W hb => ⟨hb, (HON.out W (HB3.out.trans (hb.mono HB3.out.size))).2.1⟩
  have HMM : Hid (∀ W, Below w3.heap.size w3 W → JobsAt W b T ∧ Below w.heap.size w W) := Lib.hid fun W hb => by
    have hb' := HB3.out.trans (hb.mono HB3.out.size)
    exact ⟨(HON.out W hb').1.m, HB1.out.trans (hb'.mono HB1.out.size)⟩
  unfold AddS at HSS
  clear c3 hm3
  refine wp_region_last (z := 12) (S := fun W => Below w3.heap.size w3 W ∧ W.cell? ⟨q, 0, none⟩ = some (.map (some b)) ∧ W.cell? ⟨X, 0, none⟩ = some (.int .i64 j.id) ∧ W.cell? ⟨X, 1, none⟩ = some (.int .i64 j.tenant) ∧ W.cell? ⟨X, 2, none⟩ = some (.int .i64 j.cell) ∧ W.cell? ⟨X, 3, none⟩ = some (.int .i64 j.band) ∧ W.cell? ⟨X, 4, none⟩ = some (.int .i64 j.tasks) ∧ W.cell? ⟨X, 5, none⟩ = some (.int .i64 j.need.a) ∧ W.cell? ⟨X, 6, none⟩ = some (.int .i64 j.need.b) ∧ W.cell? ⟨X, 7, none⟩ = some (.int .i64 j.need.c) ∧ W.cell? ⟨X, 8, none⟩ = some (.int .i64 j.need.d) ∧ W.cell? ⟨X, 9, none⟩ = some (.int .i64 j.first) ∧ W.cell? ⟨X, 10, none⟩ = some (.int .i64 j.windows) ∧ W.cell? ⟨X, 11, none⟩ = some (.int .i64 j.budget) ∧ W.cell? ⟨X, 12, none⟩ = some (.bool j.env) ∧ W.cell? ⟨X, 13, none⟩ = some (.int .i64 j.set)) (by kernel_rfl) ?_ (fun hHeld => ?_)
  · exact HSS.out _ (Below.refl _ _).drew
  refine rgl_take 0 (some 31) _ (by kernel_rfl) (by kernel_rfl) (by kernel_rfl) (by kernel_rfl) (fun _ _ _ h => h) (by kernel_rfl) (by kernel_rfl) (by intro w' hSw op_ ho; obtain ⟨c0, x0, x1, x2, x3, x4, x5, x6, x7, x8, x9, x10, x11, x12, x13⟩ := hSw.2; simp only [List.getElem?_toArray, List.getElem?_cons_zero, Option.some.injEq] at ho; subst ho; go_simp; with_reducible rfl) (by assumption) ?_
  try simp only [Act.put, List.setIfInBounds_toArray, List.set_cons_zero, List.set_cons_succ]
  refine rgl_take 1 (some 32) _ (by kernel_rfl) (by kernel_rfl) (by kernel_rfl) (by kernel_rfl) (fun _ _ _ h => h) (by kernel_rfl) (by kernel_rfl) (by intro w' hSw op_ ho; obtain ⟨c0, x0, x1, x2, x3, x4, x5, x6, x7, x8, x9, x10, x11, x12, x13⟩ := hSw.2; simp only [List.getElem?_toArray, List.getElem?_cons_succ, List.getElem?_cons_zero, Option.some.injEq] at ho; subst ho; go_simp; with_reducible rfl) (by assumption) ?_
  try simp only [Act.put, List.setIfInBounds_toArray, List.set_cons_zero, List.set_cons_succ]
  refine rgl_take 2 (some 33) _ (by kernel_rfl) (by kernel_rfl) (by kernel_rfl) (by kernel_rfl) (fun _ _ _ h => h) (by kernel_rfl) (by kernel_rfl) (by intro w' hSw op_ ho; obtain ⟨c0, x0, x1, x2, x3, x4, x5, x6, x7, x8, x9, x10, x11, x12, x13⟩ := hSw.2; simp only [List.getElem?_toArray, List.getElem?_cons_succ, List.getElem?_cons_zero, Option.some.injEq] at ho; subst ho; go_simp; with_reducible rfl) (by assumption) ?_
  try simp only [Act.put, List.setIfInBounds_toArray, List.set_cons_zero, List.set_cons_succ]
  refine rgl_take 3 (some 34) _ (by kernel_rfl) (by kernel_rfl) (by kernel_rfl) (by kernel_rfl) (fun _ _ _ h => h) (by kernel_rfl) (by kernel_rfl) (by intro w' hSw op_ ho; obtain ⟨c0, x0, x1, x2, x3, x4, x5, x6, x7, x8, x9, x10, x11, x12, x13⟩ := hSw.2; simp only [List.getElem?_toArray, List.getElem?_cons_succ, List.getElem?_cons_zero, Option.some.injEq] at ho; subst ho; go_simp; with_reducible rfl) (by assumption) ?_
  try simp only [Act.put, List.setIfInBounds_toArray, List.set_cons_zero, List.set_cons_succ]
  refine rgl_take 4 (some 35) _ (by kernel_rfl) (by kernel_rfl) (by kernel_rfl) (by kernel_rfl) (fun _ _ _ h => h) (by kernel_rfl) (by kernel_rfl) (by intro w' hSw op_ ho; obtain ⟨c0, x0, x1, x2, x3, x4, x5, x6, x7, x8, x9, x10, x11, x12, x13⟩ := hSw.2; simp only [List.getElem?_toArray, List.getElem?_cons_succ, List.getElem?_cons_zero, Option.some.injEq] at ho; subst ho; go_simp; with_reducible rfl) (by assumption) ?_
  try simp only [Act.put, List.setIfInBounds_toArray, List.set_cons_zero, List.set_cons_succ]
  refine rgl_take 5 (some 36) _ (by kernel_rfl) (by kernel_rfl) (by kernel_rfl) (by kernel_rfl) (fun _ _ _ h => h) (by kernel_rfl) (by kernel_rfl) (by intro w' hSw op_ ho; obtain ⟨c0, x0, x1, x2, x3, x4, x5, x6, x7, x8, x9, x10, x11, x12, x13⟩ := hSw.2; simp only [List.getElem?_toArray, List.getElem?_cons_succ, List.getElem?_cons_zero, Option.some.injEq] at ho; subst ho; go_simp; with_reducible rfl) (by assumption) ?_
  try simp only [Act.put, List.setIfInBounds_toArray, List.set_cons_zero, List.set_cons_succ]
  refine rgl_take 6 (some 37) _ (by kernel_rfl) (by kernel_rfl) (by kernel_rfl) (by kernel_rfl) (fun _ _ _ h => h) (by kernel_rfl) (by kernel_rfl) (by intro w' hSw op_ ho; obtain ⟨c0, x0, x1, x2, x3, x4, x5, x6, x7, x8, x9, x10, x11, x12, x13⟩ := hSw.2; simp only [List.getElem?_toArray, List.getElem?_cons_succ, List.getElem?_cons_zero, Option.some.injEq] at ho; subst ho; go_simp; with_reducible rfl) (by assumption) ?_
  try simp only [Act.put, List.setIfInBounds_toArray, List.set_cons_zero, List.set_cons_succ]
  refine rgl_take 8 (some 39) _ (by kernel_rfl) (by kernel_rfl) (by kernel_rfl) (by kernel_rfl) (fun _ _ _ h => h) (by kernel_rfl) (by kernel_rfl) (by intro w' hSw op_ ho; obtain ⟨c0, x0, x1, x2, x3, x4, x5, x6, x7, x8, x9, x10, x11, x12, x13⟩ := hSw.2; simp only [List.getElem?_toArray, List.getElem?_cons_succ, List.getElem?_cons_zero, Option.some.injEq] at ho; subst ho; go_simp; with_reducible rfl) (by assumption) ?_
  try simp only [Act.put, List.setIfInBounds_toArray, List.set_cons_zero, List.set_cons_succ]
  refine rgl_take 9 (some 40) _ (by kernel_rfl) (by kernel_rfl) (by kernel_rfl) (by kernel_rfl) (fun _ _ _ h => h) (by kernel_rfl) (by kernel_rfl) (by intro w' hSw op_ ho; obtain ⟨c0, x0, x1, x2, x3, x4, x5, x6, x7, x8, x9, x10, x11, x12, x13⟩ := hSw.2; simp only [List.getElem?_toArray, List.getElem?_cons_succ, List.getElem?_cons_zero, Option.some.injEq] at ho; subst ho; go_simp; with_reducible rfl) (by assumption) ?_
  try simp only [Act.put, List.setIfInBounds_toArray, List.set_cons_zero, List.set_cons_succ]
  refine rgl_one 7 (by kernel_rfl) (by kernel_rfl) (by decide) (fun op_ ho K hK => ?_)
  simp only [List.getElem?_toArray, List.getElem?_cons_succ, List.getElem?_cons_zero, Option.some.injEq] at ho
  subst ho
  go_simp
  have HS6 := Lib.hid hHeld
  go_wp2_with fail
  refine hK.out _ _ (by first | exact hHeld | exact HSS.out _ (HS6.out.1.alloc HS6.out.1.size _) | exact HSS.out _ (HS7.out.1.trans (b5.mono HS7.out.1.size))) (fun hHeld => ?_)
  clear hK
  try simp only [Act.put, List.setIfInBounds_toArray, List.set_cons_zero, List.set_cons_succ]
  refine rgl_one 10 (by kernel_rfl) (by kernel_rfl) (by decide) (fun op_ ho K hK => ?_)
  simp only [List.getElem?_toArray, List.getElem?_cons_succ, List.getElem?_cons_zero, Option.some.injEq] at ho
  subst ho
  go_simp
  go_at_call 44
  refine (HRP.out _ _ (by first | exact heap_alloc_new w3 _ | exact heap_alloc_new w3.drew _)).mono ?_
  rintro e w5 ⟨g, rfl, ho5, b5⟩
  have HO5 := Lib.hid ho5
  have HS7 := Lib.hid hHeld
  go_wp2_with fail
  refine hK.out _ _ (by first | exact hHeld | exact HSS.out _ (HS6.out.1.alloc HS6.out.1.size _) | exact HSS.out _ (HS7.out.1.trans (b5.mono HS7.out.1.size))) (fun hHeld => ?_)
  clear hK
  try simp only [Act.put, List.setIfInBounds_toArray, List.set_cons_zero, List.set_cons_succ]
  refine rgl_take 11 (some 42) _ (by kernel_rfl) (by kernel_rfl) (by kernel_rfl) (by kernel_rfl) (fun _ _ _ h => h) (by kernel_rfl) (by kernel_rfl) (by intro w' hSw op_ ho; obtain ⟨c0, x0, x1, x2, x3, x4, x5, x6, x7, x8, x9, x10, x11, x12, x13⟩ := hSw.2; simp only [List.getElem?_toArray, List.getElem?_cons_succ, List.getElem?_cons_zero, Option.some.injEq] at ho; subst ho; go_simp; with_reducible rfl) (by assumption) ?_
  try simp only [Act.put, List.setIfInBounds_toArray, List.set_cons_zero, List.set_cons_succ]
  refine rgl_last (by kernel_rfl) (by kernel_rfl) (by kernel_rfl) (fun op_ ho K hK => ?_)
  simp only [List.getElem?_toArray, List.getElem?_cons_succ, List.getElem?_cons_zero, Option.some.injEq] at ho
  subst ho
  have HS9 := Lib.hid hHeld
  obtain ⟨hm9, -⟩ := HMM.out _ HS9.out.1
  refine opwp_putG kitI rfl _ _ _ 96 rfl 107 Tryd.underlying96 optV b T rfl hm9 HML.out j.id rfl HID.out (some ⟨j, g, n⟩) rfl ?_
  intro w9 hm10 hg10
  have HM9 := Lib.hid hm10
  have HG9 := Lib.hid hg10
  clear hm9 hm10 hg10
  refine hK.out _ _ ?_
  clear hK
  try simp only [Act.put]
  go_wp2_with fail
  go_ret
  have hb9 := HMM.out _ HS9.out.1
  exact ⟨rfl, HFIN.out _ _ g hb9.2 (by have := (HMM.out _ HS7.out.1).2.size; have := (HO5.out.lt g rfl).1; omega) (HO5.out.base (Nat.zero_le _)) HM9.out HG9.out⟩
end
theorem JbW.add_c {w : World} {P : Nat → Prop} {q : Nat} {L : List JE} (s : Nat → Addr) (h : JbW w P q L) (hs : SentP s P w) (j : JR) :
    Calls Tryd.prog 14 #[.pointer (some ⟨q, 0, none⟩), .agg #[.int .i64 j.id, .int .i64 j.tenant, .int .i64 j.cell, .int .i64 j.band, .int .i64 j.tasks, .int .i64 j.need.a, .int .i64 j.need.b, .int .i64 j.need.c, .int .i64 j.need.d, .int .i64 j.first, .int .i64 j.windows, .int .i64 j.budget, .bool j.env, .int .i64 j.set]] w fun r w' => r = .returned (errV s (addJ L j).2) ∧ (∃ P', JbW w' P' q (addJ L j).1 ∧ ∀ k, P' k → P k ∨ w.heap.size ≤ k) ∧ ChP P w w' := by
  obtain ⟨b, T, bl, h⟩ := h
  have no : ∀ {d : Nat}, addJ L j = (L, d) → (Calls Tryd.prog 14 #[.pointer (some ⟨q, 0, none⟩), .agg #[.int .i64 j.id, .int .i64 j.tenant, .int .i64 j.cell, .int .i64 j.band, .int .i64 j.tasks, .int .i64 j.need.a, .int .i64 j.need.b, .int .i64 j.need.c, .int .i64 j.need.d, .int .i64 j.first, .int .i64 j.windows, .int .i64 j.budget, .bool j.env, .int .i64 j.set]] w fun r w' => r = .returned (errV s d) ∧ Below w.heap.size w w') → (Calls Tryd.prog 14 #[.pointer (some ⟨q, 0, none⟩), .agg #[.int .i64 j.id, .int .i64 j.tenant, .int .i64 j.cell, .int .i64 j.band, .int .i64 j.tasks, .int .i64 j.need.a, .int .i64 j.need.b, .int .i64 j.need.c, .int .i64 j.need.d, .int .i64 j.first, .int .i64 j.windows, .int .i64 j.budget, .bool j.env, .int .i64 j.set]] w fun r w' => r = .returned (errV s (addJ L j).2) ∧ (∃ P', JbW w' P' q (addJ L j).1 ∧ ∀ k, P' k → P k ∨ w.heap.size ≤ k) ∧ ChP P w w') := fun he hc => by
    rw [he]
    exact hc.mono fun e w' ⟨k1, k2⟩ => ⟨k1, ⟨P, (h.on k2).any, fun _ h => .inl h⟩, ChP.of_below k2⟩
  cases hg : goodJ j with
  | false => exact no (by unfold addJ; rw [if_pos hg]) (jadd_bad s h hs hg)
  | true =>
    cases hf : (findJ L j.id).isSome with
    | true => exact no (by unfold addJ; rw [if_neg (by rw [hg]; simp), if_pos hf]) (jadd_dup s h hs hg hf)
    | false =>
      by_cases hl : 32 ≤ L.length
      · exact no (by unfold addJ; rw [if_neg (by rw [hg]; simp), if_neg (by rw [hf]; simp), if_pos hl]) (jadd_full s h hs hg hf hl)
      · have he : addJ L j = (insJ ⟨j, List.replicate j.tasks.toNat (-1)⟩ L, 0) := by unfold addJ; rw [if_neg (by rw [hg]; simp), if_neg (by rw [hf]; simp), if_neg hl]
        rw [he, errA0]
        exact jadd_ok s h hs hg hf (by omega)
end Go.Proofs.YtbfbhlpibclccaaDoor
