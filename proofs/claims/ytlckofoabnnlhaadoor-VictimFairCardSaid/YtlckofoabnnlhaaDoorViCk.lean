/- The state of the walk over a room's candidates. No conditions. -/
import Derived.Test.YtlckofoabnnlhaaDoorViC
import Derived.Test.YtlckofoabnnlhaaDoorRgo
import Derived.Laws.Rows
namespace Go.Proofs.YtlckofoabnnlhaaDoor
open Go Go.RowKit Go.Maps

theorem heap_at_newV {W : World} {g : Nat} (hg : g = W.heap.size) (o : Obj) : (W.alloc o).heap[g]? = some o := by subst hg; exact heap_alloc_new W o
theorem own_neM {κ α : Type} [DecidableEq κ] {n : Nat} {α' : Type} {E : EncK α' n} {P : Program} {k e : TypeId} {kl : κ → Lit} {ok : κ → Prop} {enc : α → Value} {W : World} {base b : Nat} {v : Value} {L : List α'} {T : List (κ × α)} (h : OwnE E e W base v L) (hm : MapG P k kl ok enc W b T) : v.ownBlock ≠ some b := by
  intro hv
  obtain ⟨D, ⟨es, c, hb, _⟩, _⟩ := hm
  rcases h.2 with ⟨rfl, _⟩ | ⟨g, cap, cur, rfl, _, hh, _⟩
  · simp [Value.ownBlock] at hv
  · simp [Value.ownBlock] at hv
    subst hv
    rw [hh] at hb
    cases hb
/-- The state: the demand's box, the result's, the room's that is left, the victims, who has gone. -/
structure ClrAt (w : World) (x : V4) (g4 g6 g9 mb : Nat) (id : Int) (W : World) (lf : V4) (cl : Option Addr × Nat × Nat) (O : List Gst) (Bo : Option Addr) (cb : Nat) : Prop where
  need : W.heap[g4]? = some (.cells #[.int .i64 x.a, .int .i64 x.b, .int .i64 x.c, .int .i64 x.d] 24 (0, 0))
  res : ∃ cs : Array Value, W.heap[g6]? = some (.cells cs 61 (0, 0)) ∧ cs.size = 6
  clr : W.heap[g9]? = some (.cells #[.int .i64 id, .int .i64 lf.a, .int .i64 lf.b, .int .i64 lf.c, .int .i64 lf.d, .slice cl.1 cl.2.1 cl.2.2] 61 (0, 0))
  outs : OwnE encTk 33 W w.heap.size (.slice Bo O.length cb) (O.map (·.task))
  cnts : ∃ T : List (Int × Int), MapG Tryd.prog 3 (Lit.int .i64) i64 (Value.int .i64) W mb T ∧ T.length ≤ O.length ∧ ∀ j, (look T j).getD 0 = (cntJ j O : Int)
  low : Below w.heap.size w W
  good : goodV lf = true
  l6 : w.heap.size ≤ g6
  l9 : w.heap.size ≤ g9 ∧ g6 ≠ g9
  lm : w.heap.size ≤ mb
/-- The candidates that stay. -/
def LineAt (w W : World) (cl : Option Addr × Nat × Nat) (K : List Gst) : Prop := cl.2.1 = K.length ∧ OwnE encGst 35 W w.heap.size (.slice cl.1 cl.2.1 cl.2.2) K
section
variable {w : World} {x : V4} {g4 g6 g9 mb : Nat} {id : Int} {W W' : World} {lf : V4} {cl : Option Addr × Nat × Nat} {O K : List Gst} {Bo : Option Addr} {cb : Nat}
theorem ClrAt.on (h : ClrAt w x g4 g6 g9 mb id W lf cl O Bo cb) (hb : Below W.heap.size W W') : ClrAt w x g4 g6 g9 mb id W' lf cl O Bo cb := by
  obtain ⟨cs, h6, hs⟩ := h.res
  obtain ⟨T, hT, h1, h2⟩ := h.cnts
  exact ⟨(hb.block _ (lt_of_row h.need)).trans h.need, ⟨cs, (hb.block _ (lt_of_row h6)).trans h6, hs⟩, (hb.block _ (lt_of_row h.clr)).trans h.clr, h.outs.on hb, ⟨T, hT.on hb (Nat.le_refl _), h1, h2⟩, h.low.trans (hb.mono h.low.size), h.good, h.l6, h.l9, h.lm⟩
theorem LineAt.on (h : LineAt w W cl K) (hb : Below W.heap.size W W') : LineAt w W' cl K := ⟨h.1, h.2.on hb⟩
theorem ClrAt.needs (h : ClrAt w x g4 g6 g9 mb id W lf cl O Bo cb) : W.cell? ⟨g4, 0, none⟩ = some (.int .i64 x.a) ∧ W.cell? ⟨g4, 1, none⟩ = some (.int .i64 x.b) ∧ W.cell? ⟨g4, 2, none⟩ = some (.int .i64 x.c) ∧ W.cell? ⟨g4, 3, none⟩ = some (.int .i64 x.d) :=
  ⟨cell_of_heap h.need 0, cell_of_heap h.need 1, cell_of_heap h.need 2, cell_of_heap h.need 3⟩
theorem ClrAt.lefts (h : ClrAt w x g4 g6 g9 mb id W lf cl O Bo cb) : W.cell? ⟨g9, 1, none⟩ = some (.int .i64 lf.a) ∧ W.cell? ⟨g9, 2, none⟩ = some (.int .i64 lf.b) ∧ W.cell? ⟨g9, 3, none⟩ = some (.int .i64 lf.c) ∧ W.cell? ⟨g9, 4, none⟩ = some (.int .i64 lf.d) :=
  ⟨cell_of_heap h.clr 1, cell_of_heap h.clr 2, cell_of_heap h.clr 3, cell_of_heap h.clr 4⟩
theorem ClrAt.cl5 (h : ClrAt w x g4 g6 g9 mb id W lf cl O Bo cb) : W.cell? ⟨g9, 5, none⟩ = some (.slice cl.1 cl.2.1 cl.2.2) ∧ g9 < W.heap.size ∧ ∀ j, W.frozen? ⟨g9, j, none⟩ = false := ⟨cell_of_heap h.clr 5, lt_of_row h.clr, fun _ => frozen_of_row _ _ _ _ _ h.clr⟩
theorem ClrAt.cl0 (h : ClrAt w x g4 g6 g9 mb id W lf cl O Bo cb) : W.cell? ⟨g9, 0, none⟩ = some (.int .i64 id) := cell_of_heap h.clr 0
theorem ClrAt.gone (h : ClrAt w x g4 g6 g9 mb id W lf cl O Bo cb) (hz : ∀ W : World, (zeroValue 3).run Tryd.prog W = .ok (.int .i64 0) W) {j : Int} (hj : i64 j) : (Instr.lookup 56 (.map (some mb)) (.int .i64 j) false).run Tryd.prog W = .ok (.int .i64 (cntJ j O)) W := by
  obtain ⟨T, hT, _, h2⟩ := h.cnts
  rw [← h2 j]
  exact run_lookG kitI Tryd.underlying56 (enc := Value.int .i64) (z := 0) (hz W) hT hj
/-- Behind an append to the row of those that stay. -/
theorem ClrAt.grownK (h : ClrAt w x g4 g6 g9 mb id W lf cl O Bo cb) {v : Value} {M : List Gst} (hv : OwnE encGst 35 W w.heap.size v M) (hg : W.grownBy W' v.ownBlock) : ClrAt w x g4 g6 g9 mb id W' lf cl O Bo cb := by
  obtain ⟨cs, h6, hs⟩ := h.res
  obtain ⟨T, hT, h1, h2⟩ := h.cnts
  have n4 := own_ne hv h.need (by decide)
  have n6 := own_ne hv h6 (by decide)
  have n9 := own_ne hv h.clr (by decide)
  have nm := own_neM hv hT
  exact ⟨(hg.block _ (lt_of_row h.need) (Ne.symm n4)).trans h.need, ⟨cs, (hg.block _ (lt_of_row h6) (Ne.symm n6)).trans h6, hs⟩, (hg.block _ (lt_of_row h.clr) (Ne.symm n9)).trans h.clr,
    h.outs.same fun k hk => hg.block k (h.outs.lt k hk).2 fun e => rows_apart hv h.outs (by decide) k e.symm hk, ⟨T, hT.same (hg.block _ hT.lt (Ne.symm nm)), h1, h2⟩, h.low.grown hg h.low.size fun k hk => (hv.lt k hk).1, h.good, h.l6, h.l9, h.lm⟩
/-- Behind an append to the victims. -/
theorem ClrAt.grownO (h : ClrAt w x g4 g6 g9 mb id W lf cl O Bo cb) (hg : W.grownBy W' (Value.slice Bo O.length cb).ownBlock) {O' : List Gst} {Bo' : Option Addr} {cb' : Nat} (ho : OwnE encTk 33 W' w.heap.size (.slice Bo' O'.length cb') (O'.map (·.task))) :
    W'.heap[g4]? = W.heap[g4]? ∧ W'.heap[g6]? = W.heap[g6]? ∧ W'.heap[g9]? = W.heap[g9]? ∧ W'.heap[mb]? = W.heap[mb]? ∧ Below w.heap.size w W' ∧ OwnE encTk 33 W' w.heap.size (.slice Bo' O'.length cb') (O'.map (·.task)) := by
  obtain ⟨cs, h6, hs⟩ := h.res
  obtain ⟨T, hT, h1, h2⟩ := h.cnts
  have n4 := own_ne h.outs h.need (by decide)
  have n6 := own_ne h.outs h6 (by decide)
  have n9 := own_ne h.outs h.clr (by decide)
  have nm := own_neM h.outs hT
  exact ⟨hg.block _ (lt_of_row h.need) (Ne.symm n4), hg.block _ (lt_of_row h6) (Ne.symm n6), hg.block _ (lt_of_row h.clr) (Ne.symm n9), hg.block _ hT.lt (Ne.symm nm), h.low.grown hg h.low.size fun k hk => (h.outs.lt k hk).1, ho⟩
theorem ClrAt.mapO (h : ClrAt w x g4 g6 g9 mb id W lf cl O Bo cb) {T : List (Int × Int)} (hT : MapG Tryd.prog 3 (Lit.int .i64) i64 (Value.int .i64) W mb T) (hg : W.grownBy W' (Value.slice Bo O.length cb).ownBlock) : MapG Tryd.prog 3 (Lit.int .i64) i64 (Value.int .i64) W' mb T := hT.same (hg.block _ hT.lt (Ne.symm (own_neM h.outs hT)))
theorem LineAt.grownO (h : LineAt w W cl K) {v : Value} {M : List Tk} {base : Nat} (hv : OwnE encTk 33 W base v M) (hg : W.grownBy W' v.ownBlock) : LineAt w W' cl K :=
  ⟨h.1, h.2.same fun k hk => hg.block k (h.2.lt k hk).2 fun e => rows_apart hv h.2 (by decide) k e.symm hk⟩
/-- Behind stores into the room's box. -/
theorem ClrAt.put9 (h : ClrAt w x g4 g6 g9 mb id W lf cl O Bo cb) {lf' : V4} {cl' : Option Addr × Nat × Nat} (ho : ∀ k, k ≠ g9 → W'.heap[k]? = W.heap[k]?) (hb : Below w.heap.size w W') (hl : goodV lf' = true)
    (h9 : W'.heap[g9]? = some (.cells #[.int .i64 id, .int .i64 lf'.a, .int .i64 lf'.b, .int .i64 lf'.c, .int .i64 lf'.d, .slice cl'.1 cl'.2.1 cl'.2.2] 61 (0, 0))) : ClrAt w x g4 g6 g9 mb id W' lf' cl' O Bo cb := by
  obtain ⟨cs, h6, hs⟩ := h.res
  obtain ⟨T, hT, h1, h2⟩ := h.cnts
  have n4 : g4 ≠ g9 := fun e => by have h4 := h.need; rw [e, h.clr] at h4; simp at h4
  have nm : mb ≠ g9 := fun e => by
    obtain ⟨D, ⟨es, c, hb', _⟩, _⟩ := hT
    rw [e, h.clr] at hb'; cases hb'
  exact ⟨(ho _ n4).trans h.need, ⟨cs, (ho _ h.l9.2).trans h6, hs⟩, h9, h.outs.same fun k hk => ho k fun e => own_ne h.outs h.clr (by decide) (e ▸ hk), ⟨T, hT.same (ho _ nm), h1, h2⟩, hb, hl, h.l6, h.l9, h.lm⟩
theorem LineAt.put9 (h : LineAt w W cl K) {cs : Array Value} (h9 : W.heap[g9]? = some (.cells cs 61 (0, 0))) (ho : ∀ k, k ≠ g9 → W'.heap[k]? = W.heap[k]?) : LineAt w W' cl K :=
  ⟨h.1, h.2.same fun k hk => ho k fun e => own_ne h.2 h9 (by decide) (e ▸ hk)⟩
theorem ClrAt.set5 (h : ClrAt w x g4 g6 g9 mb id W lf cl O Bo cb) (B : Option Addr) (n c : Nat) : ClrAt w x g4 g6 g9 mb id (W.setCell ⟨g9, 5, none⟩ (.slice B n c)) lf (B, n, c) O Bo cb := by
  refine h.put9 (fun k hk => heap_setCell_other _ _ _ _ (by show k ≠ g9; exact hk)) (h.low.setCell h.l9.1 _) h.good ?_
  rw [heap_setCell_same _ _ _ _ _ _ h.clr]
  simp
theorem LineAt.set5 (h : ClrAt w x g4 g6 g9 mb id W lf cl O Bo cb) {B : Option Addr} {c : Nat} {M : List Gst} (hv : OwnE encGst 35 W w.heap.size (.slice B M.length c) M) : LineAt w (W.setCell ⟨g9, 5, none⟩ (.slice B M.length c)) (B, M.length, c) M :=
  ⟨rfl, hv.same fun k hk => heap_setCell_other _ _ _ _ (by show k ≠ g9; exact fun e => own_ne hv h.clr (by decide) (e ▸ hk))⟩
theorem ClrAt.set14 (h : ClrAt w x g4 g6 g9 mb id W lf cl O Bo cb) {y : V4} (hy : goodV y = true) : ClrAt w x g4 g6 g9 mb id ((((W.setCell ⟨g9, 1, none⟩ (.int .i64 y.a)).setCell ⟨g9, 2, none⟩ (.int .i64 y.b)).setCell ⟨g9, 3, none⟩ (.int .i64 y.c)).setCell ⟨g9, 4, none⟩ (.int .i64 y.d)) y cl O Bo cb := by
  refine h.put9 (fun k hk => ?_) ((((h.low.setCell (p := ⟨g9, 1, none⟩) h.l9.1 _).setCell (p := ⟨g9, 2, none⟩) h.l9.1 _).setCell (p := ⟨g9, 3, none⟩) h.l9.1 _).setCell (p := ⟨g9, 4, none⟩) h.l9.1 _) hy ?_
  · rw [heap_setCell_other _ _ _ _ (by show k ≠ g9; exact hk), heap_setCell_other _ _ _ _ (by show k ≠ g9; exact hk), heap_setCell_other _ _ _ _ (by show k ≠ g9; exact hk), heap_setCell_other _ _ _ _ (by show k ≠ g9; exact hk)]
  · have h1 := heap_setCell_same _ _ 1 _ _ (.int .i64 y.a) h.clr
    have h2 := heap_setCell_same _ _ 2 _ _ (.int .i64 y.b) h1
    have h3 := heap_setCell_same _ _ 3 _ _ (.int .i64 y.c) h2
    have h4 := heap_setCell_same _ _ 4 _ _ (.int .i64 y.d) h3
    rw [h4]
    simp
theorem LineAt.set14 (h : LineAt w W cl K) (h9 : ClrAt w x g4 g6 g9 mb id W lf cl O Bo cb) (a b c d : Value) : LineAt w ((((W.setCell ⟨g9, 1, none⟩ a).setCell ⟨g9, 2, none⟩ b).setCell ⟨g9, 3, none⟩ c).setCell ⟨g9, 4, none⟩ d) cl K := by
  refine h.put9 h9.clr fun k hk => ?_
  rw [heap_setCell_other _ _ _ _ (by show k ≠ g9; exact hk), heap_setCell_other _ _ _ _ (by show k ≠ g9; exact hk), heap_setCell_other _ _ _ _ (by show k ≠ g9; exact hk), heap_setCell_other _ _ _ _ (by show k ≠ g9; exact hk)]
theorem cntJ_snoc (j : Int) (O : List Gst) (g : Gst) : (cntJ j (O ++ [g]) : Int) = (if j = g.task.job then (cntJ j O : Int) + 1 else (cntJ j O : Int)) := by
  unfold cntJ
  rw [List.countP_append, List.countP_singleton]
  by_cases h : j = g.task.job
  · subst h; simp
  · rw [if_neg h]; simp [show g.task.job ≠ j from fun e => h e.symm]
/-- One more victim: the row has it, the map counts it. -/
theorem ClrAt.more (h : ClrAt w x g4 g6 g9 mb id W lf cl O Bo cb) {g : Gst} {W1 W2 : World} {Bo' : Option Addr} {cb' : Nat} (hg : W.grownBy W1 (Value.slice Bo O.length cb).ownBlock) (ho : OwnE encTk 33 W1 w.heap.size (.slice Bo' (O ++ [g]).length cb') ((O ++ [g]).map (·.task)))
    (hm : ∃ T, MapG Tryd.prog 3 (Lit.int .i64) i64 (Value.int .i64) W2 mb (enter T g.task.job ((cntJ g.task.job O : Int) + 1)) ∧ Apart T ∧ T.length ≤ O.length ∧ ∀ j, (look T j).getD 0 = (cntJ j O : Int)) (hg2 : W1.grownBy W2 (some mb)) : ClrAt w x g4 g6 g9 mb id W2 lf cl (O ++ [g]) Bo' cb' := by
  obtain ⟨e4, e6, e9, em, hb, _⟩ := h.grownO hg (O' := O ++ [g]) ho
  obtain ⟨T, hT, ha, hl, hc⟩ := hm
  obtain ⟨cs, h6, hs⟩ := h.res
  obtain ⟨T0, hT0, _⟩ := h.cnts
  have hm1 : MapG Tryd.prog 3 (Lit.int .i64) i64 (Value.int .i64) W1 mb T0 := hT0.same em
  have nr : ∀ {k : Nat} {cs : Array Value} {t : TypeId}, W1.heap[k]? = some (.cells cs t (0, 0)) → k ≠ mb := fun {k cs t} hk e => by
    obtain ⟨D, ⟨es, c, hb', _⟩, _⟩ := hm1
    rw [e, hb'] at hk; cases hk
  have k4 := e4.trans h.need
  have k6 := e6.trans h6
  have k9 := e9.trans h.clr
  refine ⟨(hg2.block _ (lt_of_row k4) (fun e => nr k4 (Option.some.inj e))).trans k4, ⟨cs, (hg2.block _ (lt_of_row k6) (fun e => nr k6 (Option.some.inj e))).trans k6, hs⟩, (hg2.block _ (lt_of_row k9) (fun e => nr k9 (Option.some.inj e))).trans k9,
    ho.same fun k hk => hg2.block k (ho.lt k hk).2 fun e => own_neM ho hm1 (by rw [hk, e]), ⟨_, hT, ?_, fun j => ?_⟩, hb.grown hg2 hb.size fun k hk => by cases hk; exact h.lm, h.good, h.l6, h.l9, h.lm⟩
  · have := enter_le T g.task.job ((cntJ g.task.job O : Int) + 1)
    rw [List.length_append]; simp only [List.length_cons, List.length_nil]; omega
  · rw [look_enter, cntJ_snoc]
    by_cases e : j = g.task.job
    · subst e; simp
    · rw [if_neg e, if_neg e]; exact hc j
theorem LineAt.more (h : LineAt w W cl K) (hc : ClrAt w x g4 g6 g9 mb id W lf cl O Bo cb) {W1 W2 : World} (hg : W.grownBy W1 (Value.slice Bo O.length cb).ownBlock) (hg2 : W1.grownBy W2 (some mb)) : LineAt w W2 cl K := by
  have h1 := h.grownO hc.outs hg
  obtain ⟨T0, hT0, _⟩ := hc.cnts
  have hm1 : MapG Tryd.prog 3 (Lit.int .i64) i64 (Value.int .i64) W1 mb T0 := hT0.same (hg.block _ hT0.lt (Ne.symm (own_neM hc.outs hT0)))
  exact ⟨h1.1, h1.2.same fun k hk => hg2.block k (h1.2.lt k hk).2 fun e => own_neM h1.2 hm1 (by rw [hk, e])⟩
theorem six_of (cs : Array Value) (h : cs.size = 6) : ∃ a b c d e f, cs = #[a, b, c, d, e, f] := by
  obtain ⟨l⟩ := cs
  match l, h with
  | [a, b, c, d, e, f], _ => exact ⟨a, b, c, d, e, f, rfl⟩
/-- Behind a store into the result's box. -/
theorem ClrAt.put6 (h : ClrAt w x g4 g6 g9 mb id W lf cl O Bo cb) (a b c d e f : Value) : ClrAt w x g4 g6 g9 mb id ((((((W.setCell ⟨g6, 0, none⟩ a).setCell ⟨g6, 1, none⟩ b).setCell ⟨g6, 2, none⟩ c).setCell ⟨g6, 3, none⟩ d).setCell ⟨g6, 4, none⟩ e).setCell ⟨g6, 5, none⟩ f) lf cl O Bo cb ∧ ((((((W.setCell ⟨g6, 0, none⟩ a).setCell ⟨g6, 1, none⟩ b).setCell ⟨g6, 2, none⟩ c).setCell ⟨g6, 3, none⟩ d).setCell ⟨g6, 4, none⟩ e).setCell ⟨g6, 5, none⟩ f).heap[g6]? = some (.cells #[a, b, c, d, e, f] 61 (0, 0)) := by
  obtain ⟨cs, h6, hs⟩ := h.res
  obtain ⟨T, hT, h1, h2⟩ := h.cnts
  have n4 : g4 ≠ g6 := fun e => by have h4 := h.need; rw [e, h6] at h4; simp at h4
  have nm : mb ≠ g6 := fun e => by
    obtain ⟨D, ⟨es, c, hb', _⟩, _⟩ := hT
    rw [e, h6] at hb'; cases hb'
  have k0 := heap_setCell_same _ _ 0 _ _ a h6
  have k1 := heap_setCell_same _ _ 1 _ _ b k0
  have k2 := heap_setCell_same _ _ 2 _ _ c k1
  have k3 := heap_setCell_same _ _ 3 _ _ d k2
  have k4 := heap_setCell_same _ _ 4 _ _ e k3
  have k5 := heap_setCell_same _ _ 5 _ _ f k4
  have hk : (((((cs.setIfInBounds 0 a).setIfInBounds 1 b).setIfInBounds 2 c).setIfInBounds 3 d).setIfInBounds 4 e).setIfInBounds 5 f = #[a, b, c, d, e, f] := by
    obtain ⟨y0, y1, y2, y3, y4, y5, rfl⟩ := six_of cs hs
    rfl
  rw [hk] at k5
  have ho : ∀ k, k ≠ g6 → ((((((W.setCell ⟨g6, 0, none⟩ a).setCell ⟨g6, 1, none⟩ b).setCell ⟨g6, 2, none⟩ c).setCell ⟨g6, 3, none⟩ d).setCell ⟨g6, 4, none⟩ e).setCell ⟨g6, 5, none⟩ f).heap[k]? = W.heap[k]? := fun k hk => by
    have st : ∀ (W : World) (i : Nat) (u : Value), (W.setCell ⟨g6, i, none⟩ u).heap[k]? = W.heap[k]? := fun W i u => heap_setCell_other W ⟨g6, i, none⟩ k u hk
    rw [st, st, st, st, st, st]
  refine ⟨⟨(ho _ n4).trans h.need, ⟨_, k5, rfl⟩, (ho _ (Ne.symm h.l9.2)).trans h.clr, h.outs.same fun k hk => ho k fun e => own_ne h.outs h6 (by decide) (e ▸ hk), ⟨T, hT.same (ho _ nm), h1, h2⟩, ?_, h.good, h.l6, h.l9, h.lm⟩, k5⟩
  exact (((((h.low.setCell (p := ⟨g6, 0, none⟩) h.l6 _).setCell (p := ⟨g6, 1, none⟩) h.l6 _).setCell (p := ⟨g6, 2, none⟩) h.l6 _).setCell (p := ⟨g6, 3, none⟩) h.l6 _).setCell (p := ⟨g6, 4, none⟩) h.l6 _).setCell (p := ⟨g6, 5, none⟩) h.l6 _
theorem ClrAt.res6 (h : ClrAt w x g4 g6 g9 mb id W lf cl O Bo cb) : ∃ c0 c1 c2 c3 c4 c5, W.cell? ⟨g6, 0, none⟩ = some c0 ∧ W.cell? ⟨g6, 1, none⟩ = some c1 ∧ W.cell? ⟨g6, 2, none⟩ = some c2 ∧ W.cell? ⟨g6, 3, none⟩ = some c3 ∧ W.cell? ⟨g6, 4, none⟩ = some c4 ∧ W.cell? ⟨g6, 5, none⟩ = some c5 ∧ g6 < W.heap.size ∧ ∀ j, W.frozen? ⟨g6, j, none⟩ = false := by
  obtain ⟨cs, h6, hs⟩ := h.res
  obtain ⟨a, b, c, d, e, f, rfl⟩ := six_of cs hs
  exact ⟨a, b, c, d, e, f, cell_of_heap h6 0, cell_of_heap h6 1, cell_of_heap h6 2, cell_of_heap h6 3, cell_of_heap h6 4, cell_of_heap h6 5, lt_of_row h6, fun _ => frozen_of_row _ _ _ _ _ h6⟩
end
end Go.Proofs.YtlckofoabnnlhaaDoor
