/- The state of the walk over a plan's rooms. No conditions. -/
import Derived.Test.YtlckofoabnnlhaaDoorViCk
namespace Go.Proofs.YtlckofoabnnlhaaDoor
open Go Go.RowKit Go.Maps

theorem ok_parts {h : Hst} (hk : okH h = true) : goodV h.left = true ∧ ∀ g ∈ h.on, goodV g.need = true := by
  unfold okH at hk
  rw [Bool.and_eq_true, List.all_eq_true] at hk
  exact hk
/-- The place of the chosen room, -1 if there is none; the victims there. -/
def placeF : Option (Nat × Hst × List Gst) → Int
  | none => -1
  | some (a, _, _) => a
def outF : Option (Nat × Hst × List Gst) → List Gst
  | none => []
  | some (_, _, o) => o
/-- The chosen room's box tells it. -/
def RoomF (x : V4) (al : Int → Int) (b : Option (Nat × Hst × List Gst)) (rid : Int) (y : V4) : Prop := ∀ a t o, b = some (a, t, o) → rid = t.id ∧ y = (clearK x al t.left t.on).1
/-- The state: the demand's box, the result's, the chosen room's, the victims. -/
structure FewAt (w : World) (x : V4) (g4 g7 g10 : Nat) (W : World) (rid : Int) (y : V4) (cl : Option Addr × Nat × Nat) (O : List Gst) (Bo : Option Addr) (cb : Nat) : Prop where
  need : W.heap[g4]? = some (.cells #[.int .i64 x.a, .int .i64 x.b, .int .i64 x.c, .int .i64 x.d] 24 (0, 0))
  res : ∃ cs : Array Value, W.heap[g7]? = some (.cells cs 61 (0, 0)) ∧ cs.size = 6
  clr : W.heap[g10]? = some (.cells #[.int .i64 rid, .int .i64 y.a, .int .i64 y.b, .int .i64 y.c, .int .i64 y.d, .slice cl.1 cl.2.1 cl.2.2] 61 (0, 0))
  outs : OwnE encTk 33 W w.heap.size (.slice Bo O.length cb) (O.map (·.task))
  low : Below w.heap.size w W
  l7 : w.heap.size ≤ g7
  l10 : w.heap.size ≤ g10 ∧ g7 ≠ g10
section
variable {w : World} {x : V4} {g4 g7 g10 : Nat} {W W' : World} {rid : Int} {y : V4} {cl : Option Addr × Nat × Nat} {O : List Gst} {Bo : Option Addr} {cb : Nat}
theorem FewAt.on (h : FewAt w x g4 g7 g10 W rid y cl O Bo cb) (hb : Below W.heap.size W W') : FewAt w x g4 g7 g10 W' rid y cl O Bo cb := by
  obtain ⟨cs, h6, hs⟩ := h.res
  exact ⟨(hb.block _ (lt_of_row h.need)).trans h.need, ⟨cs, (hb.block _ (lt_of_row h6)).trans h6, hs⟩, (hb.block _ (lt_of_row h.clr)).trans h.clr, h.outs.on hb, h.low.trans (hb.mono h.low.size), h.l7, h.l10⟩
theorem FewAt.outs' (h : FewAt w x g4 g7 g10 W rid y cl O Bo cb) {O' : List Gst} {Bo' : Option Addr} {cb' : Nat} (ho : OwnE encTk 33 W w.heap.size (.slice Bo' O'.length cb') (O'.map (·.task))) : FewAt w x g4 g7 g10 W rid y cl O' Bo' cb' := ⟨h.need, h.res, h.clr, ho, h.low, h.l7, h.l10⟩
theorem FewAt.needs (h : FewAt w x g4 g7 g10 W rid y cl O Bo cb) : W.cell? ⟨g4, 0, none⟩ = some (.int .i64 x.a) ∧ W.cell? ⟨g4, 1, none⟩ = some (.int .i64 x.b) ∧ W.cell? ⟨g4, 2, none⟩ = some (.int .i64 x.c) ∧ W.cell? ⟨g4, 3, none⟩ = some (.int .i64 x.d) ∧ g4 < W.heap.size :=
  ⟨cell_of_heap h.need 0, cell_of_heap h.need 1, cell_of_heap h.need 2, cell_of_heap h.need 3, lt_of_row h.need⟩
theorem FewAt.cls (h : FewAt w x g4 g7 g10 W rid y cl O Bo cb) : W.cell? ⟨g10, 0, none⟩ = some (.int .i64 rid) ∧ W.cell? ⟨g10, 1, none⟩ = some (.int .i64 y.a) ∧ W.cell? ⟨g10, 2, none⟩ = some (.int .i64 y.b) ∧ W.cell? ⟨g10, 3, none⟩ = some (.int .i64 y.c) ∧ W.cell? ⟨g10, 4, none⟩ = some (.int .i64 y.d) ∧ W.cell? ⟨g10, 5, none⟩ = some (.slice cl.1 cl.2.1 cl.2.2) ∧ g10 < W.heap.size ∧ ∀ j, W.frozen? ⟨g10, j, none⟩ = false :=
  ⟨cell_of_heap h.clr 0, cell_of_heap h.clr 1, cell_of_heap h.clr 2, cell_of_heap h.clr 3, cell_of_heap h.clr 4, cell_of_heap h.clr 5, lt_of_row h.clr, fun _ => frozen_of_row _ _ _ _ _ h.clr⟩
/-- What six stores make of a box of six cells. -/
theorem put_six {g : Nat} {t : TypeId} {cs : Array Value} (h6 : W.heap[g]? = some (.cells cs t (0, 0))) (hs : cs.size = 6) (a b c d e f : Value) : ((((((W.setCell ⟨g, 0, none⟩ a).setCell ⟨g, 1, none⟩ b).setCell ⟨g, 2, none⟩ c).setCell ⟨g, 3, none⟩ d).setCell ⟨g, 4, none⟩ e).setCell ⟨g, 5, none⟩ f).heap[g]? = some (.cells #[a, b, c, d, e, f] t (0, 0)) ∧ ∀ k, k ≠ g → ((((((W.setCell ⟨g, 0, none⟩ a).setCell ⟨g, 1, none⟩ b).setCell ⟨g, 2, none⟩ c).setCell ⟨g, 3, none⟩ d).setCell ⟨g, 4, none⟩ e).setCell ⟨g, 5, none⟩ f).heap[k]? = W.heap[k]? := by
  have k0 := heap_setCell_same _ _ 0 _ _ a h6
  have k1 := heap_setCell_same _ _ 1 _ _ b k0
  have k2 := heap_setCell_same _ _ 2 _ _ c k1
  have k3 := heap_setCell_same _ _ 3 _ _ d k2
  have k4 := heap_setCell_same _ _ 4 _ _ e k3
  have k5 := heap_setCell_same _ _ 5 _ _ f k4
  have hk : (((((cs.setIfInBounds 0 a).setIfInBounds 1 b).setIfInBounds 2 c).setIfInBounds 3 d).setIfInBounds 4 e).setIfInBounds 5 f = #[a, b, c, d, e, f] := by
    obtain ⟨y0, y1, y2, y3, y4, y5, rfl⟩ := six_of cs hs
    rfl
  rw [hk] at k5
  refine ⟨k5, fun k hk => ?_⟩
  have st : ∀ (W : World) (i : Nat) (u : Value), (W.setCell ⟨g, i, none⟩ u).heap[k]? = W.heap[k]? := fun W i u => heap_setCell_other W ⟨g, i, none⟩ k u hk
  rw [st, st, st, st, st, st]
theorem below_six {B : Nat} {g : Nat} (h : Below B w W) (hg : B ≤ g) (a b c d e f : Value) : Below B w ((((((W.setCell ⟨g, 0, none⟩ a).setCell ⟨g, 1, none⟩ b).setCell ⟨g, 2, none⟩ c).setCell ⟨g, 3, none⟩ d).setCell ⟨g, 4, none⟩ e).setCell ⟨g, 5, none⟩ f) :=
  (((((h.setCell (p := ⟨g, 0, none⟩) hg _).setCell (p := ⟨g, 1, none⟩) hg _).setCell (p := ⟨g, 2, none⟩) hg _).setCell (p := ⟨g, 3, none⟩) hg _).setCell (p := ⟨g, 4, none⟩) hg _).setCell (p := ⟨g, 5, none⟩) hg _
theorem FewAt.n4 (h : FewAt w x g4 g7 g10 W rid y cl O Bo cb) : g4 ≠ g10 ∧ g4 ≠ g7 := by
  obtain ⟨cs, h6, hs⟩ := h.res
  have h4 := h.need
  exact ⟨fun e => by rw [e, h.clr] at h4; simp at h4, fun e => by rw [e, h6] at h4; simp at h4⟩
/-- Behind a store of another room. -/
theorem FewAt.put10 (h : FewAt w x g4 g7 g10 W rid y cl O Bo cb) (rid' : Int) (y' : V4) (cA : Option Addr) (cn cc : Nat) : FewAt w x g4 g7 g10 ((((((W.setCell ⟨g10, 0, none⟩ (.int .i64 rid')).setCell ⟨g10, 1, none⟩ (.int .i64 y'.a)).setCell ⟨g10, 2, none⟩ (.int .i64 y'.b)).setCell ⟨g10, 3, none⟩ (.int .i64 y'.c)).setCell ⟨g10, 4, none⟩ (.int .i64 y'.d)).setCell ⟨g10, 5, none⟩ (.slice cA cn cc)) rid' y' (cA, cn, cc) O Bo cb := by
  obtain ⟨cs, h6, hs⟩ := h.res
  obtain ⟨k1, k2⟩ := put_six h.clr rfl (.int .i64 rid') (.int .i64 y'.a) (.int .i64 y'.b) (.int .i64 y'.c) (.int .i64 y'.d) (.slice cA cn cc)
  exact ⟨(k2 _ h.n4.1).trans h.need, ⟨cs, (k2 _ h.l10.2).trans h6, hs⟩, k1, h.outs.same fun k hk => k2 k fun e => own_ne h.outs h.clr (by decide) (e ▸ hk), below_six h.low h.l10.1 _ _ _ _ _ _, h.l7, h.l10⟩
/-- Behind a store into the result's box. -/
theorem FewAt.put7 (h : FewAt w x g4 g7 g10 W rid y cl O Bo cb) (a b c d e f : Value) : FewAt w x g4 g7 g10 ((((((W.setCell ⟨g7, 0, none⟩ a).setCell ⟨g7, 1, none⟩ b).setCell ⟨g7, 2, none⟩ c).setCell ⟨g7, 3, none⟩ d).setCell ⟨g7, 4, none⟩ e).setCell ⟨g7, 5, none⟩ f) rid y cl O Bo cb ∧ ((((((W.setCell ⟨g7, 0, none⟩ a).setCell ⟨g7, 1, none⟩ b).setCell ⟨g7, 2, none⟩ c).setCell ⟨g7, 3, none⟩ d).setCell ⟨g7, 4, none⟩ e).setCell ⟨g7, 5, none⟩ f).heap[g7]? = some (.cells #[a, b, c, d, e, f] 61 (0, 0)) := by
  obtain ⟨cs, h6, hs⟩ := h.res
  obtain ⟨k1, k2⟩ := put_six h6 hs a b c d e f
  exact ⟨⟨(k2 _ h.n4.2).trans h.need, ⟨_, k1, rfl⟩, (k2 _ (Ne.symm h.l10.2)).trans h.clr, h.outs.same fun k hk => k2 k fun e => own_ne h.outs h6 (by decide) (e ▸ hk), below_six h.low h.l7 _ _ _ _ _ _, h.l7, h.l10⟩, k1⟩
theorem FewAt.res6 (h : FewAt w x g4 g7 g10 W rid y cl O Bo cb) : ∃ c0 c1 c2 c3 c4 c5, W.cell? ⟨g7, 0, none⟩ = some c0 ∧ W.cell? ⟨g7, 1, none⟩ = some c1 ∧ W.cell? ⟨g7, 2, none⟩ = some c2 ∧ W.cell? ⟨g7, 3, none⟩ = some c3 ∧ W.cell? ⟨g7, 4, none⟩ = some c4 ∧ W.cell? ⟨g7, 5, none⟩ = some c5 ∧ g7 < W.heap.size ∧ ∀ j, W.frozen? ⟨g7, j, none⟩ = false := by
  obtain ⟨cs, h6, hs⟩ := h.res
  obtain ⟨a, b, c, d, e, f, rfl⟩ := six_of cs hs
  exact ⟨a, b, c, d, e, f, cell_of_heap h6 0, cell_of_heap h6 1, cell_of_heap h6 2, cell_of_heap h6 3, cell_of_heap h6 4, cell_of_heap h6 5, lt_of_row h6, fun _ => frozen_of_row _ _ _ _ _ h6⟩
end
end Go.Proofs.YtlckofoabnnlhaaDoor
