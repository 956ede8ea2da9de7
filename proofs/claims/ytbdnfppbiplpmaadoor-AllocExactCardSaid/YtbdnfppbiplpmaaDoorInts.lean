/- Rows of numbers in memory: a slice that reads as a list of numbers, a block that holds one, a row that grows. No conditions. -/
import Derived.Test.YtbdnfppbiplpmaaDoorErrs
import Derived.Test.YtbdnfppbiplpmaaDoorChg
import Derived.Lib.Hide
import Derived.Laws.AppendOwn
import Derived.Deep.OwnRows
import Derived.OwnWalk
import Derived.Maps.AppendAt
namespace Go.Proofs.YtbdnfppbiplpmaaDoor
open Go Go.RowKit

theorem Tryd.infoI : (Tryd.prog.info? 3).map (fun i => (i.zero, i.size, i.bytes)) = some (some (.int .i64 0), 1, 8) := by kernel_rfl
/-- A slice reads as a row of numbers. -/
def RI (w : World) (v : Value) (L : List Int) : Prop := ∃ a c, v = .slice a L.length c ∧ ∀ i z, L[i]? = some z → ∃ ad, a = some ad ∧ w.cell? (ad.add i) = some (.int .i64 z)
theorem RI.on {w w' : World} {v : Value} {L : List Int} (h : RI w v L) (hb : Below w.heap.size w w') : RI w' v L := by
  obtain ⟨a, c, e, hc⟩ := h
  refine ⟨a, c, e, fun i z hz => ?_⟩
  obtain ⟨ad, h1, h2⟩ := hc i z hz
  exact ⟨ad, h1, (hb.cell (p := ad.add i) (lt_of_cell h2)).trans h2⟩
theorem RI.drewN {w : World} {v : Value} {L : List Int} (h : RI w v L) (n : Nat) : RI (w.drewN n) v L := h.on (below_drewN (Below.refl _ _) n)
theorem RI.drew {w : World} {v : Value} {L : List Int} (h : RI w v L) : RI w.drew v L := h.on ((Below.refl _ _).drew)
theorem RI.nil (w : World) : RI w (.slice none 0 0) [] := ⟨none, 0, rfl, fun i z h => by simp at h⟩
/-- The values of numbers. -/
def intVs (L : List Int) : List Value := L.map (Value.int .i64)
theorem intVs_len (L : List Int) : (intVs L).length = L.length := by simp [intVs]
theorem intVs_get (L : List Int) (i : Nat) : (intVs L)[i]? = (L[i]?).map (Value.int .i64) := by simp [intVs]
/-- A row of cells at block g. -/
def RowI (w : World) (g : Nat) (l : List Value) : Prop := w.heap[g]? = some (.cells l.toArray 3 (0, 0))
theorem RowI.below {w w' : World} {g B : Nat} {l : List Value} (h : RowI w g l) (hb : Below B w w') (hg : g < B) : RowI w' g l := (hb.block g hg).trans h
theorem RowI.cell {w : World} {g j : Nat} {l : List Value} {v : Value} (h : RowI w g l) (hj : l[j]? = some v) : w.cell? ⟨g, j, none⟩ = some v := (cell_of_heap h j).trans (by simpa using hj)
theorem RowI.free {w : World} {g : Nat} {l : List Value} (h : RowI w g l) (j : Nat) : w.frozen? ⟨g, j, none⟩ = false := frozen_of_heap h j
theorem RowI.lt {w : World} {g : Nat} {l : List Value} (h : RowI w g l) : g < w.heap.size := (Array.getElem?_eq_some_iff.1 h).1
theorem RowI.set {w : World} {g : Nat} {l : List Value} (h : RowI w g l) (j : Nat) (v : Value) : RowI (w.setCell ⟨g, j, none⟩ v) g (l.set j v) := by
  have := heap_setCell_same w g j _ _ v h
  rwa [List.setIfInBounds_toArray] at this
theorem add_zero (g i : Nat) : (⟨g, 0, none⟩ : Addr).add i = ⟨g, i, none⟩ := by rw [Addr.add_lit, Nat.zero_add]
theorem RowI.ri {w : World} {g c : Nat} {L : List Int} {n : Nat} (h : RowI w g (intVs L)) (hn : n = L.length) : RI w (.slice (some ⟨g, 0, none⟩) n c) L := by
  subst hn
  refine ⟨_, c, rfl, fun i z hz => ⟨_, rfl, ?_⟩⟩
  rw [add_zero]
  exact h.cell (by rw [intVs_get, hz]; rfl)
theorem fillI_step {F : List Value} {n j : Nat} {z v : Value} (hn : F.length = n) (hj : F[j]? = some v) : (F.take j ++ List.replicate (n - j) z).set j v = F.take (j + 1) ++ List.replicate (n - (j + 1)) z := by
  have hl := (List.getElem?_eq_some_iff.1 hj).1
  rw [List.set_append_right _ _ (by simp; omega), List.take_add_one, hj]
  simp only [List.length_take, Nat.min_eq_left (Nat.le_of_lt hl), Nat.sub_self]
  rw [show n - j = (n - (j + 1)) + 1 by omega, List.replicate_succ, List.set_cons_zero]
  simp
theorem fillI_free {F : List Value} {n j : Nat} {z : Value} (hn : F.length = n) (hj : j < n) : (F.take j ++ List.replicate (n - j) z)[j]? = some z := by
  rw [List.getElem?_append_right (by simp; omega), List.getElem?_replicate, if_pos (by simp; omega)]
/-- A row of numbers that the calls have built by append. -/
abbrev IOwn (w : World) (base : Nat) (v : Value) (L : List Int) : Prop := w.ownsRow base 3 1 v L.length (intVs L)
theorem IOwn.ri {w : World} {base : Nat} {v : Value} {L : List Int} (h : IOwn w base v L) : RI w v L := by
  rcases h.2 with ⟨rfl, h0⟩ | ⟨g, cap, cur, rfl, _, hg, _, _, _, ht⟩
  · obtain rfl := List.eq_nil_of_length_eq_zero h0
    exact RI.nil w
  · refine ⟨_, cap, rfl, fun i z hz => ⟨_, rfl, ?_⟩⟩
    rw [add_zero, cell_of_heap hg i]
    have hl := (List.getElem?_eq_some_iff.1 hz).1
    have h1 : (cur.toList.take (L.length * 1))[i]? = some (.int .i64 z) := by rw [ht, intVs_get, hz]; rfl
    rw [List.getElem?_take_of_lt (by omega)] at h1
    simpa using h1
theorem IOwn.alloc {w : World} {base : Nat} {v : Value} {L : List Int} (h : IOwn w base v L) (o : Obj) : IOwn (w.alloc o) base v L := World.ownsRow.alloc h o
theorem IOwn.low {w : World} {base : Nat} {v : Value} {L : List Int} (h : IOwn w base v L) : ∀ k, v.ownBlock = some k → base ≤ k := fun k e => (World.ownsRow.lt h k e).1
/-- '[]int{}'. -/
theorem IOwn.new (w : World) : IOwn (w.alloc (.cells #[] 3)) w.heap.size (.slice (some ⟨w.heap.size, 0, none⟩) 0 0) [] :=
  ⟨rfl, .inr ⟨w.heap.size, 0, #[], rfl, Nat.le_refl _, heap_alloc_new _ _, Nat.le_refl _, Nat.zero_le _, rfl, rfl⟩⟩
end Go.Proofs.YtbdnfppbiplpmaaDoor
