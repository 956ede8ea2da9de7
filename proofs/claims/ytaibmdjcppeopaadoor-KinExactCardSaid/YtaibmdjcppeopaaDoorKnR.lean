/- The contracts of the document's answer for layer 8: of each number its parent. Condition: it lies in memory. -/
import Derived.Test.YtaibmdjcppeopaaDoorKnG
import Derived.Lib.SmallJoins
namespace Go.Proofs.YtaibmdjcppeopaaDoor
open Go Go.RowKit Go.Maps Go.Sort

/-- Block o has a thousand numbers. -/
def GrAt (w : World) (o : Nat) (f : Nat → Int) : Prop := ∃ cs : Array Value, w.heap[o]? = some (.cells cs 53 (0, 0)) ∧ cs.size = 1000 ∧ ∀ i, i < 1000 → cs[i]? = some (.int .i64 (f i))
theorem GrAt.lt {w : World} {o : Nat} {f : Nat → Int} (h : GrAt w o f) : o < w.heap.size := by obtain ⟨cs, hb, _⟩ := h; exact (Array.getElem?_eq_some_iff.1 hb).1
theorem GrAt.same {w w' : World} {o : Nat} {f : Nat → Int} (h : GrAt w o f) (e : w'.heap[o]? = w.heap[o]?) : GrAt w' o f := by
  obtain ⟨cs, hb, r⟩ := h; exact ⟨cs, e.trans hb, r⟩
theorem GrAt.on {w w' : World} {o : Nat} {f : Nat → Int} (h : GrAt w o f) (hb : Below w.heap.size w w') : GrAt w' o f := h.same (hb.block o h.lt)
theorem GrAt.ext {w : World} {o : Nat} {f g : Nat → Int} (h : GrAt w o f) (e : ∀ i, i < 1000 → f i = g i) : GrAt w o g := by
  obtain ⟨cs, hb, hs, hc⟩ := h; exact ⟨cs, hb, hs, fun i hi => by rw [hc i hi, e i hi]⟩
theorem GrAt.cell {w : World} {o : Nat} {f : Nat → Int} (h : GrAt w o f) {i : Nat} (hi : i < 1000) : w.cell? ⟨o, i, none⟩ = some (.int .i64 (f i)) ∧ w.frozen? ⟨o, i, none⟩ = false := by
  obtain ⟨cs, hb, hs, hc⟩ := h
  exact ⟨by rw [cell_of_heap hb]; exact hc i hi, frozen_of_heap hb i⟩
theorem GrAt.set {w : World} {o : Nat} {f : Nat → Int} (h : GrAt w o f) {j : Nat} (hj : j < 1000) (x : Int) : GrAt (w.setCell ⟨o, j, none⟩ (.int .i64 x)) o (fun i => if i = j then x else f i) := by
  obtain ⟨cs, hb, hs, hc⟩ := h
  refine ⟨cs.setIfInBounds j (.int .i64 x), heap_setCell_same w o j cs _ _ hb, by rw [Array.size_setIfInBounds]; exact hs, fun i hi => ?_⟩
  rw [Array.getElem?_setIfInBounds]
  show _ = some (Value.int .i64 (if i = j then x else f i))
  by_cases e : j = i
  · subst e; rw [if_pos rfl, if_pos (by omega), if_pos rfl]
  · rw [if_neg e, hc i hi, if_neg (fun k : i = j => e k.symm)]
/-- The numbers as the document's answer has them. -/
def refF (T : Kin) (i : Nat) : Int := (up T (i : Int)).getD (-1)

theorem Tryd.zeroK : Tryd.zeroCells53 = (List.replicate 1000 (Value.int .i64 0)).toArray := by kernel_rfl
theorem GrAt.zero (w : World) : GrAt (w.alloc (.cells Tryd.zeroCells53 53)) w.heap.size (fun _ => 0) := by
  refine ⟨_, heap_alloc_new w _, ?_, fun i hi => ?_⟩
  · rw [Tryd.zeroK, List.size_toArray, List.length_replicate]
  · rw [Tryd.zeroK, List.getElem?_toArray, List.getElem?_replicate_of_lt hi]

set_option maxRecDepth 100000 in
theorem rnew_c (w : World) : Calls Tryd.prog 8 #[] w fun e w' => ∃ o, e = .returned (.pointer (some ⟨o, 0, none⟩)) ∧ GrAt w' o (refF [(1, 0)]) ∧ Below w.heap.size w w' ∧ w.heap.size ≤ o := by
  have hz := Lib.hid (GrAt.zero w)
  go_enter Tryd.func8, Tryd.ntmps8
  go_wp2_with fail
  go_loopw [2] (fun I wr => ∃ i : Nat, I = .int .i64 (i : Int) ∧ i ≤ 1000 ∧ GrAt wr w.heap.size (fun k => if k < i then -1 else 0) ∧ Below w.heap.size w wr) (fun I _ => 1000 - (intOf I).toNat)
  case atStart => exact ⟨0, rfl, by omega, hz.out.ext (fun i _ => by simp), (Below.refl _ _).alloc (Nat.le_refl _) _⟩
  case round =>
    obtain ⟨i, rfl, hi, hG, hb⟩ := hrel
    have HG := Lib.hid hG
    clear hz
    by_cases h : i < 1000
    · have i0 : (0 : Int) ≤ (i : Int) := by omega
      have i1 : (i : Int) < 1000 := by omega
      obtain ⟨c1, f1⟩ := hG.cell h
      clear hG
      go_wp2_with fail
      go_roundw
      case rel =>
        refine ⟨i + 1, ret_v (by omega), by omega, ?_, hb.setCell (Nat.le_refl _) _⟩
        exact (HG.out.set h (-1)).ext fun k _ => by by_cases e : k = i <;> by_cases e2 : k < i <;> by_cases e3 : k < i + 1 <;> simp [e, e2, e3] <;> omega
      case measure => simp [intOf]; omega
    · obtain rfl : i = 1000 := by omega
      obtain ⟨c1, f1⟩ := hG.cell (i := 1) (by omega)
      clear hG
      go_wp2_with fail
      go_ret
      refine ⟨_, rfl, (HG.out.set (j := 1) (by omega) 0).ext (fun k hk => ?_), hb.setCell (Nat.le_refl _) _, Nat.le_refl _⟩
      unfold refF
      rw [up_cons]
      by_cases e : k = 1
      · subst e; rfl
      · rw [if_neg e, if_pos hk, if_neg (by omega)]; rfl
end Go.Proofs.YtaibmdjcppeopaaDoor
