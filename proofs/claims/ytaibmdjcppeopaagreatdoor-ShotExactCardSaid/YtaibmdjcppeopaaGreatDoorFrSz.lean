/- The walk of the law FrameSizes: whatever the arguments, it returns true. Condition: the sentinels lie as the program's text lays them. -/
import Derived.Test.YtaibmdjcppeopaaGreatDoorFrL
namespace Go.Proofs.YtaibmdjcppeopaaGreatDoor
open Go Go.RowKit

theorem mod_pos (i : Int) (k : Nat) (h0 : 0 < k) (h1 : k ≤ 1000000) : ∃ m : Nat, m < k ∧ wrap64 ((IntKind.u64.wrap i).tmod (k : Int)) = (m : Int) := by
  have hu : 0 ≤ IntKind.u64.wrap i := by rw [IntKind.wrap_u64]; omega
  have hk : (0 : Int) < (k : Int) := by omega
  have e : (IntKind.u64.wrap i).tmod (k : Int) = IntKind.u64.wrap i % (k : Int) := Int.tmod_eq_emod_of_nonneg hu
  have hlo := Int.emod_nonneg (IntKind.u64.wrap i) (Int.ne_of_gt hk)
  have hhi := Int.emod_lt_of_pos (IntKind.u64.wrap i) hk
  refine ⟨(IntKind.u64.wrap i % (k : Int)).toNat, by omega, ?_⟩
  rw [e]
  have hw : wrap64 (IntKind.u64.wrap i % (k : Int)) = IntKind.u64.wrap i % (k : Int) := by
    generalize IntKind.u64.wrap i % (k : Int) = z at hlo hhi
    unfold wrap64; omega
  rw [hw]; omega

/-- A row of bytes in a block of its own. -/
def BytV (w : World) (g : Nat) (bs : List UInt8) : Prop := w.heap[g]? = some (.cells (byteVs bs).toArray 5 (0, 0))
theorem BytV.below {w w' : World} {g B : Nat} {bs : List UInt8} (h : BytV w g bs) (hb : Below B w w') (hg : g < B) : BytV w' g bs := (hb.block g hg).trans h
theorem BytV.lt {w : World} {g : Nat} {bs : List UInt8} (h : BytV w g bs) : g < w.heap.size := (Array.getElem?_eq_some_iff.1 h).1
theorem BytV.conv {w : World} {g : Nat} {bs : List UInt8} (h : BytV w g bs) (hl : bs.length ≤ 1000000) : (convert 51 9 (.slice (some ⟨g, 0, none⟩) bs.length bs.length)).run Tryz.prog w = .ok (.string (bst bs)) w :=
  conv_own w 0 bs.length bs _ ⟨by rw [byteVs_len, Nat.mul_one], .inr ⟨g, bs.length, _, rfl, Nat.zero_le _, h, Nat.le_refl _, by unfold maxLen; omega, by simp [byteVs], by rw [Nat.mul_one, List.take_of_length_le (by simp [byteVs])]⟩⟩
theorem BytV.set {w : World} {g j : Nat} {bs : List UInt8} (h : BytV w g bs) (b : UInt8) : BytV (w.setCell ⟨g, j, none⟩ (.int .u8 (b.toNat : Int))) g (bs.set j b) := by
  have := heap_setCell_same w g j _ _ (.int .u8 (b.toNat : Int)) h
  rw [List.setIfInBounds_toArray] at this
  unfold BytV
  rw [this]
  unfold byteVs
  rw [List.map_set]
theorem BytV.cell {w : World} {g j : Nat} {bs : List UInt8} {b : UInt8} (h : BytV w g bs) (hj : bs[j]? = some b) : w.cell? ⟨g, j, none⟩ = some (.int .u8 (b.toNat : Int)) := by
  rw [cell_of_heap h j]; simp [byteVs, hj]
/-- The loop's row. -/
def fillB (b : UInt8) (k j : Nat) : List UInt8 := List.replicate j b ++ List.replicate (k - j) 0
theorem fillB_len (b : UInt8) (k j : Nat) (h : j ≤ k) : (fillB b k j).length = k := by unfold fillB; simp; omega
theorem fillB_get (b : UInt8) (k j : Nat) (h : j < k) : (fillB b k j)[j]? = some 0 := by
  unfold fillB; rw [List.getElem?_append_right (by simp), List.getElem?_replicate, if_pos (by simp; omega)]
theorem fillB_set (b : UInt8) (k j : Nat) (h : j < k) : (fillB b k j).set j b = fillB b k (j + 1) := by
  unfold fillB
  rw [List.set_append_right _ _ (by simp)]
  simp only [List.length_replicate, Nat.sub_self]
  rw [show k - j = (k - (j + 1)) + 1 by omega, List.replicate_succ, List.set_cons_zero, List.replicate_succ']
  simp
theorem fillB_all (b : UInt8) (k : Nat) : fillB b k k = List.replicate k b := by unfold fillB; simp
/-- What a round of the loop begins with. -/
def SRel (w : World) (g k : Nat) (b : UInt8) (i : Value) (wr : World) : Prop := ∃ j : Nat, i = .int .i64 j ∧ j ≤ k ∧ BytV wr g (fillB b k j) ∧ Below w.heap.size w wr

end Go.Proofs.YtaibmdjcppeopaaGreatDoor
