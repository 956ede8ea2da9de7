/- What a write makes of each block of a disk. No program, no conditions. -/
import Derived.Test.YtaibmdjcppeopaaGreatDoorBlkM
namespace Go.Proofs.YtaibmdjcppeopaaGreatDoor
open Go

theorem get_spl {L cs : List UInt8} {o : Nat} (j : Nat) (ho : o + cs.length ≤ L.length) : (splice L o cs)[j]? = if o ≤ j ∧ j - o < cs.length then cs[j - o]? else L[j]? := by
  show (L.take o ++ (cs ++ L.drop (o + cs.length)))[j]? = _
  have hlt : (L.take o).length = o := by simp; omega
  by_cases h1 : j < o
  · rw [List.getElem?_append_left (by omega), if_neg (by omega), List.getElem?_take_of_lt h1]
  · rw [List.getElem?_append_right (by omega), hlt]
    by_cases h2 : j - o < cs.length
    · rw [List.getElem?_append_left h2, if_pos ⟨by omega, h2⟩]
    · rw [List.getElem?_append_right (by omega), if_neg (by omega), List.getElem?_drop]
      congr 1; omega
theorem blk_get (d : DS) (j t : Nat) : (d.blk j)[t]? = if t < 64 then d.bs[64 * j + t]? else none := by
  unfold DS.blk
  rw [List.getElem?_take]
  split
  · rw [List.getElem?_drop]
  · rfl
/-- A splice within one block leaves the others. -/
theorem blk_other {d d' : DS} {a j : Nat} {cs : List UInt8} (hd : d'.bs = splice d.bs (64 * a) cs) (hc : cs.length ≤ 64) (ha : 64 * a + 64 ≤ d.bs.length) (hj : j ≠ a) : d'.blk j = d.blk j := by
  apply List.ext_getElem?
  intro t
  rw [blk_get, blk_get]
  split
  · rename_i ht
    rw [hd, get_spl _ (by omega), if_neg]
    rintro ⟨h1, h2⟩
    have : j ≤ a := by omega
    have : a ≤ j := by omega
    omega
  · rfl
theorem blk_same {d d' : DS} {a : Nat} {cs : List UInt8} (hd : d'.bs = splice d.bs (64 * a) cs) (hc : cs.length ≤ 64) (ha : 64 * a + 64 ≤ d.bs.length) : d'.blk a = cs ++ (d.blk a).drop cs.length := by
  apply List.ext_getElem?
  intro t
  rw [blk_get, List.getElem?_append, List.getElem?_drop, blk_get, hd]
  by_cases ht : t < 64
  · rw [if_pos ht, get_spl _ (by omega)]
    by_cases h1 : t < cs.length
    · rw [if_pos ⟨by omega, by omega⟩, if_pos h1]; congr 1; omega
    · rw [if_neg (by omega), if_neg h1, if_pos (by omega)]; congr 1; omega
  · rw [if_neg ht, if_neg (by omega), if_neg (by omega)]
theorem drop_full {d : DS} {a n : Nat} (h : 64 ≤ n) : (d.blk a).drop n = [] := by
  apply List.drop_eq_nil_of_le; unfold DS.blk; simp; omega
theorem blk_all {d d' : DS} {a : Nat} {cs : List UInt8} (hd : d'.bs = splice d.bs (64 * a) cs) (hc : cs.length = 64) (ha : 64 * a + 64 ≤ d.bs.length) : d'.blk a = cs := by
  rw [blk_same hd (by omega) ha, drop_full (by omega), List.append_nil]
end Go.Proofs.YtaibmdjcppeopaaGreatDoor
