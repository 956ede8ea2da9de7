/- The walk of the law SumTells in every case. Condition: the strings are no longer than memory allows. -/
import Derived.Test.YtfkipbmcnoeleaaCkTells
namespace Go.Proofs.Ytfkipbmcnoeleaa
open Go Go.RowKit
theorem tells_walk (a b : ByteArray) (x y : UInt8) (w : World) (ha : a.size ≤ 9223372036854775807) (hb : b.size ≤ 9223372036854775807) :
    Calls Try.prog 4 #[.string a, .string b, .int .u8 (x.toNat : Int), .int .u8 (y.toNat : Int)] w fun e w' => e = .returned (.bool true) ∧ Below w.heap.size w w' := by
  by_cases hl : 512 < a.size ∨ 512 < b.size
  · exact tells_long a b _ _ w ha hb hl
  · refine tells_named a b x y w (by omega) (by omega) _ _ _ (Lib.hid rfl) (Lib.hid (moreI_bd _ _ (by unfold U32; omega))) (Lib.hid rfl) (Lib.hid rfl) (Lib.hid ?_) (decide (x = y)) ?_ ?_
    · rw [put_data, tail_data, moreI_append]
    · rw [put_data, put_data, Bool.eq_iff_iff]
      simp only [beq_iff_eq, decide_eq_true_eq]
      exact tell 1 _ _ x y (by unfold U32; omega)
    · rw [Bool.eq_iff_iff]
      simp only [beq_iff_eq, decide_eq_true_eq]
      exact ⟨fun h => UInt8.toNat_inj.1 (by omega), fun h => by rw [h]⟩
end Go.Proofs.Ytfkipbmcnoeleaa
