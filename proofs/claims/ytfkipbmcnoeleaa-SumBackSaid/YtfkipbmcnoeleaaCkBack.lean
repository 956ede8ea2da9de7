/- The walk of the law SumBack: whatever the number and the string, it returns true. Conditions: the number has 32 bits, the string is no longer than memory allows. -/
import Derived.Test.YtfkipbmcnoeleaaCkExact
namespace Go.Proofs.Ytfkipbmcnoeleaa
open Go Go.RowKit

theorem back_long (n : Int) (s : ByteArray) (w : World) (hs : s.size ≤ 9223372036854775807) (hl : 512 < s.size) :
    Calls Try.prog 5 #[.int .u32 n, .string s] w fun e w' => e = .returned (.bool true) ∧ Below w.heap.size w w' := by
  go_enter Try.func5, Try.ntmps5
  go_wp2_with (go_at_call 6; (with_reducible refine (awake_c _).mono ?_); rintro e w1 ⟨rfl, rfl⟩)
  go_ret
  exact ⟨rfl, Below.refl _ _⟩

set_option maxHeartbeats 400000 in
theorem back_short (n : Int) (s : ByteArray) (w : World) (hn : U32 n) (hl : s.size ≤ 512) :
    Calls Try.prog 5 #[.int .u32 n, .string s] w fun e w' => e = .returned (.bool true) ∧ Below w.heap.size w w' := by
  have HN := Lib.hid hn; clear hn
  go_enter Try.func5, Try.ntmps5
  go_wp2_with (first
    | (go_at_call 6; (with_reducible refine (awake_c _).mono ?_); rintro e w1 ⟨rfl, rfl⟩)
    | (go_at_call 10; (with_reducible refine (more_c _ _ _ HN.out (by omega)).mono ?_); rintro e w1 ⟨rfl, rfl⟩))
  go_loop [5, 6] (fun x i => ∃ k : Nat, k ≤ s.size ∧ i = .int .i64 ((k : Int) - 1) ∧ x = .int .u32 (moreI n (s.data.toList.take k))) (fun _ i => (intOf i + 1).toNat)
  case atStart => exact ⟨s.size, Nat.le_refl _, rfl, ret_u (by rw [take_all _ _ (Nat.le_refl _)])⟩
  case round =>
    obtain ⟨k, hk, rfl, rfl⟩ := hrel
    by_cases hlt : 0 < k
    · obtain ⟨j, rfl⟩ : ∃ j, k = j + 1 := ⟨k - 1, by omega⟩
      have hts := take_snoc s j (by omega)
      have hj : j < s.size := by omega
      have HS : Hid (backI (moreI n (s.data.toList.take (j + 1))) (s[j].toNat : Int) = moreI n (s.data.toList.take j)) := by
        rw [hts, moreI_snoc]; exact Lib.hid (back_of_step _ _ (moreI_bd _ _ HN.out))
      clear hts
      have e1 : (((j + 1 : Nat) : Int) - 1) = (j : Int) := by omega
      rw [e1]
      clear e1 hlt
      go_wp2_with (go_at_call 7; (with_reducible refine (back_c _ _ _).mono ?_); rintro e w1 ⟨rfl, rfl⟩)
      go_round
      case rel => exact ⟨j, by omega, rfl, ret_u HS.out⟩
      case measure => simp [intOf]
    · obtain rfl : k = 0 := by omega
      have hz : moreI n (s.data.toList.take 0) = n := rfl
      rw [hz]
      clear hz hlt
      go_wp2
      go_ret
      exact ⟨rfl, Below.refl _ _⟩

theorem back_walk (n : Int) (s : ByteArray) (w : World) (hn : U32 n) (hs : s.size ≤ 9223372036854775807) :
    Calls Try.prog 5 #[.int .u32 n, .string s] w fun e w' => e = .returned (.bool true) ∧ Below w.heap.size w w' := by
  by_cases hl : 512 < s.size
  · exact back_long n s w hs hl
  · exact back_short n s w hn (by omega)
end Go.Proofs.Ytfkipbmcnoeleaa
