/- Contracts of the package sum and of its reference: each returns what the plain arithmetic says and leaves the world alone. Conditions: the number has 32 bits, the string is no longer than memory allows. -/
import Derived.Test.YtaibmdjcppeopaaGreatDoorCkM
import Derived.Test.YtaibmdjcppeopaaGreatDoorProg
import Derived.WalkKit
import Derived.Outline
import Derived.Handy
import Derived.Lib.Hide
namespace Go.Proofs.YtaibmdjcppeopaaGreatDoor
open Go Go.RowKit

theorem ret_int {k : IntKind} {a b : Int} (h : a = b) : Ending.returned (.int k a) = .returned (.int k b) := by rw [h]

theorem ret_u {k : IntKind} {a b : Int} (h : a = b) : Value.int k a = Value.int k b := by rw [h]

set_option maxHeartbeats 400000 in
theorem more_c (n : Int) (s : ByteArray) (w : World) (hn : U32 n) (hs : s.size ≤ 9223372036854775807) :
    Calls Tryz.prog 76 #[.int .u32 n, .string s] w fun e w' => e = .returned (.int .u32 (moreI n s.data.toList)) ∧ w = w' := by
  have HN := Lib.hid hn; clear hn
  go_enter Tryz.func76, Tryz.ntmps76
  go_wp2
  go_loop [0, 8] (fun x i => ∃ k : Nat, k ≤ s.size ∧ i = .int .i64 k ∧ x = .int .u32 (moreI n (s.data.toList.take k))) (fun _ i => s.size - (intOf i).toNat)
  case atStart => exact ⟨0, Nat.zero_le _, rfl, rfl⟩
  case round =>
    obtain ⟨k, hk, rfl, rfl⟩ := hrel
    have hb := moreI_bd (s.data.toList.take k) n HN.out
    by_cases hlt : k < s.size
    · have hts := take_snoc s k hlt
      have HS : Hid (moreI n (s.data.toList.take (k + 1)) = stepI (moreI n (s.data.toList.take k)) s[k]) := by rw [hts]; exact Lib.hid (moreI_snoc _ _ _)
      clear hts
      go_wp2
      go_round
      case rel => exact ⟨k + 1, by omega, by go_num, ret_u (by rw [HS.out]; unfold stepI; omega)⟩
      case measure => simp [intOf]; omega
    · go_wp2
      go_ret
      exact ⟨ret_int (by rw [take_all _ _ (by omega)]), rfl⟩

set_option maxHeartbeats 400000 in
theorem rmore_c (n : Int) (s : ByteArray) (w : World) (hn : U32 n) (hs : s.size ≤ 9223372036854775807) :
    Calls Tryz.prog 56 #[.int .u32 n, .string s] w fun e w' => e = .returned (.int .u32 (moreI n s.data.toList)) ∧ w = w' := by
  have HN := Lib.hid hn
  unfold U32 at hn
  go_enter Tryz.func56, Tryz.ntmps56
  go_wp2
  clear hn
  go_loop [5, 6] (fun x i => ∃ k : Nat, k ≤ s.size ∧ i = .int .i64 k ∧ x = .int .u64 (moreI n (s.data.toList.take k))) (fun _ i => s.size - (intOf i).toNat)
  case atStart => exact ⟨0, Nat.zero_le _, rfl, rfl⟩
  case round =>
    obtain ⟨k, hk, rfl, rfl⟩ := hrel
    have hb := moreI_bd (s.data.toList.take k) n HN.out
    unfold U32 at hb
    by_cases hlt : k < s.size
    · have hts := take_snoc s k hlt
      have HS : Hid (moreI n (s.data.toList.take (k + 1)) = stepI (moreI n (s.data.toList.take k)) s[k]) := by rw [hts]; exact Lib.hid (moreI_snoc _ _ _)
      have hc := byte_bd s[k]
      clear hts
      go_wp2
      go_round
      case rel => exact ⟨k + 1, by omega, by go_num, ret_u (by rw [HS.out]; unfold stepI; omega)⟩
      case measure => simp [intOf]; omega
    · go_wp2
      go_ret
      exact ⟨ret_int (by rw [take_all _ _ (by omega)]), rfl⟩

theorem sum_of_c (s : ByteArray) (w : World) (hs : s.size ≤ 9223372036854775807) :
    Calls Tryz.prog 62 #[.string s] w fun e w' => e = .returned (.int .u32 (moreI 1 s.data.toList)) ∧ w = w' := by
  go_enter Tryz.func62, Tryz.ntmps62
  go_wp2_with (go_at_call 76; refine (more_c 1 s _ (by unfold U32; omega) hs).mono ?_; rintro e w1 ⟨rfl, rfl⟩)
  go_ret
  exact ⟨rfl, rfl⟩
theorem sum_rof_c (s : ByteArray) (w : World) (hs : s.size ≤ 9223372036854775807) :
    Calls Tryz.prog 39 #[.string s] w fun e w' => e = .returned (.int .u32 (moreI 1 s.data.toList)) ∧ w = w' := by
  go_enter Tryz.func39, Tryz.ntmps39
  go_wp2_with (go_at_call 56; refine (rmore_c 1 s _ (by unfold U32; omega) hs).mono ?_; rintro e w1 ⟨rfl, rfl⟩)
  go_ret
  exact ⟨rfl, rfl⟩
end Go.Proofs.YtaibmdjcppeopaaGreatDoor
