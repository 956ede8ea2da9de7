/- The walk of the law SumExact: whatever the number, the string and the byte, it returns true. Conditions: the number has 32 bits, the byte 8, the string is no longer than memory allows. -/
import Derived.Test.YtfkipbmcnoeleaaCk
import Derived.Laws.IdiomStrings
import Derived.Below
namespace Go.Proofs.Ytfkipbmcnoeleaa
open Go Go.RowKit

theorem ret_bool {a b : Bool} (h : a = b) : Ending.returned (.bool a) = .returned (.bool b) := by rw [h]

theorem one_byte (c : UInt8) (W : World) : (convert 27 9 (.slice (some ⟨W.heap.size, 0, none⟩) 1 1)).run Try.prog (W.alloc (.cells #[.int .u8 (c.toNat : Int)] 5)) = .ok (.string ⟨#[c]⟩) (W.alloc (.cells #[.int .u8 (c.toNat : Int)] 5)) :=
  run_convert_bytes_back _ 27 9 5 ⟨W.heap.size, 0, none⟩ 1 [c] (by kernel_rfl) (by kernel_rfl) (by kernel_rfl) (fun j hj => by
    obtain rfl : j = 0 := by simpa using hj
    simp [Addr.add])

theorem one_size (c : UInt8) : (⟨#[c]⟩ : ByteArray).size ≤ 9223372036854775807 := by show (1 : Nat) ≤ _; omega

theorem exact_long (n b : Int) (s : ByteArray) (w : World) (hs : s.size ≤ 9223372036854775807) (hl : 1024 < s.size) :
    Calls Try.prog 3 #[.int .u32 n, .string s, .int .u8 b] w fun e w' => e = .returned (.bool true) ∧ Below w.heap.size w w' := by
  go_enter Try.func3, Try.ntmps3
  go_wp2_with (go_at_call 6; (with_reducible refine (awake_c _).mono ?_); rintro e w1 ⟨rfl, rfl⟩)
  go_ret
  exact ⟨rfl, Below.refl _ _⟩

theorem exact_short (n : Int) (c : UInt8) (s : ByteArray) (w : World) (hn : U32 n) (hl : s.size ≤ 1024) :
    Calls Try.prog 3 #[.int .u32 n, .string s, .int .u8 (c.toNat : Int)] w fun e w' => e = .returned (.bool true) ∧ Below w.heap.size w w' := by
  have HN := Lib.hid hn; clear hn
  have HB := Lib.hid (step_of_back n c HN.out)
  have kc := one_byte c
  go_enter Try.func3, Try.ntmps3
  go_wp2_with (first
    | (go_at_call 6; (with_reducible refine (awake_c _).mono ?_); rintro e w1 ⟨rfl, rfl⟩)
    | (go_at_call 7; (with_reducible refine (back_c _ _ _).mono ?_); rintro e w1 ⟨rfl, rfl⟩)
    | (go_at_call 8; (with_reducible refine (of_c _ _ (by omega)).mono ?_); rintro e w1 ⟨rfl, rfl⟩)
    | (go_at_call 9; (with_reducible refine (rof_c _ _ (by omega)).mono ?_); rintro e w1 ⟨rfl, rfl⟩)
    | (go_at_call 10; (with_reducible refine (more_c _ _ _ HN.out (by omega)).mono ?_); rintro e w1 ⟨rfl, rfl⟩)
    | (go_at_call 11; (with_reducible refine (rmore_c _ s _ HN.out (by omega)).mono ?_); rintro e w1 ⟨rfl, rfl⟩)
    | (go_at_call 11; (with_reducible refine (rmore_c _ ⟨#[c]⟩ _ (backI_bd _ _) (one_size c)).mono ?_); rintro e w1 ⟨rfl, rfl⟩))
  go_ret
  exact ⟨ret_bool (by rw [show moreI (backI n (c.toNat : Int)) [c] = n from HB.out]; simp), (Below.refl _ _).alloc (Nat.le_refl _) _⟩

theorem exact_walk (n : Int) (c : UInt8) (s : ByteArray) (w : World) (hn : U32 n) (hs : s.size ≤ 9223372036854775807) :
    Calls Try.prog 3 #[.int .u32 n, .string s, .int .u8 (c.toNat : Int)] w fun e w' => e = .returned (.bool true) ∧ Below w.heap.size w w' := by
  by_cases hl : 1024 < s.size
  · exact exact_long n _ s w hs hl
  · exact exact_short n c s w hn (by omega)
end Go.Proofs.Ytfkipbmcnoeleaa
