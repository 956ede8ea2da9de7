/- The walk of the law SumTells: whatever the two strings and the two bytes, it returns true. Condition: the strings are no longer than memory allows. -/
import Derived.Test.YtfkipbmcnoeleaaCkExact
import Derived.Deep.RegionWith
namespace Go.Proofs.Ytfkipbmcnoeleaa
open Go Go.RowKit

theorem byte_at (c : UInt8) (W : World) (g : Nat) (h : W.cell? ⟨g, 0, none⟩ = some (.int .u8 (c.toNat : Int))) : (convert 27 9 (.slice (some ⟨g, 0, none⟩) 1 1)).run Try.prog W = .ok (.string ⟨#[c]⟩) W :=
  run_convert_bytes_back _ 27 9 5 ⟨g, 0, none⟩ 1 [c] (by kernel_rfl) (by kernel_rfl) (by kernel_rfl) (fun j hj => by
    obtain rfl : j = 0 := by simpa using hj
    simpa [Addr.add] using h)

theorem tells_long (a b : ByteArray) (x y : Int) (w : World) (ha : a.size ≤ 9223372036854775807) (hb : b.size ≤ 9223372036854775807) (hl : 512 < a.size ∨ 512 < b.size) :
    Calls Try.prog 4 #[.string a, .string b, .int .u8 x, .int .u8 y] w fun e w' => e = .returned (.bool true) ∧ Below w.heap.size w w' := by
  by_cases h1 : 512 < a.size
  · clear hl
    go_enter Try.func4, Try.ntmps4
    go_wp2_with (go_at_call 6; (with_reducible refine (awake_c _).mono ?_); rintro e w1 ⟨rfl, rfl⟩)
    go_ret
    exact ⟨rfl, Below.refl _ _⟩
  · have h2 : 512 < b.size := by omega
    clear hl
    go_enter Try.func4, Try.ntmps4
    go_wp2_with (go_at_call 6; (with_reducible refine (awake_c _).mono ?_); rintro e w1 ⟨rfl, rfl⟩)
    go_ret
    exact ⟨rfl, Below.refl _ _⟩

theorem of_d (s : ByteArray) (w : World) (hs : s.size ≤ 9223372036854775807) (m : Int) (hm : Hid (moreI 1 s.data.toList = m)) :
    Calls Try.prog 8 #[.string s] w fun e w' => e = .returned (.int .u32 m) ∧ w = w' := by
  have := of_c s w hs; rwa [hm.out] at this

theorem more_d (n : Int) (s : ByteArray) (w : World) (hn : Hid (U32 n)) (hs : s.size ≤ 9223372036854775807) (m : Int) (hm : Hid (moreI n s.data.toList = m)) :
    Calls Try.prog 10 #[.int .u32 n, .string s] w fun e w' => e = .returned (.int .u32 m) ∧ w = w' := by
  have := more_c n s w hn.out hs; rwa [hm.out] at this

theorem put_size (a b : ByteArray) (x : UInt8) (ha : a.size ≤ 512) (hb : b.size ≤ 512) : (a ++ ⟨#[x]⟩ ++ b).size ≤ 9223372036854775807 := by
  rw [ByteArray.size_append, ByteArray.size_append]; show a.size + 1 + b.size ≤ _; omega
theorem put_data (a b : ByteArray) (x : UInt8) : (a ++ ⟨#[x]⟩ ++ b).data.toList = a.data.toList ++ x :: b.data.toList := by simp
theorem tail_size (b : ByteArray) (x : UInt8) (hb : b.size ≤ 512) : ((⟨#[x]⟩ : ByteArray) ++ b).size ≤ 9223372036854775807 := by
  rw [ByteArray.size_append]; show 1 + b.size ≤ _; omega
theorem tail_data (b : ByteArray) (x : UInt8) : ((⟨#[x]⟩ : ByteArray) ++ b).data.toList = x :: b.data.toList := by simp

set_option maxRecDepth 100000 in
set_option maxHeartbeats 1600000 in
/-- With the numbers named: M of the first string, N of the second, A of the common beginning. -/
theorem tells_named (a b : ByteArray) (x y : UInt8) (w : World) (ha : a.size ≤ 512) (hb : b.size ≤ 512) (M N A : Int) (hA : Hid (moreI 1 a.data.toList = A)) (uA : Hid (U32 A))
    (hM : Hid (moreI 1 (a ++ ⟨#[x]⟩ ++ b).data.toList = M)) (hN : Hid (moreI 1 (a ++ ⟨#[y]⟩ ++ b).data.toList = N)) (hT : Hid (moreI A ((⟨#[x]⟩ : ByteArray) ++ b).data.toList = M))
    (t : Bool) (h1 : (M == N) = t) (h2 : ((x.toNat : Int) == (y.toNat : Int)) = t) :
    Calls Try.prog 4 #[.string a, .string b, .int .u8 (x.toNat : Int), .int .u8 (y.toNat : Int)] w fun e w' => e = .returned (.bool true) ∧ Below w.heap.size w w' := by
  have kx := byte_at x
  have ky := byte_at y
  have zx : (⟨#[x]⟩ : ByteArray).size = 1 := rfl
  have zy : (⟨#[y]⟩ : ByteArray).size = 1 := rfl
  go_enter Try.func4, Try.ntmps4
  go_wp2_with (go_at_call 6; (with_reducible refine (awake_c _).mono ?_); rintro e w1 ⟨rfl, rfl⟩)
  go_region_with
    (first
      | (go_at_call 8; (with_reducible refine (of_d a _ (by omega) A hA).mono ?_); rintro e w1 ⟨rfl, rfl⟩)
      | (go_at_call 8; (with_reducible refine (of_d (a ++ ⟨#[x]⟩ ++ b) _ (put_size a b x ha hb) M hM).mono ?_); rintro e w1 ⟨rfl, rfl⟩)
      | (go_at_call 8; (with_reducible refine (of_d (a ++ ⟨#[y]⟩ ++ b) _ (put_size a b y ha hb) N hN).mono ?_); rintro e w1 ⟨rfl, rfl⟩)
      | (go_at_call 10; (with_reducible refine (more_d A _ _ uA (tail_size b x hb) M hT).mono ?_); rintro e w1 ⟨rfl, rfl⟩))
  all_goals go_wp2
  all_goals go_ret
  all_goals refine ⟨ret_bool (by cases t <;> first | rfl | (simp; done)), ?_⟩
  all_goals (repeat' (first | (with_reducible exact Below.refl _ _) | (with_reducible refine below_drewN ?_ _) | (with_reducible refine Below.drew ?_) | (with_reducible refine Below.alloc ?_ ?_ _) | (with_reducible refine Below.setCell ?_ ?_ _) | (with_reducible refine Below.trans ?_ (Below.mono (by with_reducible assumption) ?_)) | omega | (simp only [World.size_alloc, World.size_setCell, World.size_drew, Go.Proofs.Ytfkipbmcnoeleaa.World.size_drewN] at *; omega) | (with_reducible refine Below.size (B := 0) ?_)))
end Go.Proofs.Ytfkipbmcnoeleaa
