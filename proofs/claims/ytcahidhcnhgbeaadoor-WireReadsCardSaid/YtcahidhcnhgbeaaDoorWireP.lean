/- Contracts of the package wire's plain functions: fold, unfold and parse compute what the plain arithmetic says and leave the world alone. Conditions: the integer has 64 bits, the string is no longer than memory allows. -/
import Derived.Test.YtcahidhcnhgbeaaDoorWireM
import Derived.Test.YtcahidhcnhgbeaaDoorProg
import Derived.WalkKit
import Derived.Outline
import Derived.Handy
import Derived.Lib.Hide
import Derived.IntWalk
import Derived.LoopTactic
import Derived.Laws.DeepNot64
import Derived.Laws.BitsAllLaws
namespace Go.Proofs.YtcahidhcnhgbeaaDoor
open Go Go.RowKit

theorem ret_i {k : IntKind} {a b : Int} (h : a = b) : Ending.returned (.int k a) = .returned (.int k b) := by rw [h]

theorem ret_v {k : IntKind} {a b : Int} (h : a = b) : Value.int k a = Value.int k b := by rw [h]

theorem u64_max_xor (a : Int) (h0 : 0 ≤ a) (h1 : a < 18446744073709551616) : bits .xor .u64 IntKind.u64.max a = 18446744073709551615 - a := by
  obtain ⟨A, rfl⟩ := Int.eq_ofNat_of_zero_le h0
  show IntKind.u64.wrap ((BitVec.ofInt 64 18446744073709551615 ^^^ BitVec.ofInt 64 (A : Int)).toNat : Int) = _
  have hm : BitVec.ofInt 64 18446744073709551615 = BitVec.allOnes 64 := by decide
  rw [hm, BitVec.allOnes_xor, BitVec.toNat_not, ofInt_u64 A (by omega), IntKind.wrap_u64]
  omega
theorem not64 (a : Int) (h0 : 0 ≤ a) (h1 : a < 9223372036854775808) : bits .xor .i64 (-1) a = -a - 1 := by
  obtain ⟨A, rfl⟩ := Int.eq_ofNat_of_zero_le h0
  rw [i64_not A (by omega)]; omega
theorem fold_neg (n : Int) (h : n < 0) (h1 : -9223372036854775808 ≤ n) : bits .xor .u64 IntKind.u64.max (IntKind.u64.wrap (IntKind.u64.wrap n * 2)) = foldI n := by
  have e : IntKind.u64.wrap (IntKind.u64.wrap n * 2) = 18446744073709551616 + 2 * n := by rw [IntKind.wrap_u64, IntKind.wrap_u64]; omega
  rw [e, u64_max_xor _ (by omega) (by omega)]
  unfold foldI
  rw [if_pos h]; omega
theorem fold_pos (n : Int) (h : 0 ≤ n) : n * 2 = foldI n := by
  unfold foldI; rw [if_neg (by omega)]; omega
theorem fold_pos' (n : Int) (h : 0 ≤ n) (h1 : n < 9223372036854775808) : IntKind.u64.wrap (n * 2) = foldI n := by
  unfold foldI; rw [if_neg (by omega), IntKind.wrap_u64]; omega

theorem fold_c (n : Int) (w : World) (h : I64 n) :
    Calls Tryd.prog 32 #[.int .i64 n] w fun e w' => e = .returned (.int .u64 (foldI n)) ∧ w = w' := by
  unfold I64 at h
  obtain ⟨h1, h2⟩ := h
  by_cases hn : n < 0
  · go_enter Tryd.func32, Tryd.ntmps32
    go_wp2
    go_ret
    exact ⟨ret_i (fold_neg n hn h1), rfl⟩
  · go_enter Tryd.func32, Tryd.ntmps32
    go_wp2
    go_ret
    exact ⟨ret_i (fold_pos n (by omega)), rfl⟩

theorem ret_t2 {a b c d : Int} (h1 : a = b) (h2 : c = d) : Ending.returned (.tuple #[.int .u64 a, .int .i64 c]) = .returned (.tuple #[.int .u64 b, .int .i64 d]) := by rw [h1, h2]

theorem or_spell (k acc c : Nat) (hk : k ≤ 9) (h9 : 9 ≤ k → c % 128 ≤ 1) (h : acc < 128 ^ k) : bits .or .u64 (acc : Int) (IntKind.u64.wrap ((c : Int) % 128 * 2 ^ (7 * k))) = ((acc + c % 128 * 128 ^ k : Nat) : Int) := by
  have hd := digit_fits k (c % 128) hk (by omega) h9
  have ha : acc < 18446744073709551616 := by
    have hp : 128 ^ k ≤ 128 ^ 9 := Nat.pow_le_pow_right (by decide) hk
    have e9 : (128 : Nat) ^ 9 = 9223372036854775808 := by decide
    omega
  have e : (c : Int) % 128 * 2 ^ (7 * k) = ((c % 128 * 128 ^ k : Nat) : Int) := by
    rw [← pow7]; push_cast; rfl
  rw [e, IntWalk.u64_in _ ⟨by omega, by omega⟩, u64_or_nat _ _ ha hd, or_digit k acc _ h]
theorem or_nine (k acc c : Nat) (hk : k = 9) (h9 : c ≤ 1) (h : acc < 128 ^ k) : bits .or .u64 (acc : Int) ((c : Int) % 128 * 9223372036854775808) = ((acc + c % 128 * 128 ^ k : Nat) : Int) := by
  subst hk
  have h2 := or_spell 9 acc c (by omega) (by omega) h
  have hd := digit_fits 9 (c % 128) (by omega) (by omega) (by omega)
  have e : (c : Int) % 128 * 2 ^ (7 * 9) = (c : Int) % 128 * 9223372036854775808 := by rfl
  rw [e, IntWalk.u64_in _ ⟨by omega, by omega⟩] at h2
  exact h2
theorem or_zero (k acc : Nat) (hk : k ≤ 9) (h : acc < 128 ^ k) : bits .or .u64 (acc : Int) (IntKind.u64.wrap 0) = (acc : Int) := by
  have h2 := or_spell k acc 0 hk (by omega) h
  simpa using h2

theorem unfold_odd (u : Int) (h0 : 0 ≤ u) (h1 : u < 18446744073709551616) (h : u % 2 = 1) : bits .xor .i64 (-1) (wrap64 (u / 2)) = unfoldI u := by
  rw [IntWalk.wrap64_in _ ⟨by omega, by omega⟩, not64 _ (by omega) (by omega)]
  unfold unfoldI; rw [if_pos h]
theorem unfold_even (u : Int) (h0 : 0 ≤ u) (h1 : u < 18446744073709551616) (h : ¬ u % 2 = 1) : wrap64 (u / 2) = unfoldI u := by
  rw [IntWalk.wrap64_in _ ⟨by omega, by omega⟩]
  unfold unfoldI; rw [if_neg h]

theorem unfold_c (u : Int) (w : World) (h0 : 0 ≤ u) (h1 : u < 18446744073709551616) :
    Calls Tryd.prog 41 #[.int .u64 u] w fun e w' => e = .returned (.int .i64 (unfoldI u)) ∧ w = w' := by
  have H := Lib.hid h1; clear h1
  by_cases h : u % 2 = 1
  · have hb : (u % 2 == 1) = true := by simpa using h
    have HH := Lib.hid h; clear h
    go_enter Tryd.func41, Tryd.ntmps41
    go_wp2
    go_ret
    exact ⟨ret_i (unfold_odd u h0 H.out HH.out), rfl⟩
  · have hb : (u % 2 == 1) = false := by simpa using h
    have HH := Lib.hid h; clear h
    go_enter Tryd.func41, Tryd.ntmps41
    go_wp2
    go_ret
    exact ⟨ret_i (unfold_even u h0 H.out HH.out), rfl⟩

set_option maxHeartbeats 800000 in
set_option maxRecDepth 100000 in
theorem parse_c (s : ByteArray) (w : World) (hs : s.size ≤ 9223372036854775807) :
    Calls Tryd.prog 40 #[.string s] w fun e w' => e = .returned (.tuple #[.int .u64 ((parseR s.data.toList).1 : Int), .int .i64 ((parseR s.data.toList).2 : Int)]) ∧ w = w' := by
  have hst : Hid (parseR s.data.toList = fin 0 0 (decL 0 (s.data.toList.drop 0))) := rfl
  go_enter Tryd.func40, Tryd.ntmps40
  go_wp2
  go_loop [4, 5, 6, 7] (fun u i j c => ∃ k acc : Nat, k ≤ 9 ∧ k ≤ s.size ∧ i = .int .i64 k ∧ j = .int .i64 (7 * (k : Int)) ∧ u = .int .u64 acc ∧ acc < 128 ^ k ∧ Hid (parseR s.data.toList = fin k acc (decL k (s.data.toList.drop k)))) (fun _ i _ _ => s.size - (intOf i).toNat)
  case atStart => exact ⟨0, 0, by omega, by omega, rfl, rfl, rfl, by decide, hst⟩
  case round =>
    obtain ⟨k, acc, hk, hks, rfl, rfl, rfl, hacc, HR⟩ := hrel
    clear hst
    have HA := Lib.hid hacc; clear hacc
    by_cases hlt : k < s.size
    · have hdc := drop_cons s.data.toList k (by simpa using hlt)
      have hg : s.data.toList[k]'(by simpa using hlt) = s[k] := rfl
      rw [hg] at hdc
      have HD : Hid (parseR s.data.toList = fin k acc (decL k (s[k] :: s.data.toList.drop (k + 1)))) := Lib.hid (by rw [HR.out, hdc])
      clear hdc hg
      have hb : ((s[k]).toNat : Int) < 256 := by have := (s[k]).toNat_lt; omega
      go_wp2
      · have hf : parseR s.data.toList = (0, 0) := by rw [HD.out, fin_nine (by omega) (by omega)]
        go_ret2
        exact ⟨ret_t2 (by rw [hf]; rfl) (by rw [hf]; rfl), rfl⟩
      · have hf : parseR s.data.toList = (0, 0) := by rw [HD.out, fin_zero (by omega) (by omega) (by omega) (by omega)]
        go_ret2
        exact ⟨ret_t2 (by rw [hf]; rfl) (by rw [hf]; rfl), rfl⟩
      · have hf : parseR s.data.toList = (acc + s[k].toNat % 128 * 128 ^ k, k + 1) := by rw [HD.out, fin_last (by omega) (by omega) (by omega)]
        have hv := or_nine k acc s[k].toNat (by omega) (by omega) HA.out
        go_ret2
        exact ⟨ret_t2 (by rw [hf]; exact hv) (by rw [hf]; rfl), rfl⟩
      · go_round
        case rel =>
          refine ⟨k + 1, acc + s[k].toNat % 128 * 128 ^ k, by omega, by omega, by go_num, ret_v (by omega), ret_v (or_spell k acc _ (by omega) (by omega) HA.out), acc_step k acc _ HA.out (by omega), ?_⟩
          exact Lib.hid (by rw [HD.out, fin_more (by omega) (by omega)])
        case measure => simp [intOf]; omega
      · have hf : parseR s.data.toList = (0, 0) := by rw [HD.out, fin_zero (by omega) (by omega) (by omega) (by omega)]
        go_ret2
        exact ⟨ret_t2 (by rw [hf]; rfl) (by rw [hf]; rfl), rfl⟩
      · have hf : parseR s.data.toList = (acc + s[k].toNat % 128 * 128 ^ k, k + 1) := by rw [HD.out, fin_last (by omega) (by omega) (by omega)]
        have h0 : s[k].toNat = 0 := by omega
        have hv := or_zero k acc (by omega) HA.out
        go_ret2
        exact ⟨ret_t2 (by rw [hf, h0]; simpa using hv) (by rw [hf]; rfl), rfl⟩
      · have hf : parseR s.data.toList = (acc + s[k].toNat % 128 * 128 ^ k, k + 1) := by rw [HD.out, fin_last (by omega) (by omega) (by omega)]
        have hv := or_spell k acc s[k].toNat (by omega) (by omega) HA.out
        go_ret2
        exact ⟨ret_t2 (by rw [hf]; exact hv) (by rw [hf]; rfl), rfl⟩
    · have hend : parseR s.data.toList = (0, 0) := by rw [HR.out, List.drop_eq_nil_of_le (by simp; omega), fin_end]
      have HE := Lib.hid hend; clear hend
      go_wp2
      go_ret2
      exact ⟨by rw [HE.out]; rfl, rfl⟩
end Go.Proofs.YtcahidhcnhgbeaaDoor
