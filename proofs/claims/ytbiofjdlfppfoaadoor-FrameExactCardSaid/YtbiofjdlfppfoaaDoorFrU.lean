/- The contract of the reference's Read: it returns what the plain arithmetic says. Condition: the row is no longer than memory allows. -/
import Derived.Test.YtbiofjdlfppfoaaDoorFrS
import Derived.BigQuiet
namespace Go.Proofs.YtbiofjdlfppfoaaDoor
open Go Go.RowKit

/-- What the reference's Read returns. -/
def RReadV (e : Ending) : Except Nat (List UInt8 × Nat × Nat) → Prop
  | .error i => e = .returned (.tuple #[.string ⟨#[]⟩, .int .i64 0, .int .i64 0, .int .i64 (i : Int)])
  | .ok (d, q, n) => e = .returned (.tuple #[.string (bst d), .int .i64 (q : Int), .int .i64 (n : Int), .int .i64 (-1)])
theorem rval_at (t : ByteArray) (i j : Nat) (W : World) (k : Nat) (hij : i ≤ j) (hj : j ≤ t.size) (h4 : j - i ≤ 4) (hk : valB ((t.data.toList.drop i).take (j - i)) = k) :
    Calls Tryd.prog 28 #[.string (t.extract i j)] W fun e w' => e = .returned (.int .i64 (k : Int)) ∧ W = w' := by
  have h := rval_c (t.extract i j) W (by rw [cut_size _ _ _ hij hj]; exact h4)
  rw [cut_list, hk] at h
  exact h

set_option maxHeartbeats 1600000 in
set_option maxRecDepth 100000 in
/-- The first block is none. -/
theorem rread_none (B c : Nat) (A : Option Addr) (l : List ByteArray) (w : World) (hl : l.length ≤ 9223372036854775807) (h : SRow w B A l) (hz : ∀ z, l[0]? = some z → z.size ≠ 64) :
    Calls Tryd.prog 14 #[.slice A l.length c] w fun e w' => RReadV e (.error 0) ∧ w = w' := by
  by_cases h0 : l.length = 0
  · rw [h0]
    go_enter Tryd.func14, Tryd.ntmps14
    go_wp2_with fail
    exact bodyPost_ret (v := .tuple #[.string ⟨#[]⟩, .int .i64 0, .int .i64 0, .int .i64 0]) (by simp [results, Tryd.results14, go_sem]) rfl ⟨rfl, rfl⟩
  · obtain ⟨z, hi⟩ : ∃ z, l[0]? = some z := ⟨_, List.getElem?_eq_getElem (by omega)⟩
    obtain ⟨a, rfl, ha, hc⟩ := h.cell hi
    have hzi : ((z.size : Int) != 64) = true := by rw [bne_iff_ne]; have := hz z hi; omega
    have hli : ((l.length : Int) == 0) = false := by rw [beq_eq_false_iff_ne]; omega
    have hl0 : (0 : Int) < (l.length : Int) := by omega
    have hl1 : 0 < l.length := by omega
    rw [show a.add 0 = a from rfl] at hc
    clear hz h0 hi h
    go_enter Tryd.func14, Tryd.ntmps14
    go_wp2_with fail
    exact bodyPost_ret (v := .tuple #[.string ⟨#[]⟩, .int .i64 0, .int .i64 0, .int .i64 0]) (by simp [results, Tryd.results14, go_sem]) rfl ⟨rfl, rfl⟩

set_option maxHeartbeats 3200000 in
set_option maxRecDepth 100000 in
/-- The first block is no frame's first. -/
theorem rread_begins (B c : Nat) (A : Option Addr) (l : List ByteArray) (z : ByteArray) (q j n : Nat) (w : World) (hl : l.length ≤ 9223372036854775807) (h : SRow w B A l) (hi : l[0]? = some z) (hz : z.size = 64)
    (hq : seqOf z.data.toList = q) (hj : idxOf z.data.toList = j) (hn : cntOf z.data.toList = n) (hbad : q < 1 ∨ 2147483647 < q ∨ j ≠ 0 ∨ n < 1 ∨ 108 < n) :
    Calls Tryd.prog 14 #[.slice A l.length c] w fun e w' => RReadV e (.error 0) ∧ w = w' := by
  obtain ⟨q4, j4, n4⟩ := seq_bd (b := z.data.toList) (by rw [size_len]; exact hz)
  rw [hq] at q4
  rw [hj] at j4
  rw [hn] at n4
  have hlen := (List.getElem?_eq_some_iff.1 hi).1
  obtain ⟨a, rfl, ha, hc⟩ := h.cell hi
  have V1 : Hid (∀ W, _) := Lib.hid fun W => rval_at z 56 60 W q (by omega) (by omega) (by omega) hq
  have V2 : Hid (∀ W, _) := Lib.hid fun W => rval_at z 62 64 W n (by omega) (by omega) (by omega) hn
  have V3 : Hid (∀ W, _) := Lib.hid fun W => rval_at z 60 62 W j (by omega) (by omega) (by omega) hj
  have hzi : (z.size : Int) = 64 := by omega
  have hli : ((l.length : Int) == 0) = false := by rw [beq_eq_false_iff_ne]; omega
  have hl0 : (0 : Int) < (l.length : Int) := by omega
  rw [show a.add 0 = a from rfl] at hc
  clear hi h hq hj hn
  go_enter Tryd.func14, Tryd.ntmps14
  go_wp2_with (go_at_call 28; (first | (with_reducible refine (V1.out _).mono ?_) | (with_reducible refine (V2.out _).mono ?_) | (with_reducible refine (V3.out _).mono ?_)); rintro e w5 ⟨rfl, rfl⟩)
  all_goals first
    | (exfalso; omega)
    | exact bodyPost_ret (v := .tuple #[.string ⟨#[]⟩, .int .i64 0, .int .i64 0, .int .i64 0]) (by simp [results, Tryd.results14, go_sem]) rfl ⟨rfl, rfl⟩
    | trace_state
end Go.Proofs.YtbiofjdlfppfoaaDoor
