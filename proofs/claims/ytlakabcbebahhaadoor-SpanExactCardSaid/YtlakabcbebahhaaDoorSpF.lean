/- The contracts of the document's answer for layer 9. No conditions. -/
import Derived.Test.YtlakabcbebahhaaDoorSpM
import Derived.Test.YtlakabcbebahhaaDoorInts
import Derived.LoopTactic
namespace Go.Proofs.YtlakabcbebahhaaDoor
open Go Go.RowKit

theorem rtick_c (n : Int) (w : World) : Calls Tryd.prog 21 #[.int .i64 n] w fun e w' => e = .returned (.bool (numB n)) ∧ w' = w := by
  go_enter Tryd.func21, Tryd.ntmps21
  go_wp2
  all_goals (go_ret; refine ⟨?_, rfl⟩; simp [numB]; omega)
theorem rlen_c (n : Int) (w : World) : Calls Tryd.prog 22 #[.int .i64 n] w fun e w' => e = .returned (.bool (lenB n)) ∧ w' = w := by
  go_enter Tryd.func22, Tryd.ntmps22
  go_wp2
  all_goals (go_ret; refine ⟨?_, rfl⟩; simp [lenB]; omega)

set_option maxRecDepth 100000 in
set_option maxHeartbeats 800000 in
theorem rat_c (t n : Int) (w : World) :
    Calls Tryd.prog 11 #[.int .i64 t, .int .i64 n] w fun e w' => e = .returned (.tuple #[.int .i64 (winOf t n).1, .int .i64 (((winOf t n).2 : Nat) : Int)]) ∧ w' = w := by
  cases h : numB t with
  | false =>
    have e1 : winOf t n = (0, 1) := by simp [winOf, h]
    rw [e1]
    clear e1
    go_enter Tryd.func11, Tryd.ntmps11
    go_wp2_with fail
    refine (rtick_c _ _).mono ?_
    rw [h]
    rintro e w1 ⟨rfl, rfl⟩
    clear h
    go_wp2_with fail
    exact bodyPost_ret (v := .tuple #[.int .i64 0, .int .i64 1]) (by simp [results, Tryd.results11, go_sem]) rfl ⟨rfl, rfl⟩
  | true =>
  cases k : lenB n with
  | false =>
    have e1 : winOf t n = (0, 1) := by simp [winOf, k]
    rw [e1]
    clear e1
    go_enter Tryd.func11, Tryd.ntmps11
    go_wp2_with fail
    refine (rtick_c _ _).mono ?_
    rw [h]
    rintro e w1 ⟨rfl, rfl⟩
    go_wp2_with fail
    refine (rlen_c _ _).mono ?_
    rw [k]
    rintro e w1 ⟨rfl, rfl⟩
    clear h k
    go_wp2_with fail
    exact bodyPost_ret (v := .tuple #[.int .i64 0, .int .i64 1]) (by simp [results, Tryd.results11, go_sem]) rfl ⟨rfl, rfl⟩
  | true =>
    have hk := lenB_yes.1 k
    have n0 : n ≠ 0 := by omega
    have hd := (div_in h k).2.2.2
    rw [win_yes h k]
    go_enter Tryd.func11, Tryd.ntmps11
    go_wp2_with fail
    refine (rtick_c _ _).mono ?_
    rw [h]
    rintro e w1 ⟨rfl, rfl⟩
    go_wp2_with fail
    refine (rlen_c _ _).mono ?_
    rw [k]
    rintro e w1 ⟨rfl, rfl⟩
    clear h k
    go_wp2_with fail
    exact bodyPost_ret (v := .tuple #[.int .i64 (t / n), .int .i64 0]) (by simp [results, Tryd.results11, go_sem, hd]) rfl ⟨rfl, rfl⟩

set_option maxRecDepth 100000 in
set_option maxHeartbeats 800000 in
theorem rleft_c (t n : Int) (w : World) :
    Calls Tryd.prog 13 #[.int .i64 t, .int .i64 n] w fun e w' => e = .returned (.tuple #[.int .i64 (leftOf t n).1, .int .i64 (((leftOf t n).2 : Nat) : Int)]) ∧ w' = w := by
  cases h : numB t with
  | false =>
    have e1 : leftOf t n = (0, 1) := by simp [leftOf, h]
    rw [e1]
    clear e1
    go_enter Tryd.func13, Tryd.ntmps13
    go_wp2_with fail
    refine (rtick_c _ _).mono ?_
    rw [h]
    rintro e w1 ⟨rfl, rfl⟩
    clear h
    go_wp2_with fail
    exact bodyPost_ret (v := .tuple #[.int .i64 0, .int .i64 1]) (by simp [results, Tryd.results13, go_sem]) rfl ⟨rfl, rfl⟩
  | true =>
  cases k : lenB n with
  | false =>
    have e1 : leftOf t n = (0, 1) := by simp [leftOf, k]
    rw [e1]
    clear e1
    go_enter Tryd.func13, Tryd.ntmps13
    go_wp2_with fail
    refine (rtick_c _ _).mono ?_
    rw [h]
    rintro e w1 ⟨rfl, rfl⟩
    go_wp2_with fail
    refine (rlen_c _ _).mono ?_
    rw [k]
    rintro e w1 ⟨rfl, rfl⟩
    clear h k
    go_wp2_with fail
    exact bodyPost_ret (v := .tuple #[.int .i64 0, .int .i64 1]) (by simp [results, Tryd.results13, go_sem]) rfl ⟨rfl, rfl⟩
  | true =>
    have hk := lenB_yes.1 k
    have n0 : n ≠ 0 := by omega
    obtain ⟨_, m0, m1, hm, hd⟩ := mod_in h k
    rw [left_yes h k]
    go_enter Tryd.func13, Tryd.ntmps13
    go_wp2_with fail
    refine (rtick_c _ _).mono ?_
    rw [h]
    rintro e w1 ⟨rfl, rfl⟩
    go_wp2_with fail
    refine (rlen_c _ _).mono ?_
    rw [k]
    rintro e w1 ⟨rfl, rfl⟩
    clear h k
    go_wp2_with fail
    exact bodyPost_ret (v := .tuple #[.int .i64 (n - t % n), .int .i64 0]) (by simp [results, Tryd.results13, go_sem]) rfl ⟨rfl, rfl⟩

set_option maxRecDepth 100000 in
set_option maxHeartbeats 800000 in
theorem rfirst_c (t n : Int) (w : World) :
    Calls Tryd.prog 12 #[.int .i64 t, .int .i64 n] w fun e w' => e = .returned (.tuple #[.int .i64 (beginOf t n).1, .int .i64 (((beginOf t n).2 : Nat) : Int)]) ∧ w' = w := by
  cases h : numB t with
  | false =>
    have e1 : beginOf t n = (0, 1) := by simp [beginOf, h]
    rw [e1]
    clear e1
    go_enter Tryd.func12, Tryd.ntmps12
    go_wp2_with fail
    refine (rtick_c _ _).mono ?_
    rw [h]
    rintro e w1 ⟨rfl, rfl⟩
    clear h
    go_wp2_with fail
    exact bodyPost_ret (v := .tuple #[.int .i64 0, .int .i64 1]) (by simp [results, Tryd.results12, go_sem]) rfl ⟨rfl, rfl⟩
  | true =>
  cases k : lenB n with
  | false =>
    have e1 : beginOf t n = (0, 1) := by simp [beginOf, k]
    rw [e1]
    clear e1
    go_enter Tryd.func12, Tryd.ntmps12
    go_wp2_with fail
    refine (rtick_c _ _).mono ?_
    rw [h]
    rintro e w1 ⟨rfl, rfl⟩
    go_wp2_with fail
    refine (rlen_c _ _).mono ?_
    rw [k]
    rintro e w1 ⟨rfl, rfl⟩
    clear h k
    go_wp2_with fail
    exact bodyPost_ret (v := .tuple #[.int .i64 0, .int .i64 1]) (by simp [results, Tryd.results12, go_sem]) rfl ⟨rfl, rfl⟩
  | true =>
    have hk := lenB_yes.1 k
    have n0 : n ≠ 0 := by omega
    obtain ⟨hi, p0, p1⟩ := late_iff h k
    have hmul : wrap64 (t * n) = t * n := by
      generalize t * n = z at p0 p1
      unfold wrap64; omega
    by_cases hl : 1073741824 < t * n
    · have e1 : beginOf t n = (0, 1) := by
        have : numB (t * n) = false := numB_no.2 (.inr hl)
        simp [beginOf, this]
      rw [e1]
      clear e1 hi p0 p1
      go_enter Tryd.func12, Tryd.ntmps12
      go_wp2_with fail
      refine (rtick_c _ _).mono ?_
      rw [h]
      rintro e w1 ⟨rfl, rfl⟩
      go_wp2_with fail
      refine (rlen_c _ _).mono ?_
      rw [k]
      rintro e w1 ⟨rfl, rfl⟩
      clear h k
      go_wp2_with fail
      exact bodyPost_ret (v := .tuple #[.int .i64 0, .int .i64 1]) (by simp [results, Tryd.results12, go_sem]) rfl ⟨rfl, rfl⟩
    · have e1 : beginOf t n = (t * n, 0) := by
        have : numB (t * n) = true := numB_yes.2 ⟨p0, by omega⟩
        simp [beginOf, h, k, this]
      rw [e1]
      clear e1 hi
      go_enter Tryd.func12, Tryd.ntmps12
      go_wp2_with fail
      refine (rtick_c _ _).mono ?_
      rw [h]
      rintro e w1 ⟨rfl, rfl⟩
      go_wp2_with fail
      refine (rlen_c _ _).mono ?_
      rw [k]
      rintro e w1 ⟨rfl, rfl⟩
      clear h k
      go_wp2_with fail
      exact bodyPost_ret (v := .tuple #[.int .i64 (t * n), .int .i64 0]) (by simp [results, Tryd.results12, go_sem]) rfl ⟨rfl, rfl⟩

set_option maxRecDepth 100000 in
set_option maxHeartbeats 800000 in
theorem ropen_c (v now : Int) (w : World) :
    Calls Tryd.prog 17 #[.int .i64 v, .int .i64 now] w fun e w' => e = .returned (.bool (openOf v now)) ∧ w' = w := by
  cases h : numB v with
  | false =>
    go_enter Tryd.func17, Tryd.ntmps17
    go_wp2_with fail
    refine (rtick_c _ _).mono ?_
    rw [h]
    rintro e w1 ⟨rfl, rfl⟩
    go_wp2_with fail
    go_ret
    exact ⟨by simp [openOf, h], rfl⟩
  | true =>
  cases k : numB now with
  | false =>
    go_enter Tryd.func17, Tryd.ntmps17
    go_wp2_with fail
    refine (rtick_c _ _).mono ?_
    rw [h]
    rintro e w1 ⟨rfl, rfl⟩
    go_wp2_with fail
    refine (rtick_c _ _).mono ?_
    rw [k]
    rintro e w1 ⟨rfl, rfl⟩
    go_wp2_with fail
    go_ret
    exact ⟨by simp [openOf, h, k], rfl⟩
  | true =>
    have h0 := numB_yes.1 h
    have k0 := numB_yes.1 k
    have hw : wrap64 (v - now) = v - now := by unfold wrap64; omega
    go_enter Tryd.func17, Tryd.ntmps17
    go_wp2_with fail
    refine (rtick_c _ _).mono ?_
    rw [h]
    rintro e w1 ⟨rfl, rfl⟩
    go_wp2_with fail
    refine (rtick_c _ _).mono ?_
    rw [k]
    rintro e w1 ⟨rfl, rfl⟩
    go_wp2_with fail
    all_goals (go_ret; refine ⟨?_, rfl⟩; simp [openOf, h, k]; omega)

theorem rrow_yes {now n : Int} : rowOk now n = true ↔ (0 ≤ now ∧ now ≤ 1073741824) ∧ 1 ≤ n ∧ n ≤ 8 ∧ now + n - 1 ≤ 1073741824 := by
  simp only [rowOk, Bool.and_eq_true, numB_yes, decide_eq_true_eq]; omega
theorem upFrom_step (now : Int) (j : Nat) : intVs (upFrom now j) ++ [.int .i64 (now + (j : Int))] = intVs (upFrom now (j + 1)) := by simp [intVs, upFrom]

set_option maxRecDepth 100000 in
set_option maxHeartbeats 1600000 in
theorem rrow_ok (now : Int) (n : Nat) (w : World) (h : rowOk now (n : Int) = true) :
    Calls Tryd.prog 14 #[.int .i64 now, .int .i64 (n : Int)] w fun e w' => (∃ v, e = .returned (.tuple #[v, .int .i64 0]) ∧ RI w' v (upFrom now n)) ∧ Below w.heap.size w w' := by
  obtain ⟨⟨h0, h1⟩, h2, h3, h4⟩ := rrow_yes.1 h
  clear h
  obtain ⟨i0, hi, hz0, hz1, hz2⟩ := info_parts Tryd.infoI
  have k1 : numB now = true := numB_yes.2 ⟨h0, h1⟩
  have k2 : wrap64 (wrap64 (now + (n : Int)) - 1) = now + (n : Int) - 1 := by unfold wrap64; omega
  have k3 : numB (now + (n : Int) - 1) = true := numB_yes.2 ⟨by omega, h4⟩
  go_enter Tryd.func14, Tryd.ntmps14
  go_wp2_with fail
  refine (rtick_c _ _).mono ?_
  rw [k1]
  rintro e w1 ⟨rfl, rfl⟩
  go_wp2_with fail
  refine (rtick_c _ _).mono ?_
  try rw [k2]
  rw [k3]
  rintro e w1 ⟨rfl, rfl⟩
  clear k1 k2 k3
  go_wp2_with fail
  go_loopw [6, 7] (fun V i wr => ∃ (j : Nat), i = .int .i64 (j : Int) ∧ j ≤ n ∧ IOwn wr w1.heap.size V (upFrom now j) ∧ Below w1.heap.size w1 wr) (fun _ i _ => n - (intOf i).toNat)
  case atStart => exact ⟨0, rfl, Nat.zero_le _, IOwn.new w1, (Below.refl _ _).alloc (Nat.le_refl _) _⟩
  case round =>
    obtain ⟨j, rfl, hj, ho, hb⟩ := hrel
    by_cases hjn : j < n
    · have j0 : (0 : Int) ≤ (j : Int) := by omega
      have j1 : (j : Int) < (n : Int) := by omega
      have hw : wrap64 (now + (j : Int)) = now + (j : Int) := by unfold wrap64; omega
      have HL := Lib.hid (upFrom_len now j)
      have HLW := Lib.hid ho.low
      have HB := Lib.hid hb
      have hs := hb.size
      clear hb
      go_wp2_with (at_builtin; refine wpList_append_own_at _ rfl _ _ 27 rfl w1.heap.size 3 i0 (.int .i64 0) 1 8 Tryd.underlying27 hi hz0 hz1 hz2 rfl (by decide) _ _ _ rfl (ho.alloc _) ⟨wr.heap.size, 0, none⟩ 1 1 [.int .i64 (now + (j : Int))] rfl rfl (cell_one_new _ _ _) (ints_oneCell .i64 [now + (j : Int)]) (by have := HL.out; unfold maxLen; omega) (by have := HL.out; omega) (by simp; omega) ?_; intro v' w2 hown' hgrow hnil hloc)
      go_roundw
      case rel =>
        refine ⟨j + 1, ret_v (by omega), by omega, ?_, (HB.out.alloc hs _).grown hgrow (by simp; omega) HLW.out⟩
        rw [upFrom_step] at hown'
        have e : (upFrom now j).length + 1 = (upFrom now (j + 1)).length := by rw [upFrom_len, upFrom_len]
        rw [e] at hown'
        exact hown'
      case measure => simp [intOf]; omega
    · obtain rfl : j = n := by omega
      have HR := Lib.hid ho.ri
      have HB := Lib.hid hb
      clear ho hb
      go_wp2_with fail
      go_ret2
      exact ⟨⟨_, rfl, HR.out⟩, HB.out⟩

set_option maxRecDepth 100000 in
set_option maxHeartbeats 1600000 in
theorem rrow_bad (now n : Int) (w : World) (h : rowOk now n = false) :
    Calls Tryd.prog 14 #[.int .i64 now, .int .i64 n] w fun e w' => e = .returned (.tuple #[.slice none 0 0, .int .i64 1]) ∧ w' = w := by
  cases k : numB now with
  | false =>
    go_enter Tryd.func14, Tryd.ntmps14
    go_wp2_with fail
    refine (rtick_c _ _).mono ?_
    rw [k]
    rintro e w1 ⟨rfl, rfl⟩
    clear k h
    go_wp2_with fail
    go_ret2
    exact ⟨rfl, rfl⟩
  | true =>
  by_cases h1 : n < 1
  · go_enter Tryd.func14, Tryd.ntmps14
    go_wp2_with fail
    refine (rtick_c _ _).mono ?_
    rw [k]
    rintro e w1 ⟨rfl, rfl⟩
    clear k h
    go_wp2_with fail
    go_ret2
    exact ⟨rfl, rfl⟩
  · by_cases h2 : 8 < n
    · go_enter Tryd.func14, Tryd.ntmps14
      go_wp2_with fail
      refine (rtick_c _ _).mono ?_
      rw [k]
      rintro e w1 ⟨rfl, rfl⟩
      clear k h
      go_wp2_with fail
      go_ret2
      exact ⟨rfl, rfl⟩
    · have k0 := numB_yes.1 k
      have k2 : wrap64 (wrap64 (now + n) - 1) = now + n - 1 := by unfold wrap64; omega
      have k3 : numB (now + n - 1) = false := by
        cases e : numB (now + n - 1) with
        | false => rfl
        | true =>
          have := numB_yes.1 e
          rw [rrow_yes.2 ⟨k0, by omega, by omega, this.2⟩] at h
          cases h
      go_enter Tryd.func14, Tryd.ntmps14
      go_wp2_with fail
      refine (rtick_c _ _).mono ?_
      rw [k]
      rintro e w1 ⟨rfl, rfl⟩
      clear k h
      go_wp2_with fail
      refine (rtick_c _ _).mono ?_
      try rw [k2]
      rw [k3]
      rintro e w1 ⟨rfl, rfl⟩
      clear k2 k3 k0
      go_wp2_with fail
      go_ret2
      exact ⟨rfl, rfl⟩

/-- Row of the document's answer, whatever came in. -/
theorem rrow_c (now n : Int) (w : World) :
    Calls Tryd.prog 14 #[.int .i64 now, .int .i64 n] w fun e w' => (∃ v, e = .returned (.tuple #[v, .int .i64 (((rowOf now n).2 : Nat) : Int)]) ∧ RI w' v (rowOf now n).1) ∧ Below w.heap.size w w' := by
  unfold rowOf
  cases h : rowOk now n with
  | false => exact (rrow_bad now n w h).mono fun e w' k => ⟨⟨_, k.1, RI.nil _⟩, by rw [k.2]; exact Below.refl _ _⟩
  | true =>
    obtain ⟨m, rfl⟩ : ∃ m : Nat, n = (m : Int) := ⟨n.toNat, by have := rrow_yes.1 h; omega⟩
    rw [if_pos rfl, Int.toNat_natCast]
    exact (rrow_ok now m w h).mono fun e w' k => ⟨k.1, k.2⟩
end Go.Proofs.YtlakabcbebahhaaDoor
