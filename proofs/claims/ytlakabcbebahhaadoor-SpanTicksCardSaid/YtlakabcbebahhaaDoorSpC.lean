/- The contracts of package span, but Row. Condition: ErrArg lies where the program's text lays it, where a call may return it. -/
import Derived.Test.YtlakabcbebahhaaDoorErrs
import Derived.Test.YtlakabcbebahhaaDoorSpM
import Derived.Lib.Hide
namespace Go.Proofs.YtlakabcbebahhaaDoor
open Go Go.RowKit Go.Extern.Stop Go.Stop Go.Extern

/-- The package variable of the sentinel ErrArg. -/
structure ArgAt (a : Addr) (w : World) : Prop where
  cell : w.cell? ⟨0, 0, none⟩ = some (.iface 55 (.pointer (some a)))
theorem ArgAt.on {a : Addr} {w w' : World} (h : ArgAt a w) (hb : Below w.heap.size w w') : ArgAt a w' :=
  ⟨(hb.cell (p := ⟨0, 0, none⟩) (lt_of_cell h.cell)).trans h.cell⟩
theorem Sent.arg {s : Nat → Addr} {w : World} (h : Sent s w) : ArgAt (s 0) w := ⟨h.cell 0 (by omega)⟩
/-- No error, or ErrArg. -/
def errA (a : Addr) (k : Nat) : Value := if k = 0 then .nilIface else .iface 55 (.pointer (some a))
theorem errA_zero (a : Addr) : errA a 0 = .nilIface := rfl
theorem errA_one (a : Addr) : errA a 1 = .iface 55 (.pointer (some a)) := rfl

theorem num_c (n : Int) (w : World) : Calls Tryd.prog 19 #[.int .i64 n] w fun e w' => e = .returned (.bool (numB n)) ∧ w' = w := by
  go_enter Tryd.func19, Tryd.ntmps19
  go_wp2
  all_goals (go_ret; refine ⟨?_, rfl⟩; simp [numB]; omega)
theorem len_c (n : Int) (w : World) : Calls Tryd.prog 20 #[.int .i64 n] w fun e w' => e = .returned (.bool (lenB n)) ∧ w' = w := by
  go_enter Tryd.func20, Tryd.ntmps20
  go_wp2
  all_goals (go_ret; refine ⟨?_, rfl⟩; simp [lenB]; omega)

set_option maxRecDepth 100000 in
set_option maxHeartbeats 800000 in
theorem at_c (a : Addr) (t n : Int) (w : World) (hs : ArgAt a w) :
    Calls Tryd.prog 7 #[.int .i64 t, .int .i64 n] w fun e w' => e = .returned (.tuple #[.int .i64 (winOf t n).1, errA a (winOf t n).2]) ∧ Below w.heap.size w w' := by
  have hg := hs.cell
  have hgl : 0 < w.heap.size := lt_of_cell hg
  clear hs
  cases h : numB t with
  | false =>
    have e1 : winOf t n = (0, 1) := by simp [winOf, h]
    rw [e1, errA_one]
    clear e1
    go_enter Tryd.func7, Tryd.ntmps7
    go_wp2_with fail
    refine (num_c _ _).mono ?_
    rw [h]
    rintro e w1 ⟨rfl, rfl⟩
    clear h
    go_wp2_with fail
    go_region
    all_goals go_wp2_with fail
    all_goals exact bodyPost_ret (v := .tuple #[.int .i64 0, .iface 55 (.pointer (some a))]) (by simp [results, Tryd.results7, go_sem]) rfl ⟨rfl, by (repeat' (first | (with_reducible exact Below.refl _ _) | (with_reducible refine below_drewN ?_ _) | (with_reducible refine Below.drew ?_) | (with_reducible refine Below.alloc ?_ ?_ _) | (with_reducible refine Below.setCell ?_ ?_ _) | (with_reducible refine Below.trans ?_ (Below.mono (by with_reducible assumption) ?_)) | omega | (simp only [World.size_alloc, World.size_setCell, World.size_drew, Go.Proofs.YtlakabcbebahhaaDoor.World.size_drewN] at *; omega) | (with_reducible refine Below.size (B := 0) ?_)))⟩
  | true =>
  cases k : lenB n with
  | false =>
    have e1 : winOf t n = (0, 1) := by simp [winOf, k]
    rw [e1, errA_one]
    clear e1
    go_enter Tryd.func7, Tryd.ntmps7
    go_wp2_with fail
    refine (num_c _ _).mono ?_
    rw [h]
    rintro e w1 ⟨rfl, rfl⟩
    go_wp2_with fail
    refine (len_c _ _).mono ?_
    rw [k]
    rintro e w1 ⟨rfl, rfl⟩
    clear h k
    go_wp2_with fail
    go_region
    all_goals go_wp2_with fail
    all_goals exact bodyPost_ret (v := .tuple #[.int .i64 0, .iface 55 (.pointer (some a))]) (by simp [results, Tryd.results7, go_sem]) rfl ⟨rfl, by (repeat' (first | (with_reducible exact Below.refl _ _) | (with_reducible refine below_drewN ?_ _) | (with_reducible refine Below.drew ?_) | (with_reducible refine Below.alloc ?_ ?_ _) | (with_reducible refine Below.setCell ?_ ?_ _) | (with_reducible refine Below.trans ?_ (Below.mono (by with_reducible assumption) ?_)) | omega | (simp only [World.size_alloc, World.size_setCell, World.size_drew, Go.Proofs.YtlakabcbebahhaaDoor.World.size_drewN] at *; omega) | (with_reducible refine Below.size (B := 0) ?_)))⟩
  | true =>
    have hk := lenB_yes.1 k
    have n0 : n ≠ 0 := by omega
    have hd := (div_in h k).2.2.2
    rw [win_yes h k, errA_zero]
    go_enter Tryd.func7, Tryd.ntmps7
    go_wp2_with fail
    refine (num_c _ _).mono ?_
    rw [h]
    rintro e w1 ⟨rfl, rfl⟩
    go_wp2_with fail
    refine (len_c _ _).mono ?_
    rw [k]
    rintro e w1 ⟨rfl, rfl⟩
    clear h k
    go_wp2_with fail
    exact bodyPost_ret (v := .tuple #[.int .i64 (t / n), .nilIface]) (by simp [results, Tryd.results7, go_sem, hd]) rfl ⟨rfl, Below.refl _ _⟩

set_option maxRecDepth 100000 in
set_option maxHeartbeats 800000 in
theorem left_c (a : Addr) (t n : Int) (w : World) (hs : ArgAt a w) :
    Calls Tryd.prog 9 #[.int .i64 t, .int .i64 n] w fun e w' => e = .returned (.tuple #[.int .i64 (leftOf t n).1, errA a (leftOf t n).2]) ∧ Below w.heap.size w w' := by
  have hg := hs.cell
  have hgl : 0 < w.heap.size := lt_of_cell hg
  clear hs
  cases h : numB t with
  | false =>
    have e1 : leftOf t n = (0, 1) := by simp [leftOf, h]
    rw [e1, errA_one]
    clear e1
    go_enter Tryd.func9, Tryd.ntmps9
    go_wp2_with fail
    refine (num_c _ _).mono ?_
    rw [h]
    rintro e w1 ⟨rfl, rfl⟩
    clear h
    go_wp2_with fail
    go_region
    all_goals go_wp2_with fail
    all_goals exact bodyPost_ret (v := .tuple #[.int .i64 0, .iface 55 (.pointer (some a))]) (by simp [results, Tryd.results9, go_sem]) rfl ⟨rfl, by (repeat' (first | (with_reducible exact Below.refl _ _) | (with_reducible refine below_drewN ?_ _) | (with_reducible refine Below.drew ?_) | (with_reducible refine Below.alloc ?_ ?_ _) | (with_reducible refine Below.setCell ?_ ?_ _) | (with_reducible refine Below.trans ?_ (Below.mono (by with_reducible assumption) ?_)) | omega | (simp only [World.size_alloc, World.size_setCell, World.size_drew, Go.Proofs.YtlakabcbebahhaaDoor.World.size_drewN] at *; omega) | (with_reducible refine Below.size (B := 0) ?_)))⟩
  | true =>
  cases k : lenB n with
  | false =>
    have e1 : leftOf t n = (0, 1) := by simp [leftOf, k]
    rw [e1, errA_one]
    clear e1
    go_enter Tryd.func9, Tryd.ntmps9
    go_wp2_with fail
    refine (num_c _ _).mono ?_
    rw [h]
    rintro e w1 ⟨rfl, rfl⟩
    go_wp2_with fail
    refine (len_c _ _).mono ?_
    rw [k]
    rintro e w1 ⟨rfl, rfl⟩
    clear h k
    go_wp2_with fail
    go_region
    all_goals go_wp2_with fail
    all_goals exact bodyPost_ret (v := .tuple #[.int .i64 0, .iface 55 (.pointer (some a))]) (by simp [results, Tryd.results9, go_sem]) rfl ⟨rfl, by (repeat' (first | (with_reducible exact Below.refl _ _) | (with_reducible refine below_drewN ?_ _) | (with_reducible refine Below.drew ?_) | (with_reducible refine Below.alloc ?_ ?_ _) | (with_reducible refine Below.setCell ?_ ?_ _) | (with_reducible refine Below.trans ?_ (Below.mono (by with_reducible assumption) ?_)) | omega | (simp only [World.size_alloc, World.size_setCell, World.size_drew, Go.Proofs.YtlakabcbebahhaaDoor.World.size_drewN] at *; omega) | (with_reducible refine Below.size (B := 0) ?_)))⟩
  | true =>
    have hk := lenB_yes.1 k
    have n0 : n ≠ 0 := by omega
    obtain ⟨_, m0, m1, hm, hd⟩ := mod_in h k
    rw [left_yes h k, errA_zero]
    go_enter Tryd.func9, Tryd.ntmps9
    go_wp2_with fail
    refine (num_c _ _).mono ?_
    rw [h]
    rintro e w1 ⟨rfl, rfl⟩
    go_wp2_with fail
    refine (len_c _ _).mono ?_
    rw [k]
    rintro e w1 ⟨rfl, rfl⟩
    clear h k
    go_wp2_with fail
    exact bodyPost_ret (v := .tuple #[.int .i64 (n - t % n), .nilIface]) (by simp [results, Tryd.results9, go_sem]) rfl ⟨rfl, Below.refl _ _⟩

set_option maxRecDepth 100000 in
set_option maxHeartbeats 800000 in
theorem first_c (a : Addr) (t n : Int) (w : World) (hs : ArgAt a w) :
    Calls Tryd.prog 8 #[.int .i64 t, .int .i64 n] w fun e w' => e = .returned (.tuple #[.int .i64 (beginOf t n).1, errA a (beginOf t n).2]) ∧ Below w.heap.size w w' := by
  have hg := hs.cell
  have hgl : 0 < w.heap.size := lt_of_cell hg
  clear hs
  cases h : numB t with
  | false =>
    have e1 : beginOf t n = (0, 1) := by simp [beginOf, h]
    rw [e1, errA_one]
    clear e1
    go_enter Tryd.func8, Tryd.ntmps8
    go_wp2_with fail
    refine (num_c _ _).mono ?_
    rw [h]
    rintro e w1 ⟨rfl, rfl⟩
    clear h
    go_wp2_with fail
    go_region
    all_goals go_wp2_with fail
    all_goals exact bodyPost_ret (v := .tuple #[.int .i64 0, .iface 55 (.pointer (some a))]) (by simp [results, Tryd.results8, go_sem]) rfl ⟨rfl, by (repeat' (first | (with_reducible exact Below.refl _ _) | (with_reducible refine below_drewN ?_ _) | (with_reducible refine Below.drew ?_) | (with_reducible refine Below.alloc ?_ ?_ _) | (with_reducible refine Below.setCell ?_ ?_ _) | (with_reducible refine Below.trans ?_ (Below.mono (by with_reducible assumption) ?_)) | omega | (simp only [World.size_alloc, World.size_setCell, World.size_drew, Go.Proofs.YtlakabcbebahhaaDoor.World.size_drewN] at *; omega) | (with_reducible refine Below.size (B := 0) ?_)))⟩
  | true =>
  cases k : lenB n with
  | false =>
    have e1 : beginOf t n = (0, 1) := by simp [beginOf, k]
    rw [e1, errA_one]
    clear e1
    go_enter Tryd.func8, Tryd.ntmps8
    go_wp2_with fail
    refine (num_c _ _).mono ?_
    rw [h]
    rintro e w1 ⟨rfl, rfl⟩
    go_wp2_with fail
    refine (len_c _ _).mono ?_
    rw [k]
    rintro e w1 ⟨rfl, rfl⟩
    clear h k
    go_wp2_with fail
    go_region
    all_goals go_wp2_with fail
    all_goals exact bodyPost_ret (v := .tuple #[.int .i64 0, .iface 55 (.pointer (some a))]) (by simp [results, Tryd.results8, go_sem]) rfl ⟨rfl, by (repeat' (first | (with_reducible exact Below.refl _ _) | (with_reducible refine below_drewN ?_ _) | (with_reducible refine Below.drew ?_) | (with_reducible refine Below.alloc ?_ ?_ _) | (with_reducible refine Below.setCell ?_ ?_ _) | (with_reducible refine Below.trans ?_ (Below.mono (by with_reducible assumption) ?_)) | omega | (simp only [World.size_alloc, World.size_setCell, World.size_drew, Go.Proofs.YtlakabcbebahhaaDoor.World.size_drewN] at *; omega) | (with_reducible refine Below.size (B := 0) ?_)))⟩
  | true =>
    have hk := lenB_yes.1 k
    have n0 : n ≠ 0 := by omega
    obtain ⟨hi, p0, p1⟩ := late_iff h k
    have hq := (div_in (t := 1073741824) rfl k).2.2.2
    have hmul : wrap64 (t * n) = t * n := by
      generalize t * n = z at p0 p1
      unfold wrap64; omega
    by_cases hl : 1073741824 / n < t
    · have e1 : beginOf t n = (0, 1) := by
        have : numB (t * n) = false := numB_no.2 (.inr (hi.1 hl))
        simp [beginOf, this]
      rw [e1, errA_one]
      clear e1 hi p0 p1 hmul
      go_enter Tryd.func8, Tryd.ntmps8
      go_wp2_with fail
      refine (num_c _ _).mono ?_
      rw [h]
      rintro e w1 ⟨rfl, rfl⟩
      go_wp2_with fail
      refine (len_c _ _).mono ?_
      rw [k]
      rintro e w1 ⟨rfl, rfl⟩
      clear h k
      go_wp2_with fail
      go_region
      all_goals go_wp2_with fail
      all_goals exact bodyPost_ret (v := .tuple #[.int .i64 0, .iface 55 (.pointer (some a))]) (by simp [results, Tryd.results8, go_sem]) rfl ⟨rfl, by (repeat' (first | (with_reducible exact Below.refl _ _) | (with_reducible refine below_drewN ?_ _) | (with_reducible refine Below.drew ?_) | (with_reducible refine Below.alloc ?_ ?_ _) | (with_reducible refine Below.setCell ?_ ?_ _) | (with_reducible refine Below.trans ?_ (Below.mono (by with_reducible assumption) ?_)) | omega | (simp only [World.size_alloc, World.size_setCell, World.size_drew, Go.Proofs.YtlakabcbebahhaaDoor.World.size_drewN] at *; omega) | (with_reducible refine Below.size (B := 0) ?_)))⟩
    · have e1 : beginOf t n = (t * n, 0) := by
        have : numB (t * n) = true := numB_yes.2 ⟨p0, by have := mt hi.2 hl; omega⟩
        simp [beginOf, h, k, this]
      rw [e1, errA_zero]
      clear e1 hi
      go_enter Tryd.func8, Tryd.ntmps8
      go_wp2_with fail
      refine (num_c _ _).mono ?_
      rw [h]
      rintro e w1 ⟨rfl, rfl⟩
      go_wp2_with fail
      refine (len_c _ _).mono ?_
      rw [k]
      rintro e w1 ⟨rfl, rfl⟩
      clear h k
      go_wp2_with fail
      exact bodyPost_ret (v := .tuple #[.int .i64 (t * n), .nilIface]) (by simp [results, Tryd.results8, go_sem]) rfl ⟨rfl, Below.refl _ _⟩

set_option maxRecDepth 100000 in
set_option maxHeartbeats 800000 in
theorem open_c (v now : Int) (w : World) :
    Calls Tryd.prog 16 #[.int .i64 v, .int .i64 now] w fun e w' => e = .returned (.bool (openOf v now)) ∧ w' = w := by
  cases h : numB v with
  | false =>
    go_enter Tryd.func16, Tryd.ntmps16
    go_wp2_with fail
    refine (num_c _ _).mono ?_
    rw [h]
    rintro e w1 ⟨rfl, rfl⟩
    go_wp2_with fail
    go_ret
    exact ⟨by simp [openOf, h], rfl⟩
  | true =>
  cases k : numB now with
  | false =>
    go_enter Tryd.func16, Tryd.ntmps16
    go_wp2_with fail
    refine (num_c _ _).mono ?_
    rw [h]
    rintro e w1 ⟨rfl, rfl⟩
    go_wp2_with fail
    refine (num_c _ _).mono ?_
    rw [k]
    rintro e w1 ⟨rfl, rfl⟩
    go_wp2_with fail
    go_ret
    exact ⟨by simp [openOf, h, k], rfl⟩
  | true =>
    have h0 := numB_yes.1 h
    have k0 := numB_yes.1 k
    have hw : wrap64 (v - now) = v - now := by unfold wrap64; omega
    go_enter Tryd.func16, Tryd.ntmps16
    go_wp2_with fail
    refine (num_c _ _).mono ?_
    rw [h]
    rintro e w1 ⟨rfl, rfl⟩
    go_wp2_with fail
    refine (num_c _ _).mono ?_
    rw [k]
    rintro e w1 ⟨rfl, rfl⟩
    go_wp2_with fail
    all_goals (go_ret; refine ⟨?_, rfl⟩; simp [openOf, h, k]; omega)
end Go.Proofs.YtlakabcbebahhaaDoor
