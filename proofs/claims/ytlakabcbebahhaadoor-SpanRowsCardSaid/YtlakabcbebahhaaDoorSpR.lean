/- The contract of span.Row, and what the law asks of the document's example. Condition: ErrArg lies where the program's text lays it. -/
import Derived.Test.YtlakabcbebahhaaDoorSpC
import Derived.Test.YtlakabcbebahhaaDoorInts
import Derived.LoopTactic
namespace Go.Proofs.YtlakabcbebahhaaDoor
open Go Go.RowKit Go.Extern.Stop Go.Stop Go.Extern

theorem row_yes {now n : Int} : rowOk now n = true ↔ (0 ≤ now ∧ now ≤ 1073741824) ∧ 1 ≤ n ∧ n ≤ 8 ∧ now + n - 1 ≤ 1073741824 := by
  simp only [rowOk, Bool.and_eq_true, numB_yes, decide_eq_true_eq]; omega

/-- What a round of the filling begins with. -/
def FRel (w : World) (now : Int) (n : Nat) (i : Value) (wr : World) : Prop :=
  ∃ j : Nat, i = .int .i64 (j : Int) ∧ j ≤ n ∧ RowI wr w.heap.size ((intVs (upFrom now n)).take j ++ List.replicate (n - j) (.int .i64 0)) ∧ Below w.heap.size w wr

set_option maxRecDepth 100000 in
set_option maxHeartbeats 1600000 in
theorem row_ok (now : Int) (n : Nat) (w : World) (h : rowOk now (n : Int) = true) :
    Calls Tryd.prog 10 #[.int .i64 now, .int .i64 (n : Int)] w fun e w' => (∃ v, e = .returned (.tuple #[v, .nilIface]) ∧ RI w' v (upFrom now n)) ∧ Below w.heap.size w w' := by
  obtain ⟨⟨h0, h1⟩, h2, h3, h4⟩ := row_yes.1 h
  clear h
  have k1 : numB now = true := numB_yes.2 ⟨h0, h1⟩
  have k2 : wrap64 (wrap64 (now + (n : Int)) - 1) = now + (n : Int) - 1 := by unfold wrap64; omega
  have k3 : numB (now + (n : Int) - 1) = true := numB_yes.2 ⟨by omega, h4⟩
  have hmk : (Instr.makeSlice 27 (.int .i64 (n : Int)) (.int .i64 (n : Int))).run Tryd.prog w = .ok (.slice (some ⟨w.heap.size, 0, none⟩) n n) (w.alloc (.cells (madeCells #[.int .i64 0] n) 3)) :=
    run_make_row' _ _ _ 8 Tryd.underlying27 Tryd.infoI rfl .i64 .i64 n (by omega) (by omega) w
  have hst : FRel w now n (.int .i64 0) (w.alloc (.cells (madeCells #[.int .i64 0] n) 3)) := by
    refine ⟨0, rfl, Nat.zero_le _, ?_, (Below.refl _ _).alloc (Nat.le_refl _) _⟩
    show (w.alloc _).heap[w.heap.size]? = _
    rw [heap_alloc_new, List.take_zero, List.nil_append, Nat.sub_zero, ← toList_madeCells_one]
  have HST := Lib.hid hst; clear hst
  go_enter Tryd.func10, Tryd.ntmps10
  go_wp2_with fail
  refine (num_c _ _).mono ?_
  rw [k1]
  rintro e w1 ⟨rfl, rfl⟩
  go_wp2_with fail
  refine (num_c _ _).mono ?_
  try rw [k2]
  rw [k3]
  rintro e w1 ⟨rfl, rfl⟩
  clear k1 k2 k3
  go_wp2_with fail
  go_loopw [32] (fun i wr => FRel w1 now n i wr) (fun i _ => n - (intOf i).toNat)
  case atStart => exact HST.out
  case round =>
    obtain ⟨j, rfl, hj, hr, hb⟩ := hrel
    clear HST hmk
    by_cases hjn : j < n
    · have j0 : (0 : Int) ≤ (j : Int) := by omega
      have j1 : (j : Int) < (n : Int) := by omega
      have c1 := hr.cell (fillI_free (F := intVs (upFrom now n)) (n := n) (by rw [intVs_len, upFrom_len]) hjn)
      have c2 := hr.free j
      have hw : wrap64 (now + (j : Int)) = now + (j : Int) := by unfold wrap64; omega
      have HN : Hid (FRel w1 now n (.int .i64 ((j : Int) + 1)) (wr.setCell ⟨w1.heap.size, j, none⟩ (.int .i64 (now + (j : Int))))) := Lib.hid ⟨j + 1, ret_v (by omega), hjn, by
        have := hr.set j (.int .i64 (now + (j : Int)))
        rwa [fillI_step (by rw [intVs_len, upFrom_len]) (by rw [intVs_get, upFrom_at _ _ _ hjn]; rfl)] at this, hb.setCell (Nat.le_refl _) _⟩
      clear hr hb
      go_wp2_with fail
      go_roundw
      case rel => exact HN.out
      case measure => simp [intOf]; omega
    · obtain rfl : j = n := by omega
      have HR : Hid (RI wr (.slice (some ⟨w1.heap.size, 0, none⟩) j j) (upFrom now j)) := Lib.hid (by
        rw [Nat.sub_self, List.replicate_zero, List.append_nil, List.take_of_length_le (by rw [intVs_len, upFrom_len]; exact Nat.le_refl _)] at hr
        exact hr.ri (upFrom_len _ _).symm)
      have HB := Lib.hid hb
      clear hr hb
      go_wp2_with fail
      go_ret2
      exact ⟨⟨_, rfl, HR.out⟩, HB.out⟩

set_option maxRecDepth 100000 in
set_option maxHeartbeats 1600000 in
theorem row_bad (a : Addr) (now n : Int) (w : World) (hs : ArgAt a w) (h : rowOk now n = false) :
    Calls Tryd.prog 10 #[.int .i64 now, .int .i64 n] w fun e w' => e = .returned (.tuple #[.slice none 0 0, .iface 55 (.pointer (some a))]) ∧ Below w.heap.size w w' := by
  have hg := hs.cell
  have hgl : 0 < w.heap.size := lt_of_cell hg
  clear hs
  cases k : numB now with
  | false =>
    go_enter Tryd.func10, Tryd.ntmps10
    go_wp2_with fail
    refine (num_c _ _).mono ?_
    rw [k]
    rintro e w1 ⟨rfl, rfl⟩
    clear k h
    go_wp2_with fail
    go_region
    all_goals go_wp2_with fail
    all_goals exact bodyPost_ret (v := .tuple #[.slice none 0 0, .iface 55 (.pointer (some a))]) (by simp [results, Tryd.results10, go_sem]) rfl ⟨rfl, by (repeat' (first | (with_reducible exact Below.refl _ _) | (with_reducible refine below_drewN ?_ _) | (with_reducible refine Below.drew ?_) | (with_reducible refine Below.alloc ?_ ?_ _) | (with_reducible refine Below.setCell ?_ ?_ _) | (with_reducible refine Below.trans ?_ (Below.mono (by with_reducible assumption) ?_)) | omega | (simp only [World.size_alloc, World.size_setCell, World.size_drew, Go.Proofs.YtlakabcbebahhaaDoor.World.size_drewN] at *; omega) | (with_reducible refine Below.size (B := 0) ?_)))⟩
  | true =>
  by_cases h1 : n < 1
  · go_enter Tryd.func10, Tryd.ntmps10
    go_wp2_with fail
    refine (num_c _ _).mono ?_
    rw [k]
    rintro e w1 ⟨rfl, rfl⟩
    clear k h
    go_wp2_with fail
    go_region
    all_goals go_wp2_with fail
    all_goals exact bodyPost_ret (v := .tuple #[.slice none 0 0, .iface 55 (.pointer (some a))]) (by simp [results, Tryd.results10, go_sem]) rfl ⟨rfl, by (repeat' (first | (with_reducible exact Below.refl _ _) | (with_reducible refine below_drewN ?_ _) | (with_reducible refine Below.drew ?_) | (with_reducible refine Below.alloc ?_ ?_ _) | (with_reducible refine Below.setCell ?_ ?_ _) | (with_reducible refine Below.trans ?_ (Below.mono (by with_reducible assumption) ?_)) | omega | (simp only [World.size_alloc, World.size_setCell, World.size_drew, Go.Proofs.YtlakabcbebahhaaDoor.World.size_drewN] at *; omega) | (with_reducible refine Below.size (B := 0) ?_)))⟩
  · by_cases h2 : 8 < n
    · go_enter Tryd.func10, Tryd.ntmps10
      go_wp2_with fail
      refine (num_c _ _).mono ?_
      rw [k]
      rintro e w1 ⟨rfl, rfl⟩
      clear k h
      go_wp2_with fail
      go_region
      all_goals go_wp2_with fail
      all_goals exact bodyPost_ret (v := .tuple #[.slice none 0 0, .iface 55 (.pointer (some a))]) (by simp [results, Tryd.results10, go_sem]) rfl ⟨rfl, by (repeat' (first | (with_reducible exact Below.refl _ _) | (with_reducible refine below_drewN ?_ _) | (with_reducible refine Below.drew ?_) | (with_reducible refine Below.alloc ?_ ?_ _) | (with_reducible refine Below.setCell ?_ ?_ _) | (with_reducible refine Below.trans ?_ (Below.mono (by with_reducible assumption) ?_)) | omega | (simp only [World.size_alloc, World.size_setCell, World.size_drew, Go.Proofs.YtlakabcbebahhaaDoor.World.size_drewN] at *; omega) | (with_reducible refine Below.size (B := 0) ?_)))⟩
    · have k0 := numB_yes.1 k
      have k2 : wrap64 (wrap64 (now + n) - 1) = now + n - 1 := by unfold wrap64; omega
      have k3 : numB (now + n - 1) = false := by
        cases e : numB (now + n - 1) with
        | false => rfl
        | true =>
          have := numB_yes.1 e
          rw [row_yes.2 ⟨k0, by omega, by omega, this.2⟩] at h
          cases h
      go_enter Tryd.func10, Tryd.ntmps10
      go_wp2_with fail
      refine (num_c _ _).mono ?_
      rw [k]
      rintro e w1 ⟨rfl, rfl⟩
      clear k h
      go_wp2_with fail
      refine (num_c _ _).mono ?_
      try rw [k2]
      rw [k3]
      rintro e w1 ⟨rfl, rfl⟩
      clear k2 k3 k0
      go_wp2_with fail
      go_region
      all_goals go_wp2_with fail
      all_goals exact bodyPost_ret (v := .tuple #[.slice none 0 0, .iface 55 (.pointer (some a))]) (by simp [results, Tryd.results10, go_sem]) rfl ⟨rfl, by (repeat' (first | (with_reducible exact Below.refl _ _) | (with_reducible refine below_drewN ?_ _) | (with_reducible refine Below.drew ?_) | (with_reducible refine Below.alloc ?_ ?_ _) | (with_reducible refine Below.setCell ?_ ?_ _) | (with_reducible refine Below.trans ?_ (Below.mono (by with_reducible assumption) ?_)) | omega | (simp only [World.size_alloc, World.size_setCell, World.size_drew, Go.Proofs.YtlakabcbebahhaaDoor.World.size_drewN] at *; omega) | (with_reducible refine Below.size (B := 0) ?_)))⟩

/-- span.Row, whatever came in. -/
theorem row_c (a : Addr) (now n : Int) (w : World) (hs : ArgAt a w) :
    Calls Tryd.prog 10 #[.int .i64 now, .int .i64 n] w fun e w' => (∃ v, e = .returned (.tuple #[v, errA a (rowOf now n).2]) ∧ RI w' v (rowOf now n).1) ∧ Below w.heap.size w w' := by
  unfold rowOf
  cases h : rowOk now n with
  | false => exact (row_bad a now n w hs h).mono fun e w' k => ⟨⟨_, k.1, RI.nil _⟩, k.2⟩
  | true =>
    obtain ⟨m, rfl⟩ : ∃ m : Nat, n = (m : Int) := ⟨n.toNat, by have := row_yes.1 h; omega⟩
    rw [if_pos rfl, Int.toNat_natCast]
    exact (row_ok now m w h).mono fun e w' k => ⟨k.1, k.2⟩
end Go.Proofs.YtlakabcbebahhaaDoor
