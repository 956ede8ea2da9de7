/- The walk of the law SpanRows: whatever the numbers, it returns true. Condition: ErrArg lies where the program's text lays it. -/
import Derived.Test.YtlakabcbebahhaaDoorSpA
import Derived.Deep.DeepCutAuto
import Derived.Deep.CutBlock
namespace Go.Proofs.YtlakabcbebahhaaDoor
open Go Go.RowKit Go.Extern.Stop Go.Stop Go.Extern

/-- errors.Is of a sentinel and itself. -/
theorem is_self (a : Addr) (w : World) :
    Calls Tryd.prog 18 #[.iface 55 (.pointer (some a)), .iface 55 (.pointer (some a))] w fun e w' => e = .returned (.bool true) ∧ w = w' := by
  obtain ⟨i, hi, hcmp⟩ := Option.map_eq_some_iff.1 Tryd.isComp
  obtain ⟨jj, hjj, hjs⟩ := Option.map_eq_some_iff.1 Tryd.isSize
  have h8 := @run_callFunc_extern Tryd.prog 23 _ Extern.ReflectliteType.typeOf Tryd.func23 (by kernel_rfl) (by kernel_rfl) (by kernel_rfl) (by kernel_rfl)
  have h32 := @run_callFunc_extern Tryd.prog 43 _ entComparable Tryd.func43 (by kernel_rfl) (by kernel_rfl) (by kernel_rfl) (by kernel_rfl)
  have tT := Tryd.isTypeOf
  have cT := Tryd.isComparable
  have nE := Tryd.noIsE
  have uE := Tryd.noUnwrapE
  have vE := Tryd.noUnwrapsE
  have heq := run_eql_iface_ptr_same (P := Tryd.prog) w a Tryd.underlying24 Tryd.underlying55 hi hcmp hjj
  go_enter Tryd.func18, Tryd.ntmps18
  go_wp2
  go_rounds 1
  go_ret
  exact ⟨rfl, rfl⟩

set_option maxRecDepth 100000 in
set_option maxHeartbeats 3200000 in
theorem rows_any (a : Addr) (now n : Int) (w : World) (hs : ArgAt a w) (hlo : -9223372036854775808 ≤ now) (hhi : now ≤ 9223372036854775807) :
    Calls Tryd.prog 5 #[.int .i64 now, .int .i64 n] w fun e w' => e = .returned (.bool true) ∧ Below w.heap.size w w' := by
  have HS := Lib.hid hs; clear hs
  go_enter Tryd.func5, Tryd.ntmps5
  go_wp2_with fail
  refine (awake_c a _ HS.out).mono ?_
  rintro e w1 ⟨rfl, b1⟩
  have B := Lib.hid b1; clear b1
  go_wp2_with fail
  refine (row_c a now n _ (HS.out.on B.out)).mono ?_
  cases hr : rowOk now n with
  | false =>
    have e1 : rowOf now n = ([], 1) := by simp [rowOf, hr]
    rw [e1, errA_one]
    rintro e w2 ⟨⟨v, rfl, hv⟩, b2⟩
    replace B := Lib.hid (B.out.trans (b2.mono B.out.size)); clear b2
    have hg := (HS.out.on B.out).cell
    obtain ⟨ad, c, rfl, _⟩ := hv
    clear hr e1
    go_wp2_with fail
    refine (is_self a _).mono ?_
    rintro e w3 ⟨rfl, rfl⟩
    go_wp2_with fail
    go_ret
    exact ⟨rfl, B.out⟩
  | true =>
    obtain ⟨⟨h0, h1⟩, h2, h3, h4⟩ := row_yes.1 hr
    obtain ⟨m, rfl⟩ : ∃ m : Nat, n = (m : Int) := ⟨n.toNat, by omega⟩
    have e1 : rowOf now (m : Int) = (upFrom now m, 0) := by simp [rowOf, hr]
    rw [e1, errA_zero]
    rintro e w2 ⟨⟨v, rfl, hv⟩, b2⟩
    replace B := Lib.hid (B.out.trans (b2.mono B.out.size)); clear b2
    have HV := Lib.hid hv
    obtain ⟨ad, c, rfl, _⟩ := hv
    have hlen := upFrom_len now m
    rw [hlen]
    have o1 : openOf (now - 1) now = false := by simp [openOf]; omega
    have o2 : openOf (now + 8) now = false := by simp [openOf]; omega
    have O1 := Lib.hid o1; have O2 := Lib.hid o2; have HL := Lib.hid hlen
    clear hr e1 o1 o2 hlen
    go_wp2_with fail
    go_loopw [7] (fun i wr => ∃ j : Nat, i = .int .i64 (j : Int) ∧ j ≤ m ∧ wr = w2) (fun i _ => m - (intOf i).toNat)
    case atStart => exact ⟨0, rfl, Nat.zero_le _, rfl⟩
    case round =>
      obtain ⟨j, rfl, hj, rfl⟩ := hrel
      by_cases hjm : j < m
      · have j0 : (0 : Int) ≤ (j : Int) := by omega
        have j1 : (j : Int) < (m : Int) := by omega
        obtain ⟨_, _, e1, k1⟩ := HV.out
        cases e1
        obtain ⟨ad, rfl, c1⟩ := k1 j _ (upFrom_at now m j hjm)
        have hw : wrap64 (now + (j : Int)) = now + (j : Int) := by unfold wrap64; omega
        have hne : ((now + (j : Int)) != (now + (j : Int))) = false := by simp
        have OJ : Hid (openOf (now + (j : Int)) now = true) := Lib.hid (by
          simp only [openOf, numB_yes.2 ⟨show 0 ≤ now + (j : Int) by omega, show now + (j : Int) ≤ 1073741824 by omega⟩, numB_yes.2 ⟨h0, h1⟩, Bool.and_eq_true, decide_eq_true_eq]
          exact ⟨⟨⟨trivial, trivial⟩, by omega⟩, by omega⟩)
        clear k1
        go_wp2_with fail
        refine (open_c _ _ _).mono ?_
        rw [OJ.out]
        rintro e w3 ⟨rfl, rfl⟩
        go_wp2_with fail
        go_roundw
        case rel => exact ⟨j + 1, ret_v (by omega), by omega, trivial⟩
        case measure => simp [intOf]; omega
      · obtain rfl : j = m := by omega
        have hw1 : wrap64 (now - 1) = now - 1 := by unfold wrap64; omega
        have hw2 : wrap64 (now + 8) = now + 8 := by unfold wrap64; omega
        have hww : ((j : Int) == (j : Int)) = true := by simp
        go_wp2_with fail
        refine (open_c _ _ _).mono ?_
        try rw [hw1]
        rw [O1.out]
        rintro e w3 ⟨rfl, rfl⟩
        go_wp2_with fail
        refine (open_c _ _ _).mono ?_
        try rw [hw2]
        rw [O2.out]
        rintro e w3 ⟨rfl, rfl⟩
        go_wp2_with fail
        go_ret
        exact ⟨rfl, B.out⟩
end Go.Proofs.YtlakabcbebahhaaDoor
