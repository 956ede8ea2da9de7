/- The contract of the law package's own function that tells which error it is. Condition: the fourteen sentinels lie where the program's text lays them. -/
import Derived.Test.YtbfbhlpibclccaaDoorErrs
import Derived.LoopTactic
import Derived.Lib.Hide
namespace Go.Proofs.YtbfbhlpibclccaaDoor
open Go Go.RowKit Go.Extern.Stop Go.Stop Go.Extern

/-- The row of the fourteen sentinels. -/
def sentRow (s : Nat → Addr) : Array Value := #[.iface 201 (.pointer (some (s 0))), .iface 201 (.pointer (some (s 1))), .iface 201 (.pointer (some (s 2))), .iface 201 (.pointer (some (s 3))), .iface 201 (.pointer (some (s 4))), .iface 201 (.pointer (some (s 5))), .iface 201 (.pointer (some (s 6))), .iface 201 (.pointer (some (s 7))), .iface 201 (.pointer (some (s 8))), .iface 201 (.pointer (some (s 9))), .iface 201 (.pointer (some (s 10))), .iface 201 (.pointer (some (s 11))), .iface 201 (.pointer (some (s 12))), .iface 201 (.pointer (some (s 13)))]


theorem sentRow_at (s : Nat → Addr) (j : Nat) (hj : j < 14) : (sentRow s)[j]? = some (.iface 201 (.pointer (some (s j)))) := by
  match j, hj with
  | 0, _ => rfl
  | 1, _ => rfl
  | 2, _ => rfl
  | 3, _ => rfl
  | 4, _ => rfl
  | 5, _ => rfl
  | 6, _ => rfl
  | 7, _ => rfl
  | 8, _ => rfl
  | 9, _ => rfl
  | 10, _ => rfl
  | 11, _ => rfl
  | 12, _ => rfl
  | 13, _ => rfl

/-- What a round of the search begins with: the counter at most k, the row in its block. -/
def KRel (s : Nat → Addr) (w : World) (k : Nat) (i : Value) (wr : World) : Prop :=
  ∃ j : Nat, j ≤ k ∧ i = .int .i64 j ∧ Sent s wr ∧ Below w.heap.size w wr ∧ (∀ n, n < 14 → wr.cell? ⟨w.heap.size, n, none⟩ = some (.iface 201 (.pointer (some (s n)))))

theorem KRel.start (s : Nat → Addr) (w : World) (k : Nat) (hs : Sent s w) : KRel s w k (.int .i64 0) (w.alloc (.cells (sentRow s) 99)) := by
  have hb : Below w.heap.size w (w.alloc (.cells (sentRow s) 99)) := (Below.refl _ _).alloc (Nat.le_refl _) _
  refine ⟨0, Nat.zero_le _, rfl, hs.below hb (Nat.le_refl _), hb, fun n hn => ?_⟩
  rw [World.cell?_alloc_at _ _ _ _ rfl]
  exact sentRow_at s n hn

/-- A value that errors.Is tells from each sentinel but the one of the place k. -/
def Tells (s : Nat → Addr) (k : Nat) (v : Value) (w : World) : Prop :=
  ∀ W : World, Below w.heap.size w W → ∀ j, j < 14 → Calls Tryd.prog 41 #[v, .iface 201 (.pointer (some (s j)))] W fun e w' => e = .returned (.bool (decide (k = j))) ∧ W = w'

set_option maxRecDepth 100000 in
set_option maxHeartbeats 800000 in
theorem kind_of (s : Nat → Addr) (k : Nat) (T : TypeId) (a : Addr) (w : World) (hs : Sent s w) (hk : k < 14) (ht : Tells s k (.iface T (.pointer (some a))) w) :
    Calls Tryd.prog 8 #[.iface T (.pointer (some a))] w fun e w' => e = .returned (.int .i64 (k + 1 : Nat)) ∧ Below w.heap.size w w' := by
  have e0 := hs.cell 0 (by omega)
  have e1 := hs.cell 1 (by omega)
  have e2 := hs.cell 2 (by omega)
  have e3 := hs.cell 3 (by omega)
  have e4 := hs.cell 4 (by omega)
  have e5 := hs.cell 5 (by omega)
  have e6 := hs.cell 6 (by omega)
  have e7 := hs.cell 7 (by omega)
  have e8 := hs.cell 8 (by omega)
  have e9 := hs.cell 9 (by omega)
  have e10 := hs.cell 10 (by omega)
  have e11 := hs.cell 11 (by omega)
  have e12 := hs.cell 12 (by omega)
  have e13 := hs.cell 13 (by omega)
  simp only [gnum, List.getD_cons_zero, List.getD_cons_succ] at e0 e1 e2 e3 e4 e5 e6 e7 e8 e9 e10 e11 e12 e13
  have hst := KRel.start s w k hs
  go_enter Tryd.func8, Tryd.ntmps8
  go_wp2
  clear hs e0 e1 e2 e3 e4 e5 e6 e7 e8 e9 e10 e11 e12 e13
  go_loopw [4] (fun i wr => KRel s w k i wr) (fun i _ => 14 - (intOf i).toNat)
  case atStart => exact hst
  case round =>
    obtain ⟨j, hj, rfl, hsr, hbr, hcr⟩ := hrel
    have hcj := hcr j (by omega)
    have hlt : decide ((j : Int) < 14) = true := by simp; omega
    by_cases hkj : k = j
    · subst hkj
      have ht' := ht wr hbr k hk
      simp only [decide_true] at ht'
      clear hst hcr
      have HT := Lib.hid ht'; clear ht' ht
      go_wp2_with (go_at_call 41; refine (HT.out).mono ?_; rintro e w' ⟨rfl, rfl⟩)
      go_ret
      exact ⟨rfl, hbr⟩
    · have ht' := ht wr hbr j (by omega)
      rw [decide_eq_false hkj] at ht'
      clear hst
      have HT := Lib.hid ht'; clear ht' ht
      have HC := Lib.hid hcr; clear hcr
      go_wp2_with (go_at_call 41; refine (HT.out).mono ?_; rintro e w' ⟨rfl, rfl⟩)
      go_roundw
      case rel => exact ⟨j + 1, by omega, by go_num, hsr, hbr, HC.out⟩
      case measure => simp [intOf]; omega

theorem tells_sent (s : Nat → Addr) (k : Nat) (w : World) (hs : Sent s w) (hk : k < 14) : Tells s k (.iface 201 (.pointer (some (s k)))) w :=
  fun W hb j hj => is_sent s k j W (hs.below hb (Nat.le_refl _)) hk hj


theorem kind_nil (w : World) : Calls Tryd.prog 8 #[.nilIface] w fun e w' => e = .returned (.int .i64 0) ∧ Below w.heap.size w w' := by
  go_enter Tryd.func8, Tryd.ntmps8
  go_wp2
  go_ret
  exact ⟨rfl, Below.refl _ _⟩

/-- An error that is none, or bears the sentinel of the place k - 1, itself or by a Fault. -/
def ErrIs (s : Nat → Addr) (k : Nat) (v : Value) (_w : World) : Prop :=
  (k = 0 ∧ v = .nilIface) ∨ (0 < k ∧ k ≤ 14 ∧ v = .iface 201 (.pointer (some (s (k - 1)))))

theorem kind_any (s : Nat → Addr) (k : Nat) (v : Value) (w : World) (hs : Sent s w) (hv : ErrIs s k v w) :
    Calls Tryd.prog 8 #[v] w fun e w' => e = .returned (.int .i64 k) ∧ Below w.heap.size w w' := by
  rcases hv with ⟨rfl, rfl⟩ | ⟨h0, h14, rfl⟩
  · exact kind_nil w
  · have h := kind_of s (k - 1) _ _ w hs (by omega) (tells_sent s (k - 1) w hs (by omega))
    rw [show k - 1 + 1 = k from by omega] at h
    exact h

theorem errV_is (s : Nat → Addr) (k : Nat) (w : World) (hk : k ≤ 14) : ErrIs s k (errV s k) w := by
  unfold ErrIs errV
  by_cases h : k = 0
  · left; exact ⟨h, by rw [if_pos h]⟩
  · right; exact ⟨by omega, hk, by rw [if_neg h]⟩

theorem kind_errV (s : Nat → Addr) (k : Nat) (w : World) (hs : Sent s w) (hk : k ≤ 14) :
    Calls Tryd.prog 8 #[errV s k] w fun e w' => e = .returned (.int .i64 k) ∧ Below w.heap.size w w' :=
  kind_any s k _ w hs (errV_is s k w hk)
end Go.Proofs.YtbfbhlpibclccaaDoor
