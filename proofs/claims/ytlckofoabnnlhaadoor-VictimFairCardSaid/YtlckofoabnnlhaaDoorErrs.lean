/- The errors of this program by contracts: what errors.Is answers of nil, of a sentinel, and of a Fault that wraps a sentinel. Condition: the sentinels that the program names lie where the program's text lays them. -/
import Derived.Test.YtlckofoabnnlhaaDoorProg
import Derived.WalkKit
import Derived.LaidEql
import Derived.Stop.Asserts
import Derived.RowKitTokens
import Derived.BigQuiet
import Derived.Outline
import Derived.Handy
namespace Go.Proofs.YtlckofoabnnlhaaDoor
open Go Go.RowKit Go.Extern.Stop Go.Stop Go.Extern

/-- An error value: none, or the sentinel of the place k - 1. -/
def errV (s : Nat → Addr) (k : Nat) : Value := if k = 0 then .nilIface else .iface 113 (.pointer (some (s (k - 1))))
/-- The package variable that holds the sentinel of a place. -/
def gnum (i : Nat) : Nat := [0, 1, 2, 3, 4, 5, 6, 7, 8, 9, 10, 11, 12, 13].getD i 0

/-- What is known of the package variables in a world. -/
structure Sent (s : Nat → Addr) (w : World) : Prop where
  cell : ∀ i, i < 14 → w.cell? ⟨gnum i, 0, none⟩ = some (.iface 113 (.pointer (some (s i))))
  row : ∀ i, i < 14 → ∃ cs t, w.heap[(s i).block]? = some (.cells cs t (0, 0))
  inj : ∀ i j, i < 14 → j < 14 → s i = s j → i = j

theorem lt_of_cell {w : World} {p : Addr} {v : Value} (h : w.cell? p = some v) : p.block < w.heap.size := by
  rcases Nat.lt_or_ge p.block w.heap.size with h1 | h1
  · exact h1
  · simp [World.cell?, Array.getElem?_eq_none h1] at h
theorem lt_of_row {w : World} {b : Nat} {o : Obj} (h : w.heap[b]? = some o) : b < w.heap.size := by
  rcases Nat.lt_or_ge b w.heap.size with h1 | h1
  · exact h1
  · rw [Array.getElem?_eq_none h1] at h; cases h

theorem Sent.below {s : Nat → Addr} {w w' : World} (h : Sent s w) {B : Nat} (hb : Below B w w') (hB : w.heap.size ≤ B) : Sent s w' where
  cell := fun i hi => (hb.cell (p := ⟨gnum i, 0, none⟩) (Nat.lt_of_lt_of_le (lt_of_cell (h.cell i hi)) hB)).trans (h.cell i hi)
  row := fun i hi => by
    obtain ⟨cs, t, hr⟩ := h.row i hi
    exact ⟨cs, t, (hb.block _ (Nat.lt_of_lt_of_le (lt_of_row hr) hB)).trans hr⟩
  inj := h.inj


theorem Tryd.isComp : (Tryd.prog.info? 113).map (·.comparable) = some true := by kernel_rfl
theorem Tryd.isSize : (Tryd.prog.info? 139).map (·.size) = some 1 := by kernel_rfl
theorem Tryd.isTypeOf (v : Value) (w : World) : (Extern.ReflectliteType.typeOf #[.iface 113 v]).run Tryd.prog w = .ok (.iface 91 (.agg #[.pointer (some ⟨14, 113, none⟩)])) w := by kernel_rfl
/-- The model's entry for the method Comparable of a type. -/
def entComparable : Array Value → Sem Value := Extern.ReflectliteType.method fun t => do Extern.Rtype.noPackHeld "Comparable" t; pure (.bool (← typeInfo t).comparable)
theorem Tryd.isComparable (w : World) : (entComparable #[.agg #[.pointer (some ⟨14, 113, none⟩)]]).run Tryd.prog w = .ok (.bool true) w := by kernel_rfl
theorem Tryd.noIsE (v : Value) (xT : TypeId) (w : World) : (Instr.typeAssert (.iface 113 v) xT 93 true).run Tryd.prog w = .ok (.tuple #[.nilIface, .bool false]) w := run_typeAssert_lacksB Tryd.underlying93 (by kernel_rfl) (by kernel_rfl) v xT w
theorem Tryd.noUnwrapE (v : Value) (xT : TypeId) (w : World) : (Instr.typeAssert (.iface 113 v) xT 96 true).run Tryd.prog w = .ok (.tuple #[.nilIface, .bool false]) w := run_typeAssert_lacksB Tryd.underlying96 (by kernel_rfl) (by kernel_rfl) v xT w
theorem Tryd.noUnwrapsE (v : Value) (xT : TypeId) (w : World) : (Instr.typeAssert (.iface 113 v) xT 98 true).run Tryd.prog w = .ok (.tuple #[.nilIface, .bool false]) w := run_typeAssert_lacksB Tryd.underlying98 (by kernel_rfl) (by kernel_rfl) v xT w

/-- errors.Is(x, y), x and y the sentinels of the places k and j. -/
theorem is_sent (s : Nat → Addr) (k j : Nat) (w : World) (hs : Sent s w) (hk : k < 14) (hj : j < 14) :
    Calls Tryd.prog 13 #[.iface 113 (.pointer (some (s k))), .iface 113 (.pointer (some (s j)))] w fun e w' => e = .returned (.bool (decide (k = j))) ∧ w = w' := by
  obtain ⟨i, hi, hcmp⟩ := Option.map_eq_some_iff.1 Tryd.isComp
  obtain ⟨jj, hjj, hjs⟩ := Option.map_eq_some_iff.1 Tryd.isSize
  have h8 := @run_callFunc_extern Tryd.prog 23 _ Extern.ReflectliteType.typeOf Tryd.func23 (by kernel_rfl) (by kernel_rfl) (by kernel_rfl) (by kernel_rfl)
  have h32 := @run_callFunc_extern Tryd.prog 65 _ entComparable Tryd.func65 (by kernel_rfl) (by kernel_rfl) (by kernel_rfl) (by kernel_rfl)
  have tT := Tryd.isTypeOf
  have cT := Tryd.isComparable
  have nE := Tryd.noIsE
  have uE := Tryd.noUnwrapE
  have vE := Tryd.noUnwrapsE
  by_cases hkj : k = j
  · subst hkj
    have heq := run_eql_iface_ptr_same (P := Tryd.prog) w (s k) Tryd.underlying40 Tryd.underlying113 hi hcmp hjj
    clear hs hk hj
    go_enter Tryd.func13, Tryd.ntmps13
    go_wp2
    go_rounds 1
    go_ret
    exact ⟨by simp, rfl⟩
  · obtain ⟨ca, ta, ha⟩ := hs.row k hk
    obtain ⟨cb, tb, hb⟩ := hs.row j hj
    have hne : s k ≠ s j := fun h => hkj (hs.inj k j hk hj h)
    have heq := run_eql_iface_ptr_other (P := Tryd.prog) w Tryd.underlying40 Tryd.underlying113 hi hcmp hjj (by rw [hjs]; decide) hne ha hb
    have hkj' : Hid (decide (k = j) = false) := decide_eq_false hkj
    clear hs hk hj hkj ha hb
    go_enter Tryd.func13, Tryd.ntmps13
    go_wp2
    go_rounds 1
    go_ret
    exact ⟨by rw [hkj'.out]; rfl, rfl⟩

/-- errors.Is(nil, y). -/
theorem is_nil (v : Value) (w : World) : Calls Tryd.prog 13 #[.nilIface, .iface 113 v] w fun e w' => e = .returned (.bool false) ∧ w = w' := by
  have hn := run_eql_iface_nil_left (P := Tryd.prog) w 113 v Tryd.underlying40
  go_enter Tryd.func13, Tryd.ntmps13
  go_wp2
  go_ret
  exact ⟨rfl, rfl⟩

end Go.Proofs.YtlckofoabnnlhaaDoor
