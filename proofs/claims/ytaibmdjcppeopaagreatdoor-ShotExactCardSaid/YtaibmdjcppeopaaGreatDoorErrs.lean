/- The errors of this program by contracts: what errors.Is answers of nil, of a sentinel, and of a Fault that wraps a sentinel. Condition: the sentinels that the program names lie where the program's text lays them. -/
import Derived.Test.YtaibmdjcppeopaaGreatDoorProg
import Derived.WalkKit
import Derived.LaidEql
import Derived.Stop.Asserts
import Derived.RowKitTokens
import Derived.BigQuiet
import Derived.Outline
import Derived.Handy
namespace Go.Proofs.YtaibmdjcppeopaaGreatDoor
open Go Go.RowKit Go.Extern.Stop Go.Stop Go.Extern

/-- An error value: none, or the sentinel of the place k - 1. -/
def errV (s : Nat → Addr) (k : Nat) : Value := if k = 0 then .nilIface else .iface 157 (.pointer (some (s (k - 1))))
/-- The package variable that holds the sentinel of a place. -/
def gnum (i : Nat) : Nat := [1, 0, 2, 3, 4, 5, 6, 7, 8, 9, 10, 11, 12, 13].getD i 0

/-- What is known of the package variables in a world. -/
structure Sent (s : Nat → Addr) (w : World) : Prop where
  cell : ∀ i, i < 14 → w.cell? ⟨gnum i, 0, none⟩ = some (.iface 157 (.pointer (some (s i))))
  row : ∀ i, i < 14 → ∃ cs t, w.heap[(s i).block]? = some (.cells cs t (0, 0))
  inj : ∀ i j, i < 14 → j < 14 → s i = s j → i = j

theorem lt_of_cell {w : World} {p : Addr} {v : Value} (h : w.cell? p = some v) : p.block < w.heap.size := by
  rcases Nat.lt_or_ge p.block w.heap.size with h1 | h1
  · exact h1
  · simp [World.cell?, Array.getElem?_eq_none h1] at h
theorem lt_of_row {w : World} {b : Nat} {o : Obj} (h : w.heap[b]? = some o) : b < w.heap.size := by
  rcases Nat.lt_or_ge b w.heap.size with h1 | h1
  · exact h1
  · rw [Array.getElem?_eq_none h1] at h; cases h

theorem Sent.below {s : Nat → Addr} {w w' : World} (h : Sent s w) {B : Nat} (hb : Below B w w') (hB : w.heap.size ≤ B) : Sent s w' where
  cell := fun i hi => (hb.cell (p := ⟨gnum i, 0, none⟩) (Nat.lt_of_lt_of_le (lt_of_cell (h.cell i hi)) hB)).trans (h.cell i hi)
  row := fun i hi => by
    obtain ⟨cs, t, hr⟩ := h.row i hi
    exact ⟨cs, t, (hb.block _ (Nat.lt_of_lt_of_le (lt_of_row hr) hB)).trans hr⟩
  inj := h.inj


theorem Tryz.isComp : (Tryz.prog.info? 157).map (·.comparable) = some true := by kernel_rfl
theorem Tryz.isSize : (Tryz.prog.info? 179).map (·.size) = some 1 := by kernel_rfl
theorem Tryz.isTypeOf (v : Value) (w : World) : (Extern.ReflectliteType.typeOf #[.iface 157 v]).run Tryz.prog w = .ok (.iface 102 (.agg #[.pointer (some ⟨17, 157, none⟩)])) w := by kernel_rfl
/-- The model's entry for the method Comparable of a type. -/
def entComparable : Array Value → Sem Value := Extern.ReflectliteType.method fun t => do Extern.Rtype.noPackHeld "Comparable" t; pure (.bool (← typeInfo t).comparable)
theorem Tryz.isComparable (w : World) : (entComparable #[.agg #[.pointer (some ⟨17, 157, none⟩)]]).run Tryz.prog w = .ok (.bool true) w := by kernel_rfl
theorem Tryz.noIsE (v : Value) (xT : TypeId) (w : World) : (Instr.typeAssert (.iface 157 v) xT 104 true).run Tryz.prog w = .ok (.tuple #[.nilIface, .bool false]) w := run_typeAssert_lacksB Tryz.underlying104 (by kernel_rfl) (by kernel_rfl) v xT w
theorem Tryz.noUnwrapE (v : Value) (xT : TypeId) (w : World) : (Instr.typeAssert (.iface 157 v) xT 107 true).run Tryz.prog w = .ok (.tuple #[.nilIface, .bool false]) w := run_typeAssert_lacksB Tryz.underlying107 (by kernel_rfl) (by kernel_rfl) v xT w
theorem Tryz.noUnwrapsE (v : Value) (xT : TypeId) (w : World) : (Instr.typeAssert (.iface 157 v) xT 108 true).run Tryz.prog w = .ok (.tuple #[.nilIface, .bool false]) w := run_typeAssert_lacksB Tryz.underlying108 (by kernel_rfl) (by kernel_rfl) v xT w
theorem Tryz.noIsW (v : Value) (xT : TypeId) (w : World) : (Instr.typeAssert (.iface 127 v) xT 104 true).run Tryz.prog w = .ok (.tuple #[.nilIface, .bool false]) w := run_typeAssert_lacksB Tryz.underlying104 (by kernel_rfl) (by kernel_rfl) v xT w
theorem Tryz.hasUnwrapW (v : Value) (xT : TypeId) (w : World) : (Instr.typeAssert (.iface 127 v) xT 107 true).run Tryz.prog w = .ok (.tuple #[.iface 127 v, .bool true]) w := run_typeAssert_hasB Tryz.underlying107 (by kernel_rfl) v xT w

/-- errors.Is(x, y), x and y the sentinels of the places k and j. -/
theorem is_sent (s : Nat → Addr) (k j : Nat) (w : World) (hs : Sent s w) (hk : k < 14) (hj : j < 14) :
    Calls Tryz.prog 28 #[.iface 157 (.pointer (some (s k))), .iface 157 (.pointer (some (s j)))] w fun e w' => e = .returned (.bool (decide (k = j))) ∧ w = w' := by
  obtain ⟨i, hi, hcmp⟩ := Option.map_eq_some_iff.1 Tryz.isComp
  obtain ⟨jj, hjj, hjs⟩ := Option.map_eq_some_iff.1 Tryz.isSize
  have h8 := @run_callFunc_extern Tryz.prog 45 _ Extern.ReflectliteType.typeOf Tryz.func45 (by kernel_rfl) (by kernel_rfl) (by kernel_rfl) (by kernel_rfl)
  have h32 := @run_callFunc_extern Tryz.prog 125 _ entComparable Tryz.func125 (by kernel_rfl) (by kernel_rfl) (by kernel_rfl) (by kernel_rfl)
  have tT := Tryz.isTypeOf
  have cT := Tryz.isComparable
  have nE := Tryz.noIsE
  have uE := Tryz.noUnwrapE
  have vE := Tryz.noUnwrapsE
  by_cases hkj : k = j
  · subst hkj
    have heq := run_eql_iface_ptr_same (P := Tryz.prog) w (s k) Tryz.underlying29 Tryz.underlying157 hi hcmp hjj
    clear hs hk hj
    go_enter Tryz.func28, Tryz.ntmps28
    go_wp2
    go_rounds 1
    go_ret
    exact ⟨by simp, rfl⟩
  · obtain ⟨ca, ta, ha⟩ := hs.row k hk
    obtain ⟨cb, tb, hb⟩ := hs.row j hj
    have hne : s k ≠ s j := fun h => hkj (hs.inj k j hk hj h)
    have heq := run_eql_iface_ptr_other (P := Tryz.prog) w Tryz.underlying29 Tryz.underlying157 hi hcmp hjj (by rw [hjs]; decide) hne ha hb
    have hkj' : Hid (decide (k = j) = false) := decide_eq_false hkj
    clear hs hk hj hkj ha hb
    go_enter Tryz.func28, Tryz.ntmps28
    go_wp2
    go_rounds 1
    go_ret
    exact ⟨by rw [hkj'.out]; rfl, rfl⟩

/-- errors.Is(nil, y). -/
theorem is_nil (v : Value) (w : World) : Calls Tryz.prog 28 #[.nilIface, .iface 157 v] w fun e w' => e = .returned (.bool false) ∧ w = w' := by
  have hn := run_eql_iface_nil_left (P := Tryz.prog) w 157 v Tryz.underlying29
  go_enter Tryz.func28, Tryz.ntmps28
  go_wp2
  go_ret
  exact ⟨rfl, rfl⟩

/-- errors.Is(x, y), x a Fault that wraps the sentinel of the place k. -/
theorem is_fault (s : Nat → Addr) (k j : Nat) (b o : Nat) (w : World) (hs : Sent s w) (hk : k < 14) (hj : j < 14) (h1 : w.cell? ⟨b, o + 2, none⟩ = some (.iface 157 (.pointer (some (s k))))) :
    Calls Tryz.prog 28 #[.iface 127 (.pointer (some ⟨b, o, none⟩)), .iface 157 (.pointer (some (s j)))] w fun e w' => e = .returned (.bool (decide (k = j))) ∧ w = w' := by
  obtain ⟨i, hi, hcmp⟩ := Option.map_eq_some_iff.1 Tryz.isComp
  obtain ⟨jj, hjj, hjs⟩ := Option.map_eq_some_iff.1 Tryz.isSize
  have h8 := @run_callFunc_extern Tryz.prog 45 _ Extern.ReflectliteType.typeOf Tryz.func45 (by kernel_rfl) (by kernel_rfl) (by kernel_rfl) (by kernel_rfl)
  have h32 := @run_callFunc_extern Tryz.prog 125 _ entComparable Tryz.func125 (by kernel_rfl) (by kernel_rfl) (by kernel_rfl) (by kernel_rfl)
  have tT := Tryz.isTypeOf
  have cT := Tryz.isComparable
  have nE := Tryz.noIsE
  have uE := Tryz.noUnwrapE
  have vE := Tryz.noUnwrapsE
  have nW := Tryz.noIsW
  have uW := Tryz.hasUnwrapW
  have hty := run_eql_iface_types (P := Tryz.prog) 127 157 (.pointer (some ⟨b, o, none⟩)) (.pointer (some (s j))) Tryz.underlying29 (by decide) w
  by_cases hkj : k = j
  · subst hkj
    have heq := run_eql_iface_ptr_same (P := Tryz.prog) w (s k) Tryz.underlying29 Tryz.underlying157 hi hcmp hjj
    clear hs hk hj
    go_enter Tryz.func28, Tryz.ntmps28
    go_wp2
    go_rounds 2
    go_ret
    exact ⟨by simp, rfl⟩
  · obtain ⟨ca, ta, ha⟩ := hs.row k hk
    obtain ⟨cb, tb, hb⟩ := hs.row j hj
    have hne : s k ≠ s j := fun h => hkj (hs.inj k j hk hj h)
    have heq := run_eql_iface_ptr_other (P := Tryz.prog) w Tryz.underlying29 Tryz.underlying157 hi hcmp hjj (by rw [hjs]; decide) hne ha hb
    have hkj' : Hid (decide (k = j) = false) := decide_eq_false hkj
    clear hs hk hj hkj ha hb
    go_enter Tryz.func28, Tryz.ntmps28
    go_wp2
    go_rounds 2
    go_ret
    exact ⟨by rw [hkj'.out]; rfl, rfl⟩
end Go.Proofs.YtaibmdjcppeopaaGreatDoor
