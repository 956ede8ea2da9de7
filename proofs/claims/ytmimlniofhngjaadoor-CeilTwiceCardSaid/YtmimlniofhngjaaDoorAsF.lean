/- What the model's entries for internal/reflectlite answer at the types that errors.As meets here. Conditions: none but those that each fact names. -/
import Derived.Test.YtmimlniofhngjaaDoorErrs
namespace Go.Proofs.YtmimlniofhngjaaDoor
open Go Go.RowKit Go.Extern.Stop Go.Stop Go.Extern

/-! The model's entries, each under a name of its own. -/
def entValueOf : Array Value → Sem Value := fun args => ReflectliteValue.unpack (args.getD 0 (.tuple #[]))
def entType : Array Value → Sem Value := ReflectliteValue.methodAny (ReflectliteValue.valueError "reflectlite.Value.Type" 0) fun t _ _ _ => ReflectliteType.toType t
def entIsNil : Array Value → Sem Value := ReflectliteValue.method (ReflectliteValue.valueError "reflectlite.Value.IsNil" 0) ReflectliteValue.isNil
def entElemV : Array Value → Sem Value := ReflectliteValue.method (ReflectliteValue.valueError "reflectlite.Value.Elem" 0) ReflectliteValue.elem
def entSet : Array Value → Sem Value := ReflectliteValue.set
def entKind : Array Value → Sem Value := ReflectliteType.abiMethod fun t => do pure (.int .u8 (← Rtype.kind t))
def entElem : Array Value → Sem Value := ReflectliteType.method ReflectliteType.elem
def entImpl : Array Value → Sem Value := ReflectliteType.relation "Implements" ReflectliteType.implements_
def entAssign : Array Value → Sem Value := ReflectliteType.relation "AssignableTo" ReflectliteType.assignableTo

theorem Tryd.valueOfPP (t : Addr) (w : World) : (entValueOf #[.iface 33 (.pointer (some t))]).run Tryd.prog w
    = .ok (.agg #[.pointer (some ⟨15, 33, none⟩), .pointer (some ⟨w.heap.size, 0, none⟩), .int .u64 150]) (w.alloc (.cells #[.pointer (some t)] 33)) := by kernel_rfl
theorem Tryd.valueOfP (e : Addr) (w : World) : (entValueOf #[.iface 31 (.pointer (some e))]).run Tryd.prog w
    = .ok (.agg #[.pointer (some ⟨15, 31, none⟩), .pointer (some ⟨w.heap.size, 0, none⟩), .int .u64 150]) (w.alloc (.cells #[.pointer (some e)] 31)) := by kernel_rfl
theorem Tryd.typePP (a : Addr) (w : World) : (entType #[.agg #[.pointer (some ⟨15, 33, none⟩), .pointer (some a), .int .u64 150]]).run Tryd.prog w
    = .ok (.iface 68 (.agg #[.pointer (some ⟨15, 33, none⟩)])) w := by kernel_rfl
theorem Tryd.kindPP (w : World) : (entKind #[.pointer (some ⟨15, 33, none⟩)]).run Tryd.prog w = .ok (.int .u8 22) w := by kernel_rfl
theorem Tryd.kindP (w : World) : (entKind #[.pointer (some ⟨15, 31, none⟩)]).run Tryd.prog w = .ok (.int .u8 22) w := by kernel_rfl

theorem isNil_is (v : Value) : entIsNil #[v] = (do match ← ReflectliteValue.parts v with | none => ReflectliteValue.valueError "reflectlite.Value.IsNil" 0 | some (t, a, fl) => ReflectliteValue.isNil t a fl (fl % 32)) := rfl
theorem elemV_is (v : Value) : entElemV #[v] = (do match ← ReflectliteValue.parts v with | none => ReflectliteValue.valueError "reflectlite.Value.Elem" 0 | some (t, a, fl) => ReflectliteValue.elem t a fl (fl % 32)) := rfl
theorem Tryd.partsPP (a : Addr) (w : World) : (ReflectliteValue.parts (.agg #[.pointer (some ⟨15, 33, none⟩), .pointer (some a), .int .u64 150])).run Tryd.prog w = .ok (some (33, a, 150)) w := by kernel_rfl
theorem Tryd.isNilPP (a p : Addr) (W : World) (ha : W.cell? a = some (.pointer (some p))) :
    (entIsNil #[.agg #[.pointer (some ⟨15, 33, none⟩), .pointer (some a), .int .u64 150]]).run Tryd.prog W = .ok (.bool false) W := by
  rw [isNil_is]
  simp only [Sem.run_bind, Tryd.partsPP, Result.andThen]
  simp [ReflectliteValue.isNil, loadVar, isAgg, underlying, Tryd.underlying33, ha, Result.andThen]
theorem Tryd.elemPP (w : World) : (entElem #[.agg #[.pointer (some ⟨15, 33, none⟩)]]).run Tryd.prog w = .ok (.iface 68 (.agg #[.pointer (some ⟨15, 31, none⟩)])) w := by kernel_rfl
theorem Tryd.implP (w : World) : (entImpl #[.agg #[.pointer (some ⟨15, 31, none⟩)], .iface 68 (.agg #[.pointer (some ⟨15, 26, none⟩)])]).run Tryd.prog w = .ok (.bool true) w := by kernel_rfl
theorem Tryd.typeOfP (v : Value) (w : World) : (ReflectliteType.typeOf #[.iface 31 v]).run Tryd.prog w = .ok (.iface 68 (.agg #[.pointer (some ⟨15, 31, none⟩)])) w := by kernel_rfl
theorem Tryd.assignP (w : World) : (entAssign #[.agg #[.pointer (some ⟨15, 31, none⟩)], .iface 68 (.agg #[.pointer (some ⟨15, 31, none⟩)])]).run Tryd.prog w = .ok (.bool true) w := by kernel_rfl
theorem Tryd.assignE (w : World) : (entAssign #[.agg #[.pointer (some ⟨15, 83, none⟩)], .iface 68 (.agg #[.pointer (some ⟨15, 31, none⟩)])]).run Tryd.prog w = .ok (.bool false) w := by kernel_rfl
theorem Tryd.noAsE (v : Value) (xT : TypeId) (w : World) : (Instr.typeAssert (.iface 83 v) xT 72 true).run Tryd.prog w = .ok (.tuple #[.nilIface, .bool false]) w := run_typeAssert_lacksB Tryd.underlying72 (by kernel_rfl) (by kernel_rfl) v xT w
theorem Tryd.elemOfPP (w : World) : (Rtype.elem? 33).run Tryd.prog w = .ok (some 31) w := by kernel_rfl
theorem Tryd.mkP (p : Addr) (w : World) : (ReflectliteValue.mk 31 p ReflectliteValue.flagAddr).run Tryd.prog w = .ok (.agg #[.pointer (some ⟨15, 31, none⟩), .pointer (some p), .int .u64 406]) w := by kernel_rfl
theorem Tryd.elemVPP (a p : Addr) (W : World) (ha : W.cell? a = some (.pointer (some p))) :
    (entElemV #[.agg #[.pointer (some ⟨15, 33, none⟩), .pointer (some a), .int .u64 150]]).run Tryd.prog W
      = .ok (.agg #[.pointer (some ⟨15, 31, none⟩), .pointer (some p), .int .u64 406]) W := by
  rw [elemV_is]
  simp only [Sem.run_bind, Tryd.partsPP, Result.andThen]
  simp [ReflectliteValue.elem, loadVar, isAgg, underlying, Tryd.underlying33, ha, Result.andThen, Tryd.elemOfPP, Tryd.mkP]
theorem set_is (v x : Value) : entSet #[v, x] = (do
    let (some (dst, a, fl), some (src, b, _)) := (← ReflectliteValue.parts v, ← ReflectliteValue.parts x)
      | unsupported (.noEntry "extern/(internal/reflectlite.Value).Set.zeroValue")
    if fl / ReflectliteValue.flagAddr % 2 == 0 then unsupported (.noEntry "extern/(internal/reflectlite.Value).Set.unaddressable")
    let val ← loadVar src b
    if ← Rtype.directlyAssignable dst src then storeVar dst a val
    else if ← Rtype.implements dst src then
      if (← Rtype.kind src) == 20 then
        match val with
        | .nilIface => unsupported (.noEntry "extern/reflectlite: a nil value of one interface type handed on as a value of another")
        | _ => storeVar dst a val
      else storeVar dst a (.iface src val)
    else panicString ("reflectlite.Set: value of type " ++ (← Rtype.spelt src) ++ " is not assignable to type " ++ (← Rtype.spelt dst))
    pure (.tuple #[])) := rfl
theorem Tryd.partsPa (a : Addr) (w : World) : (ReflectliteValue.parts (.agg #[.pointer (some ⟨15, 31, none⟩), .pointer (some a), .int .u64 406])).run Tryd.prog w = .ok (some (31, a, 406)) w := by kernel_rfl
theorem Tryd.partsP (a : Addr) (w : World) : (ReflectliteValue.parts (.agg #[.pointer (some ⟨15, 31, none⟩), .pointer (some a), .int .u64 150])).run Tryd.prog w = .ok (some (31, a, 150)) w := by kernel_rfl
theorem Tryd.directP (w : World) : (Rtype.directlyAssignable 31 31).run Tryd.prog w = .ok true w := by kernel_rfl
theorem Tryd.setP (ta b e : Addr) (old : Value) (W : World) (hb : W.cell? b = some (.pointer (some e))) (ht : W.cell? ta = some old) (hf : W.frozen? ta = false) :
    (entSet #[.agg #[.pointer (some ⟨15, 31, none⟩), .pointer (some ta), .int .u64 406], .agg #[.pointer (some ⟨15, 31, none⟩), .pointer (some b), .int .u64 150]]).run Tryd.prog W
      = .ok (.tuple #[]) (W.setCell ta (.pointer (some e))) := by
  rw [set_is]
  simp only [Sem.run_bind, Tryd.partsPa, Tryd.partsP, Result.andThen]
  simp [ReflectliteValue.flagAddr, loadVar, isAgg, underlying, Tryd.underlying31, hb, Result.andThen, Tryd.directP, storeVar, Value.cells, storeCells, Addr.add]
  rw [run_store Tryd.prog W ta _ _ (by rfl)]
  simp [ht, hf]

end Go.Proofs.YtmimlniofhngjaaDoor
