/- Closed facts on what the model has for internal/reflectlite and on method sets, at the errors that the program knows: wire.fault (F), api.Errno (E), *errors.errorString (S), *errors.joinError (J). -/
import Derived.Test.YtmmmajlfndibnaaDoorProg
import Derived.WalkKit
import Derived.LaidEql
import Derived.Stop.Asserts
import Derived.RowKitTokens
namespace Go.Proofs.YtmmmajlfndibnaaDoor
open Go.RowKit Go.Extern.Stop Go.Stop Go.Extern

def hnd (t : Nat) : Value := .pointer (some ⟨1, t, none⟩)
def rty (t : Nat) : Value := .iface 104 (.agg #[hnd t])
/-- an error of this program, of a number and a place -/
def fault (c p : Int) : Value := .iface 97 (.agg #[.int .i64 c, .int .i64 p])
def errno (c : Int) : Value := .iface 60 (.int .i64 c)
def estr (a : Addr) : Value := .iface 89 (.pointer (some a))
def ejoin (a : Addr) : Value := .iface 86 (.pointer (some a))

/-! what a target's Value is -/
theorem valueOf_pF (t : Addr) (w : World) : (ReflectliteValue.unpack (.iface 99 (.pointer (some t)))).run Tryd.prog w
    = .ok (.agg #[hnd 99, .pointer (some ⟨w.heap.size, 0, none⟩), .int .u64 150]) (w.alloc (.cells #[.pointer (some t)] 99)) := by kernel_rfl
theorem valueOf_pE (t : Addr) (w : World) : (ReflectliteValue.unpack (.iface 100 (.pointer (some t)))).run Tryd.prog w
    = .ok (.agg #[hnd 100, .pointer (some ⟨w.heap.size, 0, none⟩), .int .u64 150]) (w.alloc (.cells #[.pointer (some t)] 100)) := by kernel_rfl
theorem type_pF (a : Addr) (w : World) : (ReflectliteValue.methodAny (ReflectliteValue.valueError "reflectlite.Value.Type" 0) (fun t _ _ _ => ReflectliteType.toType t) #[.agg #[hnd 99, .pointer (some a), .int .u64 150]]).run Tryd.prog w
    = .ok (rty 99) w := by kernel_rfl
theorem type_pE (a : Addr) (w : World) : (ReflectliteValue.methodAny (ReflectliteValue.valueError "reflectlite.Value.Type" 0) (fun t _ _ _ => ReflectliteType.toType t) #[.agg #[hnd 100, .pointer (some a), .int .u64 150]]).run Tryd.prog w
    = .ok (rty 100) w := by kernel_rfl
theorem mKind (h : Value) (w : World) : (Go.method 256 104 (.agg #[h]) "Kind").run Tryd.prog w = .ok (69, h) w := by kernel_rfl
theorem mElem (h : Value) (w : World) : (Go.method 256 104 (.agg #[h]) "Elem").run Tryd.prog w = .ok (81, .agg #[h]) w := by kernel_rfl
theorem mImplements (h : Value) (w : World) : (Go.method 256 104 (.agg #[h]) "Implements").run Tryd.prog w = .ok (82, .agg #[h]) w := by kernel_rfl
theorem mAssignableTo (h : Value) (w : World) : (Go.method 256 104 (.agg #[h]) "AssignableTo").run Tryd.prog w = .ok (79, .agg #[h]) w := by kernel_rfl
theorem mComparable (h : Value) (w : World) : (Go.method 256 104 (.agg #[h]) "Comparable").run Tryd.prog w = .ok (80, .agg #[h]) w := by kernel_rfl
theorem kind_pF (w : World) : ((ReflectliteType.abiMethod fun t => (fun a : Nat => Value.int IntKind.u8 (a : Int)) <$> Rtype.kind t) #[hnd 99]).run Tryd.prog w = .ok (.int .u8 22) w := by kernel_rfl
theorem kind_pE (w : World) : ((ReflectliteType.abiMethod fun t => (fun a : Nat => Value.int IntKind.u8 (a : Int)) <$> Rtype.kind t) #[hnd 100]).run Tryd.prog w = .ok (.int .u8 22) w := by kernel_rfl
theorem kind_F (w : World) : ((ReflectliteType.abiMethod fun t => (fun a : Nat => Value.int IntKind.u8 (a : Int)) <$> Rtype.kind t) #[hnd 97]).run Tryd.prog w = .ok (.int .u8 25) w := by kernel_rfl
theorem kind_E (w : World) : ((ReflectliteType.abiMethod fun t => (fun a : Nat => Value.int IntKind.u8 (a : Int)) <$> Rtype.kind t) #[hnd 60]).run Tryd.prog w = .ok (.int .u8 2) w := by kernel_rfl
theorem elem_pF (w : World) : (ReflectliteType.method ReflectliteType.elem #[.agg #[hnd 99]]).run Tryd.prog w = .ok (rty 97) w := by kernel_rfl
theorem elem_pE (w : World) : (ReflectliteType.method ReflectliteType.elem #[.agg #[hnd 100]]).run Tryd.prog w = .ok (rty 60) w := by kernel_rfl
theorem implements_F (w : World) : (ReflectliteType.relation "Implements" ReflectliteType.implements_ #[.agg #[hnd 97], rty 43]).run Tryd.prog w = .ok (.bool true) w := by kernel_rfl
theorem implements_E (w : World) : (ReflectliteType.relation "Implements" ReflectliteType.implements_ #[.agg #[hnd 60], rty 43]).run Tryd.prog w = .ok (.bool true) w := by kernel_rfl
/-! what an error's type is, and to which it may be assigned -/
theorem typeOf_F (v : Value) (w : World) : (ReflectliteType.typeOf #[.iface 97 v]).run Tryd.prog w = .ok (rty 97) w := by kernel_rfl
theorem typeOf_E (v : Value) (w : World) : (ReflectliteType.typeOf #[.iface 60 v]).run Tryd.prog w = .ok (rty 60) w := by kernel_rfl
theorem typeOf_S (v : Value) (w : World) : (ReflectliteType.typeOf #[.iface 89 v]).run Tryd.prog w = .ok (rty 89) w := by kernel_rfl
theorem typeOf_J (v : Value) (w : World) : (ReflectliteType.typeOf #[.iface 86 v]).run Tryd.prog w = .ok (rty 86) w := by kernel_rfl
theorem asg_FF (w : World) : (ReflectliteType.relation "AssignableTo" ReflectliteType.assignableTo #[.agg #[hnd 97], rty 97]).run Tryd.prog w = .ok (.bool true) w := by kernel_rfl
theorem asg_FE (w : World) : (ReflectliteType.relation "AssignableTo" ReflectliteType.assignableTo #[.agg #[hnd 97], rty 60]).run Tryd.prog w = .ok (.bool false) w := by kernel_rfl
theorem asg_EF (w : World) : (ReflectliteType.relation "AssignableTo" ReflectliteType.assignableTo #[.agg #[hnd 60], rty 97]).run Tryd.prog w = .ok (.bool false) w := by kernel_rfl
theorem asg_EE (w : World) : (ReflectliteType.relation "AssignableTo" ReflectliteType.assignableTo #[.agg #[hnd 60], rty 60]).run Tryd.prog w = .ok (.bool true) w := by kernel_rfl
theorem asg_SF (w : World) : (ReflectliteType.relation "AssignableTo" ReflectliteType.assignableTo #[.agg #[hnd 89], rty 97]).run Tryd.prog w = .ok (.bool false) w := by kernel_rfl
theorem asg_SE (w : World) : (ReflectliteType.relation "AssignableTo" ReflectliteType.assignableTo #[.agg #[hnd 89], rty 60]).run Tryd.prog w = .ok (.bool false) w := by kernel_rfl
theorem asg_JF (w : World) : (ReflectliteType.relation "AssignableTo" ReflectliteType.assignableTo #[.agg #[hnd 86], rty 97]).run Tryd.prog w = .ok (.bool false) w := by kernel_rfl
theorem asg_JE (w : World) : (ReflectliteType.relation "AssignableTo" ReflectliteType.assignableTo #[.agg #[hnd 86], rty 60]).run Tryd.prog w = .ok (.bool false) w := by kernel_rfl
theorem valueOf_F (c p : Value) (w : World) : (ReflectliteValue.unpack (.iface 97 (.agg #[c, p]))).run Tryd.prog w
    = .ok (.agg #[hnd 97, .pointer (some ⟨w.heap.size, 0, none⟩), .int .u64 153]) (w.alloc (.cells #[c, p] 97)) := by kernel_rfl
theorem valueOf_E (k : IntKind) (c : Int) (w : World) : (ReflectliteValue.unpack (.iface 60 (.int k c))).run Tryd.prog w
    = .ok (.agg #[hnd 60, .pointer (some ⟨w.heap.size, 0, none⟩), .int .u64 130]) (w.alloc (.cells #[.int k c] 60)) := by kernel_rfl
theorem comparable_E (w : World) : ((Extern.ReflectliteType.method fun t => (fun a => Value.bool a.comparable) <$> typeInfo t) #[.agg #[hnd 60]]).run Tryd.prog w = .ok (.bool true) w := by kernel_rfl

/-! the entries that read or write memory -/
theorem parts_pF (a : Addr) (w : World) : (ReflectliteValue.parts (.agg #[hnd 99, .pointer (some a), .int .u64 150])).run Tryd.prog w = .ok (some (99, a, 150)) w := by kernel_rfl
theorem parts_pE (a : Addr) (w : World) : (ReflectliteValue.parts (.agg #[hnd 100, .pointer (some a), .int .u64 150])).run Tryd.prog w = .ok (some (100, a, 150)) w := by kernel_rfl
theorem isNil_pF (a p : Addr) (W : World) (ha : W.cell? a = some (.pointer (some p))) :
    (ReflectliteValue.method (ReflectliteValue.valueError "reflectlite.Value.IsNil" 0) ReflectliteValue.isNil #[.agg #[hnd 99, .pointer (some a), .int .u64 150]]).run Tryd.prog W = .ok (.bool false) W := by
  change Sem.run _ (ReflectliteValue.parts (.agg #[hnd 99, .pointer (some a), .int .u64 150]) >>= _) _ = _
  simp only [Sem.run_bind, parts_pF, Result.andThen]
  simp [ReflectliteValue.isNil, loadVar, isAgg, underlying, Tryd.underlying99, ha, Result.andThen]
theorem isNil_pE (a p : Addr) (W : World) (ha : W.cell? a = some (.pointer (some p))) :
    (ReflectliteValue.method (ReflectliteValue.valueError "reflectlite.Value.IsNil" 0) ReflectliteValue.isNil #[.agg #[hnd 100, .pointer (some a), .int .u64 150]]).run Tryd.prog W = .ok (.bool false) W := by
  change Sem.run _ (ReflectliteValue.parts (.agg #[hnd 100, .pointer (some a), .int .u64 150]) >>= _) _ = _
  simp only [Sem.run_bind, parts_pE, Result.andThen]
  simp [ReflectliteValue.isNil, loadVar, isAgg, underlying, Tryd.underlying100, ha, Result.andThen]
theorem elemOf_pF (w : World) : (Rtype.elem? 99).run Tryd.prog w = .ok (some 97) w := by kernel_rfl
theorem elemOf_pE (w : World) : (Rtype.elem? 100).run Tryd.prog w = .ok (some 60) w := by kernel_rfl
theorem mk_F (p : Addr) (w : World) : (ReflectliteValue.mk 97 p ReflectliteValue.flagAddr).run Tryd.prog w = .ok (.agg #[hnd 97, .pointer (some p), .int .u64 409]) w := by kernel_rfl
theorem mk_E (p : Addr) (w : World) : (ReflectliteValue.mk 60 p ReflectliteValue.flagAddr).run Tryd.prog w = .ok (.agg #[hnd 60, .pointer (some p), .int .u64 386]) w := by kernel_rfl
theorem elemV_pF (a p : Addr) (W : World) (ha : W.cell? a = some (.pointer (some p))) :
    (ReflectliteValue.method (ReflectliteValue.valueError "reflectlite.Value.Elem" 0) ReflectliteValue.elem #[.agg #[hnd 99, .pointer (some a), .int .u64 150]]).run Tryd.prog W
      = .ok (.agg #[hnd 97, .pointer (some p), .int .u64 409]) W := by
  change Sem.run _ (ReflectliteValue.parts (.agg #[hnd 99, .pointer (some a), .int .u64 150]) >>= _) _ = _
  simp only [Sem.run_bind, parts_pF, Result.andThen]
  simp [ReflectliteValue.elem, loadVar, isAgg, underlying, Tryd.underlying99, ha, Result.andThen, elemOf_pF, mk_F]
theorem elemV_pE (a p : Addr) (W : World) (ha : W.cell? a = some (.pointer (some p))) :
    (ReflectliteValue.method (ReflectliteValue.valueError "reflectlite.Value.Elem" 0) ReflectliteValue.elem #[.agg #[hnd 100, .pointer (some a), .int .u64 150]]).run Tryd.prog W
      = .ok (.agg #[hnd 60, .pointer (some p), .int .u64 386]) W := by
  change Sem.run _ (ReflectliteValue.parts (.agg #[hnd 100, .pointer (some a), .int .u64 150]) >>= _) _ = _
  simp only [Sem.run_bind, parts_pE, Result.andThen]
  simp [ReflectliteValue.elem, loadVar, isAgg, underlying, Tryd.underlying100, ha, Result.andThen, elemOf_pE, mk_E]
theorem parts_Fa (a : Addr) (w : World) : (ReflectliteValue.parts (.agg #[hnd 97, .pointer (some a), .int .u64 409])).run Tryd.prog w = .ok (some (97, a, 409)) w := by kernel_rfl
theorem parts_F (a : Addr) (w : World) : (ReflectliteValue.parts (.agg #[hnd 97, .pointer (some a), .int .u64 153])).run Tryd.prog w = .ok (some (97, a, 153)) w := by kernel_rfl
theorem parts_Ea (a : Addr) (w : World) : (ReflectliteValue.parts (.agg #[hnd 60, .pointer (some a), .int .u64 386])).run Tryd.prog w = .ok (some (60, a, 386)) w := by kernel_rfl
theorem parts_E (a : Addr) (w : World) : (ReflectliteValue.parts (.agg #[hnd 60, .pointer (some a), .int .u64 130])).run Tryd.prog w = .ok (some (60, a, 130)) w := by kernel_rfl
theorem direct_F (w : World) : (Rtype.directlyAssignable 97 97).run Tryd.prog w = .ok true w := by kernel_rfl
theorem direct_E (w : World) : (Rtype.directlyAssignable 60 60).run Tryd.prog w = .ok true w := by kernel_rfl
theorem set_E (ta b : Addr) (c : Int) (old : Value) (W : World) (hb : W.cell? b = some (.int .i64 c)) (ht : W.cell? ta = some old) (hf : W.frozen? ta = false) :
    (ReflectliteValue.set #[.agg #[hnd 60, .pointer (some ta), .int .u64 386], .agg #[hnd 60, .pointer (some b), .int .u64 130]]).run Tryd.prog W
      = .ok (.tuple #[]) (W.setCell ta (.int .i64 c)) := by
  change Sem.run _ (ReflectliteValue.parts (.agg #[hnd 60, .pointer (some ta), .int .u64 386]) >>= fun _ => ReflectliteValue.parts (.agg #[hnd 60, .pointer (some b), .int .u64 130]) >>= _) _ = _
  simp only [Sem.run_bind, parts_Ea, parts_E, Result.andThen]
  simp [ReflectliteValue.flagAddr, loadVar, isAgg, underlying, Tryd.underlying60, hb, Result.andThen, direct_E, storeVar, Value.cells, storeCells, Addr.add]
  rw [run_store Tryd.prog W ta _ _ (by rfl)]
  simp [ht, hf]
end Go.Proofs.YtmmmajlfndibnaaDoor
