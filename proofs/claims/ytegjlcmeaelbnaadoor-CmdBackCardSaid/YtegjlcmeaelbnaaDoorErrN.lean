/- Closed facts on what the model has for internal/reflectlite and on method sets, at the errors that the program knows: wire.fault (F), api.Errno (E). (Of the library's: ErrO.) -/
import Derived.Test.YtegjlcmeaelbnaaDoorProg
import Derived.WalkKit
import Derived.LaidEql
import Derived.Stop.Asserts
import Derived.RowKitTokens
namespace Go.Proofs.YtegjlcmeaelbnaaDoor
open Go.RowKit Go.Extern.Stop Go.Stop Go.Extern

def hnd (t : Nat) : Value := .pointer (some ⟨1, t, none⟩)
def rty (t : Nat) : Value := .iface 117 (.agg #[hnd t])
/-- an error of this program, of a number and a place -/
def fault (c p : Int) : Value := .iface 75 (.agg #[.int .i64 c, .int .i64 p])
def errno (c : Int) : Value := .iface 36 (.int .i64 c)

/-! what a target's Value is -/
theorem valueOf_pF (t : Addr) (w : World) : (ReflectliteValue.unpack (.iface 76 (.pointer (some t)))).run Tryd.prog w
    = .ok (.agg #[hnd 76, .pointer (some ⟨w.heap.size, 0, none⟩), .int .u64 150]) (w.alloc (.cells #[.pointer (some t)] 76)) := by kernel_rfl
theorem valueOf_pE (t : Addr) (w : World) : (ReflectliteValue.unpack (.iface 73 (.pointer (some t)))).run Tryd.prog w
    = .ok (.agg #[hnd 73, .pointer (some ⟨w.heap.size, 0, none⟩), .int .u64 150]) (w.alloc (.cells #[.pointer (some t)] 73)) := by kernel_rfl
theorem type_pF (a : Addr) (w : World) : (ReflectliteValue.methodAny (ReflectliteValue.valueError "reflectlite.Value.Type" 0) (fun t _ _ _ => ReflectliteType.toType t) #[.agg #[hnd 76, .pointer (some a), .int .u64 150]]).run Tryd.prog w
    = .ok (rty 76) w := by kernel_rfl
theorem type_pE (a : Addr) (w : World) : (ReflectliteValue.methodAny (ReflectliteValue.valueError "reflectlite.Value.Type" 0) (fun t _ _ _ => ReflectliteType.toType t) #[.agg #[hnd 73, .pointer (some a), .int .u64 150]]).run Tryd.prog w
    = .ok (rty 73) w := by kernel_rfl
theorem mKind (h : Value) (w : World) : (Go.method 266 117 (.agg #[h]) "Kind").run Tryd.prog w = .ok (76, h) w := by kernel_rfl
theorem mElem (h : Value) (w : World) : (Go.method 266 117 (.agg #[h]) "Elem").run Tryd.prog w = .ok (90, .agg #[h]) w := by kernel_rfl
theorem mImplements (h : Value) (w : World) : (Go.method 266 117 (.agg #[h]) "Implements").run Tryd.prog w = .ok (91, .agg #[h]) w := by kernel_rfl
theorem mAssignableTo (h : Value) (w : World) : (Go.method 266 117 (.agg #[h]) "AssignableTo").run Tryd.prog w = .ok (88, .agg #[h]) w := by kernel_rfl
theorem mComparable (h : Value) (w : World) : (Go.method 266 117 (.agg #[h]) "Comparable").run Tryd.prog w = .ok (89, .agg #[h]) w := by kernel_rfl
theorem kind_pF (w : World) : ((ReflectliteType.abiMethod fun t => (fun a : Nat => Value.int IntKind.u8 (a : Int)) <$> Rtype.kind t) #[hnd 76]).run Tryd.prog w = .ok (.int .u8 22) w := by kernel_rfl
theorem kind_pE (w : World) : ((ReflectliteType.abiMethod fun t => (fun a : Nat => Value.int IntKind.u8 (a : Int)) <$> Rtype.kind t) #[hnd 73]).run Tryd.prog w = .ok (.int .u8 22) w := by kernel_rfl
theorem kind_F (w : World) : ((ReflectliteType.abiMethod fun t => (fun a : Nat => Value.int IntKind.u8 (a : Int)) <$> Rtype.kind t) #[hnd 75]).run Tryd.prog w = .ok (.int .u8 25) w := by kernel_rfl
theorem kind_E (w : World) : ((ReflectliteType.abiMethod fun t => (fun a : Nat => Value.int IntKind.u8 (a : Int)) <$> Rtype.kind t) #[hnd 36]).run Tryd.prog w = .ok (.int .u8 2) w := by kernel_rfl
theorem elem_pF (w : World) : (ReflectliteType.method ReflectliteType.elem #[.agg #[hnd 76]]).run Tryd.prog w = .ok (rty 75) w := by kernel_rfl
theorem elem_pE (w : World) : (ReflectliteType.method ReflectliteType.elem #[.agg #[hnd 73]]).run Tryd.prog w = .ok (rty 36) w := by kernel_rfl
theorem implements_F (w : World) : (ReflectliteType.relation "Implements" ReflectliteType.implements_ #[.agg #[hnd 75], rty 27]).run Tryd.prog w = .ok (.bool true) w := by kernel_rfl
theorem implements_E (w : World) : (ReflectliteType.relation "Implements" ReflectliteType.implements_ #[.agg #[hnd 36], rty 27]).run Tryd.prog w = .ok (.bool true) w := by kernel_rfl
/-! what an error's type is, and to which it may be assigned -/
theorem typeOf_F (v : Value) (w : World) : (ReflectliteType.typeOf #[.iface 75 v]).run Tryd.prog w = .ok (rty 75) w := by kernel_rfl
theorem typeOf_E (v : Value) (w : World) : (ReflectliteType.typeOf #[.iface 36 v]).run Tryd.prog w = .ok (rty 36) w := by kernel_rfl
theorem asg_FF (w : World) : (ReflectliteType.relation "AssignableTo" ReflectliteType.assignableTo #[.agg #[hnd 75], rty 75]).run Tryd.prog w = .ok (.bool true) w := by kernel_rfl
theorem asg_FE (w : World) : (ReflectliteType.relation "AssignableTo" ReflectliteType.assignableTo #[.agg #[hnd 75], rty 36]).run Tryd.prog w = .ok (.bool false) w := by kernel_rfl
theorem asg_EF (w : World) : (ReflectliteType.relation "AssignableTo" ReflectliteType.assignableTo #[.agg #[hnd 36], rty 75]).run Tryd.prog w = .ok (.bool false) w := by kernel_rfl
theorem asg_EE (w : World) : (ReflectliteType.relation "AssignableTo" ReflectliteType.assignableTo #[.agg #[hnd 36], rty 36]).run Tryd.prog w = .ok (.bool true) w := by kernel_rfl
theorem valueOf_F (c p : Value) (w : World) : (ReflectliteValue.unpack (.iface 75 (.agg #[c, p]))).run Tryd.prog w
    = .ok (.agg #[hnd 75, .pointer (some ⟨w.heap.size, 0, none⟩), .int .u64 153]) (w.alloc (.cells #[c, p] 75)) := by kernel_rfl
theorem valueOf_E (k : IntKind) (c : Int) (w : World) : (ReflectliteValue.unpack (.iface 36 (.int k c))).run Tryd.prog w
    = .ok (.agg #[hnd 36, .pointer (some ⟨w.heap.size, 0, none⟩), .int .u64 130]) (w.alloc (.cells #[.int k c] 36)) := by kernel_rfl
theorem comparable_E (w : World) : ((Extern.ReflectliteType.method fun t => (fun a => Value.bool a.comparable) <$> typeInfo t) #[.agg #[hnd 36]]).run Tryd.prog w = .ok (.bool true) w := by kernel_rfl

/-! the entries that read or write memory -/
theorem parts_pF (a : Addr) (w : World) : (ReflectliteValue.parts (.agg #[hnd 76, .pointer (some a), .int .u64 150])).run Tryd.prog w = .ok (some (76, a, 150)) w := by kernel_rfl
theorem parts_pE (a : Addr) (w : World) : (ReflectliteValue.parts (.agg #[hnd 73, .pointer (some a), .int .u64 150])).run Tryd.prog w = .ok (some (73, a, 150)) w := by kernel_rfl
theorem isNil_pF (a p : Addr) (W : World) (ha : W.cell? a = some (.pointer (some p))) :
    (ReflectliteValue.method (ReflectliteValue.valueError "reflectlite.Value.IsNil" 0) ReflectliteValue.isNil #[.agg #[hnd 76, .pointer (some a), .int .u64 150]]).run Tryd.prog W = .ok (.bool false) W := by
  change Sem.run _ (ReflectliteValue.parts (.agg #[hnd 76, .pointer (some a), .int .u64 150]) >>= _) _ = _
  simp only [Sem.run_bind, parts_pF, Result.andThen]
  simp [ReflectliteValue.isNil, loadVar, isAgg, underlying, Tryd.underlying76, ha, Result.andThen]
theorem isNil_pE (a p : Addr) (W : World) (ha : W.cell? a = some (.pointer (some p))) :
    (ReflectliteValue.method (ReflectliteValue.valueError "reflectlite.Value.IsNil" 0) ReflectliteValue.isNil #[.agg #[hnd 73, .pointer (some a), .int .u64 150]]).run Tryd.prog W = .ok (.bool false) W := by
  change Sem.run _ (ReflectliteValue.parts (.agg #[hnd 73, .pointer (some a), .int .u64 150]) >>= _) _ = _
  simp only [Sem.run_bind, parts_pE, Result.andThen]
  simp [ReflectliteValue.isNil, loadVar, isAgg, underlying, Tryd.underlying73, ha, Result.andThen]
theorem elemOf_pF (w : World) : (Rtype.elem? 76).run Tryd.prog w = .ok (some 75) w := by kernel_rfl
theorem elemOf_pE (w : World) : (Rtype.elem? 73).run Tryd.prog w = .ok (some 36) w := by kernel_rfl
theorem mk_F (p : Addr) (w : World) : (ReflectliteValue.mk 75 p ReflectliteValue.flagAddr).run Tryd.prog w = .ok (.agg #[hnd 75, .pointer (some p), .int .u64 409]) w := by kernel_rfl
theorem mk_E (p : Addr) (w : World) : (ReflectliteValue.mk 36 p ReflectliteValue.flagAddr).run Tryd.prog w = .ok (.agg #[hnd 36, .pointer (some p), .int .u64 386]) w := by kernel_rfl
theorem elemV_pF (a p : Addr) (W : World) (ha : W.cell? a = some (.pointer (some p))) :
    (ReflectliteValue.method (ReflectliteValue.valueError "reflectlite.Value.Elem" 0) ReflectliteValue.elem #[.agg #[hnd 76, .pointer (some a), .int .u64 150]]).run Tryd.prog W
      = .ok (.agg #[hnd 75, .pointer (some p), .int .u64 409]) W := by
  change Sem.run _ (ReflectliteValue.parts (.agg #[hnd 76, .pointer (some a), .int .u64 150]) >>= _) _ = _
  simp only [Sem.run_bind, parts_pF, Result.andThen]
  simp [ReflectliteValue.elem, loadVar, isAgg, underlying, Tryd.underlying76, ha, Result.andThen, elemOf_pF, mk_F]
theorem elemV_pE (a p : Addr) (W : World) (ha : W.cell? a = some (.pointer (some p))) :
    (ReflectliteValue.method (ReflectliteValue.valueError "reflectlite.Value.Elem" 0) ReflectliteValue.elem #[.agg #[hnd 73, .pointer (some a), .int .u64 150]]).run Tryd.prog W
      = .ok (.agg #[hnd 36, .pointer (some p), .int .u64 386]) W := by
  change Sem.run _ (ReflectliteValue.parts (.agg #[hnd 73, .pointer (some a), .int .u64 150]) >>= _) _ = _
  simp only [Sem.run_bind, parts_pE, Result.andThen]
  simp [ReflectliteValue.elem, loadVar, isAgg, underlying, Tryd.underlying73, ha, Result.andThen, elemOf_pE, mk_E]
theorem parts_Fa (a : Addr) (w : World) : (ReflectliteValue.parts (.agg #[hnd 75, .pointer (some a), .int .u64 409])).run Tryd.prog w = .ok (some (75, a, 409)) w := by kernel_rfl
theorem parts_F (a : Addr) (w : World) : (ReflectliteValue.parts (.agg #[hnd 75, .pointer (some a), .int .u64 153])).run Tryd.prog w = .ok (some (75, a, 153)) w := by kernel_rfl
theorem parts_Ea (a : Addr) (w : World) : (ReflectliteValue.parts (.agg #[hnd 36, .pointer (some a), .int .u64 386])).run Tryd.prog w = .ok (some (36, a, 386)) w := by kernel_rfl
theorem parts_E (a : Addr) (w : World) : (ReflectliteValue.parts (.agg #[hnd 36, .pointer (some a), .int .u64 130])).run Tryd.prog w = .ok (some (36, a, 130)) w := by kernel_rfl
theorem direct_F (w : World) : (Rtype.directlyAssignable 75 75).run Tryd.prog w = .ok true w := by kernel_rfl
theorem direct_E (w : World) : (Rtype.directlyAssignable 36 36).run Tryd.prog w = .ok true w := by kernel_rfl
theorem set_E (ta b : Addr) (c : Int) (old : Value) (W : World) (hb : W.cell? b = some (.int .i64 c)) (ht : W.cell? ta = some old) (hf : W.frozen? ta = false) :
    (ReflectliteValue.set #[.agg #[hnd 36, .pointer (some ta), .int .u64 386], .agg #[hnd 36, .pointer (some b), .int .u64 130]]).run Tryd.prog W
      = .ok (.tuple #[]) (W.setCell ta (.int .i64 c)) := by
  change Sem.run _ (ReflectliteValue.parts (.agg #[hnd 36, .pointer (some ta), .int .u64 386]) >>= fun _ => ReflectliteValue.parts (.agg #[hnd 36, .pointer (some b), .int .u64 130]) >>= _) _ = _
  simp only [Sem.run_bind, parts_Ea, parts_E, Result.andThen]
  simp [ReflectliteValue.flagAddr, loadVar, isAgg, underlying, Tryd.underlying36, hb, Result.andThen, direct_E, storeVar, Value.cells, storeCells, Addr.add]
  rw [run_store Tryd.prog W ta _ _ (by rfl)]
  simp [ht, hf]
end Go.Proofs.YtegjlcmeaelbnaaDoor
