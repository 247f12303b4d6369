/- errors.as at a cmd.fault (C), which wraps a wire.fault or an Errno. -/
import Derived.Test.YtegjlcmeaelbnaaDoorErrA
import Derived.Lib.Hide
namespace Go.Proofs.YtegjlcmeaelbnaaDoor
open Go.RowKit Go.Extern.Stop Go.Stop Go.Extern

/-- an error of package cmd, of the one below -/
def cfault (e : Value) : Value := .iface 78 (.agg #[e])
theorem typeOf_C (v : Value) (w : World) : (ReflectliteType.typeOf #[.iface 78 v]).run Tryd.prog w = .ok (rty 78) w := by kernel_rfl
theorem asg_CE (w : World) : (ReflectliteType.relation "AssignableTo" ReflectliteType.assignableTo #[.agg #[hnd 78], rty 36]).run Tryd.prog w = .ok (.bool false) w := by kernel_rfl
theorem asg_CF (w : World) : (ReflectliteType.relation "AssignableTo" ReflectliteType.assignableTo #[.agg #[hnd 78], rty 75]).run Tryd.prog w = .ok (.bool false) w := by kernel_rfl
theorem noAs_C (v : Value) (xT : TypeId) (w : World) : (Instr.typeAssert (.iface 78 v) xT 128 true).run Tryd.prog w = .ok (.tuple #[.nilIface, .bool false]) w := run_typeAssert_lacksB Tryd.underlying128 (by kernel_rfl) (by kernel_rfl) v xT w
theorem hasUn_C (v : Value) (xT : TypeId) (w : World) : (Instr.typeAssert (.iface 78 v) xT 122 true).run Tryd.prog w = .ok (.tuple #[.iface 78 v, .bool true]) w := run_typeAssert_hasB Tryd.underlying122 (by kernel_rfl) v xT w
theorem mUnwrap_C (v : Value) (w : World) : (Go.method 266 78 v "Unwrap").run Tryd.prog w = .ok (83, v) w := by kernel_rfl

set_option maxHeartbeats 1000000 in
theorem asE_CF (c p : Int) (a : Addr) (b : Nat) (old : Value) (w : World) (ha : w.cell? a = some (.pointer (some ⟨b, 0, none⟩))) (hb : w.heap[b]? = some (.cells #[old] 36 (0, 0))) :
    Calls Tryd.prog 49 #[cfault (fault c p), .iface 73 (.pointer (some ⟨b, 0, none⟩)), vE a, rty 36] w
      fun e w' => e = .returned (.bool true) ∧ Hit w w' b #[.int .i64 c] 36 := by
  have hO := @run_callFunc_extern Tryd.prog 44 _ ReflectliteType.typeOf Tryd.func44 (by kernel_rfl) (by kernel_rfl) (by kernel_rfl) (by kernel_rfl)
  have hA := @run_callFunc_extern Tryd.prog 88 _ (ReflectliteType.relation "AssignableTo" ReflectliteType.assignableTo) Tryd.func88 (by kernel_rfl) (by kernel_rfl) (by kernel_rfl) (by kernel_rfl)
  have mA := mAssignableTo
  have hE := @run_callFunc_extern Tryd.prog 55 _ (ReflectliteValue.method (ReflectliteValue.valueError "reflectlite.Value.Elem" 0) ReflectliteValue.elem) Tryd.func55 (by kernel_rfl) (by kernel_rfl) (by kernel_rfl) (by kernel_rfl)
  have hV := @run_callFunc_extern Tryd.prog 46 _ (fun args => ReflectliteValue.unpack (args.getD 0 (.tuple #[]))) Tryd.func46 (by kernel_rfl) (by kernel_rfl) (by kernel_rfl) (by kernel_rfl)
  have hS := @run_callFunc_extern Tryd.prog 56 _ ReflectliteValue.set Tryd.func56 (by kernel_rfl) (by kernel_rfl) (by kernel_rfl) (by kernel_rfl)
  unfold cfault fault
  have hlt := heap_lt hb
  have hal : a.block < w.heap.size := cell_lt ha
  have b1 : Below w.heap.size w (w.alloc (.cells #[hnd 73, .pointer (some a), .int .u64 150] 102)) := (Below.refl _ _).alloc (Nat.le_refl _) _
  have b2 : Below w.heap.size w ((w.alloc (.cells #[hnd 73, .pointer (some a), .int .u64 150] 102)).alloc (.cells #[.iface 75 (.agg #[.int .i64 c, .int .i64 p])] 78)) := b1.alloc (by simp; try omega) _
  have b3 : Below w.heap.size w (((w.alloc (.cells #[hnd 73, .pointer (some a), .int .u64 150] 102)).alloc (.cells #[.iface 75 (.agg #[.int .i64 c, .int .i64 p])] 78)).alloc (.cells #[.int .i64 c, .int .i64 p] 75)) := b2.alloc (by simp; try omega) _
  have b4 : Below w.heap.size w ((((w.alloc (.cells #[hnd 73, .pointer (some a), .int .u64 150] 102)).alloc (.cells #[.iface 75 (.agg #[.int .i64 c, .int .i64 p])] 78)).alloc (.cells #[.int .i64 c, .int .i64 p] 75)).alloc (.cells #[.int .i64 c] 36)) := b3.alloc (by simp; try omega) _
  have el := elemV_pE a ⟨b, 0, none⟩ _ ((b3.cell hal).trans ha)
  have st := set_E ⟨b, 0, none⟩ ⟨(((w.alloc (.cells #[hnd 73, .pointer (some a), .int .u64 150] 102)).alloc (.cells #[.iface 75 (.agg #[.int .i64 c, .int .i64 p])] 78)).alloc (.cells #[.int .i64 c, .int .i64 p] 75)).heap.size, 0, none⟩ c old ((((w.alloc (.cells #[hnd 73, .pointer (some a), .int .u64 150] 102)).alloc (.cells #[.iface 75 (.agg #[.int .i64 c, .int .i64 p])] 78)).alloc (.cells #[.int .i64 c, .int .i64 p] 75)).alloc (.cells #[.int .i64 c] 36)) (by rw [World.cell?_alloc_at _ _ _ _ rfl]; rfl) (by rw [b4.cell hlt, cell_of_heap hb]; rfl) (by rw [b4.frozen hlt, frozen_of_heap hb])
  simp only [World.size_alloc] at st
  have hit := Hit.one (v := .int .i64 c) b4 ((b4.block b hlt).trans hb)
  have tC := typeOf_C
  have aC := asg_CE
  have c1 := noAs_C
  have c2 := hasUn_C
  have mC := mUnwrap_C
  have tO := typeOf_E
  have tF := typeOf_F
  have aE := asg_EE
  have aF := asg_FE
  have v1 := valueOf_E
  have n1 := noAs_F
  have n2 := hasUn_F
  have mU := mUnwrap_F
  unfold vE rty at *
  unfold hnd at *
  go_enter Tryd.func49, Tryd.ntmps49
  go_wp2
  refine wp_loop_rounds 3 ?_
  rw [rounds_succ]
  go_wp2
  rw [rounds_succ]
  go_wp2
  rw [rounds_succ]
  go_wp2
  go_ret
  exact ⟨rfl, by first | exact hit | exact ((Hit.one (Below.refl _ _) hb).alloc _).alloc _ | exact ((Hit.two (Below.refl _ _) hb).alloc _).alloc _⟩

set_option maxHeartbeats 1000000 in
theorem asF_CF (c p : Int) (a : Addr) (b : Nat) (old1 old2 : Value) (w : World) (ha : w.cell? a = some (.pointer (some ⟨b, 0, none⟩))) (hb : w.heap[b]? = some (.cells #[old1, old2] 75 (0, 0))) :
    Calls Tryd.prog 49 #[cfault (fault c p), .iface 76 (.pointer (some ⟨b, 0, none⟩)), vF a, rty 75] w
      fun e w' => e = .returned (.bool true) ∧ Hit w w' b #[.int .i64 c, .int .i64 p] 75 := by
  have hO := @run_callFunc_extern Tryd.prog 44 _ ReflectliteType.typeOf Tryd.func44 (by kernel_rfl) (by kernel_rfl) (by kernel_rfl) (by kernel_rfl)
  have hA := @run_callFunc_extern Tryd.prog 88 _ (ReflectliteType.relation "AssignableTo" ReflectliteType.assignableTo) Tryd.func88 (by kernel_rfl) (by kernel_rfl) (by kernel_rfl) (by kernel_rfl)
  have mA := mAssignableTo
  have hE := @run_callFunc_extern Tryd.prog 55 _ (ReflectliteValue.method (ReflectliteValue.valueError "reflectlite.Value.Elem" 0) ReflectliteValue.elem) Tryd.func55 (by kernel_rfl) (by kernel_rfl) (by kernel_rfl) (by kernel_rfl)
  have hV := @run_callFunc_extern Tryd.prog 46 _ (fun args => ReflectliteValue.unpack (args.getD 0 (.tuple #[]))) Tryd.func46 (by kernel_rfl) (by kernel_rfl) (by kernel_rfl) (by kernel_rfl)
  have hS := @run_callFunc_extern Tryd.prog 56 _ ReflectliteValue.set Tryd.func56 (by kernel_rfl) (by kernel_rfl) (by kernel_rfl) (by kernel_rfl)
  unfold cfault fault
  have hlt := heap_lt hb
  have hal : a.block < w.heap.size := cell_lt ha
  have b1 : Below w.heap.size w (w.alloc (.cells #[hnd 76, .pointer (some a), .int .u64 150] 102)) := (Below.refl _ _).alloc (Nat.le_refl _) _
  have b2 : Below w.heap.size w ((w.alloc (.cells #[hnd 76, .pointer (some a), .int .u64 150] 102)).alloc (.cells #[.iface 75 (.agg #[.int .i64 c, .int .i64 p])] 78)) := b1.alloc (by simp; try omega) _
  have b3 : Below w.heap.size w (((w.alloc (.cells #[hnd 76, .pointer (some a), .int .u64 150] 102)).alloc (.cells #[.iface 75 (.agg #[.int .i64 c, .int .i64 p])] 78)).alloc (.cells #[.int .i64 c, .int .i64 p] 75)) := b2.alloc (by simp; try omega) _
  have el := elemV_pF a ⟨b, 0, none⟩ _ ((b2.cell hal).trans ha)
  have st := set_F b ((w.alloc (.cells #[hnd 76, .pointer (some a), .int .u64 150] 102)).alloc (.cells #[.iface 75 (.agg #[.int .i64 c, .int .i64 p])] 78)).heap.size 0 0 c p old1 old2 (((w.alloc (.cells #[hnd 76, .pointer (some a), .int .u64 150] 102)).alloc (.cells #[.iface 75 (.agg #[.int .i64 c, .int .i64 p])] 78)).alloc (.cells #[.int .i64 c, .int .i64 p] 75)) (by rw [World.cell?_alloc_at _ _ _ _ rfl]; rfl) (by rw [World.cell?_alloc_at _ _ _ _ rfl]; rfl) (by rw [b3.cell hlt, cell_of_heap hb]; rfl) (by rw [b3.cell hlt, cell_of_heap hb]; rfl) (by rw [b3.frozen hlt, frozen_of_heap hb]) (by rw [b3.frozen hlt, frozen_of_heap hb])
  simp only [World.size_alloc, Nat.zero_add] at st
  have hit := Hit.two (u := .int .i64 c) (v := .int .i64 p) b3 ((b3.block b hlt).trans hb)
  have tC := typeOf_C
  have aC := asg_CF
  have c1 := noAs_C
  have c2 := hasUn_C
  have mC := mUnwrap_C
  have tF := typeOf_F
  have aF := asg_FF
  have v1 := valueOf_F
  unfold vF rty at *
  unfold hnd at *
  go_enter Tryd.func49, Tryd.ntmps49
  go_wp2
  refine wp_loop_rounds 2 ?_
  rw [rounds_succ]
  go_wp2
  rw [rounds_succ]
  go_wp2
  go_ret
  exact ⟨rfl, by first | exact hit | exact ((Hit.one (Below.refl _ _) hb).alloc _).alloc _ | exact ((Hit.two (Below.refl _ _) hb).alloc _).alloc _⟩

end Go.Proofs.YtegjlcmeaelbnaaDoor
