/- errors.as by its contracts. -/
import Derived.Test.YtegjlcmeaelbnaaDoorErrM
import Derived.Test.YtegjlcmeaelbnaaDoorOpen
namespace Go.Proofs.YtegjlcmeaelbnaaDoor
open Go.RowKit Go.Extern.Stop Go.Stop Go.Extern

/-- the world behind a call that wrote block b whole, and made others -/
structure Hit (w w' : World) (b : Nat) (cs : Array Value) (t : TypeId) : Prop where
  os : w'.os = w.os
  tape : w'.tape = w.tape
  output : w'.output = w.output
  size : w.heap.size ≤ w'.heap.size
  rest : ∀ k, k < w.heap.size → k ≠ b → w'.heap[k]? = w.heap[k]?
  cells : w'.heap[b]? = some (.cells cs t (0, 0))
theorem Hit.of_below {w w1 w' : World} {b : Nat} {cs : Array Value} {t : TypeId} (hb : Below w.heap.size w w1) (h : Hit w1 w' b cs t) : Hit w w' b cs t :=
  ⟨h.os.trans hb.os, h.tape.trans hb.tape, h.output.trans hb.output, Nat.le_trans hb.size h.size, fun k hk hne => (h.rest k (Nat.lt_of_lt_of_le hk hb.size) hne).trans (hb.block k hk), h.cells⟩
theorem Hit.below {w w1 w' : World} {b : Nat} {cs : Array Value} {t : TypeId} (h : Hit w1 w' b cs t) (hb : Below w.heap.size w w1) (hn : w.heap.size ≤ b) : Below w.heap.size w w' :=
  ⟨h.os.trans hb.os, h.tape.trans hb.tape, h.output.trans hb.output, Nat.le_trans hb.size h.size, fun k hk => (h.rest k (Nat.lt_of_lt_of_le hk hb.size) (by omega)).trans (hb.block k hk)⟩
theorem Hit.one {w w2 : World} {b : Nat} {old v : Value} {t : TypeId} (h : Below w.heap.size w w2) (hb : w2.heap[b]? = some (.cells #[old] t (0, 0))) : Hit w (w2.setCell ⟨b, 0, none⟩ v) b #[v] t :=
  ⟨h.os, h.tape, h.output, by simpa [World.setCell] using h.size, fun k hk hne => (Below.heap_setCell w2 ⟨b, 0, none⟩ v k hne).trans (h.block k hk), by rw [heap_setCell_same hb]; rfl⟩
theorem Hit.two {w w2 : World} {b : Nat} {o1 o2 u v : Value} {t : TypeId} (h : Below w.heap.size w w2) (hb : w2.heap[b]? = some (.cells #[o1, o2] t (0, 0))) : Hit w ((w2.setCell ⟨b, 0, none⟩ u).setCell ⟨b, 1, none⟩ v) b #[u, v] t :=
  ⟨h.os, h.tape, h.output, by simpa [World.setCell] using h.size, fun k hk hne => ((Below.heap_setCell _ ⟨b, 1, none⟩ v k hne).trans (Below.heap_setCell w2 ⟨b, 0, none⟩ u k hne)).trans (h.block k hk), by rw [heap_setCell_same (heap_setCell_same hb u) v]; rfl⟩
theorem Hit.alloc {w w' : World} {b : Nat} {cs : Array Value} {t : TypeId} (h : Hit w w' b cs t) (o : Obj) : Hit w (w'.alloc o) b cs t :=
  ⟨h.os, h.tape, h.output, by simp; have := h.size; omega, fun k hk hne => (Below.heap_alloc w' o k (by have := h.size; omega)).trans (h.rest k hk hne), (Below.heap_alloc w' o b (heap_lt h.cells)).trans h.cells⟩

/-! what the assertions of errors.is and errors.as find -/
theorem noAs_E (v : Value) (xT : TypeId) (w : World) : (Instr.typeAssert (.iface 36 v) xT 128 true).run Tryd.prog w = .ok (.tuple #[.nilIface, .bool false]) w := run_typeAssert_lacksB Tryd.underlying128 (by kernel_rfl) (by kernel_rfl) v xT w
theorem noAs_F (v : Value) (xT : TypeId) (w : World) : (Instr.typeAssert (.iface 75 v) xT 128 true).run Tryd.prog w = .ok (.tuple #[.nilIface, .bool false]) w := run_typeAssert_lacksB Tryd.underlying128 (by kernel_rfl) (by kernel_rfl) v xT w
theorem noIs_E (v : Value) (xT : TypeId) (w : World) : (Instr.typeAssert (.iface 36 v) xT 119 true).run Tryd.prog w = .ok (.tuple #[.nilIface, .bool false]) w := run_typeAssert_lacksB Tryd.underlying119 (by kernel_rfl) (by kernel_rfl) v xT w
theorem noIs_F (v : Value) (xT : TypeId) (w : World) : (Instr.typeAssert (.iface 75 v) xT 119 true).run Tryd.prog w = .ok (.tuple #[.nilIface, .bool false]) w := run_typeAssert_lacksB Tryd.underlying119 (by kernel_rfl) (by kernel_rfl) v xT w
theorem hasUn_F (v : Value) (xT : TypeId) (w : World) : (Instr.typeAssert (.iface 75 v) xT 122 true).run Tryd.prog w = .ok (.tuple #[.iface 75 v, .bool true]) w := run_typeAssert_hasB Tryd.underlying122 (by kernel_rfl) v xT w
theorem noUn_E (v : Value) (xT : TypeId) (w : World) : (Instr.typeAssert (.iface 36 v) xT 122 true).run Tryd.prog w = .ok (.tuple #[.nilIface, .bool false]) w := run_typeAssert_lacksB Tryd.underlying122 (by kernel_rfl) (by kernel_rfl) v xT w
theorem noUns_E (v : Value) (xT : TypeId) (w : World) : (Instr.typeAssert (.iface 36 v) xT 123 true).run Tryd.prog w = .ok (.tuple #[.nilIface, .bool false]) w := run_typeAssert_lacksB Tryd.underlying123 (by kernel_rfl) (by kernel_rfl) v xT w
theorem mUnwrap_F (v : Value) (w : World) : (Go.method 266 75 v "Unwrap").run Tryd.prog w = .ok (81, v) w := by kernel_rfl

/-- what errors.As hands errors.as: the target's Value -/
def vE (a : Addr) : Value := .agg #[hnd 73, .pointer (some a), .int .u64 150]
def vF (a : Addr) : Value := .agg #[hnd 76, .pointer (some a), .int .u64 150]

set_option maxHeartbeats 1000000 in
theorem asE_E (c : Int) (a : Addr) (b : Nat) (old : Value) (w : World) (ha : w.cell? a = some (.pointer (some ⟨b, 0, none⟩))) (hb : w.heap[b]? = some (.cells #[old] 36 (0, 0))) :
    Calls Tryd.prog 49 #[errno c, .iface 73 (.pointer (some ⟨b, 0, none⟩)), vE a, rty 36] w
      fun e w' => e = .returned (.bool true) ∧ Hit w w' b #[.int .i64 c] 36 := by
  have hO := @run_callFunc_extern Tryd.prog 44 _ ReflectliteType.typeOf Tryd.func44 (by kernel_rfl) (by kernel_rfl) (by kernel_rfl) (by kernel_rfl)
  have hA := @run_callFunc_extern Tryd.prog 88 _ (ReflectliteType.relation "AssignableTo" ReflectliteType.assignableTo) Tryd.func88 (by kernel_rfl) (by kernel_rfl) (by kernel_rfl) (by kernel_rfl)
  have mA := mAssignableTo
  have hE := @run_callFunc_extern Tryd.prog 55 _ (ReflectliteValue.method (ReflectliteValue.valueError "reflectlite.Value.Elem" 0) ReflectliteValue.elem) Tryd.func55 (by kernel_rfl) (by kernel_rfl) (by kernel_rfl) (by kernel_rfl)
  have hV := @run_callFunc_extern Tryd.prog 46 _ (fun args => ReflectliteValue.unpack (args.getD 0 (.tuple #[]))) Tryd.func46 (by kernel_rfl) (by kernel_rfl) (by kernel_rfl) (by kernel_rfl)
  have hS := @run_callFunc_extern Tryd.prog 56 _ ReflectliteValue.set Tryd.func56 (by kernel_rfl) (by kernel_rfl) (by kernel_rfl) (by kernel_rfl)
  unfold errno
  have hlt := heap_lt hb
  have hal : a.block < w.heap.size := cell_lt ha
  have b1 : Below w.heap.size w (w.alloc (.cells #[hnd 73, .pointer (some a), .int .u64 150] 102)) := (Below.refl _ _).alloc (Nat.le_refl _) _
  have b2 : Below w.heap.size w ((w.alloc (.cells #[hnd 73, .pointer (some a), .int .u64 150] 102)).alloc (.cells #[.int .i64 c] 36)) := b1.alloc (by simp; try omega) _
  have el := elemV_pE a ⟨b, 0, none⟩ _ ((b1.cell hal).trans ha)
  have st := set_E ⟨b, 0, none⟩ ⟨(w.alloc (.cells #[hnd 73, .pointer (some a), .int .u64 150] 102)).heap.size, 0, none⟩ c old ((w.alloc (.cells #[hnd 73, .pointer (some a), .int .u64 150] 102)).alloc (.cells #[.int .i64 c] 36)) (by rw [World.cell?_alloc_at _ _ _ _ rfl]; rfl) (by rw [b2.cell hlt, cell_of_heap hb]; rfl) (by rw [b2.frozen hlt, frozen_of_heap hb])
  simp only [World.size_alloc] at st
  have hit := Hit.one (v := .int .i64 c) b2 ((b2.block b hlt).trans hb)
  have tO := typeOf_E
  have aE := asg_EE
  have v1 := valueOf_E
  unfold vE rty at *
  unfold hnd at *
  go_enter Tryd.func49, Tryd.ntmps49
  go_wp2
  refine wp_loop_rounds 1 ?_
  rw [rounds_succ]
  go_wp2
  go_ret
  exact ⟨rfl, by first | exact hit | exact ((Hit.one (Below.refl _ _) hb).alloc _).alloc _ | exact ((Hit.two (Below.refl _ _) hb).alloc _).alloc _⟩

set_option maxHeartbeats 1000000 in
theorem asE_F (c p : Int) (a : Addr) (b : Nat) (old : Value) (w : World) (ha : w.cell? a = some (.pointer (some ⟨b, 0, none⟩))) (hb : w.heap[b]? = some (.cells #[old] 36 (0, 0))) :
    Calls Tryd.prog 49 #[fault c p, .iface 73 (.pointer (some ⟨b, 0, none⟩)), vE a, rty 36] w
      fun e w' => e = .returned (.bool true) ∧ Hit w w' b #[.int .i64 c] 36 := by
  have hO := @run_callFunc_extern Tryd.prog 44 _ ReflectliteType.typeOf Tryd.func44 (by kernel_rfl) (by kernel_rfl) (by kernel_rfl) (by kernel_rfl)
  have hA := @run_callFunc_extern Tryd.prog 88 _ (ReflectliteType.relation "AssignableTo" ReflectliteType.assignableTo) Tryd.func88 (by kernel_rfl) (by kernel_rfl) (by kernel_rfl) (by kernel_rfl)
  have mA := mAssignableTo
  have hE := @run_callFunc_extern Tryd.prog 55 _ (ReflectliteValue.method (ReflectliteValue.valueError "reflectlite.Value.Elem" 0) ReflectliteValue.elem) Tryd.func55 (by kernel_rfl) (by kernel_rfl) (by kernel_rfl) (by kernel_rfl)
  have hV := @run_callFunc_extern Tryd.prog 46 _ (fun args => ReflectliteValue.unpack (args.getD 0 (.tuple #[]))) Tryd.func46 (by kernel_rfl) (by kernel_rfl) (by kernel_rfl) (by kernel_rfl)
  have hS := @run_callFunc_extern Tryd.prog 56 _ ReflectliteValue.set Tryd.func56 (by kernel_rfl) (by kernel_rfl) (by kernel_rfl) (by kernel_rfl)
  unfold fault
  have hlt := heap_lt hb
  have hal : a.block < w.heap.size := cell_lt ha
  have b1 : Below w.heap.size w (w.alloc (.cells #[hnd 73, .pointer (some a), .int .u64 150] 102)) := (Below.refl _ _).alloc (Nat.le_refl _) _
  have b2 : Below w.heap.size w ((w.alloc (.cells #[hnd 73, .pointer (some a), .int .u64 150] 102)).alloc (.cells #[.int .i64 c, .int .i64 p] 75)) := b1.alloc (by simp; try omega) _
  have b3 : Below w.heap.size w (((w.alloc (.cells #[hnd 73, .pointer (some a), .int .u64 150] 102)).alloc (.cells #[.int .i64 c, .int .i64 p] 75)).alloc (.cells #[.int .i64 c] 36)) := b2.alloc (by simp; try omega) _
  have el := elemV_pE a ⟨b, 0, none⟩ _ ((b2.cell hal).trans ha)
  have st := set_E ⟨b, 0, none⟩ ⟨((w.alloc (.cells #[hnd 73, .pointer (some a), .int .u64 150] 102)).alloc (.cells #[.int .i64 c, .int .i64 p] 75)).heap.size, 0, none⟩ c old (((w.alloc (.cells #[hnd 73, .pointer (some a), .int .u64 150] 102)).alloc (.cells #[.int .i64 c, .int .i64 p] 75)).alloc (.cells #[.int .i64 c] 36)) (by rw [World.cell?_alloc_at _ _ _ _ rfl]; rfl) (by rw [b3.cell hlt, cell_of_heap hb]; rfl) (by rw [b3.frozen hlt, frozen_of_heap hb])
  simp only [World.size_alloc] at st
  have hit := Hit.one (v := .int .i64 c) b3 ((b3.block b hlt).trans hb)
  have tO := typeOf_E
  have tF := typeOf_F
  have aE := asg_EE
  have aF := asg_FE
  have v1 := valueOf_E
  have n1 := noAs_F
  have n2 := hasUn_F
  have mU := mUnwrap_F
  unfold vE rty at *
  unfold hnd at *
  go_enter Tryd.func49, Tryd.ntmps49
  go_wp2
  refine wp_loop_rounds 2 ?_
  rw [rounds_succ]
  go_wp2
  rw [rounds_succ]
  go_wp2
  go_ret
  exact ⟨rfl, by first | exact hit | exact ((Hit.one (Below.refl _ _) hb).alloc _).alloc _ | exact ((Hit.two (Below.refl _ _) hb).alloc _).alloc _⟩

set_option maxHeartbeats 1000000 in
theorem asF_F (c p : Int) (a : Addr) (b : Nat) (old1 old2 : Value) (w : World) (ha : w.cell? a = some (.pointer (some ⟨b, 0, none⟩))) (hb : w.heap[b]? = some (.cells #[old1, old2] 75 (0, 0))) :
    Calls Tryd.prog 49 #[fault c p, .iface 76 (.pointer (some ⟨b, 0, none⟩)), vF a, rty 75] w
      fun e w' => e = .returned (.bool true) ∧ Hit w w' b #[.int .i64 c, .int .i64 p] 75 := by
  have hO := @run_callFunc_extern Tryd.prog 44 _ ReflectliteType.typeOf Tryd.func44 (by kernel_rfl) (by kernel_rfl) (by kernel_rfl) (by kernel_rfl)
  have hA := @run_callFunc_extern Tryd.prog 88 _ (ReflectliteType.relation "AssignableTo" ReflectliteType.assignableTo) Tryd.func88 (by kernel_rfl) (by kernel_rfl) (by kernel_rfl) (by kernel_rfl)
  have mA := mAssignableTo
  have hE := @run_callFunc_extern Tryd.prog 55 _ (ReflectliteValue.method (ReflectliteValue.valueError "reflectlite.Value.Elem" 0) ReflectliteValue.elem) Tryd.func55 (by kernel_rfl) (by kernel_rfl) (by kernel_rfl) (by kernel_rfl)
  have hV := @run_callFunc_extern Tryd.prog 46 _ (fun args => ReflectliteValue.unpack (args.getD 0 (.tuple #[]))) Tryd.func46 (by kernel_rfl) (by kernel_rfl) (by kernel_rfl) (by kernel_rfl)
  have hS := @run_callFunc_extern Tryd.prog 56 _ ReflectliteValue.set Tryd.func56 (by kernel_rfl) (by kernel_rfl) (by kernel_rfl) (by kernel_rfl)
  unfold fault
  have hlt := heap_lt hb
  have hal : a.block < w.heap.size := cell_lt ha
  have b1 : Below w.heap.size w (w.alloc (.cells #[hnd 76, .pointer (some a), .int .u64 150] 102)) := (Below.refl _ _).alloc (Nat.le_refl _) _
  have b2 : Below w.heap.size w ((w.alloc (.cells #[hnd 76, .pointer (some a), .int .u64 150] 102)).alloc (.cells #[.int .i64 c, .int .i64 p] 75)) := b1.alloc (by simp; try omega) _
  have el := elemV_pF a ⟨b, 0, none⟩ _ ((b1.cell hal).trans ha)
  have st := set_F b (w.alloc (.cells #[hnd 76, .pointer (some a), .int .u64 150] 102)).heap.size 0 0 c p old1 old2 ((w.alloc (.cells #[hnd 76, .pointer (some a), .int .u64 150] 102)).alloc (.cells #[.int .i64 c, .int .i64 p] 75)) (by rw [World.cell?_alloc_at _ _ _ _ rfl]; rfl) (by rw [World.cell?_alloc_at _ _ _ _ rfl]; rfl) (by rw [b2.cell hlt, cell_of_heap hb]; rfl) (by rw [b2.cell hlt, cell_of_heap hb]; rfl) (by rw [b2.frozen hlt, frozen_of_heap hb]) (by rw [b2.frozen hlt, frozen_of_heap hb])
  simp only [World.size_alloc, Nat.zero_add] at st
  have hit := Hit.two (u := .int .i64 c) (v := .int .i64 p) b2 ((b2.block b hlt).trans hb)
  have tF := typeOf_F
  have aF := asg_FF
  have v1 := valueOf_F
  unfold vF rty at *
  unfold hnd at *
  go_enter Tryd.func49, Tryd.ntmps49
  go_wp2
  refine wp_loop_rounds 1 ?_
  rw [rounds_succ]
  go_wp2
  go_ret
  exact ⟨rfl, by first | exact hit | exact ((Hit.one (Below.refl _ _) hb).alloc _).alloc _ | exact ((Hit.two (Below.refl _ _) hb).alloc _).alloc _⟩

set_option maxHeartbeats 1000000 in
theorem asF_E_not (c : Int) (g : Value) (a : Addr) (w : World) :
    Calls Tryd.prog 49 #[errno c, g, vF a, rty 75] w fun e w' => e = .returned (.bool false) ∧ w' = w.alloc (.cells #[hnd 76, .pointer (some a), .int .u64 150] 102) := by
  have hO := @run_callFunc_extern Tryd.prog 44 _ ReflectliteType.typeOf Tryd.func44 (by kernel_rfl) (by kernel_rfl) (by kernel_rfl) (by kernel_rfl)
  have hA := @run_callFunc_extern Tryd.prog 88 _ (ReflectliteType.relation "AssignableTo" ReflectliteType.assignableTo) Tryd.func88 (by kernel_rfl) (by kernel_rfl) (by kernel_rfl) (by kernel_rfl)
  have mA := mAssignableTo
  have tO := typeOf_E
  have aE := asg_EF
  have n1 := noAs_E
  have n2 := noUn_E
  have n3 := noUns_E
  unfold errno vF
  unfold rty at *
  unfold hnd at *
  go_enter Tryd.func49, Tryd.ntmps49
  go_wp2
  refine wp_loop_rounds 1 ?_
  rw [rounds_succ]
  go_wp2
  go_ret
  exact ⟨rfl, rfl⟩
end Go.Proofs.YtegjlcmeaelbnaaDoor
