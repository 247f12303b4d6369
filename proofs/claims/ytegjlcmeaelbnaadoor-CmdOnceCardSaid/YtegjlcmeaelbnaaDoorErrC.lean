/- errors.As, wire.Code, wire.At by contracts, whatever the error, out of errors.as's contract at it. -/
import Derived.Test.YtegjlcmeaelbnaaDoorErrA
import Derived.Test.YtegjlcmeaelbnaaDoorQuiet
import Derived.Defers
import Derived.Recover
import Derived.WideLaws
namespace Go.Proofs.YtegjlcmeaelbnaaDoor
open Go.RowKit Go.Extern.Stop Go.Stop Go.Extern

/-- what the one laid variable holds -/
def Laid (w : World) : Prop := w.cell? ⟨0, 0, none⟩ = some (rty 27)
theorem Laid.size {w : World} (h : Laid w) : 0 < w.heap.size := cell_lt h
theorem Laid.below {w w' : World} (h : Laid w) (hb : Below w.heap.size w w') : Laid w' := (hb.cell (p := ⟨0, 0, none⟩) h.size).trans h

/-- in every world that keeps what w0 has, errors.as at this error, this target's Value: r, and the worlds stand so -/
def AsAt (w0 : World) (f : FuncId) (err tgt : Value) (vt : Addr → Value) (ty : Value) (b : Nat) (o : Obj) (r : Bool) (Post : World → World → Prop) : Prop :=
  ∀ (a : Addr) (w : World), Kept w0 w → w.cell? a = some (.pointer (some ⟨b, 0, none⟩)) → w.heap[b]? = some o → Calls Tryd.prog f #[err, tgt, vt a, ty] w fun e w' => e = .returned (.bool r) ∧ Post w w'

set_option maxHeartbeats 1000000 in
theorem asAt_E (t : TypeId) (v : Value) (b : Nat) (o : Obj) (r : Bool) (Post : World → World → Prop) (hP : ∀ w w1 w', Below w.heap.size w w1 → Post w1 w' → Post w w') (w0 w : World) (hk0 : Kept w0 w) (hg : Laid w) (hb : w.heap[b]? = some o)
    (has : AsAt w0 49 (.iface t v) (.iface 73 (.pointer (some ⟨b, 0, none⟩))) vE (rty 36) b o r Post) :
    Calls Tryd.prog 34 #[.iface t v, .iface 73 (.pointer (some ⟨b, 0, none⟩))] w fun e w' => e = .returned (.bool r) ∧ Post w w' := by
  have h6 := @run_callFunc_extern Tryd.prog 46 _ (fun args => ReflectliteValue.unpack (args.getD 0 (.tuple #[]))) Tryd.func46 (by kernel_rfl) (by kernel_rfl) (by kernel_rfl) (by kernel_rfl)
  have h7 := @run_callFunc_extern Tryd.prog 47 _ (ReflectliteValue.methodAny (ReflectliteValue.valueError "reflectlite.Value.Type" 0) (fun t _ _ _ => ReflectliteType.toType t)) Tryd.func47 (by kernel_rfl) (by kernel_rfl) (by kernel_rfl) (by kernel_rfl)
  have h8 := @run_callFunc_extern Tryd.prog 48 _ (ReflectliteValue.method (ReflectliteValue.valueError "reflectlite.Value.IsNil" 0) ReflectliteValue.isNil) Tryd.func48 (by kernel_rfl) (by kernel_rfl) (by kernel_rfl) (by kernel_rfl)
  have h27 := @run_callFunc_extern Tryd.prog 76 _ (ReflectliteType.abiMethod fun t => do pure (.int .u8 (← Rtype.kind t))) Tryd.func76 (by kernel_rfl) (by kernel_rfl) (by kernel_rfl) (by kernel_rfl)
  have h37 := @run_callFunc_extern Tryd.prog 90 _ (ReflectliteType.method ReflectliteType.elem) Tryd.func90 (by kernel_rfl) (by kernel_rfl) (by kernel_rfl) (by kernel_rfl)
  have h38 := @run_callFunc_extern Tryd.prog 91 _ (ReflectliteType.relation "Implements" ReflectliteType.implements_) Tryd.func91 (by kernel_rfl) (by kernel_rfl) (by kernel_rfl) (by kernel_rfl)
  have f6 := valueOf_pE
  have f7 := type_pE
  have mK := mKind
  have mE := mElem
  have mI := mImplements
  have k27 := kind_pE
  have k25 := kind_E
  have e27 := elem_pE
  have i25 := implements_E
  have hlt := hg.size
  have hlb := heap_lt hb
  have b1 : Below w.heap.size w (w.alloc (.cells #[.pointer (some ⟨b, 0, none⟩)] 73)) := (Below.refl _ _).alloc (Nat.le_refl _) _
  have b2 : Below w.heap.size w ((w.alloc (.cells #[.pointer (some ⟨b, 0, none⟩)] 73)).alloc (.cells #[hnd 73, .pointer (some ⟨w.heap.size, 0, none⟩), .int .u64 150] 102)) := b1.alloc (by simp) _
  have hc : ((w.alloc (.cells #[.pointer (some ⟨b, 0, none⟩)] 73)).alloc (.cells #[hnd 73, .pointer (some ⟨w.heap.size, 0, none⟩), .int .u64 150] 102)).cell? ⟨w.heap.size, 0, none⟩ = some (.pointer (some ⟨b, 0, none⟩)) := by
    rw [World.cell?_alloc_lt _ _ ⟨w.heap.size, 0, none⟩ (by simp)]; simp
  have hc' := has ⟨w.heap.size, 0, none⟩ _ (hk0.call b2) hc ((b2.block b hlb).trans hb)
  have n8 := isNil_pE ⟨w.heap.size, 0, none⟩ ⟨b, 0, none⟩ _ hc
  have hg2 := hg.below b2
  replace hP := fun w' => hP w _ w' b2
  clear has b1 b2 hc hg hb
  unfold Laid at hg2
  unfold vE at hc'
  unfold rty at *
  unfold hnd at *
  go_enter Tryd.func34, Tryd.ntmps34
  go_wp2_with (first
    | (go_at_call 49; refine hc'.mono ?_; rintro e w' ⟨rfl, hp⟩)
    | go_in)
  go_ret
  exact ⟨rfl, hP _ hp⟩

set_option maxHeartbeats 1000000 in
theorem asAt_F (t : TypeId) (v : Value) (b : Nat) (o : Obj) (r : Bool) (Post : World → World → Prop) (hP : ∀ w w1 w', Below w.heap.size w w1 → Post w1 w' → Post w w') (w0 w : World) (hk0 : Kept w0 w) (hg : Laid w) (hb : w.heap[b]? = some o)
    (has : AsAt w0 49 (.iface t v) (.iface 76 (.pointer (some ⟨b, 0, none⟩))) vF (rty 75) b o r Post) :
    Calls Tryd.prog 34 #[.iface t v, .iface 76 (.pointer (some ⟨b, 0, none⟩))] w fun e w' => e = .returned (.bool r) ∧ Post w w' := by
  have h6 := @run_callFunc_extern Tryd.prog 46 _ (fun args => ReflectliteValue.unpack (args.getD 0 (.tuple #[]))) Tryd.func46 (by kernel_rfl) (by kernel_rfl) (by kernel_rfl) (by kernel_rfl)
  have h7 := @run_callFunc_extern Tryd.prog 47 _ (ReflectliteValue.methodAny (ReflectliteValue.valueError "reflectlite.Value.Type" 0) (fun t _ _ _ => ReflectliteType.toType t)) Tryd.func47 (by kernel_rfl) (by kernel_rfl) (by kernel_rfl) (by kernel_rfl)
  have h8 := @run_callFunc_extern Tryd.prog 48 _ (ReflectliteValue.method (ReflectliteValue.valueError "reflectlite.Value.IsNil" 0) ReflectliteValue.isNil) Tryd.func48 (by kernel_rfl) (by kernel_rfl) (by kernel_rfl) (by kernel_rfl)
  have h27 := @run_callFunc_extern Tryd.prog 76 _ (ReflectliteType.abiMethod fun t => do pure (.int .u8 (← Rtype.kind t))) Tryd.func76 (by kernel_rfl) (by kernel_rfl) (by kernel_rfl) (by kernel_rfl)
  have h37 := @run_callFunc_extern Tryd.prog 90 _ (ReflectliteType.method ReflectliteType.elem) Tryd.func90 (by kernel_rfl) (by kernel_rfl) (by kernel_rfl) (by kernel_rfl)
  have h38 := @run_callFunc_extern Tryd.prog 91 _ (ReflectliteType.relation "Implements" ReflectliteType.implements_) Tryd.func91 (by kernel_rfl) (by kernel_rfl) (by kernel_rfl) (by kernel_rfl)
  have f6 := valueOf_pF
  have f7 := type_pF
  have mK := mKind
  have mE := mElem
  have mI := mImplements
  have k27 := kind_pF
  have k25 := kind_F
  have e27 := elem_pF
  have i25 := implements_F
  have hlt := hg.size
  have hlb := heap_lt hb
  have b1 : Below w.heap.size w (w.alloc (.cells #[.pointer (some ⟨b, 0, none⟩)] 76)) := (Below.refl _ _).alloc (Nat.le_refl _) _
  have b2 : Below w.heap.size w ((w.alloc (.cells #[.pointer (some ⟨b, 0, none⟩)] 76)).alloc (.cells #[hnd 76, .pointer (some ⟨w.heap.size, 0, none⟩), .int .u64 150] 102)) := b1.alloc (by simp) _
  have hc : ((w.alloc (.cells #[.pointer (some ⟨b, 0, none⟩)] 76)).alloc (.cells #[hnd 76, .pointer (some ⟨w.heap.size, 0, none⟩), .int .u64 150] 102)).cell? ⟨w.heap.size, 0, none⟩ = some (.pointer (some ⟨b, 0, none⟩)) := by
    rw [World.cell?_alloc_lt _ _ ⟨w.heap.size, 0, none⟩ (by simp)]; simp
  have hc' := has ⟨w.heap.size, 0, none⟩ _ (hk0.call b2) hc ((b2.block b hlb).trans hb)
  have n8 := isNil_pF ⟨w.heap.size, 0, none⟩ ⟨b, 0, none⟩ _ hc
  have hg2 := hg.below b2
  replace hP := fun w' => hP w _ w' b2
  clear has b1 b2 hc hg hb
  unfold Laid at hg2
  unfold vF at hc'
  unfold rty at *
  unfold hnd at *
  go_enter Tryd.func34, Tryd.ntmps34
  go_wp2_with (first
    | (go_at_call 49; refine hc'.mono ?_; rintro e w' ⟨rfl, hp⟩)
    | go_in)
  go_ret
  exact ⟨rfl, hP _ hp⟩
end Go.Proofs.YtegjlcmeaelbnaaDoor
