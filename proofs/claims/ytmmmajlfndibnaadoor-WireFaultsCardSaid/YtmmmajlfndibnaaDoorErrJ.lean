/- errors.New, errors.Join of two, errors.Is of a fault; Code and At of what joins an error's text and a fault. -/
import Derived.Test.YtmmmajlfndibnaaDoorErrD
import Derived.Maps.AppendAt
import Derived.WalkSmall
namespace Go.Proofs.YtmmmajlfndibnaaDoor
open Go.RowKit Go.Extern.Stop Go.Stop Go.Extern

set_option maxRecDepth 100000 in
theorem new_any (s : ByteArray) (w : World) :
    Calls Tryd.prog 24 #[.string s] w fun e w' => e = .returned (estr ⟨w.heap.size, 0, none⟩) ∧ Below w.heap.size w w' := by
  unfold estr
  go_enter Tryd.func24, Tryd.ntmps24
  go_wp2
  go_ret
  exact ⟨rfl, (Below.refl _ _).alloc (Nat.le_refl _) _⟩

/-! ### errors.Is(fault, Errno) -/
theorem comparable_E' (w : World) : ((Extern.ReflectliteType.method fun t => do Rtype.noPackHeld "Comparable" t; (fun a => Value.bool a.comparable) <$> typeInfo t) #[.agg #[hnd 60]]).run Tryd.prog w = .ok (.bool true) w := by kernel_rfl
theorem int_eq_errno (w : World) (a b : Int) : (binOp .eql 43 (errno a) (errno b)).run Tryd.prog w = .ok (.bool (a == b)) w := by
  have hi : Tryd.prog.underlying 43 = some (.interface (Tryd.prog.methodsAt 43)) := by kernel_rfl
  have hc : (Tryd.prog.info? 60).map (·.comparable) = some true := by kernel_rfl
  obtain ⟨i, hinfo, hcomp⟩ := Option.map_eq_some_iff.1 hc
  have h : ∀ d : Nat, (Op.equalIn (d + 2) 43 (errno a) (errno b)).run Tryd.prog w = .ok (a == b) w := fun d => by
    simp [errno, Op.equalIn, run_underlying hi, run_underlying Tryd.underlying60, typeInfo, hinfo, hcomp]
  unfold errno at *
  simp only [binOp]
  simp [Op.equal, Op.maxDepth, h 9998]

set_option maxRecDepth 100000 in
set_option maxHeartbeats 1000000 in
theorem is_fault (c p n : Int) (w : World) :
    Calls Tryd.prog 25 #[fault c p, errno n] w fun e w' => e = .returned (.bool (c == n)) ∧ Below w.heap.size w w' := by
  have hO := @run_callFunc_extern Tryd.prog 42 _ ReflectliteType.typeOf Tryd.func42 (by kernel_rfl) (by kernel_rfl) (by kernel_rfl) (by kernel_rfl)
  have h32 := @run_callFunc_extern Tryd.prog 80 _ (Extern.ReflectliteType.method fun t => do Rtype.noPackHeld "Comparable" t; pure (.bool (← typeInfo t).comparable)) Tryd.func80 (by kernel_rfl) (by kernel_rfl) (by kernel_rfl) (by kernel_rfl)
  have tT := typeOf_E
  have cT := comparable_E'
  have mR := mComparable
  have nF := noIs_F
  have nE := noIs_E
  have uF := hasUn_F
  have mU := mUnwrap_F
  have uE := noUn_E
  have vE' := noUns_E
  have hty := fun w => run_eql_iface_types (P := Tryd.prog) 97 60 (.agg #[.int .i64 c, .int .i64 p]) (.int .i64 n) Tryd.underlying43 (by decide) w
  have heq := fun w => int_eq_errno w c n
  have hn1 := fun w => run_eql_held_nil (P := Tryd.prog) w 43 97 (.agg #[.int .i64 c, .int .i64 p]) (by kernel_rfl)
  have hn2 := fun w => run_eql_held_nil (P := Tryd.prog) w 43 60 (.int .i64 n) (by kernel_rfl)
  have hn3 := fun w => run_eql_held_nil (P := Tryd.prog) w 43 60 (.int .i64 c) (by kernel_rfl)
  unfold errno fault at *
  unfold rty at *
  unfold hnd at *
  by_cases hcn : c = n
  · subst hcn
    have e1 : (c == c) = true := by simp
    rw [e1] at heq ⊢
    go_enter Tryd.func25, Tryd.ntmps25
    go_wp2
    refine wp_loop_rounds 2 ?_
    rw [rounds_succ]
    go_wp2
    rw [rounds_succ]
    go_wp2
    go_ret
    exact ⟨rfl, (Below.refl _ _).alloc (Nat.le_refl _) _⟩
  · have e1 : (c == n) = false := by simpa using hcn
    rw [e1] at heq ⊢
    go_enter Tryd.func25, Tryd.ntmps25
    go_wp2
    refine wp_loop_rounds 2 ?_
    rw [rounds_succ]
    go_wp2
    rw [rounds_succ]
    go_wp2
    go_ret
    exact ⟨rfl, (Below.refl _ _).alloc (Nat.le_refl _) _⟩
end Go.Proofs.YtmmmajlfndibnaaDoor
