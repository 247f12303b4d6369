/- AcceptorAnswers: the statement of the row, out of its walk: every argument is opened by its type, the walk is done, each argument reads as it did. Conditions: none but the row's own. -/
import Derived.Test.YtlcmfikekbbgjaaRows
import Derived.Test.YtlcmfikekbbgjaaOpen
import Derived.Test.YtlcmfikekbbgjaaAccAn
import Derived.WalkKit
import Derived.ProofKit
import Derived.OpenShut
import Derived.ShutString
import Derived.ChangeOld
import Derived.Below
import Derived.SizedLaws
namespace Go.Proofs.Ytlcmfikekbbgjaa.acceptorAnswers
open Go.ChangeShapes Go.WideShapes Go.ChangeAt Go.RowKit
open Go.ChangeMaps (open_string shut_string)
set_option linter.unusedVariables false

theorem own : ownKnob Try.prog.godebug = none := by kernel_rfl
theorem laidOut : laidOutB Try.prog = true := by kernel_rfl
theorem o3 : Opens Try.prog 3 (IsInt .i64) := opens_int Try.underlying3
theorem o23 : Opens Try.prog 23 (fun w cs => cs.length = 2 ∧ IsStruct [(0, 1, (IsInt .i64)), (1, 1, (IsInt .i64))] w cs) := opens_struct Try.underlying23 (by kernel_rfl) (by exact ⟨_, _, rfl, rfl, by kernel_rfl, o3, ⟨_, _, rfl, rfl, by kernel_rfl, o3, rfl⟩⟩)
theorem o4 : Opens Try.prog 4 IsBool := opens_bool Try.underlying4
theorem o5 : Opens Try.prog 5 (IsInt .u8) := opens_int Try.underlying5
theorem o24 : Opens Try.prog 24 (IsSlice 1 1 (IsInt .u8)) := opens_slice Try.underlying24 (by kernel_rfl) (by kernel_rfl) (by decide) o5
theorem o26 : Opens Try.prog 26 (fun w cs => cs.length = 6 ∧ IsStruct [(0, 2, (fun w cs => cs.length = 2 ∧ IsStruct [(0, 1, (IsInt .i64)), (1, 1, (IsInt .i64))] w cs)), (2, 1, IsBool), (3, 2, (fun w cs => cs.length = 2 ∧ IsStruct [(0, 1, (IsInt .i64)), (1, 1, (IsInt .i64))] w cs)), (5, 1, (IsSlice 1 1 (IsInt .u8)))] w cs) := opens_struct Try.underlying26 (by kernel_rfl) (by exact ⟨_, _, rfl, rfl, by kernel_rfl, o23, ⟨_, _, rfl, rfl, by kernel_rfl, o4, ⟨_, _, rfl, rfl, by kernel_rfl, o23, ⟨_, _, rfl, rfl, by kernel_rfl, o24, rfl⟩⟩⟩⟩)
theorem o28 : Opens Try.prog 28 (fun w cs => cs.length = 15 ∧ IsStruct [(0, 6, (fun w cs => cs.length = 6 ∧ IsStruct [(0, 2, (fun w cs => cs.length = 2 ∧ IsStruct [(0, 1, (IsInt .i64)), (1, 1, (IsInt .i64))] w cs)), (2, 1, IsBool), (3, 2, (fun w cs => cs.length = 2 ∧ IsStruct [(0, 1, (IsInt .i64)), (1, 1, (IsInt .i64))] w cs)), (5, 1, (IsSlice 1 1 (IsInt .u8)))] w cs)), (6, 6, (fun w cs => cs.length = 6 ∧ IsStruct [(0, 2, (fun w cs => cs.length = 2 ∧ IsStruct [(0, 1, (IsInt .i64)), (1, 1, (IsInt .i64))] w cs)), (2, 1, IsBool), (3, 2, (fun w cs => cs.length = 2 ∧ IsStruct [(0, 1, (IsInt .i64)), (1, 1, (IsInt .i64))] w cs)), (5, 1, (IsSlice 1 1 (IsInt .u8)))] w cs)), (12, 2, (fun w cs => cs.length = 2 ∧ IsStruct [(0, 1, (IsInt .i64)), (1, 1, (IsInt .i64))] w cs)), (14, 1, (IsSlice 1 1 (IsInt .u8)))] w cs) := opens_struct Try.underlying28 (by kernel_rfl) (by exact ⟨_, _, rfl, rfl, by kernel_rfl, o26, ⟨_, _, rfl, rfl, by kernel_rfl, o26, ⟨_, _, rfl, rfl, by kernel_rfl, o23, ⟨_, _, rfl, rfl, by kernel_rfl, o24, rfl⟩⟩⟩⟩)

set_option maxRecDepth 100000 in
theorem lifted (os : Os) (started : os.Started) (H : Type) (enc : TypeId × Value → H) :
    ReturnsInHanded {} Try.checked os 3 .any (Rows.acceptorAnswersSpec.pre6 enc Try.prog Try.f3 Rows.acceptorAnswersRow.domain false) (Rows.acceptorAnswersSpec.post enc Try.prog Try.f3 false true false false) := by
  refine returnsInHanded_of_change_sized (C := Try.checked) own started (by kernel_rfl) Try.func3
    (ChangeSpec.witness6 (enc := enc) (C := Try.checked) false ⟨#[], #[.agg #[.int .i64 0, .int .i64 0, .bool false, .int .i64 0, .int .i64 0, .slice none 0 0, .int .i64 0, .int .i64 0, .bool false, .int .i64 0, .int .i64 0, .slice none 0 0, .int .i64 0, .int .i64 0, .slice none 0 0]], []⟩ 8 (by kernel_rfl) (by kernel_rfl) (by kernel_rfl) (by kernel_rfl)) ?_
  intro W base args ds gs before hval0 hW hcnd hsz0 _
  have hval : ∀ (j : Nat) t v, Try.f3.params[j]? = some t → args[j]? = some v → Value.okWide Try.prog W .any base t v := hval0
  have hW' := hW
  obtain ⟨p, q, hA0, hV, rfl, hfz, hnd⟩ := hW
  have hA : DataW.TrodAll enc Try.prog W 0 (fun _ => true) true Try.f3.params.toList args.toList ds p := hA0
  have hsz : (DataW.weightsEach Try.prog (Try.f3.params.toList ++ Rows.acceptorAnswersSpec.plain.varTypes Try.prog) (ds ++ gs)).all (· ≤ reachBytes) = true := hsz0
  rw [Try.params3] at hA hval hsz
  obtain ⟨v0, vs0, d0, ds0, p0, q0, hargs, rfl, rfl, h0, r0⟩ := trodAll_cons hA
  obtain ⟨rfl, rfl, rfl⟩ := trodAll_nil r0
  obtain rfl : args = #[v0] := by cases args; simp_all
  obtain ⟨rfl, rfl⟩ := trodVars_none hV
  obtain ⟨⟨a0⟩, rfl, _⟩ := okWide_struct Try.underlying28 (hval 0 28 v0 rfl rfl)
  have k0 := h0
  have lt0 : ∀ x ∈ p0, x.block < W.heap.size := by obtain ⟨m, hm⟩ := k0; exact DataW.trod_lt m _ _ _ hm
  have g0 := opens_arg o28 h0 (opens_place hsz (j := 0) rfl rfl)
  have w0 : (fun w cs => cs.length = 15 ∧ IsStruct [(0, 6, (fun w cs => cs.length = 6 ∧ IsStruct [(0, 2, (fun w cs => cs.length = 2 ∧ IsStruct [(0, 1, (IsInt .i64)), (1, 1, (IsInt .i64))] w cs)), (2, 1, IsBool), (3, 2, (fun w cs => cs.length = 2 ∧ IsStruct [(0, 1, (IsInt .i64)), (1, 1, (IsInt .i64))] w cs)), (5, 1, (IsSlice 1 1 (IsInt .u8)))] w cs)), (6, 6, (fun w cs => cs.length = 6 ∧ IsStruct [(0, 2, (fun w cs => cs.length = 2 ∧ IsStruct [(0, 1, (IsInt .i64)), (1, 1, (IsInt .i64))] w cs)), (2, 1, IsBool), (3, 2, (fun w cs => cs.length = 2 ∧ IsStruct [(0, 1, (IsInt .i64)), (1, 1, (IsInt .i64))] w cs)), (5, 1, (IsSlice 1 1 (IsInt .u8)))] w cs)), (12, 2, (fun w cs => cs.length = 2 ∧ IsStruct [(0, 1, (IsInt .i64)), (1, 1, (IsInt .i64))] w cs)), (14, 1, (IsSlice 1 1 (IsInt .u8)))] w cs : World → List Value → Prop) W a0 := g0
  clear hA0 hval0
  refine (AcceptorAnswers_walk a0 W w0).mono fun e W' ⟨he, bel⟩ => ?_
  subst he
  exact ⟨_, rfl, _, _, _, [], _, [], hW', trodAll_mk1 (shut_bool Try.underlying4 _), (trodAll_cons_mk (Below.trod laidOut (by kernel_rfl) (of_decide_eq_true (by kernel_rfl)) k0 bel lt0) trodAll_mk0), rfl, bel.frame _, fun h => by cases h⟩

theorem over : Rows.acceptorAnswersRow.holds Try.pinned (OpenSpec.ofChange Rows.acceptorAnswersSpec) :=
  OpenClaim.holds_of_wide 3 Try.f3 rfl rfl rfl rfl rfl rfl rfl ⟨rfl, rfl, rfl, rfl, rfl⟩ rfl rfl rfl rfl rfl (by kernel_rfl) Try.func3 (by kernel_rfl)
    (of_decide_eq_true (by kernel_rfl)) (by unfold Func.isWrapper; first | (rw [if_pos (by decide +kernel)]; kernel_rfl) | (rw [if_neg (by decide +kernel)]; exact ⟨rfl, rfl⟩))
    (fun os started H enc _ => lifted os started H enc)

theorem proved : Rows.AcceptorAnswersSaid := over
#print axioms proved
end Go.Proofs.Ytlcmfikekbbgjaa.acceptorAnswers
