/- ProposerOne: the statement of the row, out of its walk: every argument is opened by its type, the walk is done, each argument reads as it did. Conditions: none but the row's own. -/
import Derived.Test.YtifenlopgpbpbaaRows
import Derived.Test.YtifenlopgpbpbaaOpen
import Derived.Test.YtifenlopgpbpbaaPrqOn
import Derived.WalkKit
import Derived.ProofKit
import Derived.OpenShut
import Derived.ShutString
import Derived.ChangeOld
import Derived.Below
import Derived.SizedLaws
namespace Go.Proofs.Ytifenlopgpbpbaa.proposerOne
open Go.ChangeShapes Go.WideShapes Go.ChangeAt Go.RowKit
open Go.ChangeMaps (open_string shut_string)
set_option linter.unusedVariables false

theorem own : ownKnob Try.prog.godebug = none := by kernel_rfl
theorem laidOut : laidOutB Try.prog = true := by kernel_rfl
theorem o5 : Opens Try.prog 5 (IsInt .u8) := opens_int Try.underlying5
theorem o24 : Opens Try.prog 24 (IsSlice 1 1 (IsInt .u8)) := opens_slice Try.underlying24 (by kernel_rfl) (by kernel_rfl) (by decide) o5
theorem o3 : Opens Try.prog 3 (IsInt .i64) := opens_int Try.underlying3
theorem o4 : Opens Try.prog 4 IsBool := opens_bool Try.underlying4
theorem o53 : Opens Try.prog 53 (fun w cs => cs.length = 5 ∧ IsStruct [(0, 1, (IsInt .i64)), (1, 1, (IsInt .i64)), (2, 1, (IsInt .i64)), (3, 1, (IsInt .i64)), (4, 1, IsBool)] w cs) := opens_struct Try.underlying53 (by kernel_rfl) (by exact ⟨_, _, rfl, rfl, by kernel_rfl, o3, ⟨_, _, rfl, rfl, by kernel_rfl, o3, ⟨_, _, rfl, rfl, by kernel_rfl, o3, ⟨_, _, rfl, rfl, by kernel_rfl, o3, ⟨_, _, rfl, rfl, by kernel_rfl, o4, rfl⟩⟩⟩⟩⟩)
theorem o41 : Opens Try.prog 41 (IsSlice 5 40 (fun w cs => cs.length = 5 ∧ IsStruct [(0, 1, (IsInt .i64)), (1, 1, (IsInt .i64)), (2, 1, (IsInt .i64)), (3, 1, (IsInt .i64)), (4, 1, IsBool)] w cs)) := opens_slice Try.underlying41 (by kernel_rfl) (by kernel_rfl) (by decide) o53
theorem o43 : Opens Try.prog 43 (fun w cs => cs.length = 4 ∧ IsStruct [(0, 1, (IsInt .u8)), (1, 1, (IsInt .u8)), (2, 1, (IsSlice 1 1 (IsInt .u8))), (3, 1, (IsSlice 5 40 (fun w cs => cs.length = 5 ∧ IsStruct [(0, 1, (IsInt .i64)), (1, 1, (IsInt .i64)), (2, 1, (IsInt .i64)), (3, 1, (IsInt .i64)), (4, 1, IsBool)] w cs)))] w cs) := opens_struct Try.underlying43 (by kernel_rfl) (by exact ⟨_, _, rfl, rfl, by kernel_rfl, o5, ⟨_, _, rfl, rfl, by kernel_rfl, o5, ⟨_, _, rfl, rfl, by kernel_rfl, o24, ⟨_, _, rfl, rfl, by kernel_rfl, o41, rfl⟩⟩⟩⟩)

set_option maxRecDepth 100000 in
theorem lifted (os : Os) (started : os.Started) (H : Type) (enc : TypeId × Value → H) :
    ReturnsInHanded {} Try.checked os 5 .any (Rows.proposerOneSpec.pre6 enc Try.prog Try.f5 Rows.proposerOneRow.domain false) (Rows.proposerOneSpec.post enc Try.prog Try.f5 false true false false) := by
  refine returnsInHanded_of_change_sized (C := Try.checked) own started (by kernel_rfl) Try.func5
    (ChangeSpec.witness6 (enc := enc) (C := Try.checked) false ⟨#[], #[.agg #[.int .u8 0, .int .u8 0, .slice none 0 0, .slice none 0 0]], []⟩ 8 (by kernel_rfl) (by kernel_rfl) (by kernel_rfl) (by kernel_rfl)) ?_
  intro W base args ds gs before hval0 hW hcnd hsz0 _
  have hval : ∀ (j : Nat) t v, Try.f5.params[j]? = some t → args[j]? = some v → Value.okWide Try.prog W .any base t v := hval0
  have hW' := hW
  obtain ⟨p, q, hA0, hV, rfl, hfz, hnd⟩ := hW
  have hA : DataW.TrodAll enc Try.prog W 0 (fun _ => true) true Try.f5.params.toList args.toList ds p := hA0
  have hsz : (DataW.weightsEach Try.prog (Try.f5.params.toList ++ Rows.proposerOneSpec.plain.varTypes Try.prog) (ds ++ gs)).all (· ≤ reachBytes) = true := hsz0
  rw [Try.params5] at hA hval hsz
  obtain ⟨v0, vs0, d0, ds0, p0, q0, hargs, rfl, rfl, h0, r0⟩ := trodAll_cons hA
  obtain ⟨rfl, rfl, rfl⟩ := trodAll_nil r0
  obtain rfl : args = #[v0] := by cases args; simp_all
  obtain ⟨rfl, rfl⟩ := trodVars_none hV
  obtain ⟨⟨a0⟩, rfl, _⟩ := okWide_struct Try.underlying43 (hval 0 43 v0 rfl rfl)
  have k0 := h0
  have lt0 : ∀ x ∈ p0, x.block < W.heap.size := by obtain ⟨m, hm⟩ := k0; exact DataW.trod_lt m _ _ _ hm
  have g0 := opens_arg o43 h0 (opens_place hsz (j := 0) rfl rfl)
  have w0 : (fun w cs => cs.length = 4 ∧ IsStruct [(0, 1, (IsInt .u8)), (1, 1, (IsInt .u8)), (2, 1, (IsSlice 1 1 (IsInt .u8))), (3, 1, (IsSlice 5 40 (fun w cs => cs.length = 5 ∧ IsStruct [(0, 1, (IsInt .i64)), (1, 1, (IsInt .i64)), (2, 1, (IsInt .i64)), (3, 1, (IsInt .i64)), (4, 1, IsBool)] w cs)))] w cs : World → List Value → Prop) W a0 := g0
  clear hA0 hval0
  refine (ProposerOne_walk a0 W w0).mono fun e W' ⟨he, bel⟩ => ?_
  subst he
  exact ⟨_, rfl, _, _, _, [], _, [], hW', trodAll_mk1 (shut_bool Try.underlying4 _), (trodAll_cons_mk (Below.trod laidOut (by kernel_rfl) (of_decide_eq_true (by kernel_rfl)) k0 bel lt0) trodAll_mk0), rfl, bel.frame _, fun h => by cases h⟩

theorem over : Rows.proposerOneRow.holds Try.pinned (OpenSpec.ofChange Rows.proposerOneSpec) :=
  OpenClaim.holds_of_wide 5 Try.f5 rfl rfl rfl rfl rfl rfl rfl ⟨rfl, rfl, rfl, rfl, rfl⟩ rfl rfl rfl rfl rfl (by kernel_rfl) Try.func5 (by kernel_rfl)
    (of_decide_eq_true (by kernel_rfl)) (by unfold Func.isWrapper; first | (rw [if_pos (by decide +kernel)]; kernel_rfl) | (rw [if_neg (by decide +kernel)]; exact ⟨rfl, rfl⟩))
    (fun os started H enc _ => lifted os started H enc)

theorem proved : Rows.ProposerOneSaid := over
#print axioms proved
end Go.Proofs.Ytifenlopgpbpbaa.proposerOne
