/- AlogReads: the row's statement, out of its walk: every argument is opened by its type, the walk is done, each argument reads as it did. Conditions: the row's own (none but the row's own; the arguments are together of bulk at most 1048576). -/
import Derived.Test.YtmjgpgnecohbcaaRows
import Derived.Test.YtmjgpgnecohbcaaMgA
import Derived.Test.YtmjgpgnecohbcaaMgH
import Derived.Test.YtmjgpgnecohbcaaAlgAA
import Derived.WalkKit
import Derived.ProofKit
import Derived.OpenShut
import Derived.ShutString
import Derived.ChangeOld
import Derived.Below
import Derived.SizedLaws
import Derived.Deep.DeepHandedRow
import Derived.SevenTiedAt
namespace Go.Proofs.Ytmjgpgnecohbcaa.alogReads
open Go.ChangeShapes Go.WideShapes Go.ChangeAt Go.RowKit
open Go.ChangeMaps (open_string shut_string)
set_option linter.unusedVariables false
theorem o3 : Opens Try.prog 3 (IsInt .i64) := opens_int Try.underlying3
theorem o23 : Opens Try.prog 23 (fun w cs => cs.length = 2 ∧ IsStruct [(0, 1, (IsInt .i64)), (1, 1, (IsInt .i64))] w cs) := opens_struct Try.underlying23 (by kernel_rfl) (by exact ⟨_, _, rfl, rfl, by kernel_rfl, o3, ⟨_, _, rfl, rfl, by kernel_rfl, o3, rfl⟩⟩)
theorem o5 : Opens Try.prog 5 (IsInt .u8) := opens_int Try.underlying5
theorem o37 : Opens Try.prog 37 (IsSlice 1 1 (IsInt .u8)) := opens_slice Try.underlying37 (by kernel_rfl) (by kernel_rfl) (by decide) o5
theorem o52 : Opens Try.prog 52 (fun w cs => cs.length = 5 ∧ IsStruct [(0, 1, (IsInt .i64)), (1, 1, (IsInt .i64)), (2, 2, (fun w cs => cs.length = 2 ∧ IsStruct [(0, 1, (IsInt .i64)), (1, 1, (IsInt .i64))] w cs)), (4, 1, (IsSlice 1 1 (IsInt .u8)))] w cs) := opens_struct Try.underlying52 (by kernel_rfl) (by exact ⟨_, _, rfl, rfl, by kernel_rfl, o3, ⟨_, _, rfl, rfl, by kernel_rfl, o3, ⟨_, _, rfl, rfl, by kernel_rfl, o23, ⟨_, _, rfl, rfl, by kernel_rfl, o37, rfl⟩⟩⟩⟩)
theorem o36 : Opens Try.prog 36 (IsSlice 5 56 (fun w cs => cs.length = 5 ∧ IsStruct [(0, 1, (IsInt .i64)), (1, 1, (IsInt .i64)), (2, 2, (fun w cs => cs.length = 2 ∧ IsStruct [(0, 1, (IsInt .i64)), (1, 1, (IsInt .i64))] w cs)), (4, 1, (IsSlice 1 1 (IsInt .u8)))] w cs)) := opens_slice Try.underlying36 (by kernel_rfl) (by kernel_rfl) (by decide) o52
theorem o39 : Opens Try.prog 39 (fun w cs => cs.length = 4 ∧ IsStruct [(0, 1, (IsSlice 5 56 (fun w cs => cs.length = 5 ∧ IsStruct [(0, 1, (IsInt .i64)), (1, 1, (IsInt .i64)), (2, 2, (fun w cs => cs.length = 2 ∧ IsStruct [(0, 1, (IsInt .i64)), (1, 1, (IsInt .i64))] w cs)), (4, 1, (IsSlice 1 1 (IsInt .u8)))] w cs))), (1, 1, (IsSlice 1 1 (IsInt .u8))), (2, 1, (IsInt .i64)), (3, 1, (IsInt .i64))] w cs) := opens_struct Try.underlying39 (by kernel_rfl) (by exact ⟨_, _, rfl, rfl, by kernel_rfl, o36, ⟨_, _, rfl, rfl, by kernel_rfl, o37, ⟨_, _, rfl, rfl, by kernel_rfl, o3, ⟨_, _, rfl, rfl, by kernel_rfl, o3, rfl⟩⟩⟩⟩)
theorem u3 : OpensU Try.prog 3 SOne := opensU_one
theorem u23 : OpensU Try.prog 23 (SStruct [(0, 1, SOne), (1, 1, SOne)]) := opensU_struct Try.underlying23 (by exact ⟨_, _, rfl, rfl, by kernel_rfl, u3, ⟨_, _, rfl, rfl, by kernel_rfl, u3, rfl⟩⟩)
theorem u5 : OpensU Try.prog 5 SOne := opensU_one
theorem u37 : OpensU Try.prog 37 (SSlice 1 SOne) := opensU_slice Try.underlying37 (by kernel_rfl) u5
theorem u52 : OpensU Try.prog 52 (SStruct [(0, 1, SOne), (1, 1, SOne), (2, 2, (SStruct [(0, 1, SOne), (1, 1, SOne)])), (4, 1, (SSlice 1 SOne))]) := opensU_struct Try.underlying52 (by exact ⟨_, _, rfl, rfl, by kernel_rfl, u3, ⟨_, _, rfl, rfl, by kernel_rfl, u3, ⟨_, _, rfl, rfl, by kernel_rfl, u23, ⟨_, _, rfl, rfl, by kernel_rfl, u37, rfl⟩⟩⟩⟩)
theorem u36 : OpensU Try.prog 36 (SSlice 5 (SStruct [(0, 1, SOne), (1, 1, SOne), (2, 2, (SStruct [(0, 1, SOne), (1, 1, SOne)])), (4, 1, (SSlice 1 SOne))])) := opensU_slice Try.underlying36 (by kernel_rfl) u52
theorem u39 : OpensU Try.prog 39 (SStruct [(0, 1, (SSlice 5 (SStruct [(0, 1, SOne), (1, 1, SOne), (2, 2, (SStruct [(0, 1, SOne), (1, 1, SOne)])), (4, 1, (SSlice 1 SOne))]))), (1, 1, (SSlice 1 SOne)), (2, 1, SOne), (3, 1, SOne)]) := opensU_struct Try.underlying39 (by exact ⟨_, _, rfl, rfl, by kernel_rfl, u36, ⟨_, _, rfl, rfl, by kernel_rfl, u37, ⟨_, _, rfl, rfl, by kernel_rfl, u3, ⟨_, _, rfl, rfl, by kernel_rfl, u3, rfl⟩⟩⟩⟩)

set_option maxRecDepth 100000 in
theorem contract (H : Type) (enc : TypeId × Value → H) (W : World) (base : Nat) (args : Array Value) (ds gs : List (DataW H)) (before : List MemPlace)
    (hval0 : ∀ (j : Nat) t v, Try.f9.params[j]? = some t → args[j]? = some v → Value.okWide Try.prog W .any base t v)
    (hW : DataW.Whole enc Try.prog Try.f9.params.toList Rows.alogReadsSpec.vars false W args.toList ds gs before)
    (hk0 : Rows.uptoSmall H (ds ++ gs) = true)
    (hsz0 : (DataW.weightsEach Try.prog (Try.f9.params.toList ++ Rows.alogReadsSpec.plain.varTypes Try.prog) (ds ++ gs)).all (· ≤ reachBytes) = true) (hg : Laid W) :
    Calls Try.prog 9 args W fun e W' => ∃ v, e = .returned v ∧ Rows.alogReadsSpec.post enc Try.prog Try.f9 false true false false W args v W' := by
  have hval := hval0
  have hW' := hW
  obtain ⟨p, q, hA0, hV, rfl, hfz, hnd⟩ := hW
  have hA : DataW.TrodAll enc Try.prog W 0 (fun _ => true) true Try.f9.params.toList args.toList ds p := hA0
  have hsz := hsz0
  rw [Try.params9] at hA hval hsz
  obtain ⟨v0, vs0, d0, ds0, p0, q0, hargs, rfl, rfl, h0, r0⟩ := trodAll_cons hA
  obtain ⟨rfl, rfl, rfl⟩ := trodAll_nil r0
  obtain rfl : args = #[v0] := by cases args; simp_all
  obtain ⟨rfl, rfl⟩ := trodVars_none hV
  obtain ⟨⟨a0⟩, rfl, _⟩ := okWide_struct Try.underlying39 (hval 0 39 v0 rfl rfl)
  have k0 := h0
  have lt0 : ∀ x ∈ p0, x.block < W.heap.size := by obtain ⟨m, hm⟩ := k0; exact DataW.trod_lt m _ _ _ hm
  have g0 := opens_arg o39 h0 (opens_place hsz (j := 0) rfl rfl)
  have w0 : (fun w cs => cs.length = 4 ∧ IsStruct [(0, 1, (IsSlice 5 56 (fun w cs => cs.length = 5 ∧ IsStruct [(0, 1, (IsInt .i64)), (1, 1, (IsInt .i64)), (2, 2, (fun w cs => cs.length = 2 ∧ IsStruct [(0, 1, (IsInt .i64)), (1, 1, (IsInt .i64))] w cs)), (4, 1, (IsSlice 1 1 (IsInt .u8)))] w cs))), (1, 1, (IsSlice 1 1 (IsInt .u8))), (2, 1, (IsInt .i64)), (3, 1, (IsInt .i64))] w cs : World → List Value → Prop) W a0 := g0
  clear hA0 hval0
  have hk := of_decide_eq_true hk0
  refine (AlogReads_walk a0 _ W hg w0 (opensU_arg u39 k0) (by simp only [Rows.uptoBulkAll, List.append_nil] at hk; omega)).mono fun e W' ⟨he, bel⟩ => ?_
  subst he
  exact ⟨_, rfl, _, _, _, [], _, [], hW', trodAll_mk1 (shut_bool Try.underlying4 _), (trodAll_cons_mk (Below.trod laidOut (by kernel_rfl) (of_decide_eq_true (by kernel_rfl)) k0 bel lt0) trodAll_mk0), rfl, bel.frame _, fun h => by cases h⟩

theorem reads (os : Os) {H : Type} (enc : TypeId × Value → H) : ∃ places, DataW.whole enc Try.prog ((laidWorld os).forCall (fun _ _ => 0) ⟨#[], #[.agg #[.slice none 0 0, .slice none 0 0, .int .i64 0, .int .i64 0]], []⟩).memory Try.f9.params.toList Rows.alogReadsSpec.vars false (#[.agg #[.slice none 0 0, .slice none 0 0, .int .i64 0, .int .i64 0]] : Array Value).toList 8 = some ([.agg [.nil, .nil, .lit (.int .i64 0), .lit (.int .i64 0)]], [], places) :=
  ⟨[], by kernel_rfl⟩

set_option maxRecDepth 100000 in
theorem lifted (os : Os) (started : os.Started) (H : Type) (enc : TypeId × Value → H) (F : Stop.Interp) :
    ReturnsInHanded {} Try.checked os 9 .any ((Rows.OpenSpec.upto Rows.alogReadsSpec).preRow enc Try.prog Try.f9 Rows.alogReadsUptoRow.domain false Rows.alogReadsUptoRow.laid) (((Rows.OpenSpec.upto Rows.alogReadsSpec).at F).post enc Try.prog Try.f9 false true false false) := by
  obtain ⟨places, hx⟩ := reads os enc
  refine returnsInHanded_of_row (C := Try.checked) (s := Rows.OpenSpec.upto Rows.alogReadsSpec) own started (by kernel_rfl) Try.func9
    (witness_row_shaped (enc := enc) (C := Try.checked) (laidWorld os) #[.agg #[.slice none 0 0, .slice none 0 0, .int .i64 0, .int .i64 0]] rfl (laidWorld_shaped os _) (by kernel_rfl)
      (OpenSpec.preRow_of_cond 8 hx (by kernel_rfl) (fun k hk => by cases hk; kernel_rfl) (by kernel_rfl) (laidWorld_met os _))) ?_
  intro W base args ds gs before hval hW _ hcond hsz hL _ _
  exact contract H enc W base args ds gs before hval hW (hcond _ rfl) hsz (laid_of hL)

theorem over : Rows.alogReadsUptoRow.holds Try.pinned (Rows.OpenSpec.upto Rows.alogReadsSpec) :=
  OpenClaim.holds_of_cond 9 Try.f9 rfl rfl rfl rfl rfl rfl rfl ⟨rfl, rfl, rfl, rfl, rfl⟩ rfl rfl rfl rfl rfl (by kernel_rfl) Try.func9 (by kernel_rfl)
    (of_decide_eq_true (by kernel_rfl)) (by unfold Func.isWrapper; first | (rw [if_pos (by decide +kernel)]; kernel_rfl) | (rw [if_neg (by decide +kernel)]; exact ⟨rfl, rfl⟩))
    (fun os started H enc _ F => by rw [OpenClaim.pre_eq_preRow]; exact lifted os started H enc F)

theorem proved : Rows.AlogReadsUptoSaid := over
#print axioms proved
end Go.Proofs.Ytmjgpgnecohbcaa.alogReads
