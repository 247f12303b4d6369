/- AlogTorn: the row's statement, out of its walk: every argument is opened by its type, the walk is done, each argument reads as it did. Conditions: the row's own (none but the row's own; the arguments are together of bulk at most 1048576). -/
import Derived.Test.YtnadfkcicppehaaRows
import Derived.Test.YtnadfkcicppehaaOpen
import Derived.Test.YtnadfkcicppehaaBulk
import Derived.Test.YtnadfkcicppehaaBare
import Derived.Test.YtnadfkcicppehaaAlgY
import Derived.WalkKit
import Derived.ProofKit
import Derived.OpenShut
import Derived.ShutString
import Derived.ChangeOld
import Derived.Below
import Derived.SizedLaws
import Derived.Deep.DeepHandedRow
import Derived.SevenTiedAt
namespace Go.Proofs.Ytnadfkcicppehaa.alogTorn
open Go.ChangeShapes Go.WideShapes Go.ChangeAt Go.RowKit
open Go.ChangeMaps (open_string shut_string)
set_option linter.unusedVariables false
theorem o3 : Opens Try.prog 3 (IsInt .i64) := opens_int Try.underlying3
theorem o39 : Opens Try.prog 39 (fun w cs => cs.length = 2 ∧ IsStruct [(0, 1, (IsInt .i64)), (1, 1, (IsInt .i64))] w cs) := opens_struct Try.underlying39 (by kernel_rfl) (by exact ⟨_, _, rfl, rfl, by kernel_rfl, o3, ⟨_, _, rfl, rfl, by kernel_rfl, o3, rfl⟩⟩)
theorem o5 : Opens Try.prog 5 (IsInt .u8) := opens_int Try.underlying5
theorem o23 : Opens Try.prog 23 (IsSlice 1 1 (IsInt .u8)) := opens_slice Try.underlying23 (by kernel_rfl) (by kernel_rfl) (by decide) o5
theorem o41 : Opens Try.prog 41 (fun w cs => cs.length = 5 ∧ IsStruct [(0, 1, (IsInt .i64)), (1, 1, (IsInt .i64)), (2, 2, (fun w cs => cs.length = 2 ∧ IsStruct [(0, 1, (IsInt .i64)), (1, 1, (IsInt .i64))] w cs)), (4, 1, (IsSlice 1 1 (IsInt .u8)))] w cs) := opens_struct Try.underlying41 (by kernel_rfl) (by exact ⟨_, _, rfl, rfl, by kernel_rfl, o3, ⟨_, _, rfl, rfl, by kernel_rfl, o3, ⟨_, _, rfl, rfl, by kernel_rfl, o39, ⟨_, _, rfl, rfl, by kernel_rfl, o23, rfl⟩⟩⟩⟩)
theorem o22 : Opens Try.prog 22 (IsSlice 5 56 (fun w cs => cs.length = 5 ∧ IsStruct [(0, 1, (IsInt .i64)), (1, 1, (IsInt .i64)), (2, 2, (fun w cs => cs.length = 2 ∧ IsStruct [(0, 1, (IsInt .i64)), (1, 1, (IsInt .i64))] w cs)), (4, 1, (IsSlice 1 1 (IsInt .u8)))] w cs)) := opens_slice Try.underlying22 (by kernel_rfl) (by kernel_rfl) (by decide) o41
theorem u3 : OpensU Try.prog 3 SOne := opensU_one
theorem u39 : OpensU Try.prog 39 (SStruct [(0, 1, SOne), (1, 1, SOne)]) := opensU_struct Try.underlying39 (by exact ⟨_, _, rfl, rfl, by kernel_rfl, u3, ⟨_, _, rfl, rfl, by kernel_rfl, u3, rfl⟩⟩)
theorem u5 : OpensU Try.prog 5 SOne := opensU_one
theorem u23 : OpensU Try.prog 23 (SSlice 1 SOne) := opensU_slice Try.underlying23 (by kernel_rfl) u5
theorem u41 : OpensU Try.prog 41 (SStruct [(0, 1, SOne), (1, 1, SOne), (2, 2, (SStruct [(0, 1, SOne), (1, 1, SOne)])), (4, 1, (SSlice 1 SOne))]) := opensU_struct Try.underlying41 (by exact ⟨_, _, rfl, rfl, by kernel_rfl, u3, ⟨_, _, rfl, rfl, by kernel_rfl, u3, ⟨_, _, rfl, rfl, by kernel_rfl, u39, ⟨_, _, rfl, rfl, by kernel_rfl, u23, rfl⟩⟩⟩⟩)
theorem u22 : OpensU Try.prog 22 (SSlice 5 (SStruct [(0, 1, SOne), (1, 1, SOne), (2, 2, (SStruct [(0, 1, SOne), (1, 1, SOne)])), (4, 1, (SSlice 1 SOne))])) := opensU_slice Try.underlying22 (by kernel_rfl) u41

set_option maxRecDepth 100000 in
theorem contract (H : Type) (enc : TypeId × Value → H) (W : World) (base : Nat) (args : Array Value) (ds gs : List (DataW H)) (before : List MemPlace)
    (hval0 : ∀ (j : Nat) t v, Try.f5.params[j]? = some t → args[j]? = some v → Value.okWide Try.prog W .any base t v)
    (hW : DataW.Whole enc Try.prog Try.f5.params.toList Rows.alogTornSpec.vars false W args.toList ds gs before)
    (hk0 : Rows.uptoSmall H (ds ++ gs) = true)
    (hsz0 : (DataW.weightsEach Try.prog (Try.f5.params.toList ++ Rows.alogTornSpec.plain.varTypes Try.prog) (ds ++ gs)).all (· ≤ reachBytes) = true) (hg : Laid W) :
    Calls Try.prog 5 args W fun e W' => ∃ v, e = .returned v ∧ Rows.alogTornSpec.post enc Try.prog Try.f5 false true false false W args v W' := by
  have hval := hval0
  have hW' := hW
  obtain ⟨p, q, hA0, hV, rfl, hfz, hnd⟩ := hW
  have hA : DataW.TrodAll enc Try.prog W 0 (fun _ => true) true Try.f5.params.toList args.toList ds p := hA0
  have hsz := hsz0
  rw [Try.params5] at hA hval hsz
  obtain ⟨v0, vs0, d0, ds0, p0, q0, hargs, rfl, rfl, h0, r0⟩ := trodAll_cons hA
  obtain ⟨v1, vs1, d1, ds1, p1, q1, rfl, rfl, rfl, h1, r1⟩ := trodAll_cons r0
  obtain ⟨v2, vs2, d2, ds2, p2, q2, rfl, rfl, rfl, h2, r2⟩ := trodAll_cons r1
  obtain ⟨rfl, rfl, rfl⟩ := trodAll_nil r2
  obtain rfl : args = #[v0, v1, v2] := by cases args; simp_all
  obtain ⟨rfl, rfl⟩ := trodVars_none hV
  obtain ⟨a0, len0, cap0, rfl⟩ := okWide_slice Try.underlying22 (hval 0 22 v0 rfl rfl)
  have k0 := h0
  have lt0 : ∀ x ∈ p0, x.block < W.heap.size := by obtain ⟨m, hm⟩ := k0; exact DataW.trod_lt m _ _ _ hm
  have g0 := opens_arg o22 h0 (opens_place hsz (j := 0) rfl rfl)
  have w0 : SliceAt 5 56 (fun w cs => cs.length = 5 ∧ IsStruct [(0, 1, (IsInt .i64)), (1, 1, (IsInt .i64)), (2, 2, (fun w cs => cs.length = 2 ∧ IsStruct [(0, 1, (IsInt .i64)), (1, 1, (IsInt .i64))] w cs)), (4, 1, (IsSlice 1 1 (IsInt .u8)))] w cs) W a0 len0 cap0 := by
    obtain ⟨A', l', c', e', hs'⟩ := g0
    simp [Value.cells] at e'
    obtain ⟨rfl, rfl, rfl⟩ := e'
    exact hs'
  obtain ⟨a1, rfl, rfl, rfl, w1⟩ := open_int Try.underlying61 (hval 1 61 v1 rfl rfl) h1
  obtain ⟨a2, len2, cap2, rfl⟩ := okWide_slice Try.underlying23 (hval 2 23 v2 rfl rfl)
  have k2 := h2
  have lt2 : ∀ x ∈ p2, x.block < W.heap.size := by obtain ⟨m, hm⟩ := k2; exact DataW.trod_lt m _ _ _ hm
  have g2 := opens_arg o23 h2 (opens_place hsz (j := 2) rfl rfl)
  have w2 : SliceAt 1 1 (IsInt .u8) W a2 len2 cap2 := by
    obtain ⟨A', l', c', e', hs'⟩ := g2
    simp [Value.cells] at e'
    obtain ⟨rfl, rfl, rfl⟩ := e'
    exact hs'
  clear hA0 hval0
  have hk := of_decide_eq_true hk0
  refine (AlogTorn_walk a0 len0 cap0 a1 a2 len2 cap2 _ _ W hg w0 w1 w2 (opensU_arg u22 k0) (opensU_arg u23 k2) (by simp only [Rows.uptoBulkAll, List.append_nil] at hk; omega)).mono fun e W' ⟨he, bel⟩ => ?_
  subst he
  exact ⟨_, rfl, _, _, _, [], _, [], hW', trodAll_mk1 (shut_bool Try.underlying4 _), (trodAll_cons_mk (Below.trod laidOut (by kernel_rfl) (of_decide_eq_true (by kernel_rfl)) k0 bel lt0) (trodAll_cons_mk (shut_int Try.underlying61 w1) (trodAll_cons_mk (Below.trod laidOut (by kernel_rfl) (of_decide_eq_true (by kernel_rfl)) k2 bel lt2) trodAll_mk0))), rfl, bel.frame _, fun h => by cases h⟩

theorem reads (os : Os) {H : Type} (enc : TypeId × Value → H) : ∃ places, DataW.whole enc Try.prog ((laidWorld os).forCall (fun _ _ => 0) ⟨#[], #[.slice none 0 0, .int .u16 0, .slice none 0 0], []⟩).memory Try.f5.params.toList Rows.alogTornSpec.vars false (#[.slice none 0 0, .int .u16 0, .slice none 0 0] : Array Value).toList 8 = some ([.nil, .lit (.int .u16 0), .nil], [], places) :=
  ⟨[], by kernel_rfl⟩

set_option maxRecDepth 100000 in
theorem lifted (os : Os) (started : os.Started) (H : Type) (enc : TypeId × Value → H) (F : Stop.Interp) :
    ReturnsInHanded {} Try.checked os 5 .any ((Rows.OpenSpec.upto Rows.alogTornSpec).preRow enc Try.prog Try.f5 Rows.alogTornUptoRow.domain false Rows.alogTornUptoRow.laid) (((Rows.OpenSpec.upto Rows.alogTornSpec).at F).post enc Try.prog Try.f5 false true false false) := by
  obtain ⟨places, hx⟩ := reads os enc
  refine returnsInHanded_of_row (C := Try.checked) (s := Rows.OpenSpec.upto Rows.alogTornSpec) own started (by kernel_rfl) Try.func5
    (witness_row_shaped (enc := enc) (C := Try.checked) (laidWorld os) #[.slice none 0 0, .int .u16 0, .slice none 0 0] rfl (laidWorld_shaped os _) (by kernel_rfl)
      (OpenSpec.preRow_of_cond 8 hx (by kernel_rfl) (fun k hk => by cases hk; kernel_rfl) (by kernel_rfl) (laidWorld_met os _))) ?_
  intro W base args ds gs before hval hW _ hcond hsz hL _ _
  exact contract H enc W base args ds gs before hval hW (hcond _ rfl) hsz (laid_of hL)

theorem over : Rows.alogTornUptoRow.holds Try.pinned (Rows.OpenSpec.upto Rows.alogTornSpec) :=
  OpenClaim.holds_of_cond 5 Try.f5 rfl rfl rfl rfl rfl rfl rfl ⟨rfl, rfl, rfl, rfl, rfl⟩ rfl rfl rfl rfl rfl (by kernel_rfl) Try.func5 (by kernel_rfl)
    (of_decide_eq_true (by kernel_rfl)) (by unfold Func.isWrapper; first | (rw [if_pos (by decide +kernel)]; kernel_rfl) | (rw [if_neg (by decide +kernel)]; exact ⟨rfl, rfl⟩))
    (fun os started H enc _ F => by rw [OpenClaim.pre_eq_preRow]; exact lifted os started H enc F)

theorem proved : Rows.AlogTornUptoSaid := over
#print axioms proved
end Go.Proofs.Ytnadfkcicppehaa.alogTorn
