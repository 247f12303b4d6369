/- WireBack: the card of the second form's row, out of its walk: every argument is opened by its type, the walk is done, each argument reads as it did. Conditions: the row's own (the listed package variable of the Go library starts as the program's text lays it, which the card ties; the arguments are together of bulk at most 1048576). -/
import Derived.Test.YtmmmajlfndibnaaDoorRows
import Derived.Test.YtmmmajlfndibnaaDoorCards
import Derived.Test.YtmmmajlfndibnaaDoorTie
import Derived.Test.YtmmmajlfndibnaaDoorOpen
import Derived.Test.YtmmmajlfndibnaaDoorBulk
import Derived.Test.YtmmmajlfndibnaaDoorFrame
import Derived.Test.YtmmmajlfndibnaaDoorWireB
import Derived.WalkKit
import Derived.ProofKit
import Derived.OpenShut
import Derived.ShutString
import Derived.ChangeOld
import Derived.Below
import Derived.SizedLaws
import Derived.Deep.DeepHandedRow
import Derived.SevenTiedAt
namespace Go.Proofs.YtmmmajlfndibnaaDoor.wireBack
open Go.ChangeShapes Go.WideShapes Go.ChangeAt Go.RowKit
open Go.ChangeMaps (open_string shut_string)
set_option linter.unusedVariables false
theorem o3 : Opens Tryd.prog 3 (IsInt .i64) := opens_int Tryd.underlying3
theorem o25 : Opens Tryd.prog 25 (IsInt .u64) := opens_int Tryd.underlying25
theorem o5 : Opens Tryd.prog 5 (IsInt .u8) := opens_int Tryd.underlying5
theorem o24 : Opens Tryd.prog 24 (IsSlice 1 1 (IsInt .u8)) := opens_slice Tryd.underlying24 (by kernel_rfl) (by kernel_rfl) (by decide) o5
theorem o27 : Opens Tryd.prog 27 (fun w cs => cs.length = 3 ∧ IsStruct [(0, 1, (IsInt .i64)), (1, 1, (IsInt .u64)), (2, 1, (IsSlice 1 1 (IsInt .u8)))] w cs) := opens_struct Tryd.underlying27 (by kernel_rfl) (by exact ⟨_, _, rfl, rfl, by kernel_rfl, o3, ⟨_, _, rfl, rfl, by kernel_rfl, o25, ⟨_, _, rfl, rfl, by kernel_rfl, o24, rfl⟩⟩⟩)
theorem o22 : Opens Tryd.prog 22 (IsSlice 3 40 (fun w cs => cs.length = 3 ∧ IsStruct [(0, 1, (IsInt .i64)), (1, 1, (IsInt .u64)), (2, 1, (IsSlice 1 1 (IsInt .u8)))] w cs)) := opens_slice Tryd.underlying22 (by kernel_rfl) (by kernel_rfl) (by decide) o27
theorem u3 : OpensU Tryd.prog 3 SOne := opensU_one
theorem u25 : OpensU Tryd.prog 25 SOne := opensU_one
theorem u5 : OpensU Tryd.prog 5 SOne := opensU_one
theorem u24 : OpensU Tryd.prog 24 (SSlice 1 SOne) := opensU_slice Tryd.underlying24 (by kernel_rfl) u5
theorem u27 : OpensU Tryd.prog 27 (SStruct [(0, 1, SOne), (1, 1, SOne), (2, 1, (SSlice 1 SOne))]) := opensU_struct Tryd.underlying27 (by exact ⟨_, _, rfl, rfl, by kernel_rfl, u3, ⟨_, _, rfl, rfl, by kernel_rfl, u25, ⟨_, _, rfl, rfl, by kernel_rfl, u24, rfl⟩⟩⟩)
theorem u22 : OpensU Tryd.prog 22 (SSlice 3 (SStruct [(0, 1, SOne), (1, 1, SOne), (2, 1, (SSlice 1 SOne))])) := opensU_slice Tryd.underlying22 (by kernel_rfl) u27

set_option maxRecDepth 100000 in
theorem contract (H : Type) (enc : TypeId × Value → H) (W : World) (base : Nat) (args : Array Value) (ds gs : List (DataW H)) (before : List MemPlace)
    (hval0 : ∀ (j : Nat) t v, Tryd.f5.params[j]? = some t → args[j]? = some v → Value.okWide Tryd.prog W .any base t v)
    (hW : DataW.Whole enc Tryd.prog Tryd.f5.params.toList Rows.wireBackSpec.vars false W args.toList ds gs before)
    (hk0 : Rows.uptoSmall H (ds ++ gs) = true)
    (hsz0 : (DataW.weightsEach Tryd.prog (Tryd.f5.params.toList ++ Rows.wireBackSpec.plain.varTypes Tryd.prog) (ds ++ gs)).all (· ≤ reachBytes) = true) (hg : Laid W) :
    Calls Tryd.prog 5 args W fun e W' => ∃ v, e = .returned v ∧ Rows.wireBackSpec.post enc Tryd.prog Tryd.f5 false true false false W args v W' := by
  have hval := hval0
  have hW' := hW
  obtain ⟨p, q, hA0, hV, rfl, hfz, hnd⟩ := hW
  have hA : DataW.TrodAll enc Tryd.prog W 0 (fun _ => true) true Tryd.f5.params.toList args.toList ds p := hA0
  have hsz := hsz0
  rw [Tryd.params5] at hA hval hsz
  obtain ⟨v0, vs0, d0, ds0, p0, q0, hargs, rfl, rfl, h0, r0⟩ := trodAll_cons hA
  obtain ⟨rfl, rfl, rfl⟩ := trodAll_nil r0
  obtain rfl : args = #[v0] := by cases args; simp_all
  obtain ⟨rfl, rfl⟩ := trodVars_none hV
  obtain ⟨a0, len0, cap0, rfl⟩ := okWide_slice Tryd.underlying22 (hval 0 22 v0 rfl rfl)
  have k0 := h0
  have lt0 : ∀ x ∈ p0, x.block < W.heap.size := by obtain ⟨m, hm⟩ := k0; exact DataW.trod_lt m _ _ _ hm
  have g0 := opens_arg o22 h0 (opens_place hsz (j := 0) rfl rfl)
  have w0 : SliceAt 3 40 (fun w cs => cs.length = 3 ∧ IsStruct [(0, 1, (IsInt .i64)), (1, 1, (IsInt .u64)), (2, 1, (IsSlice 1 1 (IsInt .u8)))] w cs) W a0 len0 cap0 := by
    obtain ⟨A', l', c', e', hs'⟩ := g0
    simp [Value.cells] at e'
    obtain ⟨rfl, rfl, rfl⟩ := e'
    exact hs'
  clear hA0 hval0
  have hk := of_decide_eq_true hk0
  refine (WireBack_walk a0 len0 cap0 _ W hg w0 (opensU_arg u22 k0) (by simp only [Rows.uptoBulkAll, List.append_nil] at hk; omega)).mono fun e W' ⟨he, bel⟩ => ?_
  subst he
  exact ⟨_, rfl, _, _, _, [], _, [], hW', trodAll_mk1 (shut_bool Tryd.underlying4 _), (trodAll_cons_mk (Below.trod laidOut (by kernel_rfl) (of_decide_eq_true (by kernel_rfl)) k0 bel lt0) trodAll_mk0), rfl, bel.frame _, fun h => by cases h⟩

theorem reads (os : Os) {H : Type} (enc : TypeId × Value → H) : ∃ places, DataW.whole enc Tryd.prog ((laidWorld os).forCall (fun _ _ => 0) ⟨#[], #[.slice none 0 0], []⟩).memory Tryd.f5.params.toList Rows.wireBackSpec.vars false (#[.slice none 0 0] : Array Value).toList 8 = some ([.nil], [], places) :=
  ⟨[], by kernel_rfl⟩

set_option maxRecDepth 100000 in
theorem lifted (os : Os) (started : os.Started) (H : Type) (enc : TypeId × Value → H) (F : Stop.Interp) :
    ReturnsInHanded {} Tryd.checked os 5 .any ((Rows.OpenSpec.upto Rows.wireBackSpec).preRow enc Tryd.prog Tryd.f5 Rows.wireBackUptoRow.domain false Rows.wireBackUptoRow.laid) (((Rows.OpenSpec.upto Rows.wireBackSpec).at F).post enc Tryd.prog Tryd.f5 false true false false) := by
  obtain ⟨places, hx⟩ := reads os enc
  refine returnsInHanded_of_row (C := Tryd.checked) (s := Rows.OpenSpec.upto Rows.wireBackSpec) own started (by kernel_rfl) Tryd.func5
    (witness_row_shaped (enc := enc) (C := Tryd.checked) (laidWorld os) #[.slice none 0 0] rfl (laidWorld_shaped os _) (by kernel_rfl)
      (OpenSpec.preRow_of_cond 8 hx (by kernel_rfl) (fun k hk => by cases hk; kernel_rfl) (by kernel_rfl) (laidWorld_met os _))) ?_
  intro W base args ds gs before hval hW _ hcond hsz hL _ _
  exact contract H enc W base args ds gs before hval hW (hcond _ rfl) hsz (laid_of hL)

theorem over : Rows.wireBackUptoRow.holds Tryd.pinned (Rows.OpenSpec.upto Rows.wireBackSpec) :=
  OpenClaim.holds_of_cond 5 Tryd.f5 rfl rfl rfl rfl rfl rfl rfl ⟨rfl, rfl, rfl, rfl, rfl⟩ rfl rfl rfl rfl rfl (by kernel_rfl) Tryd.func5 (by kernel_rfl)
    (of_decide_eq_true (by kernel_rfl)) (by unfold Func.isWrapper; first | (rw [if_pos (by decide +kernel)]; kernel_rfl) | (rw [if_neg (by decide +kernel)]; exact ⟨rfl, rfl⟩))
    (fun os started H enc _ F => by rw [OpenClaim.pre_eq_preRow]; exact lifted os started H enc F)

/-- No parameter wants a stand-in: what the card asks. -/
theorem plain (f : FuncId) (fn : Func) (hf : Tryd.pinned.checked.prog.funcNamed "agio/agiolaw02.WireBack" = some f) (hfn : Tryd.pinned.checked.prog.funcs[f]? = some fn) :
    true = Tryd.pinned.checked.prog.looks [] ∧ ∀ (j : Nat) t, fn.params[j]? = some t → Tryd.pinned.checked.prog.wantsStandIn t = false := by
  obtain rfl : f = 5 := Option.some.inj ((show Tryd.prog.funcNamed "agio/agiolaw02.WireBack" = some 5 by kernel_rfl).symm.trans hf) |>.symm
  obtain rfl : fn = Tryd.f5 := (Option.some.inj (Tryd.func5.symm.trans hfn)).symm
  refine ⟨by kernel_rfl, fun j t ht => ?_⟩
  rw [Tryd.params5] at ht
  have hm : t ∈ [22] := by simpa using Array.mem_of_getElem? ht
  have hall : ([22].all fun u => !Tryd.prog.wantsStandIn u) = true := by kernel_rfl
  exact (show Tryd.prog.wantsStandIn t = false by simpa using List.all_eq_true.1 hall t hm)

theorem proved : Rows.WireBackUptoCardSaid :=
  Claim7.holds_tied_plain_at .later [] _ _ _ _ over (fun _ h => by cases h) (by kernel_rfl) (fun _ h => by cases h) wireBackUpto_row_tie rfl ⟨rfl, rfl⟩ (by kernel_rfl) rfl plain (by kernel_rfl)
#print axioms proved
end Go.Proofs.YtmmmajlfndibnaaDoor.wireBack
