/- WireNobody -/
import Derived.Test.YtmmmajlfndibnaaDoorWireK
namespace Go.Proofs.YtmmmajlfndibnaaDoor
open Go.RowKit
set_option maxRecDepth 100000 in
set_option maxHeartbeats 4000000 in
theorem WireNobody_walk (a0 : Int) (w : World) (hg : Laid w) (w0 : (Lit.int .i64 a0).wf = true) :
    Calls Tryd.prog 8 #[.int .i64 a0] w fun e w' => e = .returned (.bool true) ∧ Below w.heap.size w w' := by
  have hS := fun w => rsmall_nil a0 w0 w
  have hB := fun w => rbytes_nil a0 w0 w
  clear w0
  have hF : ∀ c p, fault c p = .iface 97 (.agg #[.int .i64 c, .int .i64 p]) := fun _ _ => rfl
  go_enter Tryd.func8, Tryd.ntmps8
  go_wp2_with fail
  refine (awake_any w hg).mono ?_
  rintro e w1 ⟨rfl, h1⟩
  have k1 : Kept w w1 := (Kept.refl w).call h1
  go_wp2_with fail
  refine (runt_nil w1).mono ?_
  rintro e w2 ⟨rfl, rfl⟩
  go_wp2_with fail
  refine (rint_nil w2).mono ?_
  rintro e w3 ⟨rfl, rfl⟩
  go_wp2_with fail
  refine (hS w3).mono ?_
  rintro e w4 ⟨rfl, rfl⟩
  go_wp2_with fail
  refine (hB w4).mono ?_
  rintro e w5 ⟨v, rfl, h5⟩
  have k5 := k1.call h5
  have g5 := hg.below k5.1
  clear h5 h1 k1
  go_wp2_with fail
  refine (code_fault 3 0 w5 g5).mono ?_
  rintro e w6 ⟨rfl, h6⟩
  have k6 := k5.call h6
  have g6 := hg.below k6.1
  clear h6 k5 g5
  go_wp2_with fail
  refine (code_fault 3 0 w6 g6).mono ?_
  rintro e w7 ⟨rfl, h7⟩
  have k7 := k6.call h7
  have g7 := hg.below k7.1
  clear h7 k6 g6
  go_wp2_with fail
  refine (code_fault 3 0 w7 g7).mono ?_
  rintro e w8 ⟨rfl, h8⟩
  have k8 := k7.call h8
  have g8 := hg.below k8.1
  clear h8 k7 g7
  go_wp2_with fail
  refine (code_fault 3 0 w8 g8).mono ?_
  rintro e w9 ⟨rfl, h9⟩
  have k9 := k8.call h9
  clear h9 k8 g8
  go_wp2_with fail
  refine (end_nil w9).mono ?_
  rintro e w10 ⟨rfl, rfl⟩
  have kn := run_eql_nil_nil (P := Tryd.prog) w10 43 (by kernel_rfl)
  go_wp2_with fail
  refine (left_nil w10).mono ?_
  rintro e w11 ⟨rfl, rfl⟩
  go_wp2
  go_ret
  exact ⟨rfl, k9.1⟩
end Go.Proofs.YtmmmajlfndibnaaDoor
