/- The walks of layer 4's statements on sums and products. -/
import Derived.Test.YtmlpgdhdndmlaaaNumR
namespace Go.Proofs.Ytmlpgdhdndmlaaa
open Go.RowKit

set_option maxHeartbeats 1000000 in
theorem NumSums_walk (a0 : Int) (a1 : Int) (w : World) (w0 : (Lit.int .i64 a0).wf = true) (w1 : (Lit.int .i64 a1).wf = true) :
    Calls Try.prog 3 #[.int .i64 a0, .int .i64 a1] w fun e w' => e = .returned (.bool true) ∧ Below w.heap.size w w' := by
  have h1 := Lib.hid (add_any a0 a1 (in64 w0) (in64 w1))
  have h2 := Lib.hid (sub_any a0 a1 (in64 w0) (in64 w1))
  have h3 := Lib.hid (mul_any a0 a1 (in64 w0) (in64 w1))
  have h4 := Lib.hid (refadd_any a0 a1 (in64 w0) (in64 w1))
  have h5 := Lib.hid (refsub_any a0 a1 (in64 w0) (in64 w1))
  have h6 := Lib.hid (refmul_any a0 a1 (in64 w0) (in64 w1))
  rw [mulTold_eq, mulIs_eq] at h3
  generalize told (a0 + a1) = s at *
  generalize told (a0 - a1) = t at *
  generalize told (a0 * a1) = p at *
  generalize isIn (a0 + a1) = x at *
  generalize isIn (a0 - a1) = y at *
  generalize isIn (a0 * a1) = z at *
  clear w0 w1
  go_enter Try.func3, Try.ntmps3
  go_wp2_with fail
  refine (awake_any _).mono ?_
  rintro e u1 ⟨rfl, b1⟩
  have k1 := (Kept.refl w).call b1
  go_wp2_with fail
  refine (h1.out _).mono ?_
  rintro e u ⟨rfl, rfl⟩
  go_wp2_with fail
  refine (h2.out _).mono ?_
  rintro e u ⟨rfl, rfl⟩
  go_wp2_with fail
  refine (h3.out _).mono ?_
  rintro e u2 ⟨rfl, b2⟩
  have k2 := k1.call b2
  go_wp2_with fail
  refine (h4.out _).mono ?_
  rintro e u ⟨rfl, rfl⟩
  go_wp2_with fail
  refine (h5.out _).mono ?_
  rintro e u ⟨rfl, rfl⟩
  go_wp2_with fail
  refine (h6.out _).mono ?_
  rintro e u ⟨rfl, rfl⟩
  go_wp2
  go_ret
  exact ⟨rfl, k2.1⟩

set_option maxHeartbeats 1000000 in
theorem NumParts_walk (a0 : Int) (a1 : Int) (w : World) (_ : (Lit.int .i64 a0).wf = true) (_ : (Lit.int .i64 a1).wf = true) :
    Calls Try.prog 4 #[.int .i64 a0, .int .i64 a1] w fun e w' => e = .returned (.bool true) ∧ Below w.heap.size w w' := by
  have h1 := Lib.hid (up_any a0 a1)
  have h2 := Lib.hid (down_any a0 a1)
  have h3 := Lib.hid (refup_any a0 a1)
  have h4 := Lib.hid (refdown_any a0 a1)
  generalize upTold a0 a1 = s at *
  generalize dnTold a0 a1 = t at *
  generalize mayB a0 a1 = x at *
  go_enter Try.func4, Try.ntmps4
  go_wp2_with fail
  refine (awake_any _).mono ?_
  rintro e u1 ⟨rfl, b1⟩
  have k1 := (Kept.refl w).call b1
  go_wp2_with fail
  refine (h1.out _).mono ?_
  rintro e u2 ⟨rfl, b2⟩
  have k2 := k1.call b2
  go_wp2_with fail
  refine (h2.out _).mono ?_
  rintro e u3 ⟨rfl, b3⟩
  have k3 := k2.call b3
  go_wp2_with fail
  refine (h3.out _).mono ?_
  rintro e u ⟨rfl, rfl⟩
  go_wp2_with fail
  refine (h4.out _).mono ?_
  rintro e u ⟨rfl, rfl⟩
  go_wp2
  go_ret
  exact ⟨rfl, k3.1⟩

theorem told_wf (n : Int) : -9223372036854775808 ≤ told n ∧ told n ≤ 9223372036854775807 := by unfold told; split <;> omega

set_option maxHeartbeats 1000000 in
theorem NumBack_walk (a0 : Int) (a1 : Int) (w : World) (w0 : (Lit.int .i64 a0).wf = true) (w1 : (Lit.int .i64 a1).wf = true) :
    Calls Try.prog 7 #[.int .i64 a0, .int .i64 a1] w fun e w' => e = .returned (.bool true) ∧ Below w.heap.size w w' := by
  have r0 := in64 w0
  have r1 := in64 w1
  have h1 := Lib.hid (add_any a0 a1 r0 r1)
  have h2 := Lib.hid (add_any a1 a0 r1 r0)
  have h3 := Lib.hid (mul_any a0 a1 r0 r1)
  have h4 := Lib.hid (mul_any a1 a0 r1 r0)
  have h5 := Lib.hid (mul_any a0 1 r0 (by decide))
  have h6 := Lib.hid (mul_any a0 (-1) r0 (by decide))
  have h7 := Lib.hid (sub_any 0 a0 (by decide) r0)
  have h8 := Lib.hid (sub_any (told (a0 + a1)) a1 (told_wf _) r1)
  have h9 : Hid (isIn (a0 + a1) = true → told (told (a0 + a1) - a1) = a0 ∧ isIn (told (a0 + a1) - a1) = true) := Lib.hid (fun h => by
    have hin := of_decide_eq_true h
    rw [(told_in hin).1, show a0 + a1 - a1 = a0 by omega]
    exact told_in r0)
  rw [mulTold_eq, mulIs_eq] at h3 h4 h5 h6
  rw [Int.add_comm a1 a0] at h2
  rw [Int.mul_comm a1 a0] at h4
  rw [Int.mul_one, (told_in r0).1, (told_in r0).2] at h5
  rw [show a0 * -1 = 0 - a0 by omega] at h6
  generalize told (told (a0 + a1) - a1) = bk at *
  generalize isIn (told (a0 + a1) - a1) = so at *
  generalize told (a0 + a1) = s at *
  generalize told (a0 * a1) = p at *
  generalize told (0 - a0) = t at *
  generalize isIn (a0 + a1) = x at *
  generalize isIn (0 - a0) = y at *
  generalize isIn (a0 * a1) = z at *
  clear w0 w1 r0 r1
  cases x
  · go_enter Try.func7, Try.ntmps7
    go_wp2_with fail
    refine (awake_any _).mono ?_
    rintro e u1 ⟨rfl, b1⟩
    have k1 := (Kept.refl w).call b1
    go_wp2_with fail
    refine (h1.out _).mono ?_
    rintro e u ⟨rfl, rfl⟩
    go_wp2_with fail
    refine (h2.out _).mono ?_
    rintro e u ⟨rfl, rfl⟩
    go_wp2_with fail
    refine (h3.out _).mono ?_
    rintro e u3 ⟨rfl, b3⟩
    have k3 := k1.call b3
    go_wp2_with fail
    refine (h4.out _).mono ?_
    rintro e u4 ⟨rfl, b4⟩
    have k4 := k3.call b4
    go_wp2_with fail
    refine (h5.out _).mono ?_
    rintro e u5 ⟨rfl, b5⟩
    have k5 := k4.call b5
    go_wp2_with fail
    refine (h6.out _).mono ?_
    rintro e u6 ⟨rfl, b6⟩
    have k6 := k5.call b6
    go_wp2_with fail
    refine (h7.out _).mono ?_
    rintro e u ⟨rfl, rfl⟩
    go_wp2
    go_ret
    exact ⟨rfl, k6.1⟩
  · obtain ⟨rfl, rfl⟩ := h9.out rfl
    go_enter Try.func7, Try.ntmps7
    go_wp2_with fail
    refine (awake_any _).mono ?_
    rintro e u1 ⟨rfl, b1⟩
    have k1 := (Kept.refl w).call b1
    go_wp2_with fail
    refine (h1.out _).mono ?_
    rintro e u ⟨rfl, rfl⟩
    go_wp2_with fail
    refine (h2.out _).mono ?_
    rintro e u ⟨rfl, rfl⟩
    go_wp2_with fail
    refine (h3.out _).mono ?_
    rintro e u3 ⟨rfl, b3⟩
    have k3 := k1.call b3
    go_wp2_with fail
    refine (h4.out _).mono ?_
    rintro e u4 ⟨rfl, b4⟩
    have k4 := k3.call b4
    go_wp2_with fail
    refine (h5.out _).mono ?_
    rintro e u5 ⟨rfl, b5⟩
    have k5 := k4.call b5
    go_wp2_with fail
    refine (h6.out _).mono ?_
    rintro e u6 ⟨rfl, b6⟩
    have k6 := k5.call b6
    go_wp2_with fail
    refine (h7.out _).mono ?_
    rintro e u ⟨rfl, rfl⟩
    go_wp2_with fail
    refine (h8.out _).mono ?_
    rintro e u ⟨rfl, rfl⟩
    go_wp2
    go_ret
    exact ⟨rfl, k6.1⟩
end Go.Proofs.Ytmlpgdhdndmlaaa
