/- The walk of BallotNext. -/
import Derived.Test.YtmjgpgnecohbcaaBalL
namespace Go.Proofs.Ytmjgpgnecohbcaa
open Go.RowKit

theorem next_pos (r : Int) : 1 ≤ nextR r := by unfold nextR; repeat' split <;> omega
theorem next_more (r s t : Int) (h : r < 1099511627776) : cmpB (nextR r) t r s = 1 := by
  have : r < nextR r := by unfold nextR; repeat' split <;> omega
  unfold cmpB
  rw [if_neg (by omega), if_neg (by omega)]
theorem next_zero (r t : Int) : cmpB (nextR r) t 0 0 = 1 := by
  have := next_pos r
  unfold cmpB
  rw [if_neg (by omega), if_neg (by omega)]

set_option maxRecDepth 100000 in
set_option maxHeartbeats 2000000 in
theorem BallotNext_walk (a0 : List Value) (a1 : Int) (a2 : Int) (w : World) (w0 : (fun w cs => cs.length = 2 ∧ IsStruct [(0, 1, (IsInt .i64)), (1, 1, (IsInt .i64))] w cs : World → List Value → Prop) w a0) (_ : (Lit.int .i64 a1).wf = true) (_ : (Lit.int .i64 a2).wf = true) :
    Calls Try.prog 6 #[.agg a0.toArray, .int .i64 a1, .int .i64 a2] w fun e w' => e = .returned (.bool true) ∧ Below w.heap.size w w' := by
  obtain ⟨r0, s0, rfl, -, -⟩ := ballot_of w0
  clear w0
  have h1 := Lib.hid (next_any r0 s0 a1)
  have h2 := Lib.hid (next_any r0 s0 a2)
  have h3 := Lib.hid (compare_any (nextR r0) a1 r0 s0)
  have h4 := Lib.hid (compare_any (nextR r0) a1 0 0)
  have hp := next_pos r0
  rw [next_zero] at h4
  have hm : Hid (r0 < 1099511627776 → cmpB (nextR r0) a1 r0 s0 = 1) := Lib.hid (next_more r0 s0 a1)
  generalize nextR r0 = x at *
  by_cases hr : r0 < 1099511627776
  · rw [hm.out hr] at h3
    clear hm
    by_cases he : a1 = a2
    · subst he
      go_enter Try.func6, Try.ntmps6
      go_wp2_with fail
      refine (awake8_any _).mono ?_
      rintro e u1 ⟨rfl, b1⟩
      have k1 := (Kept.refl _).call b1
      have p00 := ((Bx.new w r0 s0).kept k1).c0
      have p01 := ((Bx.new w r0 s0).kept k1).c1
      go_wp2_with fail
      refine (h1.out _).mono ?_
      rintro e u2 ⟨rfl, b2⟩
      have k2 := k1.call b2
      clear p00 p01
      have B := ((Bx.new w r0 s0).kept k2).old (.cells #[.int .i64 x, .int .i64 a1] 23)
      have p00 := B.c0
      have p01 := B.c1
      have HB := Lib.hid B
      clear B
      go_wp2_with fail
      refine (h2.out _).mono ?_
      rintro e u3 ⟨rfl, b3⟩
      have k3 := (Kept.refl _).call b3
      clear p00 p01
      have B := (HB.out.kept k3).old (.cells #[.int .i64 x, .int .i64 a1] 23)
      have X := ((Bx.new u2 x a1).kept k3).old (.cells #[.int .i64 x, .int .i64 a1] 23)
      have Y := Bx.new u3 x a1
      have p00 := B.c0
      have p01 := B.c1
      have p10 := X.c0
      have p11 := X.c1
      have p20 := Y.c0
      have p21 := Y.c1
      have HX := Lib.hid X
      have HY := Lib.hid Y
      have K3 : Hid (Kept w (u3.alloc (.cells #[.int .i64 x, .int .i64 a1] 23))) := Lib.hid ((((((Kept.refl w).alloc _).trans k2).alloc _).trans k3).alloc _)
      clear B X Y
      go_wp2_with fail
      refine (h3.out _).mono ?_
      rintro e u4 ⟨rfl, b4⟩
      have k4 := (Kept.refl _).call b4
      clear p00 p01 p10 p11 p20 p21
      have p10 := (HX.out.kept k4).c0
      have p11 := (HX.out.kept k4).c1
      have p20 := (HY.out.kept k4).c0
      have p21 := (HY.out.kept k4).c1
      have K4 := Lib.hid (K3.out.trans k4)
      go_wp2_with fail
      refine (h4.out _).mono ?_
      rintro e u5 ⟨rfl, b5⟩
      go_wp2
      go_ret
      exact ⟨rfl, (K4.out.call b5).1⟩
    · (
      go_enter Try.func6, Try.ntmps6
      go_wp2_with fail
      refine (awake8_any _).mono ?_
      rintro e u1 ⟨rfl, b1⟩
      have k1 := (Kept.refl _).call b1
      have p00 := ((Bx.new w r0 s0).kept k1).c0
      have p01 := ((Bx.new w r0 s0).kept k1).c1
      go_wp2_with fail
      refine (h1.out _).mono ?_
      rintro e u2 ⟨rfl, b2⟩
      have k2 := k1.call b2
      clear p00 p01
      have B := ((Bx.new w r0 s0).kept k2).old (.cells #[.int .i64 x, .int .i64 a1] 23)
      have p00 := B.c0
      have p01 := B.c1
      have HB := Lib.hid B
      clear B
      go_wp2_with fail
      refine (h2.out _).mono ?_
      rintro e u3 ⟨rfl, b3⟩
      have k3 := (Kept.refl _).call b3
      clear p00 p01
      have B := (HB.out.kept k3).old (.cells #[.int .i64 x, .int .i64 a2] 23)
      have X := ((Bx.new u2 x a1).kept k3).old (.cells #[.int .i64 x, .int .i64 a2] 23)
      have Y := Bx.new u3 x a2
      have p00 := B.c0
      have p01 := B.c1
      have p10 := X.c0
      have p11 := X.c1
      have p20 := Y.c0
      have p21 := Y.c1
      have HX := Lib.hid X
      have HY := Lib.hid Y
      have K3 : Hid (Kept w (u3.alloc (.cells #[.int .i64 x, .int .i64 a2] 23))) := Lib.hid ((((((Kept.refl w).alloc _).trans k2).alloc _).trans k3).alloc _)
      clear B X Y
      go_wp2_with fail
      refine (h3.out _).mono ?_
      rintro e u4 ⟨rfl, b4⟩
      have k4 := (Kept.refl _).call b4
      clear p00 p01 p10 p11 p20 p21
      have p10 := (HX.out.kept k4).c0
      have p11 := (HX.out.kept k4).c1
      have p20 := (HY.out.kept k4).c0
      have p21 := (HY.out.kept k4).c1
      have K4 := Lib.hid (K3.out.trans k4)
      go_wp2_with fail
      refine (h4.out _).mono ?_
      rintro e u5 ⟨rfl, b5⟩
      go_wp2
      go_ret
      exact ⟨by go_simp, (K4.out.call b5).1⟩)
  · clear hm h3
    by_cases he : a1 = a2
    · subst he
      go_enter Try.func6, Try.ntmps6
      go_wp2_with fail
      refine (awake8_any _).mono ?_
      rintro e u1 ⟨rfl, b1⟩
      have k1 := (Kept.refl _).call b1
      have p00 := ((Bx.new w r0 s0).kept k1).c0
      have p01 := ((Bx.new w r0 s0).kept k1).c1
      go_wp2_with fail
      refine (h1.out _).mono ?_
      rintro e u2 ⟨rfl, b2⟩
      have k2 := k1.call b2
      clear p00 p01
      have B := ((Bx.new w r0 s0).kept k2).old (.cells #[.int .i64 x, .int .i64 a1] 23)
      have p00 := B.c0
      have p01 := B.c1
      have HB := Lib.hid B
      clear B
      go_wp2_with fail
      refine (h2.out _).mono ?_
      rintro e u3 ⟨rfl, b3⟩
      have k3 := (Kept.refl _).call b3
      clear p00 p01
      have B := (HB.out.kept k3).old (.cells #[.int .i64 x, .int .i64 a1] 23)
      have X := ((Bx.new u2 x a1).kept k3).old (.cells #[.int .i64 x, .int .i64 a1] 23)
      have Y := Bx.new u3 x a1
      have p00 := B.c0
      have p01 := B.c1
      have p10 := X.c0
      have p11 := X.c1
      have p20 := Y.c0
      have p21 := Y.c1
      have HX := Lib.hid X
      have HY := Lib.hid Y
      have K3 : Hid (Kept w (u3.alloc (.cells #[.int .i64 x, .int .i64 a1] 23))) := Lib.hid ((((((Kept.refl w).alloc _).trans k2).alloc _).trans k3).alloc _)
      clear B X Y
      go_wp2_with fail
      refine (h4.out _).mono ?_
      rintro e u5 ⟨rfl, b5⟩
      go_wp2
      go_ret
      exact ⟨rfl, (K3.out.call b5).1⟩
    · (
      go_enter Try.func6, Try.ntmps6
      go_wp2_with fail
      refine (awake8_any _).mono ?_
      rintro e u1 ⟨rfl, b1⟩
      have k1 := (Kept.refl _).call b1
      have p00 := ((Bx.new w r0 s0).kept k1).c0
      have p01 := ((Bx.new w r0 s0).kept k1).c1
      go_wp2_with fail
      refine (h1.out _).mono ?_
      rintro e u2 ⟨rfl, b2⟩
      have k2 := k1.call b2
      clear p00 p01
      have B := ((Bx.new w r0 s0).kept k2).old (.cells #[.int .i64 x, .int .i64 a1] 23)
      have p00 := B.c0
      have p01 := B.c1
      have HB := Lib.hid B
      clear B
      go_wp2_with fail
      refine (h2.out _).mono ?_
      rintro e u3 ⟨rfl, b3⟩
      have k3 := (Kept.refl _).call b3
      clear p00 p01
      have B := (HB.out.kept k3).old (.cells #[.int .i64 x, .int .i64 a2] 23)
      have X := ((Bx.new u2 x a1).kept k3).old (.cells #[.int .i64 x, .int .i64 a2] 23)
      have Y := Bx.new u3 x a2
      have p00 := B.c0
      have p01 := B.c1
      have p10 := X.c0
      have p11 := X.c1
      have p20 := Y.c0
      have p21 := Y.c1
      have HX := Lib.hid X
      have HY := Lib.hid Y
      have K3 : Hid (Kept w (u3.alloc (.cells #[.int .i64 x, .int .i64 a2] 23))) := Lib.hid ((((((Kept.refl w).alloc _).trans k2).alloc _).trans k3).alloc _)
      clear B X Y
      go_wp2_with fail
      refine (h4.out _).mono ?_
      rintro e u5 ⟨rfl, b5⟩
      go_wp2
      go_ret
      exact ⟨by go_simp, (K3.out.call b5).1⟩)
end Go.Proofs.Ytmjgpgnecohbcaa
