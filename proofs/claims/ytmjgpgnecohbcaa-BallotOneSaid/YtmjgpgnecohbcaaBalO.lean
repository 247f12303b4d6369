/- The walk of BallotOne. -/
import Derived.Test.YtmjgpgnecohbcaaBalL
namespace Go.Proofs.Ytmjgpgnecohbcaa
open Go.RowKit

set_option maxRecDepth 100000 in
set_option maxHeartbeats 2000000 in
theorem BallotOne_walk (a0 : List Value) (a1 : List Value) (a2 : List Value) (w : World) (w0 : (fun w cs => cs.length = 2 ∧ IsStruct [(0, 1, (IsInt .i64)), (1, 1, (IsInt .i64))] w cs : World → List Value → Prop) w a0) (w1 : (fun w cs => cs.length = 2 ∧ IsStruct [(0, 1, (IsInt .i64)), (1, 1, (IsInt .i64))] w cs : World → List Value → Prop) w a1) (w2 : (fun w cs => cs.length = 2 ∧ IsStruct [(0, 1, (IsInt .i64)), (1, 1, (IsInt .i64))] w cs : World → List Value → Prop) w a2) :
    Calls Try.prog 5 #[.agg a0.toArray, .agg a1.toArray, .agg a2.toArray] w fun e w' => e = .returned (.bool true) ∧ Below w.heap.size w w' := by
  obtain ⟨r0, s0, rfl, -, -⟩ := ballot_of w0
  obtain ⟨r1, s1, rfl, -, -⟩ := ballot_of w1
  obtain ⟨r2, s2, rfl, -, -⟩ := ballot_of w2
  clear w0 w1 w2
  have h1 := Lib.hid (compare_any r0 s0 r1 s1)
  have h2 := Lib.hid (compare_any r1 s1 r2 s2)
  have h3 := Lib.hid (compare_any r0 s0 r2 s2)
  have h4 := Lib.hid (compare_any r1 s1 r0 s0)
  rw [cmp_back] at h4
  have z1 := cmp_zero r0 s0 r1 s1
  have x1 := cmp_range r0 s0 r1 s1
  have x2 := cmp_range r1 s1 r2 s2
  have x3 := cmp_range r0 s0 r2 s2
  obtain ⟨t1, t2⟩ := cmp_trans r0 s0 r1 s1 r2 s2
  generalize cmpB r0 s0 r1 s1 = x at *
  generalize cmpB r1 s1 r2 s2 = y at *
  generalize cmpB r0 s0 r2 s2 = z at *
  have HW : ∃ W0, W0 = (((w.alloc (.cells #[.int .i64 r0, .int .i64 s0] 23)).alloc (.cells #[.int .i64 r1, .int .i64 s1] 23)).alloc (.cells #[.int .i64 r2, .int .i64 s2] 23)) ∧ Kept w W0 ∧ Bx W0 w.heap.size r0 s0 ∧ Bx W0 (w.heap.size + 1) r1 s1 ∧ Bx W0 (w.heap.size + 1 + 1) r2 s2 := by
    refine ⟨_, rfl, (((Kept.refl w).alloc _).alloc _).alloc _, ((Bx.new w r0 s0).old _).old _, ?_, ?_⟩
    · have := (Bx.new (w.alloc (.cells #[.int .i64 r0, .int .i64 s0] 23)) r1 s1).old (.cells #[.int .i64 r2, .int .i64 s2] 23)
      rwa [World.size_alloc] at this
    · have := Bx.new ((w.alloc (.cells #[.int .i64 r0, .int .i64 s0] 23)).alloc (.cells #[.int .i64 r1, .int .i64 s1] 23)) r2 s2
      rwa [World.size_alloc, World.size_alloc] at this
  obtain ⟨W0, hW0, k0, bx0, bx1, bx2⟩ := HW
  have HW0 := Lib.hid hW0.symm
  have K0 := Lib.hid k0
  have P0 := Lib.hid bx0
  have P1 := Lib.hid bx1
  have P2 := Lib.hid bx2
  clear hW0 k0 bx0 bx1 bx2
  have HZ := Lib.hid z1
  clear z1
  have T1 : Hid ((x ≤ 0 → y ≤ 0 → z ≤ 0) ∧ (x < 0 → y < 0 → z < 0)) := Lib.hid ⟨t1, t2⟩
  clear t1 t2
  rcases x1 with rfl | rfl | rfl
  · have he : ¬ r0 = r1 ∨ r0 = r1 ∧ ¬ s0 = s1 := by have := HZ.out; omega
    clear HZ
    rcases he with he | ⟨rfl, he⟩ <;> rcases x2 with rfl | rfl | rfl <;> rcases x3 with rfl | rfl | rfl <;> first
      | (exfalso; have := T1.out; omega)
      | (
        go_enter Try.func5, Try.ntmps5
        go_wp2_with fail
        rw [HW0.out]
        refine (awake8_any _).mono ?_
        rintro e u1 ⟨rfl, b1⟩
        have k1 := (Kept.refl W0).call b1
        have p00 := (P0.out.kept k1).c0
        have p01 := (P0.out.kept k1).c1
        have p10 := (P1.out.kept k1).c0
        have p11 := (P1.out.kept k1).c1
        go_wp2_with fail
        refine (h1.out _).mono ?_
        rintro e u2 ⟨rfl, b2⟩
        have k2 := k1.call b2
        clear p00 p01 p10 p11
        have p10 := (P1.out.kept k2).c0
        have p11 := (P1.out.kept k2).c1
        have p20 := (P2.out.kept k2).c0
        have p21 := (P2.out.kept k2).c1
        go_wp2_with fail
        refine (h2.out _).mono ?_
        rintro e u3 ⟨rfl, b3⟩
        have k3 := k2.call b3
        clear p10 p11 p20 p21
        have p00 := (P0.out.kept k3).c0
        have p01 := (P0.out.kept k3).c1
        have p20 := (P2.out.kept k3).c0
        have p21 := (P2.out.kept k3).c1
        go_wp2_with fail
        refine (h3.out _).mono ?_
        rintro e u4 ⟨rfl, b4⟩
        have k4 := k3.call b4
        clear p00 p01 p20 p21
        have p00 := (P0.out.kept k4).c0
        have p01 := (P0.out.kept k4).c1
        have p10 := (P1.out.kept k4).c0
        have p11 := (P1.out.kept k4).c1
        go_wp2_with fail
        refine (h4.out _).mono ?_
        rintro e u5 ⟨rfl, b5⟩
        have k5 := K0.out.trans (k4.call b5)
        clear p00 p01 p10 p11
        have p00 := (P0.out.kept (k4.call b5)).c0
        have p01 := (P0.out.kept (k4.call b5)).c1
        have p10 := (P1.out.kept (k4.call b5)).c0
        have p11 := (P1.out.kept (k4.call b5)).c1
        go_wp2
        go_ret
        exact ⟨rfl, k5.1⟩)
  · obtain ⟨rfl, rfl⟩ := HZ.out.1 rfl
    rcases x2 with rfl | rfl | rfl <;> rcases x3 with rfl | rfl | rfl <;> first
      | (exfalso; have := T1.out; omega)
      | (
        go_enter Try.func5, Try.ntmps5
        go_wp2_with fail
        rw [HW0.out]
        refine (awake8_any _).mono ?_
        rintro e u1 ⟨rfl, b1⟩
        have k1 := (Kept.refl W0).call b1
        have p00 := (P0.out.kept k1).c0
        have p01 := (P0.out.kept k1).c1
        have p10 := (P1.out.kept k1).c0
        have p11 := (P1.out.kept k1).c1
        go_wp2_with fail
        refine (h1.out _).mono ?_
        rintro e u2 ⟨rfl, b2⟩
        have k2 := k1.call b2
        clear p00 p01 p10 p11
        have p10 := (P1.out.kept k2).c0
        have p11 := (P1.out.kept k2).c1
        have p20 := (P2.out.kept k2).c0
        have p21 := (P2.out.kept k2).c1
        go_wp2_with fail
        refine (h2.out _).mono ?_
        rintro e u3 ⟨rfl, b3⟩
        have k3 := k2.call b3
        clear p10 p11 p20 p21
        have p00 := (P0.out.kept k3).c0
        have p01 := (P0.out.kept k3).c1
        have p20 := (P2.out.kept k3).c0
        have p21 := (P2.out.kept k3).c1
        go_wp2_with fail
        refine (h3.out _).mono ?_
        rintro e u4 ⟨rfl, b4⟩
        have k4 := k3.call b4
        clear p00 p01 p20 p21
        have p00 := (P0.out.kept k4).c0
        have p01 := (P0.out.kept k4).c1
        have p10 := (P1.out.kept k4).c0
        have p11 := (P1.out.kept k4).c1
        go_wp2_with fail
        refine (h4.out _).mono ?_
        rintro e u5 ⟨rfl, b5⟩
        have k5 := K0.out.trans (k4.call b5)
        clear p00 p01 p10 p11
        have p00 := (P0.out.kept (k4.call b5)).c0
        have p01 := (P0.out.kept (k4.call b5)).c1
        have p10 := (P1.out.kept (k4.call b5)).c0
        have p11 := (P1.out.kept (k4.call b5)).c1
        go_wp2
        go_ret
        exact ⟨rfl, k5.1⟩)
  · have he : ¬ r0 = r1 ∨ r0 = r1 ∧ ¬ s0 = s1 := by have := HZ.out; omega
    clear HZ
    rcases he with he | ⟨rfl, he⟩ <;> rcases x2 with rfl | rfl | rfl <;> rcases x3 with rfl | rfl | rfl <;> first
      | (exfalso; have := T1.out; omega)
      | (
        go_enter Try.func5, Try.ntmps5
        go_wp2_with fail
        rw [HW0.out]
        refine (awake8_any _).mono ?_
        rintro e u1 ⟨rfl, b1⟩
        have k1 := (Kept.refl W0).call b1
        have p00 := (P0.out.kept k1).c0
        have p01 := (P0.out.kept k1).c1
        have p10 := (P1.out.kept k1).c0
        have p11 := (P1.out.kept k1).c1
        go_wp2_with fail
        refine (h1.out _).mono ?_
        rintro e u2 ⟨rfl, b2⟩
        have k2 := k1.call b2
        clear p00 p01 p10 p11
        have p10 := (P1.out.kept k2).c0
        have p11 := (P1.out.kept k2).c1
        have p20 := (P2.out.kept k2).c0
        have p21 := (P2.out.kept k2).c1
        go_wp2_with fail
        refine (h2.out _).mono ?_
        rintro e u3 ⟨rfl, b3⟩
        have k3 := k2.call b3
        clear p10 p11 p20 p21
        have p00 := (P0.out.kept k3).c0
        have p01 := (P0.out.kept k3).c1
        have p20 := (P2.out.kept k3).c0
        have p21 := (P2.out.kept k3).c1
        go_wp2_with fail
        refine (h3.out _).mono ?_
        rintro e u4 ⟨rfl, b4⟩
        have k4 := k3.call b4
        clear p00 p01 p20 p21
        have p00 := (P0.out.kept k4).c0
        have p01 := (P0.out.kept k4).c1
        have p10 := (P1.out.kept k4).c0
        have p11 := (P1.out.kept k4).c1
        go_wp2_with fail
        refine (h4.out _).mono ?_
        rintro e u5 ⟨rfl, b5⟩
        have k5 := K0.out.trans (k4.call b5)
        clear p00 p01 p10 p11
        have p00 := (P0.out.kept (k4.call b5)).c0
        have p01 := (P0.out.kept (k4.call b5)).c1
        have p10 := (P1.out.kept (k4.call b5)).c0
        have p11 := (P1.out.kept (k4.call b5)).c1
        go_wp2
        go_ret
        exact ⟨rfl, k5.1⟩)
end Go.Proofs.Ytmjgpgnecohbcaa
