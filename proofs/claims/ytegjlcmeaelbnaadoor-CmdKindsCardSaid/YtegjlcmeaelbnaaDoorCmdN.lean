/- The walk of CmdKinds: there are twelve kinds, and sixty-four clients. -/
import Derived.Test.YtegjlcmeaelbnaaDoorCmdU
namespace Go.Proofs.YtegjlcmeaelbnaaDoor
open Go.RowKit

set_option maxRecDepth 100000 in
set_option maxHeartbeats 1000000 in
theorem kinds_out (a0 a1 : Int) (w : World) (hg : Laid w) (h : a0 < 0 ∨ 11 < a0 ∨ a1 < 1 ∨ 64 < a1) :
    Calls Tryd.prog 8 #[.int .i64 a0, .int .i64 a1] w fun e w' => e = .returned (.bool true) ∧ Below w.heap.size w w' := by
  have hno : ¬ Ok [a0, a1, 1, 0, 0, 0, 0, 0, 0] := fun hk => by
    have h0 : 0 ≤ a0 ∧ a0 ≤ 11 := hk 0 (by decide)
    have h1 : 1 ≤ a1 ∧ a1 ≤ 64 := hk 1 (by decide)
    omega
  have hmay := fun w => may_any [a0, a1, 1, 0, 0, 0, 0, 0, 0] rfl w
  simp only [if_neg hno] at hmay
  unfold nums at *
  simp only [List.map_cons, List.map_nil] at *
  have HM := Lib.hid hmay
  have HG := Lib.hid hg
  clear hmay hno hg
  by_cases h0 : a0 < 0
  · have d0 : decide (a0 < 0) = true := by simp; omega
    clear h
    go_enter Tryd.func8, Tryd.ntmps8
    go_wp2_with (first
      | (go_at_call 9; refine (awake_any _ HG.out).mono ?_; rintro e w1 ⟨rfl, b1⟩
         have K1 := Lib.hid ((Kept.refl w).call b1)
         clear b1)
      | (go_at_call 14; refine (HM.out _).mono ?_; rintro e w2 ⟨rfl, b2⟩
         have K2 := Lib.hid ((K1.out.alloc _).call b2)
         clear b2)
      | fail)
    go_ret
    exact ⟨rfl, K2.out.1⟩
  · by_cases h1 : 11 < a0
    · have d0 : decide (a0 < 0) = false := by simp; omega
      have d1 : decide (a0 > 11) = true := by simp; omega
      have d1' : decide (11 < a0) = true := by simp; omega
      clear h
      go_enter Tryd.func8, Tryd.ntmps8
      go_wp2_with (first
        | (go_at_call 9; refine (awake_any _ HG.out).mono ?_; rintro e w1 ⟨rfl, b1⟩
           have K1 := Lib.hid ((Kept.refl w).call b1)
           clear b1)
        | (go_at_call 14; refine (HM.out _).mono ?_; rintro e w2 ⟨rfl, b2⟩
           have K2 := Lib.hid ((K1.out.alloc _).call b2)
           clear b2)
        | fail)
      go_ret
      exact ⟨rfl, K2.out.1⟩
    · by_cases h2 : a1 < 1
      · have d0 : decide (a0 < 0) = false := by simp; omega
        have d1 : decide (a0 > 11) = false := by simp; omega
        have d2 : decide (a1 < 1) = true := by simp; omega
        have d1' : decide (11 < a0) = false := by simp; omega
        clear h
        go_enter Tryd.func8, Tryd.ntmps8
        go_wp2_with (first
          | (go_at_call 9; refine (awake_any _ HG.out).mono ?_; rintro e w1 ⟨rfl, b1⟩
             have K1 := Lib.hid ((Kept.refl w).call b1)
             clear b1)
          | (go_at_call 14; refine (HM.out _).mono ?_; rintro e w2 ⟨rfl, b2⟩
             have K2 := Lib.hid ((K1.out.alloc _).call b2)
             clear b2)
          | fail)
        go_ret
        exact ⟨rfl, K2.out.1⟩
      · have h3 : 64 < a1 := by omega
        have d0 : decide (a0 < 0) = false := by simp; omega
        have d1 : decide (a0 > 11) = false := by simp; omega
        have d2 : decide (a1 < 1) = false := by simp; omega
        have d3 : decide (a1 > 64) = true := by simp; omega
        have d1' : decide (11 < a0) = false := by simp; omega
        have d3' : decide (64 < a1) = true := by simp; omega
        clear h
        go_enter Tryd.func8, Tryd.ntmps8
        go_wp2_with (first
          | (go_at_call 9; refine (awake_any _ HG.out).mono ?_; rintro e w1 ⟨rfl, b1⟩
             have K1 := Lib.hid ((Kept.refl w).call b1)
             clear b1)
          | (go_at_call 14; refine (HM.out _).mono ?_; rintro e w2 ⟨rfl, b2⟩
             have K2 := Lib.hid ((K1.out.alloc _).call b2)
             clear b2)
          | fail)
        go_ret
        exact ⟨rfl, K2.out.1⟩

set_option maxRecDepth 100000 in
set_option maxHeartbeats 1000000 in
theorem kinds_0 (a1 : Int) (w : World) (hg : Laid w) (h1 : 1 ≤ a1) (h2 : a1 ≤ 64) :
    Calls Tryd.prog 8 #[.int .i64 0, .int .i64 a1] w fun e w' => e = .returned (.bool true) ∧ Below w.heap.size w w' := by
  have hok : Ok [0, a1, 1, 0, 0, 0, 0, 0, 0] := (ok_set (ns := [0, 1, 1, 0, 0, 0, 0, 0, 0]) rfl (by decide) 1 (by decide) (by decide) a1).2 ⟨h1, h2⟩
  have hmay := fun w => may_any [0, a1, 1, 0, 0, 0, 0, 0, 0] rfl w
  simp only [if_pos hok] at hmay
  have huses := fun w => uses_0 w
  have hV : usesV 0 = .agg #[.bool false, .bool false, .bool false, .bool false, .bool false] := by kernel_rfl
  rw [hV] at huses
  unfold nums at *
  simp only [List.map_cons, List.map_nil] at *
  have d2 : decide (a1 < 1) = false := by simp; omega
  have d3 : decide (a1 > 64) = false := by simp; omega
  have d3' : decide (64 < a1) = false := by simp; omega
  have HM := Lib.hid hmay
  have HU := Lib.hid huses
  have HG := Lib.hid hg
  clear hmay hok hg huses hV
  go_enter Tryd.func8, Tryd.ntmps8
  go_wp2_with (first
    | (go_at_call 9; refine (awake_any _ HG.out).mono ?_; rintro e w1 ⟨rfl, b1⟩
       have K1 := Lib.hid ((Kept.refl w).call b1)
       have HC1 := Lib.hid (push_new w1 (.cells #[.int .i64 0, .int .i64 a1, .int .i64 1, .int .i64 0, .int .i64 0, .int .i64 0, .int .i64 0, .int .i64 0, .int .i64 0] 23))
       clear b1)
    | (go_at_call 17; refine (HU.out _).mono ?_; rintro e w2 ⟨rfl, b2⟩
       have hc2 := (b2.block w1.heap.size (by simp)).trans HC1.out
       have hc3 := (push_old w2 (.cells #[.bool false, .bool false, .bool false, .bool false, .bool false] 44) (heap_lt hc2)).trans hc2
       have K2 := Lib.hid (((K1.out.alloc _).call b2).alloc (.cells #[.bool false, .bool false, .bool false, .bool false, .bool false] 44))
       have hlt := heap_lt hc2
       have hne : ¬ w2.heap.size = w1.heap.size := by omega
       have hne' : ¬ w1.heap.size = w2.heap.size := by omega
       have p0 := cell_of_heap hc3 0; have p1 := cell_of_heap hc3 1; have p2 := cell_of_heap hc3 2; have p3 := cell_of_heap hc3 3; have p4 := cell_of_heap hc3 4; have p5 := cell_of_heap hc3 5; have p6 := cell_of_heap hc3 6; have p7 := cell_of_heap hc3 7; have p8 := cell_of_heap hc3 8; have f0 := frozen_of_heap hc3 0; have f1 := frozen_of_heap hc3 1; have f2 := frozen_of_heap hc3 2; have f3 := frozen_of_heap hc3 3; have f4 := frozen_of_heap hc3 4; have f5 := frozen_of_heap hc3 5; have f6 := frozen_of_heap hc3 6; have f7 := frozen_of_heap hc3 7; have f8 := frozen_of_heap hc3 8; simp only [List.getElem?_toArray, List.getElem?_cons_zero, List.getElem?_cons_succ] at p0 p1 p2 p3 p4 p5 p6 p7 p8
       have HLT := Lib.hid hlt
       clear b2 hc2 hc3 hlt)
    | (go_at_call 14; refine (HM.out _).mono ?_; rintro e w3 ⟨rfl, b3⟩
       have B3 := Lib.hid b3
       clear b3)
    | fail)
  go_ret
  have hle : w.heap.size ≤ w1.heap.size := K1.out.2
  refine ⟨rfl, (Kept.call ?_ B3.out).1⟩
  repeat (first | with_reducible exact K2.out | with_reducible refine Kept.setCell ?_ (p := ⟨w1.heap.size, _, none⟩) hle _)

set_option maxRecDepth 100000 in
set_option maxHeartbeats 1000000 in
theorem kinds_1 (a1 : Int) (w : World) (hg : Laid w) (h1 : 1 ≤ a1) (h2 : a1 ≤ 64) :
    Calls Tryd.prog 8 #[.int .i64 1, .int .i64 a1] w fun e w' => e = .returned (.bool true) ∧ Below w.heap.size w w' := by
  have hok : Ok [1, a1, 1, 0, 2, 0, 7, 8, 0] := (ok_set (ns := [1, 1, 1, 0, 2, 0, 7, 8, 0]) rfl (by decide) 1 (by decide) (by decide) a1).2 ⟨h1, h2⟩
  have hmay := fun w => may_any [1, a1, 1, 0, 2, 0, 7, 8, 0] rfl w
  simp only [if_pos hok] at hmay
  have huses := fun w => uses_1 w
  have hV : usesV 1 = .agg #[.bool true, .bool false, .bool true, .bool true, .bool false] := by kernel_rfl
  rw [hV] at huses
  unfold nums at *
  simp only [List.map_cons, List.map_nil] at *
  have d2 : decide (a1 < 1) = false := by simp; omega
  have d3 : decide (a1 > 64) = false := by simp; omega
  have d3' : decide (64 < a1) = false := by simp; omega
  have HM := Lib.hid hmay
  have HU := Lib.hid huses
  have HG := Lib.hid hg
  clear hmay hok hg huses hV
  go_enter Tryd.func8, Tryd.ntmps8
  go_wp2_with (first
    | (go_at_call 9; refine (awake_any _ HG.out).mono ?_; rintro e w1 ⟨rfl, b1⟩
       have K1 := Lib.hid ((Kept.refl w).call b1)
       have HC1 := Lib.hid (push_new w1 (.cells #[.int .i64 1, .int .i64 a1, .int .i64 1, .int .i64 0, .int .i64 0, .int .i64 0, .int .i64 0, .int .i64 0, .int .i64 0] 23))
       clear b1)
    | (go_at_call 17; refine (HU.out _).mono ?_; rintro e w2 ⟨rfl, b2⟩
       have hc2 := (b2.block w1.heap.size (by simp)).trans HC1.out
       have hc3 := (push_old w2 (.cells #[.bool true, .bool false, .bool true, .bool true, .bool false] 44) (heap_lt hc2)).trans hc2
       have K2 := Lib.hid (((K1.out.alloc _).call b2).alloc (.cells #[.bool true, .bool false, .bool true, .bool true, .bool false] 44))
       have hlt := heap_lt hc2
       have hne : ¬ w2.heap.size = w1.heap.size := by omega
       have hne' : ¬ w1.heap.size = w2.heap.size := by omega
       have p0 := cell_of_heap hc3 0; have p1 := cell_of_heap hc3 1; have p2 := cell_of_heap hc3 2; have p3 := cell_of_heap hc3 3; have p4 := cell_of_heap hc3 4; have p5 := cell_of_heap hc3 5; have p6 := cell_of_heap hc3 6; have p7 := cell_of_heap hc3 7; have p8 := cell_of_heap hc3 8; have f0 := frozen_of_heap hc3 0; have f1 := frozen_of_heap hc3 1; have f2 := frozen_of_heap hc3 2; have f3 := frozen_of_heap hc3 3; have f4 := frozen_of_heap hc3 4; have f5 := frozen_of_heap hc3 5; have f6 := frozen_of_heap hc3 6; have f7 := frozen_of_heap hc3 7; have f8 := frozen_of_heap hc3 8; simp only [List.getElem?_toArray, List.getElem?_cons_zero, List.getElem?_cons_succ] at p0 p1 p2 p3 p4 p5 p6 p7 p8
       have HLT := Lib.hid hlt
       clear b2 hc2 hc3 hlt)
    | (go_at_call 14; refine (HM.out _).mono ?_; rintro e w3 ⟨rfl, b3⟩
       have B3 := Lib.hid b3
       clear b3)
    | fail)
  go_ret
  have hle : w.heap.size ≤ w1.heap.size := K1.out.2
  refine ⟨rfl, (Kept.call ?_ B3.out).1⟩
  repeat (first | with_reducible exact K2.out | with_reducible refine Kept.setCell ?_ (p := ⟨w1.heap.size, _, none⟩) hle _)

set_option maxRecDepth 100000 in
set_option maxHeartbeats 1000000 in
theorem kinds_2 (a1 : Int) (w : World) (hg : Laid w) (h1 : 1 ≤ a1) (h2 : a1 ≤ 64) :
    Calls Tryd.prog 8 #[.int .i64 2, .int .i64 a1] w fun e w' => e = .returned (.bool true) ∧ Below w.heap.size w w' := by
  have hok : Ok [2, a1, 1, 0, 2, 0, 0, 8, 0] := (ok_set (ns := [2, 1, 1, 0, 2, 0, 0, 8, 0]) rfl (by decide) 1 (by decide) (by decide) a1).2 ⟨h1, h2⟩
  have hmay := fun w => may_any [2, a1, 1, 0, 2, 0, 0, 8, 0] rfl w
  simp only [if_pos hok] at hmay
  have huses := fun w => uses_2 w
  have hV : usesV 2 = .agg #[.bool true, .bool false, .bool false, .bool true, .bool false] := by kernel_rfl
  rw [hV] at huses
  unfold nums at *
  simp only [List.map_cons, List.map_nil] at *
  have d2 : decide (a1 < 1) = false := by simp; omega
  have d3 : decide (a1 > 64) = false := by simp; omega
  have d3' : decide (64 < a1) = false := by simp; omega
  have HM := Lib.hid hmay
  have HU := Lib.hid huses
  have HG := Lib.hid hg
  clear hmay hok hg huses hV
  go_enter Tryd.func8, Tryd.ntmps8
  go_wp2_with (first
    | (go_at_call 9; refine (awake_any _ HG.out).mono ?_; rintro e w1 ⟨rfl, b1⟩
       have K1 := Lib.hid ((Kept.refl w).call b1)
       have HC1 := Lib.hid (push_new w1 (.cells #[.int .i64 2, .int .i64 a1, .int .i64 1, .int .i64 0, .int .i64 0, .int .i64 0, .int .i64 0, .int .i64 0, .int .i64 0] 23))
       clear b1)
    | (go_at_call 17; refine (HU.out _).mono ?_; rintro e w2 ⟨rfl, b2⟩
       have hc2 := (b2.block w1.heap.size (by simp)).trans HC1.out
       have hc3 := (push_old w2 (.cells #[.bool true, .bool false, .bool false, .bool true, .bool false] 44) (heap_lt hc2)).trans hc2
       have K2 := Lib.hid (((K1.out.alloc _).call b2).alloc (.cells #[.bool true, .bool false, .bool false, .bool true, .bool false] 44))
       have hlt := heap_lt hc2
       have hne : ¬ w2.heap.size = w1.heap.size := by omega
       have hne' : ¬ w1.heap.size = w2.heap.size := by omega
       have p0 := cell_of_heap hc3 0; have p1 := cell_of_heap hc3 1; have p2 := cell_of_heap hc3 2; have p3 := cell_of_heap hc3 3; have p4 := cell_of_heap hc3 4; have p5 := cell_of_heap hc3 5; have p6 := cell_of_heap hc3 6; have p7 := cell_of_heap hc3 7; have p8 := cell_of_heap hc3 8; have f0 := frozen_of_heap hc3 0; have f1 := frozen_of_heap hc3 1; have f2 := frozen_of_heap hc3 2; have f3 := frozen_of_heap hc3 3; have f4 := frozen_of_heap hc3 4; have f5 := frozen_of_heap hc3 5; have f6 := frozen_of_heap hc3 6; have f7 := frozen_of_heap hc3 7; have f8 := frozen_of_heap hc3 8; simp only [List.getElem?_toArray, List.getElem?_cons_zero, List.getElem?_cons_succ] at p0 p1 p2 p3 p4 p5 p6 p7 p8
       have HLT := Lib.hid hlt
       clear b2 hc2 hc3 hlt)
    | (go_at_call 14; refine (HM.out _).mono ?_; rintro e w3 ⟨rfl, b3⟩
       have B3 := Lib.hid b3
       clear b3)
    | fail)
  go_ret
  have hle : w.heap.size ≤ w1.heap.size := K1.out.2
  refine ⟨rfl, (Kept.call ?_ B3.out).1⟩
  repeat (first | with_reducible exact K2.out | with_reducible refine Kept.setCell ?_ (p := ⟨w1.heap.size, _, none⟩) hle _)

set_option maxRecDepth 100000 in
set_option maxHeartbeats 1000000 in
theorem kinds_3 (a1 : Int) (w : World) (hg : Laid w) (h1 : 1 ≤ a1) (h2 : a1 ≤ 64) :
    Calls Tryd.prog 8 #[.int .i64 3, .int .i64 a1] w fun e w' => e = .returned (.bool true) ∧ Below w.heap.size w w' := by
  have hok : Ok [3, a1, 1, 0, 2, 0, 7, 8, 0] := (ok_set (ns := [3, 1, 1, 0, 2, 0, 7, 8, 0]) rfl (by decide) 1 (by decide) (by decide) a1).2 ⟨h1, h2⟩
  have hmay := fun w => may_any [3, a1, 1, 0, 2, 0, 7, 8, 0] rfl w
  simp only [if_pos hok] at hmay
  have huses := fun w => uses_3 w
  have hV : usesV 3 = .agg #[.bool true, .bool false, .bool true, .bool true, .bool false] := by kernel_rfl
  rw [hV] at huses
  unfold nums at *
  simp only [List.map_cons, List.map_nil] at *
  have d2 : decide (a1 < 1) = false := by simp; omega
  have d3 : decide (a1 > 64) = false := by simp; omega
  have d3' : decide (64 < a1) = false := by simp; omega
  have HM := Lib.hid hmay
  have HU := Lib.hid huses
  have HG := Lib.hid hg
  clear hmay hok hg huses hV
  go_enter Tryd.func8, Tryd.ntmps8
  go_wp2_with (first
    | (go_at_call 9; refine (awake_any _ HG.out).mono ?_; rintro e w1 ⟨rfl, b1⟩
       have K1 := Lib.hid ((Kept.refl w).call b1)
       have HC1 := Lib.hid (push_new w1 (.cells #[.int .i64 3, .int .i64 a1, .int .i64 1, .int .i64 0, .int .i64 0, .int .i64 0, .int .i64 0, .int .i64 0, .int .i64 0] 23))
       clear b1)
    | (go_at_call 17; refine (HU.out _).mono ?_; rintro e w2 ⟨rfl, b2⟩
       have hc2 := (b2.block w1.heap.size (by simp)).trans HC1.out
       have hc3 := (push_old w2 (.cells #[.bool true, .bool false, .bool true, .bool true, .bool false] 44) (heap_lt hc2)).trans hc2
       have K2 := Lib.hid (((K1.out.alloc _).call b2).alloc (.cells #[.bool true, .bool false, .bool true, .bool true, .bool false] 44))
       have hlt := heap_lt hc2
       have hne : ¬ w2.heap.size = w1.heap.size := by omega
       have hne' : ¬ w1.heap.size = w2.heap.size := by omega
       have p0 := cell_of_heap hc3 0; have p1 := cell_of_heap hc3 1; have p2 := cell_of_heap hc3 2; have p3 := cell_of_heap hc3 3; have p4 := cell_of_heap hc3 4; have p5 := cell_of_heap hc3 5; have p6 := cell_of_heap hc3 6; have p7 := cell_of_heap hc3 7; have p8 := cell_of_heap hc3 8; have f0 := frozen_of_heap hc3 0; have f1 := frozen_of_heap hc3 1; have f2 := frozen_of_heap hc3 2; have f3 := frozen_of_heap hc3 3; have f4 := frozen_of_heap hc3 4; have f5 := frozen_of_heap hc3 5; have f6 := frozen_of_heap hc3 6; have f7 := frozen_of_heap hc3 7; have f8 := frozen_of_heap hc3 8; simp only [List.getElem?_toArray, List.getElem?_cons_zero, List.getElem?_cons_succ] at p0 p1 p2 p3 p4 p5 p6 p7 p8
       have HLT := Lib.hid hlt
       clear b2 hc2 hc3 hlt)
    | (go_at_call 14; refine (HM.out _).mono ?_; rintro e w3 ⟨rfl, b3⟩
       have B3 := Lib.hid b3
       clear b3)
    | fail)
  go_ret
  have hle : w.heap.size ≤ w1.heap.size := K1.out.2
  refine ⟨rfl, (Kept.call ?_ B3.out).1⟩
  repeat (first | with_reducible exact K2.out | with_reducible refine Kept.setCell ?_ (p := ⟨w1.heap.size, _, none⟩) hle _)

set_option maxRecDepth 100000 in
set_option maxHeartbeats 1000000 in
theorem kinds_4 (a1 : Int) (w : World) (hg : Laid w) (h1 : 1 ≤ a1) (h2 : a1 ≤ 64) :
    Calls Tryd.prog 8 #[.int .i64 4, .int .i64 a1] w fun e w' => e = .returned (.bool true) ∧ Below w.heap.size w w' := by
  have hok : Ok [4, a1, 1, 0, 2, 0, 7, 8, 0] := (ok_set (ns := [4, 1, 1, 0, 2, 0, 7, 8, 0]) rfl (by decide) 1 (by decide) (by decide) a1).2 ⟨h1, h2⟩
  have hmay := fun w => may_any [4, a1, 1, 0, 2, 0, 7, 8, 0] rfl w
  simp only [if_pos hok] at hmay
  have huses := fun w => uses_4 w
  have hV : usesV 4 = .agg #[.bool true, .bool false, .bool true, .bool true, .bool false] := by kernel_rfl
  rw [hV] at huses
  unfold nums at *
  simp only [List.map_cons, List.map_nil] at *
  have d2 : decide (a1 < 1) = false := by simp; omega
  have d3 : decide (a1 > 64) = false := by simp; omega
  have d3' : decide (64 < a1) = false := by simp; omega
  have HM := Lib.hid hmay
  have HU := Lib.hid huses
  have HG := Lib.hid hg
  clear hmay hok hg huses hV
  go_enter Tryd.func8, Tryd.ntmps8
  go_wp2_with (first
    | (go_at_call 9; refine (awake_any _ HG.out).mono ?_; rintro e w1 ⟨rfl, b1⟩
       have K1 := Lib.hid ((Kept.refl w).call b1)
       have HC1 := Lib.hid (push_new w1 (.cells #[.int .i64 4, .int .i64 a1, .int .i64 1, .int .i64 0, .int .i64 0, .int .i64 0, .int .i64 0, .int .i64 0, .int .i64 0] 23))
       clear b1)
    | (go_at_call 17; refine (HU.out _).mono ?_; rintro e w2 ⟨rfl, b2⟩
       have hc2 := (b2.block w1.heap.size (by simp)).trans HC1.out
       have hc3 := (push_old w2 (.cells #[.bool true, .bool false, .bool true, .bool true, .bool false] 44) (heap_lt hc2)).trans hc2
       have K2 := Lib.hid (((K1.out.alloc _).call b2).alloc (.cells #[.bool true, .bool false, .bool true, .bool true, .bool false] 44))
       have hlt := heap_lt hc2
       have hne : ¬ w2.heap.size = w1.heap.size := by omega
       have hne' : ¬ w1.heap.size = w2.heap.size := by omega
       have p0 := cell_of_heap hc3 0; have p1 := cell_of_heap hc3 1; have p2 := cell_of_heap hc3 2; have p3 := cell_of_heap hc3 3; have p4 := cell_of_heap hc3 4; have p5 := cell_of_heap hc3 5; have p6 := cell_of_heap hc3 6; have p7 := cell_of_heap hc3 7; have p8 := cell_of_heap hc3 8; have f0 := frozen_of_heap hc3 0; have f1 := frozen_of_heap hc3 1; have f2 := frozen_of_heap hc3 2; have f3 := frozen_of_heap hc3 3; have f4 := frozen_of_heap hc3 4; have f5 := frozen_of_heap hc3 5; have f6 := frozen_of_heap hc3 6; have f7 := frozen_of_heap hc3 7; have f8 := frozen_of_heap hc3 8; simp only [List.getElem?_toArray, List.getElem?_cons_zero, List.getElem?_cons_succ] at p0 p1 p2 p3 p4 p5 p6 p7 p8
       have HLT := Lib.hid hlt
       clear b2 hc2 hc3 hlt)
    | (go_at_call 14; refine (HM.out _).mono ?_; rintro e w3 ⟨rfl, b3⟩
       have B3 := Lib.hid b3
       clear b3)
    | fail)
  go_ret
  have hle : w.heap.size ≤ w1.heap.size := K1.out.2
  refine ⟨rfl, (Kept.call ?_ B3.out).1⟩
  repeat (first | with_reducible exact K2.out | with_reducible refine Kept.setCell ?_ (p := ⟨w1.heap.size, _, none⟩) hle _)

set_option maxRecDepth 100000 in
set_option maxHeartbeats 1000000 in
theorem kinds_5 (a1 : Int) (w : World) (hg : Laid w) (h1 : 1 ≤ a1) (h2 : a1 ≤ 64) :
    Calls Tryd.prog 8 #[.int .i64 5, .int .i64 a1] w fun e w' => e = .returned (.bool true) ∧ Below w.heap.size w w' := by
  have hok : Ok [5, a1, 1, 0, 2, 0, 7, 8, 0] := (ok_set (ns := [5, 1, 1, 0, 2, 0, 7, 8, 0]) rfl (by decide) 1 (by decide) (by decide) a1).2 ⟨h1, h2⟩
  have hmay := fun w => may_any [5, a1, 1, 0, 2, 0, 7, 8, 0] rfl w
  simp only [if_pos hok] at hmay
  have huses := fun w => uses_5 w
  have hV : usesV 5 = .agg #[.bool true, .bool false, .bool true, .bool true, .bool false] := by kernel_rfl
  rw [hV] at huses
  unfold nums at *
  simp only [List.map_cons, List.map_nil] at *
  have d2 : decide (a1 < 1) = false := by simp; omega
  have d3 : decide (a1 > 64) = false := by simp; omega
  have d3' : decide (64 < a1) = false := by simp; omega
  have HM := Lib.hid hmay
  have HU := Lib.hid huses
  have HG := Lib.hid hg
  clear hmay hok hg huses hV
  go_enter Tryd.func8, Tryd.ntmps8
  go_wp2_with (first
    | (go_at_call 9; refine (awake_any _ HG.out).mono ?_; rintro e w1 ⟨rfl, b1⟩
       have K1 := Lib.hid ((Kept.refl w).call b1)
       have HC1 := Lib.hid (push_new w1 (.cells #[.int .i64 5, .int .i64 a1, .int .i64 1, .int .i64 0, .int .i64 0, .int .i64 0, .int .i64 0, .int .i64 0, .int .i64 0] 23))
       clear b1)
    | (go_at_call 17; refine (HU.out _).mono ?_; rintro e w2 ⟨rfl, b2⟩
       have hc2 := (b2.block w1.heap.size (by simp)).trans HC1.out
       have hc3 := (push_old w2 (.cells #[.bool true, .bool false, .bool true, .bool true, .bool false] 44) (heap_lt hc2)).trans hc2
       have K2 := Lib.hid (((K1.out.alloc _).call b2).alloc (.cells #[.bool true, .bool false, .bool true, .bool true, .bool false] 44))
       have hlt := heap_lt hc2
       have hne : ¬ w2.heap.size = w1.heap.size := by omega
       have hne' : ¬ w1.heap.size = w2.heap.size := by omega
       have p0 := cell_of_heap hc3 0; have p1 := cell_of_heap hc3 1; have p2 := cell_of_heap hc3 2; have p3 := cell_of_heap hc3 3; have p4 := cell_of_heap hc3 4; have p5 := cell_of_heap hc3 5; have p6 := cell_of_heap hc3 6; have p7 := cell_of_heap hc3 7; have p8 := cell_of_heap hc3 8; have f0 := frozen_of_heap hc3 0; have f1 := frozen_of_heap hc3 1; have f2 := frozen_of_heap hc3 2; have f3 := frozen_of_heap hc3 3; have f4 := frozen_of_heap hc3 4; have f5 := frozen_of_heap hc3 5; have f6 := frozen_of_heap hc3 6; have f7 := frozen_of_heap hc3 7; have f8 := frozen_of_heap hc3 8; simp only [List.getElem?_toArray, List.getElem?_cons_zero, List.getElem?_cons_succ] at p0 p1 p2 p3 p4 p5 p6 p7 p8
       have HLT := Lib.hid hlt
       clear b2 hc2 hc3 hlt)
    | (go_at_call 14; refine (HM.out _).mono ?_; rintro e w3 ⟨rfl, b3⟩
       have B3 := Lib.hid b3
       clear b3)
    | fail)
  go_ret
  have hle : w.heap.size ≤ w1.heap.size := K1.out.2
  refine ⟨rfl, (Kept.call ?_ B3.out).1⟩
  repeat (first | with_reducible exact K2.out | with_reducible refine Kept.setCell ?_ (p := ⟨w1.heap.size, _, none⟩) hle _)

set_option maxRecDepth 100000 in
set_option maxHeartbeats 1000000 in
theorem kinds_6 (a1 : Int) (w : World) (hg : Laid w) (h1 : 1 ≤ a1) (h2 : a1 ≤ 64) :
    Calls Tryd.prog 8 #[.int .i64 6, .int .i64 a1] w fun e w' => e = .returned (.bool true) ∧ Below w.heap.size w w' := by
  have hok : Ok [6, a1, 1, 0, 2, 0, 7, 8, 0] := (ok_set (ns := [6, 1, 1, 0, 2, 0, 7, 8, 0]) rfl (by decide) 1 (by decide) (by decide) a1).2 ⟨h1, h2⟩
  have hmay := fun w => may_any [6, a1, 1, 0, 2, 0, 7, 8, 0] rfl w
  simp only [if_pos hok] at hmay
  have huses := fun w => uses_6 w
  have hV : usesV 6 = .agg #[.bool true, .bool false, .bool true, .bool true, .bool false] := by kernel_rfl
  rw [hV] at huses
  unfold nums at *
  simp only [List.map_cons, List.map_nil] at *
  have d2 : decide (a1 < 1) = false := by simp; omega
  have d3 : decide (a1 > 64) = false := by simp; omega
  have d3' : decide (64 < a1) = false := by simp; omega
  have HM := Lib.hid hmay
  have HU := Lib.hid huses
  have HG := Lib.hid hg
  clear hmay hok hg huses hV
  go_enter Tryd.func8, Tryd.ntmps8
  go_wp2_with (first
    | (go_at_call 9; refine (awake_any _ HG.out).mono ?_; rintro e w1 ⟨rfl, b1⟩
       have K1 := Lib.hid ((Kept.refl w).call b1)
       have HC1 := Lib.hid (push_new w1 (.cells #[.int .i64 6, .int .i64 a1, .int .i64 1, .int .i64 0, .int .i64 0, .int .i64 0, .int .i64 0, .int .i64 0, .int .i64 0] 23))
       clear b1)
    | (go_at_call 17; refine (HU.out _).mono ?_; rintro e w2 ⟨rfl, b2⟩
       have hc2 := (b2.block w1.heap.size (by simp)).trans HC1.out
       have hc3 := (push_old w2 (.cells #[.bool true, .bool false, .bool true, .bool true, .bool false] 44) (heap_lt hc2)).trans hc2
       have K2 := Lib.hid (((K1.out.alloc _).call b2).alloc (.cells #[.bool true, .bool false, .bool true, .bool true, .bool false] 44))
       have hlt := heap_lt hc2
       have hne : ¬ w2.heap.size = w1.heap.size := by omega
       have hne' : ¬ w1.heap.size = w2.heap.size := by omega
       have p0 := cell_of_heap hc3 0; have p1 := cell_of_heap hc3 1; have p2 := cell_of_heap hc3 2; have p3 := cell_of_heap hc3 3; have p4 := cell_of_heap hc3 4; have p5 := cell_of_heap hc3 5; have p6 := cell_of_heap hc3 6; have p7 := cell_of_heap hc3 7; have p8 := cell_of_heap hc3 8; have f0 := frozen_of_heap hc3 0; have f1 := frozen_of_heap hc3 1; have f2 := frozen_of_heap hc3 2; have f3 := frozen_of_heap hc3 3; have f4 := frozen_of_heap hc3 4; have f5 := frozen_of_heap hc3 5; have f6 := frozen_of_heap hc3 6; have f7 := frozen_of_heap hc3 7; have f8 := frozen_of_heap hc3 8; simp only [List.getElem?_toArray, List.getElem?_cons_zero, List.getElem?_cons_succ] at p0 p1 p2 p3 p4 p5 p6 p7 p8
       have HLT := Lib.hid hlt
       clear b2 hc2 hc3 hlt)
    | (go_at_call 14; refine (HM.out _).mono ?_; rintro e w3 ⟨rfl, b3⟩
       have B3 := Lib.hid b3
       clear b3)
    | fail)
  go_ret
  have hle : w.heap.size ≤ w1.heap.size := K1.out.2
  refine ⟨rfl, (Kept.call ?_ B3.out).1⟩
  repeat (first | with_reducible exact K2.out | with_reducible refine Kept.setCell ?_ (p := ⟨w1.heap.size, _, none⟩) hle _)

set_option maxRecDepth 100000 in
set_option maxHeartbeats 1000000 in
theorem kinds_7 (a1 : Int) (w : World) (hg : Laid w) (h1 : 1 ≤ a1) (h2 : a1 ≤ 64) :
    Calls Tryd.prog 8 #[.int .i64 7, .int .i64 a1] w fun e w' => e = .returned (.bool true) ∧ Below w.heap.size w w' := by
  have hok : Ok [7, a1, 1, 0, 0, 0, 0, 0, 9] := (ok_set (ns := [7, 1, 1, 0, 0, 0, 0, 0, 9]) rfl (by decide) 1 (by decide) (by decide) a1).2 ⟨h1, h2⟩
  have hmay := fun w => may_any [7, a1, 1, 0, 0, 0, 0, 0, 9] rfl w
  simp only [if_pos hok] at hmay
  have huses := fun w => uses_7 w
  have hV : usesV 7 = .agg #[.bool false, .bool false, .bool false, .bool false, .bool true] := by kernel_rfl
  rw [hV] at huses
  unfold nums at *
  simp only [List.map_cons, List.map_nil] at *
  have d2 : decide (a1 < 1) = false := by simp; omega
  have d3 : decide (a1 > 64) = false := by simp; omega
  have d3' : decide (64 < a1) = false := by simp; omega
  have HM := Lib.hid hmay
  have HU := Lib.hid huses
  have HG := Lib.hid hg
  clear hmay hok hg huses hV
  go_enter Tryd.func8, Tryd.ntmps8
  go_wp2_with (first
    | (go_at_call 9; refine (awake_any _ HG.out).mono ?_; rintro e w1 ⟨rfl, b1⟩
       have K1 := Lib.hid ((Kept.refl w).call b1)
       have HC1 := Lib.hid (push_new w1 (.cells #[.int .i64 7, .int .i64 a1, .int .i64 1, .int .i64 0, .int .i64 0, .int .i64 0, .int .i64 0, .int .i64 0, .int .i64 0] 23))
       clear b1)
    | (go_at_call 17; refine (HU.out _).mono ?_; rintro e w2 ⟨rfl, b2⟩
       have hc2 := (b2.block w1.heap.size (by simp)).trans HC1.out
       have hc3 := (push_old w2 (.cells #[.bool false, .bool false, .bool false, .bool false, .bool true] 44) (heap_lt hc2)).trans hc2
       have K2 := Lib.hid (((K1.out.alloc _).call b2).alloc (.cells #[.bool false, .bool false, .bool false, .bool false, .bool true] 44))
       have hlt := heap_lt hc2
       have hne : ¬ w2.heap.size = w1.heap.size := by omega
       have hne' : ¬ w1.heap.size = w2.heap.size := by omega
       have p0 := cell_of_heap hc3 0; have p1 := cell_of_heap hc3 1; have p2 := cell_of_heap hc3 2; have p3 := cell_of_heap hc3 3; have p4 := cell_of_heap hc3 4; have p5 := cell_of_heap hc3 5; have p6 := cell_of_heap hc3 6; have p7 := cell_of_heap hc3 7; have p8 := cell_of_heap hc3 8; have f0 := frozen_of_heap hc3 0; have f1 := frozen_of_heap hc3 1; have f2 := frozen_of_heap hc3 2; have f3 := frozen_of_heap hc3 3; have f4 := frozen_of_heap hc3 4; have f5 := frozen_of_heap hc3 5; have f6 := frozen_of_heap hc3 6; have f7 := frozen_of_heap hc3 7; have f8 := frozen_of_heap hc3 8; simp only [List.getElem?_toArray, List.getElem?_cons_zero, List.getElem?_cons_succ] at p0 p1 p2 p3 p4 p5 p6 p7 p8
       have HLT := Lib.hid hlt
       clear b2 hc2 hc3 hlt)
    | (go_at_call 14; refine (HM.out _).mono ?_; rintro e w3 ⟨rfl, b3⟩
       have B3 := Lib.hid b3
       clear b3)
    | fail)
  go_ret
  have hle : w.heap.size ≤ w1.heap.size := K1.out.2
  refine ⟨rfl, (Kept.call ?_ B3.out).1⟩
  repeat (first | with_reducible exact K2.out | with_reducible refine Kept.setCell ?_ (p := ⟨w1.heap.size, _, none⟩) hle _)

set_option maxRecDepth 100000 in
set_option maxHeartbeats 1000000 in
theorem kinds_8 (a1 : Int) (w : World) (hg : Laid w) (h1 : 1 ≤ a1) (h2 : a1 ≤ 64) :
    Calls Tryd.prog 8 #[.int .i64 8, .int .i64 a1] w fun e w' => e = .returned (.bool true) ∧ Below w.heap.size w w' := by
  have hok : Ok [8, a1, 1, 0, 0, 0, 7, 8, 9] := (ok_set (ns := [8, 1, 1, 0, 0, 0, 7, 8, 9]) rfl (by decide) 1 (by decide) (by decide) a1).2 ⟨h1, h2⟩
  have hmay := fun w => may_any [8, a1, 1, 0, 0, 0, 7, 8, 9] rfl w
  simp only [if_pos hok] at hmay
  have huses := fun w => uses_8 w
  have hV : usesV 8 = .agg #[.bool false, .bool false, .bool true, .bool true, .bool true] := by kernel_rfl
  rw [hV] at huses
  unfold nums at *
  simp only [List.map_cons, List.map_nil] at *
  have d2 : decide (a1 < 1) = false := by simp; omega
  have d3 : decide (a1 > 64) = false := by simp; omega
  have d3' : decide (64 < a1) = false := by simp; omega
  have HM := Lib.hid hmay
  have HU := Lib.hid huses
  have HG := Lib.hid hg
  clear hmay hok hg huses hV
  go_enter Tryd.func8, Tryd.ntmps8
  go_wp2_with (first
    | (go_at_call 9; refine (awake_any _ HG.out).mono ?_; rintro e w1 ⟨rfl, b1⟩
       have K1 := Lib.hid ((Kept.refl w).call b1)
       have HC1 := Lib.hid (push_new w1 (.cells #[.int .i64 8, .int .i64 a1, .int .i64 1, .int .i64 0, .int .i64 0, .int .i64 0, .int .i64 0, .int .i64 0, .int .i64 0] 23))
       clear b1)
    | (go_at_call 17; refine (HU.out _).mono ?_; rintro e w2 ⟨rfl, b2⟩
       have hc2 := (b2.block w1.heap.size (by simp)).trans HC1.out
       have hc3 := (push_old w2 (.cells #[.bool false, .bool false, .bool true, .bool true, .bool true] 44) (heap_lt hc2)).trans hc2
       have K2 := Lib.hid (((K1.out.alloc _).call b2).alloc (.cells #[.bool false, .bool false, .bool true, .bool true, .bool true] 44))
       have hlt := heap_lt hc2
       have hne : ¬ w2.heap.size = w1.heap.size := by omega
       have hne' : ¬ w1.heap.size = w2.heap.size := by omega
       have p0 := cell_of_heap hc3 0; have p1 := cell_of_heap hc3 1; have p2 := cell_of_heap hc3 2; have p3 := cell_of_heap hc3 3; have p4 := cell_of_heap hc3 4; have p5 := cell_of_heap hc3 5; have p6 := cell_of_heap hc3 6; have p7 := cell_of_heap hc3 7; have p8 := cell_of_heap hc3 8; have f0 := frozen_of_heap hc3 0; have f1 := frozen_of_heap hc3 1; have f2 := frozen_of_heap hc3 2; have f3 := frozen_of_heap hc3 3; have f4 := frozen_of_heap hc3 4; have f5 := frozen_of_heap hc3 5; have f6 := frozen_of_heap hc3 6; have f7 := frozen_of_heap hc3 7; have f8 := frozen_of_heap hc3 8; simp only [List.getElem?_toArray, List.getElem?_cons_zero, List.getElem?_cons_succ] at p0 p1 p2 p3 p4 p5 p6 p7 p8
       have HLT := Lib.hid hlt
       clear b2 hc2 hc3 hlt)
    | (go_at_call 14; refine (HM.out _).mono ?_; rintro e w3 ⟨rfl, b3⟩
       have B3 := Lib.hid b3
       clear b3)
    | fail)
  go_ret
  have hle : w.heap.size ≤ w1.heap.size := K1.out.2
  refine ⟨rfl, (Kept.call ?_ B3.out).1⟩
  repeat (first | with_reducible exact K2.out | with_reducible refine Kept.setCell ?_ (p := ⟨w1.heap.size, _, none⟩) hle _)

set_option maxRecDepth 100000 in
set_option maxHeartbeats 1000000 in
theorem kinds_9 (a1 : Int) (w : World) (hg : Laid w) (h1 : 1 ≤ a1) (h2 : a1 ≤ 64) :
    Calls Tryd.prog 8 #[.int .i64 9, .int .i64 a1] w fun e w' => e = .returned (.bool true) ∧ Below w.heap.size w w' := by
  have hok : Ok [9, a1, 1, 0, 0, 0, 0, 8, 0] := (ok_set (ns := [9, 1, 1, 0, 0, 0, 0, 8, 0]) rfl (by decide) 1 (by decide) (by decide) a1).2 ⟨h1, h2⟩
  have hmay := fun w => may_any [9, a1, 1, 0, 0, 0, 0, 8, 0] rfl w
  simp only [if_pos hok] at hmay
  have huses := fun w => uses_9 w
  have hV : usesV 9 = .agg #[.bool false, .bool true, .bool false, .bool true, .bool false] := by kernel_rfl
  rw [hV] at huses
  unfold nums at *
  simp only [List.map_cons, List.map_nil] at *
  have d2 : decide (a1 < 1) = false := by simp; omega
  have d3 : decide (a1 > 64) = false := by simp; omega
  have d3' : decide (64 < a1) = false := by simp; omega
  have HM := Lib.hid hmay
  have HU := Lib.hid huses
  have HG := Lib.hid hg
  clear hmay hok hg huses hV
  go_enter Tryd.func8, Tryd.ntmps8
  go_wp2_with (first
    | (go_at_call 9; refine (awake_any _ HG.out).mono ?_; rintro e w1 ⟨rfl, b1⟩
       have K1 := Lib.hid ((Kept.refl w).call b1)
       have HC1 := Lib.hid (push_new w1 (.cells #[.int .i64 9, .int .i64 a1, .int .i64 1, .int .i64 0, .int .i64 0, .int .i64 0, .int .i64 0, .int .i64 0, .int .i64 0] 23))
       clear b1)
    | (go_at_call 17; refine (HU.out _).mono ?_; rintro e w2 ⟨rfl, b2⟩
       have hc2 := (b2.block w1.heap.size (by simp)).trans HC1.out
       have hc3 := (push_old w2 (.cells #[.bool false, .bool true, .bool false, .bool true, .bool false] 44) (heap_lt hc2)).trans hc2
       have K2 := Lib.hid (((K1.out.alloc _).call b2).alloc (.cells #[.bool false, .bool true, .bool false, .bool true, .bool false] 44))
       have hlt := heap_lt hc2
       have hne : ¬ w2.heap.size = w1.heap.size := by omega
       have hne' : ¬ w1.heap.size = w2.heap.size := by omega
       have p0 := cell_of_heap hc3 0; have p1 := cell_of_heap hc3 1; have p2 := cell_of_heap hc3 2; have p3 := cell_of_heap hc3 3; have p4 := cell_of_heap hc3 4; have p5 := cell_of_heap hc3 5; have p6 := cell_of_heap hc3 6; have p7 := cell_of_heap hc3 7; have p8 := cell_of_heap hc3 8; have f0 := frozen_of_heap hc3 0; have f1 := frozen_of_heap hc3 1; have f2 := frozen_of_heap hc3 2; have f3 := frozen_of_heap hc3 3; have f4 := frozen_of_heap hc3 4; have f5 := frozen_of_heap hc3 5; have f6 := frozen_of_heap hc3 6; have f7 := frozen_of_heap hc3 7; have f8 := frozen_of_heap hc3 8; simp only [List.getElem?_toArray, List.getElem?_cons_zero, List.getElem?_cons_succ] at p0 p1 p2 p3 p4 p5 p6 p7 p8
       have HLT := Lib.hid hlt
       clear b2 hc2 hc3 hlt)
    | (go_at_call 14; refine (HM.out _).mono ?_; rintro e w3 ⟨rfl, b3⟩
       have B3 := Lib.hid b3
       clear b3)
    | fail)
  go_ret
  have hle : w.heap.size ≤ w1.heap.size := K1.out.2
  refine ⟨rfl, (Kept.call ?_ B3.out).1⟩
  repeat (first | with_reducible exact K2.out | with_reducible refine Kept.setCell ?_ (p := ⟨w1.heap.size, _, none⟩) hle _)

set_option maxRecDepth 100000 in
set_option maxHeartbeats 1000000 in
theorem kinds_10 (a1 : Int) (w : World) (hg : Laid w) (h1 : 1 ≤ a1) (h2 : a1 ≤ 64) :
    Calls Tryd.prog 8 #[.int .i64 10, .int .i64 a1] w fun e w' => e = .returned (.bool true) ∧ Below w.heap.size w w' := by
  have hok : Ok [10, a1, 1, 0, 0, 0, 0, 8, 0] := (ok_set (ns := [10, 1, 1, 0, 0, 0, 0, 8, 0]) rfl (by decide) 1 (by decide) (by decide) a1).2 ⟨h1, h2⟩
  have hmay := fun w => may_any [10, a1, 1, 0, 0, 0, 0, 8, 0] rfl w
  simp only [if_pos hok] at hmay
  have huses := fun w => uses_10 w
  have hV : usesV 10 = .agg #[.bool false, .bool true, .bool false, .bool true, .bool false] := by kernel_rfl
  rw [hV] at huses
  unfold nums at *
  simp only [List.map_cons, List.map_nil] at *
  have d2 : decide (a1 < 1) = false := by simp; omega
  have d3 : decide (a1 > 64) = false := by simp; omega
  have d3' : decide (64 < a1) = false := by simp; omega
  have HM := Lib.hid hmay
  have HU := Lib.hid huses
  have HG := Lib.hid hg
  clear hmay hok hg huses hV
  go_enter Tryd.func8, Tryd.ntmps8
  go_wp2_with (first
    | (go_at_call 9; refine (awake_any _ HG.out).mono ?_; rintro e w1 ⟨rfl, b1⟩
       have K1 := Lib.hid ((Kept.refl w).call b1)
       have HC1 := Lib.hid (push_new w1 (.cells #[.int .i64 10, .int .i64 a1, .int .i64 1, .int .i64 0, .int .i64 0, .int .i64 0, .int .i64 0, .int .i64 0, .int .i64 0] 23))
       clear b1)
    | (go_at_call 17; refine (HU.out _).mono ?_; rintro e w2 ⟨rfl, b2⟩
       have hc2 := (b2.block w1.heap.size (by simp)).trans HC1.out
       have hc3 := (push_old w2 (.cells #[.bool false, .bool true, .bool false, .bool true, .bool false] 44) (heap_lt hc2)).trans hc2
       have K2 := Lib.hid (((K1.out.alloc _).call b2).alloc (.cells #[.bool false, .bool true, .bool false, .bool true, .bool false] 44))
       have hlt := heap_lt hc2
       have hne : ¬ w2.heap.size = w1.heap.size := by omega
       have hne' : ¬ w1.heap.size = w2.heap.size := by omega
       have p0 := cell_of_heap hc3 0; have p1 := cell_of_heap hc3 1; have p2 := cell_of_heap hc3 2; have p3 := cell_of_heap hc3 3; have p4 := cell_of_heap hc3 4; have p5 := cell_of_heap hc3 5; have p6 := cell_of_heap hc3 6; have p7 := cell_of_heap hc3 7; have p8 := cell_of_heap hc3 8; have f0 := frozen_of_heap hc3 0; have f1 := frozen_of_heap hc3 1; have f2 := frozen_of_heap hc3 2; have f3 := frozen_of_heap hc3 3; have f4 := frozen_of_heap hc3 4; have f5 := frozen_of_heap hc3 5; have f6 := frozen_of_heap hc3 6; have f7 := frozen_of_heap hc3 7; have f8 := frozen_of_heap hc3 8; simp only [List.getElem?_toArray, List.getElem?_cons_zero, List.getElem?_cons_succ] at p0 p1 p2 p3 p4 p5 p6 p7 p8
       have HLT := Lib.hid hlt
       clear b2 hc2 hc3 hlt)
    | (go_at_call 14; refine (HM.out _).mono ?_; rintro e w3 ⟨rfl, b3⟩
       have B3 := Lib.hid b3
       clear b3)
    | fail)
  go_ret
  have hle : w.heap.size ≤ w1.heap.size := K1.out.2
  refine ⟨rfl, (Kept.call ?_ B3.out).1⟩
  repeat (first | with_reducible exact K2.out | with_reducible refine Kept.setCell ?_ (p := ⟨w1.heap.size, _, none⟩) hle _)

set_option maxRecDepth 100000 in
set_option maxHeartbeats 1000000 in
theorem kinds_11 (a1 : Int) (w : World) (hg : Laid w) (h1 : 1 ≤ a1) (h2 : a1 ≤ 64) :
    Calls Tryd.prog 8 #[.int .i64 11, .int .i64 a1] w fun e w' => e = .returned (.bool true) ∧ Below w.heap.size w w' := by
  have hok : Ok [11, a1, 1, 0, 0, 0, 7, 0, 0] := (ok_set (ns := [11, 1, 1, 0, 0, 0, 7, 0, 0]) rfl (by decide) 1 (by decide) (by decide) a1).2 ⟨h1, h2⟩
  have hmay := fun w => may_any [11, a1, 1, 0, 0, 0, 7, 0, 0] rfl w
  simp only [if_pos hok] at hmay
  have huses := fun w => uses_11 w
  have hV : usesV 11 = .agg #[.bool false, .bool false, .bool true, .bool false, .bool false] := by kernel_rfl
  rw [hV] at huses
  unfold nums at *
  simp only [List.map_cons, List.map_nil] at *
  have d2 : decide (a1 < 1) = false := by simp; omega
  have d3 : decide (a1 > 64) = false := by simp; omega
  have d3' : decide (64 < a1) = false := by simp; omega
  have HM := Lib.hid hmay
  have HU := Lib.hid huses
  have HG := Lib.hid hg
  clear hmay hok hg huses hV
  go_enter Tryd.func8, Tryd.ntmps8
  go_wp2_with (first
    | (go_at_call 9; refine (awake_any _ HG.out).mono ?_; rintro e w1 ⟨rfl, b1⟩
       have K1 := Lib.hid ((Kept.refl w).call b1)
       have HC1 := Lib.hid (push_new w1 (.cells #[.int .i64 11, .int .i64 a1, .int .i64 1, .int .i64 0, .int .i64 0, .int .i64 0, .int .i64 0, .int .i64 0, .int .i64 0] 23))
       clear b1)
    | (go_at_call 17; refine (HU.out _).mono ?_; rintro e w2 ⟨rfl, b2⟩
       have hc2 := (b2.block w1.heap.size (by simp)).trans HC1.out
       have hc3 := (push_old w2 (.cells #[.bool false, .bool false, .bool true, .bool false, .bool false] 44) (heap_lt hc2)).trans hc2
       have K2 := Lib.hid (((K1.out.alloc _).call b2).alloc (.cells #[.bool false, .bool false, .bool true, .bool false, .bool false] 44))
       have hlt := heap_lt hc2
       have hne : ¬ w2.heap.size = w1.heap.size := by omega
       have hne' : ¬ w1.heap.size = w2.heap.size := by omega
       have p0 := cell_of_heap hc3 0; have p1 := cell_of_heap hc3 1; have p2 := cell_of_heap hc3 2; have p3 := cell_of_heap hc3 3; have p4 := cell_of_heap hc3 4; have p5 := cell_of_heap hc3 5; have p6 := cell_of_heap hc3 6; have p7 := cell_of_heap hc3 7; have p8 := cell_of_heap hc3 8; have f0 := frozen_of_heap hc3 0; have f1 := frozen_of_heap hc3 1; have f2 := frozen_of_heap hc3 2; have f3 := frozen_of_heap hc3 3; have f4 := frozen_of_heap hc3 4; have f5 := frozen_of_heap hc3 5; have f6 := frozen_of_heap hc3 6; have f7 := frozen_of_heap hc3 7; have f8 := frozen_of_heap hc3 8; simp only [List.getElem?_toArray, List.getElem?_cons_zero, List.getElem?_cons_succ] at p0 p1 p2 p3 p4 p5 p6 p7 p8
       have HLT := Lib.hid hlt
       clear b2 hc2 hc3 hlt)
    | (go_at_call 14; refine (HM.out _).mono ?_; rintro e w3 ⟨rfl, b3⟩
       have B3 := Lib.hid b3
       clear b3)
    | fail)
  go_ret
  have hle : w.heap.size ≤ w1.heap.size := K1.out.2
  refine ⟨rfl, (Kept.call ?_ B3.out).1⟩
  repeat (first | with_reducible exact K2.out | with_reducible refine Kept.setCell ?_ (p := ⟨w1.heap.size, _, none⟩) hle _)

theorem CmdKinds_walk (a0 : Int) (a1 : Int) (w : World) (hg : Laid w) (_ : (Lit.int .i64 a0).wf = true) (_ : (Lit.int .i64 a1).wf = true) :
    Calls Tryd.prog 8 #[.int .i64 a0, .int .i64 a1] w fun e w' => e = .returned (.bool true) ∧ Below w.heap.size w w' := by
  by_cases h : a0 < 0 ∨ 11 < a0 ∨ a1 < 1 ∨ 64 < a1
  · exact kinds_out a0 a1 w hg h

  obtain rfl | rfl | rfl | rfl | rfl | rfl | rfl | rfl | rfl | rfl | rfl | rfl : a0 = 0 ∨ a0 = 1 ∨ a0 = 2 ∨ a0 = 3 ∨ a0 = 4 ∨ a0 = 5 ∨ a0 = 6 ∨ a0 = 7 ∨ a0 = 8 ∨ a0 = 9 ∨ a0 = 10 ∨ a0 = 11 := by omega
  · exact kinds_0 a1 w hg (by omega) (by omega)
  · exact kinds_1 a1 w hg (by omega) (by omega)
  · exact kinds_2 a1 w hg (by omega) (by omega)
  · exact kinds_3 a1 w hg (by omega) (by omega)
  · exact kinds_4 a1 w hg (by omega) (by omega)
  · exact kinds_5 a1 w hg (by omega) (by omega)
  · exact kinds_6 a1 w hg (by omega) (by omega)
  · exact kinds_7 a1 w hg (by omega) (by omega)
  · exact kinds_8 a1 w hg (by omega) (by omega)
  · exact kinds_9 a1 w hg (by omega) (by omega)
  · exact kinds_10 a1 w hg (by omega) (by omega)
  · exact kinds_11 a1 w hg (by omega) (by omega)
end Go.Proofs.YtegjlcmeaelbnaaDoor
