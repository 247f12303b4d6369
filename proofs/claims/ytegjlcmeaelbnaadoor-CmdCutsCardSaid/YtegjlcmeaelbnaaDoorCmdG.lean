/- Decode: the program's answers. -/
import Derived.Test.YtegjlcmeaelbnaaDoorCmdF
namespace Go.Proofs.YtegjlcmeaelbnaaDoor
open Go.RowKit Go.Great

set_option maxRecDepth 100000 in
set_option maxHeartbeats 2000000 in
theorem decode_err (A : Option Addr) (n cap : Nat) (bs : List Nat) (ms : List Int) (hl : ms.length = 9) (c p : Nat) (hc : c ≠ 0) (hrv : readV bs = (nums ms, fault (c : Int) (p : Int))) (w : World) (hr : Row w A n cap bs) (hg : Laid w) :
    Calls Tryd.prog 12 #[.slice A n cap] w fun e w' => e = .returned (.tuple #[nums zeros, cfault (fault (c : Int) (p : Int))]) ∧ Below w.heap.size w w' := by
  have hread := fun g w1 h => read9 g bs w1 h
  rw [hrv] at hread
  have hm := fun w => may9 ms hl w
  have hcmd := fun w => command_any ms hl w
  obtain ⟨m0, m1, m2, m3, m4, m5, m6, m7, m8, rfl⟩ := nine hl
  (try unfold zeros at *)
  unfold nums at *
  simp only [List.map_cons, List.map_nil] at *
  have HR := Lib.hid hr
  have HG := Lib.hid hg
  have HRD := Lib.hid hread
  have HW := Lib.hid (fun w hg => wrapped_fault (c : Int) (p : Int) (by omega) w hg)
  (try unfold errno at *)
  (try unfold fault at *)
  (try unfold cfault at *)
  clear hl hrv hr hg hread hm hcmd hc
  have hz0 := push_new w (.cells #[.int .i64 0, .int .i64 0, .int .i64 0, .int .i64 0, .int .i64 0, .int .i64 0, .int .i64 0, .int .i64 0, .int .i64 0] 23)
  have b0 : Below w.heap.size w (w.alloc (.cells #[.int .i64 0, .int .i64 0, .int .i64 0, .int .i64 0, .int .i64 0, .int .i64 0, .int .i64 0, .int .i64 0, .int .i64 0] 23)) := (Below.refl _ _).alloc (Nat.le_refl _) _
  have HZ0 := Lib.hid hz0
  have B0 := Lib.hid b0
  have hrow := HR.out.below b0
  have HROW := Lib.hid hrow
  clear hz0 b0 hrow HR
  go_enter Tryd.func12, Tryd.ntmps12
  go_wp2_with (first
    | (go_at_call 26; refine (from_any A n cap bs _ HROW.out).mono ?_; rintro e w2 ⟨g, rfl, hrd, hge, b2⟩
       have hz2 := (b2.block w.heap.size (by simp)).trans HZ0.out
       have HZ2 := Lib.hid hz2
       have HRD2 := Lib.hid hrd
       have hgw : w.heap.size < g := by simp at hge; omega
       have k2 := Lib.hid ((Kept.refl w).call (B0.out.trans (b2.mono B0.out.size)))
       clear hz2 hrd hge b2)
    | (go_at_call 25; refine (HRD.out g _ HRD2.out).mono ?_; rintro e w3 ⟨rfl, o3⟩
       have hz3 := (o3.rest w.heap.size (heap_lt HZ2.out) (by omega)).trans HZ2.out
       have k3 : Kept w w3 := ⟨k2.out.1.trans (o3.below (Nat.le_of_lt hgw) k2.out.2), Nat.le_trans k2.out.2 o3.size⟩
       have hn4 := push_new w3 (.cells #[.int .i64 m0, .int .i64 m1, .int .i64 m2, .int .i64 m3, .int .i64 m4, .int .i64 m5, .int .i64 m6, .int .i64 m7, .int .i64 m8] 50)
       have hz4 := (push_old w3 (.cells #[.int .i64 m0, .int .i64 m1, .int .i64 m2, .int .i64 m3, .int .i64 m4, .int .i64 m5, .int .i64 m6, .int .i64 m7, .int .i64 m8] 50) (heap_lt hz3)).trans hz3
       have k4 := k3.alloc (.cells #[.int .i64 m0, .int .i64 m1, .int .i64 m2, .int .i64 m3, .int .i64 m4, .int .i64 m5, .int .i64 m6, .int .i64 m7, .int .i64 m8] 50)
       have HZ4 := Lib.hid hz4
       have HN4 := Lib.hid hn4
       have K4 := Lib.hid k4
       have HG4 := Lib.hid (HG.out.below k4.1)
       clear o3 hz3 k3 hn4 hz4 k4)
    | (go_at_call 20; refine (HW.out _ HG4.out).mono ?_; rintro e w6 ⟨rfl, b6⟩
       have hz6 := (b6.block w.heap.size (heap_lt HZ4.out)).trans HZ4.out
       have hn6 := (b6.block w3.heap.size (heap_lt HN4.out)).trans HN4.out
       have HZ6 := Lib.hid hz6
       have K6 := Lib.hid (K4.out.call b6)
       have z0 := cell_of_heap hz6 0; have z1 := cell_of_heap hz6 1; have z2 := cell_of_heap hz6 2; have z3 := cell_of_heap hz6 3; have z4 := cell_of_heap hz6 4; have z5 := cell_of_heap hz6 5; have z6 := cell_of_heap hz6 6; have z7 := cell_of_heap hz6 7; have z8 := cell_of_heap hz6 8; have f0 := frozen_of_heap hz6 0; have f1 := frozen_of_heap hz6 1; have f2 := frozen_of_heap hz6 2; have f3 := frozen_of_heap hz6 3; have f4 := frozen_of_heap hz6 4; have f5 := frozen_of_heap hz6 5; have f6 := frozen_of_heap hz6 6; have f7 := frozen_of_heap hz6 7; have f8 := frozen_of_heap hz6 8; simp only [List.getElem?_toArray, List.getElem?_cons_zero, List.getElem?_cons_succ] at z0 z1 z2 z3 z4 z5 z6 z7 z8
       skip
       clear b6 hz6 hn6)
    | fail)
  refine bodyPost_ret (results_row_tmp (p := 2) (u := 3) (ty := 23) rfl _ _ _ w.heap.size 23 #[.int .i64 0, .int .i64 0, .int .i64 0, .int .i64 0, .int .i64 0, .int .i64 0, .int .i64 0, .int .i64 0, .int .i64 0] (0, 0) _ (.iface 78 (.agg #[.iface 75 (.agg #[.int .i64 (c : Int), .int .i64 (p : Int)])])) rfl rfl ?_ Tryd.underlying23 rfl (by kernel_rfl)) rfl ?_
  · refine Eq.trans (by with_reducible exact (heap_setCell_same (heap_setCell_same (heap_setCell_same (heap_setCell_same (heap_setCell_same (heap_setCell_same (heap_setCell_same (heap_setCell_same (heap_setCell_same HZ6.out _) _) _) _) _) _) _) _) _)) ?_
    kernel_rfl
  · exact ⟨rfl, (((((((((K6.out.setCell (Nat.le_refl _) _).setCell (Nat.le_refl _) _).setCell (Nat.le_refl _) _).setCell (Nat.le_refl _) _).setCell (Nat.le_refl _) _).setCell (Nat.le_refl _) _).setCell (Nat.le_refl _) _).setCell (Nat.le_refl _) _).setCell (Nat.le_refl _) _).1⟩

set_option maxRecDepth 100000 in
set_option maxHeartbeats 2000000 in
theorem decode_bad (A : Option Addr) (n cap : Nat) (bs : List Nat) (ms : List Int) (hl : ms.length = 9) (hok : ¬ Ok ms) (hrv : readV bs = (nums ms, .nilIface)) (w : World) (hr : Row w A n cap bs) (hg : Laid w) :
    Calls Tryd.prog 12 #[.slice A n cap] w fun e w' => e = .returned (.tuple #[nums zeros, cfault (errno 1)]) ∧ Below w.heap.size w w' := by
  have hread := fun g w1 h => read9 g bs w1 h
  rw [hrv] at hread
  have hm := fun w => may9 ms hl w
  have hcmd := fun w => command_any ms hl w
  simp only [if_neg hok] at hm
  obtain ⟨m0, m1, m2, m3, m4, m5, m6, m7, m8, rfl⟩ := nine hl
  (try unfold zeros at *)
  unfold nums at *
  simp only [List.map_cons, List.map_nil] at *
  have HR := Lib.hid hr
  have HG := Lib.hid hg
  have HRD := Lib.hid hread
  have HW := Lib.hid (fun w hg => wrapped_errno 1 (by decide) w hg)
  (try unfold errno at *)
  (try unfold fault at *)
  (try unfold cfault at *)
  clear hl hrv hr hg hread hok
  have hz0 := push_new w (.cells #[.int .i64 0, .int .i64 0, .int .i64 0, .int .i64 0, .int .i64 0, .int .i64 0, .int .i64 0, .int .i64 0, .int .i64 0] 23)
  have b0 : Below w.heap.size w (w.alloc (.cells #[.int .i64 0, .int .i64 0, .int .i64 0, .int .i64 0, .int .i64 0, .int .i64 0, .int .i64 0, .int .i64 0, .int .i64 0] 23)) := (Below.refl _ _).alloc (Nat.le_refl _) _
  have HZ0 := Lib.hid hz0
  have B0 := Lib.hid b0
  have hrow := HR.out.below b0
  have HROW := Lib.hid hrow
  clear hz0 b0 hrow HR
  go_enter Tryd.func12, Tryd.ntmps12
  go_wp2_with (first
    | (go_at_call 26; refine (from_any A n cap bs _ HROW.out).mono ?_; rintro e w2 ⟨g, rfl, hrd, hge, b2⟩
       have hz2 := (b2.block w.heap.size (by simp)).trans HZ0.out
       have HZ2 := Lib.hid hz2
       have HRD2 := Lib.hid hrd
       have hgw : w.heap.size < g := by simp at hge; omega
       have k2 := Lib.hid ((Kept.refl w).call (B0.out.trans (b2.mono B0.out.size)))
       clear hz2 hrd hge b2)
    | (go_at_call 25; refine (HRD.out g _ HRD2.out).mono ?_; rintro e w3 ⟨rfl, o3⟩
       have hz3 := (o3.rest w.heap.size (heap_lt HZ2.out) (by omega)).trans HZ2.out
       have k3 : Kept w w3 := ⟨k2.out.1.trans (o3.below (Nat.le_of_lt hgw) k2.out.2), Nat.le_trans k2.out.2 o3.size⟩
       have hn4 := push_new w3 (.cells #[.int .i64 m0, .int .i64 m1, .int .i64 m2, .int .i64 m3, .int .i64 m4, .int .i64 m5, .int .i64 m6, .int .i64 m7, .int .i64 m8] 50)
       have hz4 := (push_old w3 (.cells #[.int .i64 m0, .int .i64 m1, .int .i64 m2, .int .i64 m3, .int .i64 m4, .int .i64 m5, .int .i64 m6, .int .i64 m7, .int .i64 m8] 50) (heap_lt hz3)).trans hz3
       have k4 := k3.alloc (.cells #[.int .i64 m0, .int .i64 m1, .int .i64 m2, .int .i64 m3, .int .i64 m4, .int .i64 m5, .int .i64 m6, .int .i64 m7, .int .i64 m8] 50)
       have HZ4 := Lib.hid hz4
       have HN4 := Lib.hid hn4
       have K4 := Lib.hid k4
       have HG4 := Lib.hid (HG.out.below k4.1)
       clear o3 hz3 k3 hn4 hz4 k4)
    | (go_at_call 21; refine (hm _).mono ?_; rintro e w5 ⟨rfl, b5⟩
       have hz5 := (b5.block w.heap.size (heap_lt HZ4.out)).trans HZ4.out
       have hn5 := (b5.block w3.heap.size (heap_lt HN4.out)).trans HN4.out
       have HZ5 := Lib.hid hz5
       have HN5 := Lib.hid hn5
       have K5 := Lib.hid (K4.out.call b5)
       have HG5 := Lib.hid (HG.out.below (K4.out.call b5).1)
       clear b5 hz5 hn5)
    | (go_at_call 20; refine (HW.out _ HG5.out).mono ?_; rintro e w6 ⟨rfl, b6⟩
       have hz6 := (b6.block w.heap.size (heap_lt HZ5.out)).trans HZ5.out
       have hn6 := (b6.block w3.heap.size (heap_lt HN5.out)).trans HN5.out
       have HZ6 := Lib.hid hz6
       have K6 := Lib.hid (K5.out.call b6)
       have z0 := cell_of_heap hz6 0; have z1 := cell_of_heap hz6 1; have z2 := cell_of_heap hz6 2; have z3 := cell_of_heap hz6 3; have z4 := cell_of_heap hz6 4; have z5 := cell_of_heap hz6 5; have z6 := cell_of_heap hz6 6; have z7 := cell_of_heap hz6 7; have z8 := cell_of_heap hz6 8; have f0 := frozen_of_heap hz6 0; have f1 := frozen_of_heap hz6 1; have f2 := frozen_of_heap hz6 2; have f3 := frozen_of_heap hz6 3; have f4 := frozen_of_heap hz6 4; have f5 := frozen_of_heap hz6 5; have f6 := frozen_of_heap hz6 6; have f7 := frozen_of_heap hz6 7; have f8 := frozen_of_heap hz6 8; simp only [List.getElem?_toArray, List.getElem?_cons_zero, List.getElem?_cons_succ] at z0 z1 z2 z3 z4 z5 z6 z7 z8
       skip
       clear b6 hz6 hn6)
    | fail)
  refine bodyPost_ret (results_row_tmp (p := 2) (u := 3) (ty := 23) rfl _ _ _ w.heap.size 23 #[.int .i64 0, .int .i64 0, .int .i64 0, .int .i64 0, .int .i64 0, .int .i64 0, .int .i64 0, .int .i64 0, .int .i64 0] (0, 0) _ (.iface 78 (.agg #[.iface 36 (.int .i64 1)])) rfl rfl ?_ Tryd.underlying23 rfl (by kernel_rfl)) rfl ?_
  · refine Eq.trans (by with_reducible exact (heap_setCell_same (heap_setCell_same (heap_setCell_same (heap_setCell_same (heap_setCell_same (heap_setCell_same (heap_setCell_same (heap_setCell_same (heap_setCell_same HZ6.out _) _) _) _) _) _) _) _) _)) ?_
    kernel_rfl
  · exact ⟨rfl, (((((((((K6.out.setCell (Nat.le_refl _) _).setCell (Nat.le_refl _) _).setCell (Nat.le_refl _) _).setCell (Nat.le_refl _) _).setCell (Nat.le_refl _) _).setCell (Nat.le_refl _) _).setCell (Nat.le_refl _) _).setCell (Nat.le_refl _) _).setCell (Nat.le_refl _) _).1⟩

set_option maxRecDepth 100000 in
set_option maxHeartbeats 2000000 in
theorem decode_ok (A : Option Addr) (n cap : Nat) (bs : List Nat) (ms : List Int) (hl : ms.length = 9) (hok : Ok ms) (hrv : readV bs = (nums ms, .nilIface)) (w : World) (hr : Row w A n cap bs) (hg : Laid w) :
    Calls Tryd.prog 12 #[.slice A n cap] w fun e w' => e = .returned (.tuple #[nums ms, .nilIface]) ∧ Below w.heap.size w w' := by
  have hread := fun g w1 h => read9 g bs w1 h
  rw [hrv] at hread
  have hm := fun w => may9 ms hl w
  have hcmd := fun w => command_any ms hl w
  simp only [if_pos hok] at hm
  obtain ⟨m0, m1, m2, m3, m4, m5, m6, m7, m8, rfl⟩ := nine hl
  (try unfold zeros at *)
  unfold nums at *
  simp only [List.map_cons, List.map_nil] at *
  have HR := Lib.hid hr
  have HG := Lib.hid hg
  have HRD := Lib.hid hread
  have HW := Lib.hid (fun w hg => wrapped_ok w hg)
  (try unfold errno at *)
  (try unfold fault at *)
  (try unfold cfault at *)
  clear hl hrv hr hg hread hok
  have hz0 := push_new w (.cells #[.int .i64 0, .int .i64 0, .int .i64 0, .int .i64 0, .int .i64 0, .int .i64 0, .int .i64 0, .int .i64 0, .int .i64 0] 23)
  have b0 : Below w.heap.size w (w.alloc (.cells #[.int .i64 0, .int .i64 0, .int .i64 0, .int .i64 0, .int .i64 0, .int .i64 0, .int .i64 0, .int .i64 0, .int .i64 0] 23)) := (Below.refl _ _).alloc (Nat.le_refl _) _
  have HZ0 := Lib.hid hz0
  have B0 := Lib.hid b0
  have hrow := HR.out.below b0
  have HROW := Lib.hid hrow
  clear hz0 b0 hrow HR
  go_enter Tryd.func12, Tryd.ntmps12
  go_wp2_with (first
    | (go_at_call 26; refine (from_any A n cap bs _ HROW.out).mono ?_; rintro e w2 ⟨g, rfl, hrd, hge, b2⟩
       have hz2 := (b2.block w.heap.size (by simp)).trans HZ0.out
       have HZ2 := Lib.hid hz2
       have HRD2 := Lib.hid hrd
       have hgw : w.heap.size < g := by simp at hge; omega
       have k2 := Lib.hid ((Kept.refl w).call (B0.out.trans (b2.mono B0.out.size)))
       clear hz2 hrd hge b2)
    | (go_at_call 25; refine (HRD.out g _ HRD2.out).mono ?_; rintro e w3 ⟨rfl, o3⟩
       have hz3 := (o3.rest w.heap.size (heap_lt HZ2.out) (by omega)).trans HZ2.out
       have k3 : Kept w w3 := ⟨k2.out.1.trans (o3.below (Nat.le_of_lt hgw) k2.out.2), Nat.le_trans k2.out.2 o3.size⟩
       have hn4 := push_new w3 (.cells #[.int .i64 m0, .int .i64 m1, .int .i64 m2, .int .i64 m3, .int .i64 m4, .int .i64 m5, .int .i64 m6, .int .i64 m7, .int .i64 m8] 50)
       have hz4 := (push_old w3 (.cells #[.int .i64 m0, .int .i64 m1, .int .i64 m2, .int .i64 m3, .int .i64 m4, .int .i64 m5, .int .i64 m6, .int .i64 m7, .int .i64 m8] 50) (heap_lt hz3)).trans hz3
       have k4 := k3.alloc (.cells #[.int .i64 m0, .int .i64 m1, .int .i64 m2, .int .i64 m3, .int .i64 m4, .int .i64 m5, .int .i64 m6, .int .i64 m7, .int .i64 m8] 50)
       have HZ4 := Lib.hid hz4
       have HN4 := Lib.hid hn4
       have K4 := Lib.hid k4
       have HG4 := Lib.hid (HG.out.below k4.1)
       clear o3 hz3 k3 hn4 hz4 k4)
    | (go_at_call 21; refine (hm _).mono ?_; rintro e w5 ⟨rfl, b5⟩
       have hz5 := (b5.block w.heap.size (heap_lt HZ4.out)).trans HZ4.out
       have hn5 := (b5.block w3.heap.size (heap_lt HN4.out)).trans HN4.out
       have HZ5 := Lib.hid hz5
       have HN5 := Lib.hid hn5
       have K5 := Lib.hid (K4.out.call b5)
       have HG5 := Lib.hid (HG.out.below (K4.out.call b5).1)
       clear b5 hz5 hn5)
    | (go_at_call 20; refine (HW.out _ HG5.out).mono ?_; rintro e w6 ⟨rfl, b6⟩
       have hz6 := (b6.block w.heap.size (heap_lt HZ5.out)).trans HZ5.out
       have hn6 := (b6.block w3.heap.size (heap_lt HN5.out)).trans HN5.out
       have HZ6 := Lib.hid hz6
       have K6 := Lib.hid (K5.out.call b6)
       skip
       have x0 := cell_of_heap hn6 0; have x1 := cell_of_heap hn6 1; have x2 := cell_of_heap hn6 2; have x3 := cell_of_heap hn6 3; have x4 := cell_of_heap hn6 4; have x5 := cell_of_heap hn6 5; have x6 := cell_of_heap hn6 6; have x7 := cell_of_heap hn6 7; have x8 := cell_of_heap hn6 8; simp only [List.getElem?_toArray, List.getElem?_cons_zero, List.getElem?_cons_succ] at x0 x1 x2 x3 x4 x5 x6 x7 x8
       clear b6 hz6 hn6)
    | (go_at_call 27; refine (hcmd _).mono ?_; rintro e w7 ⟨rfl, b7⟩
       have hz7 := (b7.block w.heap.size (heap_lt HZ6.out)).trans HZ6.out
       have HZ7 := Lib.hid hz7
       have K7 := Lib.hid (K6.out.call b7)
       have z0 := cell_of_heap hz7 0; have z1 := cell_of_heap hz7 1; have z2 := cell_of_heap hz7 2; have z3 := cell_of_heap hz7 3; have z4 := cell_of_heap hz7 4; have z5 := cell_of_heap hz7 5; have z6 := cell_of_heap hz7 6; have z7 := cell_of_heap hz7 7; have z8 := cell_of_heap hz7 8; have f0 := frozen_of_heap hz7 0; have f1 := frozen_of_heap hz7 1; have f2 := frozen_of_heap hz7 2; have f3 := frozen_of_heap hz7 3; have f4 := frozen_of_heap hz7 4; have f5 := frozen_of_heap hz7 5; have f6 := frozen_of_heap hz7 6; have f7 := frozen_of_heap hz7 7; have f8 := frozen_of_heap hz7 8; simp only [List.getElem?_toArray, List.getElem?_cons_zero, List.getElem?_cons_succ] at z0 z1 z2 z3 z4 z5 z6 z7 z8
       clear b7 hz7)
    | fail)
  refine bodyPost_ret (results_row_tmp (p := 2) (u := 3) (ty := 23) rfl _ _ _ w.heap.size 23 #[.int .i64 m0, .int .i64 m1, .int .i64 m2, .int .i64 m3, .int .i64 m4, .int .i64 m5, .int .i64 m6, .int .i64 m7, .int .i64 m8] (0, 0) _ .nilIface rfl rfl ?_ Tryd.underlying23 rfl (by kernel_rfl)) rfl ?_
  · refine Eq.trans (by with_reducible exact (heap_setCell_same (heap_setCell_same (heap_setCell_same (heap_setCell_same (heap_setCell_same (heap_setCell_same (heap_setCell_same (heap_setCell_same (heap_setCell_same HZ7.out _) _) _) _) _) _) _) _) _)) ?_
    kernel_rfl
  · exact ⟨rfl, (((((((((K7.out.setCell (Nat.le_refl _) _).setCell (Nat.le_refl _) _).setCell (Nat.le_refl _) _).setCell (Nat.le_refl _) _).setCell (Nat.le_refl _) _).setCell (Nat.le_refl _) _).setCell (Nat.le_refl _) _).setCell (Nat.le_refl _) _).setCell (Nat.le_refl _) _).1⟩

/-- the error that Decode tells, out of its number and place -/
def decE (c : Nat) (o : Option Nat) : Value := if c = 0 then .nilIface else match o with
  | some p => cfault (fault (c : Int) (p : Int))
  | none => cfault (errno (c : Int))
theorem decode_any (A : Option Addr) (n cap : Nat) (bs : List Nat) (w : World) (hr : Row w A n cap bs) (hg : Laid w) :
    Calls Tryd.prog 12 #[.slice A n cap] w fun e w' => e = .returned (.tuple #[nums (dec bs).1, decE (dec bs).2.1 (dec bs).2.2]) ∧ Below w.heap.size w w' := by
  have hb := hr.bts.2.2.1
  have hrv : readV bs = readV bs := rfl
  conv at hrv => rhs; unfold readV
  unfold dec
  generalize hR : rdN 0 9 bs 0 = R at *
  obtain ⟨ms, p, c⟩ := R
  simp only at hrv ⊢
  by_cases hc : c = 0
  · subst hc
    have hl := (rd_back 9 0 0 bs ms p hb (Nat.zero_le _) hR).2.2
    simp only [ne_eq, not_true_eq_false, if_false] at hrv ⊢
    by_cases hp : p < bs.length
    · rw [if_pos hp] at hrv ⊢
      exact decode_err A n cap bs ms hl 2 p (by decide) hrv w hr hg
    · rw [if_neg hp] at hrv ⊢
      by_cases hok : Ok ms
      · rw [if_pos hok]
        exact decode_ok A n cap bs ms hl hok hrv w hr hg
      · rw [if_neg hok]
        exact decode_bad A n cap bs ms hl hok hrv w hr hg
  · simp only [ne_eq, hc, not_false_eq_true, if_true] at hrv ⊢
    have := decode_err A n cap bs zeros rfl c p hc hrv w hr hg
    unfold decE
    rw [if_neg hc]
    exact this
end Go.Proofs.YtegjlcmeaelbnaaDoor
