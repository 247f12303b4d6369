/- The walk of CmdBack: what may be is decoded as it was encoded. -/
import Derived.Test.YtegjlcmeaelbnaaDoorCmdK
namespace Go.Proofs.YtegjlcmeaelbnaaDoor
open Go.RowKit

theorem cmd_of {w : World} {cs : List Value} (h : cs.length = 9 ∧ IsStruct [(0, 1, (IsInt .i64)), (1, 1, (IsInt .i64)), (2, 1, (IsInt .i64)), (3, 1, (IsInt .i64)), (4, 1, (IsInt .i64)), (5, 1, (IsInt .i64)), (6, 1, (IsInt .i64)), (7, 1, (IsInt .i64)), (8, 1, (IsInt .i64))] w cs) :
    ∃ n0 n1 n2 n3 n4 n5 n6 n7 n8 : Int, cs = [.int .i64 n0, .int .i64 n1, .int .i64 n2, .int .i64 n3, .int .i64 n4, .int .i64 n5, .int .i64 n6, .int .i64 n7, .int .i64 n8] := by
  obtain ⟨hl, hs⟩ := h
  match cs, hl with
  | [c0, c1, c2, c3, c4, c5, c6, c7, c8], _ =>
    obtain ⟨⟨n0, e0, _⟩, ⟨n1, e1, _⟩, ⟨n2, e2, _⟩, ⟨n3, e3, _⟩, ⟨n4, e4, _⟩, ⟨n5, e5, _⟩, ⟨n6, e6, _⟩, ⟨n7, e7, _⟩, ⟨n8, e8, _⟩, _⟩ := hs
    simp only [List.drop_zero, List.drop_succ_cons, List.take_succ_cons, List.take_zero, List.cons.injEq, and_true] at e0 e1 e2 e3 e4 e5 e6 e7 e8
    subst e0 e1 e2 e3 e4 e5 e6 e7 e8
    exact ⟨n0, n1, n2, n3, n4, n5, n6, n7, n8, rfl⟩

set_option maxRecDepth 100000 in
set_option maxHeartbeats 4000000 in
theorem CmdBack_walk (a0 : List Value) (w : World) (hg : Laid w) (w0 : (fun w cs => cs.length = 9 ∧ IsStruct [(0, 1, (IsInt .i64)), (1, 1, (IsInt .i64)), (2, 1, (IsInt .i64)), (3, 1, (IsInt .i64)), (4, 1, (IsInt .i64)), (5, 1, (IsInt .i64)), (6, 1, (IsInt .i64)), (7, 1, (IsInt .i64)), (8, 1, (IsInt .i64))] w cs : World → List Value → Prop) w a0) :
    Calls Tryd.prog 4 #[.agg a0.toArray] w fun e w' => e = .returned (.bool true) ∧ Below w.heap.size w w' := by
  obtain ⟨n0, n1, n2, n3, n4, n5, n6, n7, n8, rfl⟩ := cmd_of w0
  have hmay := fun w => may_any [n0, n1, n2, n3, n4, n5, n6, n7, n8] rfl w
  have hc0 := push_new w (.cells #[.int .i64 n0, .int .i64 n1, .int .i64 n2, .int .i64 n3, .int .i64 n4, .int .i64 n5, .int .i64 n6, .int .i64 n7, .int .i64 n8] 23)
  have k0 : Kept w (w.alloc (.cells #[.int .i64 n0, .int .i64 n1, .int .i64 n2, .int .i64 n3, .int .i64 n4, .int .i64 n5, .int .i64 n6, .int .i64 n7, .int .i64 n8] 23)) := (Kept.refl w).alloc _
  have HC0 := Lib.hid hc0
  have K0 := Lib.hid k0
  have HG := Lib.hid hg
  by_cases hok : Ok [n0, n1, n2, n3, n4, n5, n6, n7, n8]
  · have henc := fun w hg => encode_ok [n0, n1, n2, n3, n4, n5, n6, n7, n8] rfl hok w hg
    have hsix := encN_six [n0, n1, n2, n3, n4, n5, n6, n7, n8] 0 (ok_goods rfl hok)
    have hby := encN_byte [n0, n1, n2, n3, n4, n5, n6, n7, n8] 0
    have hdec := fun A n cap w h hg => decode_any A n cap (encN 0 [n0, n1, n2, n3, n4, n5, n6, n7, n8]) w h hg
    simp only [dec_enc (ns := [n0, n1, n2, n3, n4, n5, n6, n7, n8]) rfl hok, decE, if_true] at hdec
    simp only [if_pos hok] at hmay
    simp only [List.length_cons, List.length_nil] at hsix
    generalize encN 0 [n0, n1, n2, n3, n4, n5, n6, n7, n8] = bs at *
    unfold nums at *
    simp only [List.map_cons, List.map_nil] at *
    have HE := Lib.hid henc
    have HD := Lib.hid hdec
    have HM := Lib.hid hmay
    have HBY := Lib.hid hby
    clear henc hdec hmay hby hok w0 hg hc0 k0
    go_enter Tryd.func4, Tryd.ntmps4
    go_wp2_with (first
      | (go_at_call 9; refine (awake_any _ (HG.out.below K0.out.1)).mono ?_; rintro e w1 ⟨rfl, b1⟩
         have HC1 := Lib.hid ((b1.block w.heap.size (heap_lt HC0.out)).trans HC0.out)
         have K1 := Lib.hid (K0.out.call b1)
         have hc1 := HC1.out
         have p0 := cell_of_heap hc1 0; have p1 := cell_of_heap hc1 1; have p2 := cell_of_heap hc1 2; have p3 := cell_of_heap hc1 3; have p4 := cell_of_heap hc1 4; have p5 := cell_of_heap hc1 5; have p6 := cell_of_heap hc1 6; have p7 := cell_of_heap hc1 7; have p8 := cell_of_heap hc1 8; simp only [List.getElem?_toArray, List.getElem?_cons_zero, List.getElem?_cons_succ] at p0 p1 p2 p3 p4 p5 p6 p7 p8
         clear b1 hc1)
      | (go_at_call 10; refine (HE.out _ (HG.out.below K1.out.1)).mono ?_; rintro e w2 ⟨v, rfl, own, b2⟩
         obtain ⟨A, cap, rfl, hrow⟩ := own.row (by omega) HBY.out
         have HC2 := Lib.hid ((b2.block w.heap.size (heap_lt HC1.out)).trans HC1.out)
         have K2 := Lib.hid (K1.out.call b2)
         have hc2 := HC2.out
         have HR2 := Lib.hid hrow
         have q0 := cell_of_heap hc2 0; have q1 := cell_of_heap hc2 1; have q2 := cell_of_heap hc2 2; have q3 := cell_of_heap hc2 3; have q4 := cell_of_heap hc2 4; have q5 := cell_of_heap hc2 5; have q6 := cell_of_heap hc2 6; have q7 := cell_of_heap hc2 7; have q8 := cell_of_heap hc2 8; simp only [List.getElem?_toArray, List.getElem?_cons_zero, List.getElem?_cons_succ] at q0 q1 q2 q3 q4 q5 q6 q7 q8
         clear b2 hc2 own hrow)
      | (go_at_call 14; refine (HM.out _).mono ?_; rintro e w3 ⟨rfl, b3⟩
         have HC3 := Lib.hid ((b3.block w.heap.size (heap_lt HC2.out)).trans HC2.out)
         have K3 := Lib.hid (K2.out.call b3)
         have HR3 := Lib.hid (HR2.out.below b3)
         clear b3)
      | (go_at_call 12; refine (HD.out _ _ _ _ HR3.out (HG.out.below K3.out.1)).mono ?_; rintro e w4 ⟨rfl, b4⟩
         have hc4 := (push_old w4 (.cells #[.int .i64 n0, .int .i64 n1, .int .i64 n2, .int .i64 n3, .int .i64 n4, .int .i64 n5, .int .i64 n6, .int .i64 n7, .int .i64 n8] 23) (heap_lt ((b4.block w.heap.size (heap_lt HC3.out)).trans HC3.out))).trans ((b4.block w.heap.size (heap_lt HC3.out)).trans HC3.out)
         have K4 := Lib.hid ((K3.out.call b4).alloc (.cells #[.int .i64 n0, .int .i64 n1, .int .i64 n2, .int .i64 n3, .int .i64 n4, .int .i64 n5, .int .i64 n6, .int .i64 n7, .int .i64 n8] 23))
         have s0 := cell_of_heap hc4 0; have s1 := cell_of_heap hc4 1; have s2 := cell_of_heap hc4 2; have s3 := cell_of_heap hc4 3; have s4 := cell_of_heap hc4 4; have s5 := cell_of_heap hc4 5; have s6 := cell_of_heap hc4 6; have s7 := cell_of_heap hc4 7; have s8 := cell_of_heap hc4 8; simp only [List.getElem?_toArray, List.getElem?_cons_zero, List.getElem?_cons_succ] at s0 s1 s2 s3 s4 s5 s6 s7 s8
         clear b4 hc4)
      | fail)
    go_ret
    refine ⟨?_, K4.out.1⟩
    show Ending.returned (.bool (decide _)) = _
    rw [decide_eq_true (by omega)]
  · have henc := fun w hg => encode_bad [n0, n1, n2, n3, n4, n5, n6, n7, n8] rfl hok w hg
    simp only [if_neg hok] at hmay
    unfold nums cfault errno at *
    simp only [List.map_cons, List.map_nil] at *
    have hN := fun w => run_neq_held_nil (P := Tryd.prog) w 27 78 (.agg #[.iface 36 (.int .i64 1)]) (by kernel_rfl)
    have HE := Lib.hid henc
    have HM := Lib.hid hmay
    clear henc hmay hok w0 hg hc0 k0
    go_enter Tryd.func4, Tryd.ntmps4
    go_wp2_with (first
      | (go_at_call 9; refine (awake_any _ (HG.out.below K0.out.1)).mono ?_; rintro e w1 ⟨rfl, b1⟩
         have HC1 := Lib.hid ((b1.block w.heap.size (heap_lt HC0.out)).trans HC0.out)
         have K1 := Lib.hid (K0.out.call b1)
         have hc1 := HC1.out
         have p0 := cell_of_heap hc1 0; have p1 := cell_of_heap hc1 1; have p2 := cell_of_heap hc1 2; have p3 := cell_of_heap hc1 3; have p4 := cell_of_heap hc1 4; have p5 := cell_of_heap hc1 5; have p6 := cell_of_heap hc1 6; have p7 := cell_of_heap hc1 7; have p8 := cell_of_heap hc1 8; simp only [List.getElem?_toArray, List.getElem?_cons_zero, List.getElem?_cons_succ] at p0 p1 p2 p3 p4 p5 p6 p7 p8
         clear b1 hc1)
      | (go_at_call 10; refine (HE.out _ (HG.out.below K1.out.1)).mono ?_; rintro e w2 ⟨rfl, b2⟩
         have HC2 := Lib.hid ((b2.block w.heap.size (heap_lt HC1.out)).trans HC1.out)
         have K2 := Lib.hid (K1.out.call b2)
         have hc2 := HC2.out
         have q0 := cell_of_heap hc2 0; have q1 := cell_of_heap hc2 1; have q2 := cell_of_heap hc2 2; have q3 := cell_of_heap hc2 3; have q4 := cell_of_heap hc2 4; have q5 := cell_of_heap hc2 5; have q6 := cell_of_heap hc2 6; have q7 := cell_of_heap hc2 7; have q8 := cell_of_heap hc2 8; simp only [List.getElem?_toArray, List.getElem?_cons_zero, List.getElem?_cons_succ] at q0 q1 q2 q3 q4 q5 q6 q7 q8
         clear b2 hc2)
      | (go_at_call 14; refine (HM.out _).mono ?_; rintro e w3 ⟨rfl, b3⟩
         have K3 := Lib.hid (K2.out.call b3)
         clear b3)
      | fail)
    go_ret
    exact ⟨rfl, K3.out.1⟩
end Go.Proofs.YtegjlcmeaelbnaaDoor
