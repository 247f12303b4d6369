/- The walk of CmdFields: a command that may be may not be with a field that its kind has not, nor with one beyond what it may be. -/
import Derived.Test.YtegjlcmeaelbnaaDoorCmdU
import Derived.Deep.CutRange
import Derived.Deep.DeepCutAuto
namespace Go.Proofs.YtegjlcmeaelbnaaDoor
open Go.RowKit

theorem new_at {w : World} {n : Nat} {o : Obj} (h : w.heap.size = n) : (w.alloc o).heap[n]? = some o := h ▸ push_new w o
theorem code_ok {ns : List Int} (h : Ok ns) : (if Ok ns then (0 : Int) else 1) = 0 := if_pos h
theorem code_no {ns : List Int} (h : ¬ Ok ns) : (if Ok ns then (0 : Int) else 1) = 1 := if_neg h

set_option maxRecDepth 100000 in
set_option maxHeartbeats 8000000 in
theorem CmdFields_walk (a0 : List Value) (a1 : Int) (w : World) (hg : Laid w) (w0 : (fun w cs => cs.length = 9 ∧ IsStruct [(0, 1, (IsInt .i64)), (1, 1, (IsInt .i64)), (2, 1, (IsInt .i64)), (3, 1, (IsInt .i64)), (4, 1, (IsInt .i64)), (5, 1, (IsInt .i64)), (6, 1, (IsInt .i64)), (7, 1, (IsInt .i64)), (8, 1, (IsInt .i64))] w cs : World → List Value → Prop) w a0) (_ : (Lit.int .i64 a1).wf = true) :
    Calls Tryd.prog 7 #[.agg a0.toArray, .int .i64 a1] w fun e w' => e = .returned (.bool true) ∧ Below w.heap.size w w' := by
  obtain ⟨n0, n1, n2, n3, n4, n5, n6, n7, n8, rfl⟩ := cmd_of w0
  obtain ⟨n, rfl⟩ : ∃ n, n = a1 := ⟨a1, rfl⟩
  have hc0 := push_new w (.cells #[.int .i64 n0, .int .i64 n1, .int .i64 n2, .int .i64 n3, .int .i64 n4, .int .i64 n5, .int .i64 n6, .int .i64 n7, .int .i64 n8] 23)
  have HC0 := Lib.hid hc0
  have K0 := Lib.hid ((Kept.refl w).alloc (.cells #[.int .i64 n0, .int .i64 n1, .int .i64 n2, .int .i64 n3, .int .i64 n4, .int .i64 n5, .int .i64 n6, .int .i64 n7, .int .i64 n8] 23))
  have HG := Lib.hid hg
  have hmay := fun w => may_any [n0, n1, n2, n3, n4, n5, n6, n7, n8] rfl w
  by_cases hok : Ok [n0, n1, n2, n3, n4, n5, n6, n7, n8]
  · have hk : 0 ≤ n0 ∧ n0 ≤ 11 := hok 0 (by decide)
    obtain ⟨u0, u1, u2, u3, u4, hu, q1, q2, i1, i2⟩ := span_uses n0 hk.1 hk.2
    have huses := fun w => uses_any n0 hk.1 hk.2 w
    have hV : usesV n0 = .agg #[.bool u0, .bool u1, .bool u2, .bool u3, .bool u4] := by unfold usesV; rw [hu]; rfl
    rw [hV] at huses
    have ha : Ok [n0, n1, n2, n3, n4, n5, n6, n7, n] ↔ lo n0 8 ≤ n ∧ n ≤ hi n0 8 := ok_set (ns := [n0, n1, n2, n3, n4, n5, n6, n7, n8]) rfl hok 8 (by decide) (by decide) n
    have hb : Ok [n0, n1, n2, n3, n4, n5, n6, n, n8] ↔ lo n0 7 ≤ n ∧ n ≤ hi n0 7 := ok_set (ns := [n0, n1, n2, n3, n4, n5, n6, n7, n8]) rfl hok 7 (by decide) (by decide) n
    have hd : Ok [n0, n1, n, n3, n4, n5, n6, n7, n8] ↔ 1 ≤ n ∧ n ≤ 1099511627776 := ok_set (ns := [n0, n1, n2, n3, n4, n5, n6, n7, n8]) rfl hok 2 (by decide) (by decide) n
    have ma := fun w => may_any [n0, n1, n2, n3, n4, n5, n6, n7, n] rfl w
    have mb := fun w => may_any [n0, n1, n2, n3, n4, n5, n6, n, n8] rfl w
    have md := fun w => may_any [n0, n1, n, n3, n4, n5, n6, n7, n8] rfl w
    simp only [code_ok hok] at hmay
    generalize lo n0 7 = l7 at *
    generalize hi n0 7 = h7 at *
    generalize lo n0 8 = l8 at *
    generalize hi n0 8 = h8 at *
    obtain ⟨ra, hra⟩ : ∃ r : Int, (if Ok [n0, n1, n2, n3, n4, n5, n6, n7, n] then (0 : Int) else 1) = r := ⟨_, rfl⟩
    obtain ⟨rb, hrb⟩ : ∃ r : Int, (if Ok [n0, n1, n2, n3, n4, n5, n6, n, n8] then (0 : Int) else 1) = r := ⟨_, rfl⟩
    obtain ⟨rd, hrd⟩ : ∃ r : Int, (if Ok [n0, n1, n, n3, n4, n5, n6, n7, n8] then (0 : Int) else 1) = r := ⟨_, rfl⟩
    simp only [hra] at ma
    simp only [hrb] at mb
    simp only [hrd] at md
    have za : ((l8 ≤ n ∧ n ≤ h8) → ra = 0) ∧ (¬ (l8 ≤ n ∧ n ≤ h8) → ra = 1) := ⟨fun h => by rw [← hra, code_ok (ha.2 h)], fun h => by rw [← hra, code_no (fun h' => h (ha.1 h'))]⟩
    have zb : ((l7 ≤ n ∧ n ≤ h7) → rb = 0) ∧ (¬ (l7 ≤ n ∧ n ≤ h7) → rb = 1) := ⟨fun h => by rw [← hrb, code_ok (hb.2 h)], fun h => by rw [← hrb, code_no (fun h' => h (hb.1 h'))]⟩
    have zd : ((1 ≤ n ∧ n ≤ 1099511627776) → rd = 0) ∧ (¬ (1 ≤ n ∧ n ≤ 1099511627776) → rd = 1) := ⟨fun h => by rw [← hrd, code_ok (hd.2 h)], fun h => by rw [← hrd, code_no (fun h' => h (hd.1 h'))]⟩
    unfold nums at *
    simp only [List.map_cons, List.map_nil] at *
    have HM := Lib.hid hmay
    have HU := Lib.hid huses
    have MA := Lib.hid ma
    have MB := Lib.hid mb
    have MD := Lib.hid md
    have ZA := Lib.hid za
    have ZB := Lib.hid zb
    have ZD := Lib.hid zd
    have Q1 := Lib.hid q1
    have Q2 := Lib.hid q2
    have I1 := Lib.hid i1
    have I2 := Lib.hid i2
    clear hmay huses ma mb md za zb zd q1 q2 i1 i2 ha hb hd hra hrb hrd hu hV hk hok hg w0 hc0
    go_enter Tryd.func7, Tryd.ntmps7
    go_wp2_with (first
      | (go_at_call 9; refine (awake_any _ (HG.out.below K0.out.1)).mono ?_; rintro e w1 ⟨rfl, b1⟩
         have hc1 := (b1.block w.heap.size (heap_lt HC0.out)).trans HC0.out
         have HC1 := Lib.hid hc1
         have K1 := Lib.hid (K0.out.call b1)
         have p0 := cell_of_heap hc1 0; have p1 := cell_of_heap hc1 1; have p2 := cell_of_heap hc1 2; have p3 := cell_of_heap hc1 3; have p4 := cell_of_heap hc1 4; have p5 := cell_of_heap hc1 5; have p6 := cell_of_heap hc1 6; have p7 := cell_of_heap hc1 7; have p8 := cell_of_heap hc1 8; simp only [List.getElem?_toArray, List.getElem?_cons_zero, List.getElem?_cons_succ] at p0 p1 p2 p3 p4 p5 p6 p7 p8
         clear b1 hc1)
      | fail)
    refine (HM.out _).mono ?_
    rintro e w2 ⟨rfl, b2⟩
    have hc2 := (b2.block w.heap.size (heap_lt HC1.out)).trans HC1.out
    have HC2 := Lib.hid hc2
    have K2 := Lib.hid (K1.out.call b2)
    have q0 := cell_of_heap hc2 0; have q1 := cell_of_heap hc2 1; have q2 := cell_of_heap hc2 2; have q3 := cell_of_heap hc2 3; have q4 := cell_of_heap hc2 4; have q5 := cell_of_heap hc2 5; have q6 := cell_of_heap hc2 6; have q7 := cell_of_heap hc2 7; have q8 := cell_of_heap hc2 8; simp only [List.getElem?_toArray, List.getElem?_cons_zero, List.getElem?_cons_succ] at q0 q1 q2 q3 q4 q5 q6 q7 q8
    clear b2 hc2
    go_upto_region 12 with (first
      | (go_at_call 17; refine (HU.out _).mono ?_; rintro e w3 ⟨rfl, b3⟩
         have hc3 := (b3.block w.heap.size (heap_lt HC2.out)).trans HC2.out
         have hr := heap_lt hc3
         have hx := (push_old w3 (.cells #[.bool u0, .bool u1, .bool u2, .bool u3, .bool u4] 44) hr).trans hc3
         have hy := (push_old (w3.alloc (.cells #[.bool u0, .bool u1, .bool u2, .bool u3, .bool u4] 44)) (.cells #[.int .i64 n0, .int .i64 n1, .int .i64 n2, .int .i64 n3, .int .i64 n4, .int .i64 n5, .int .i64 n6, .int .i64 n7, .int .i64 n] 23) (heap_lt hx)).trans hx
         have hz := (push_old ((w3.alloc (.cells #[.bool u0, .bool u1, .bool u2, .bool u3, .bool u4] 44)).alloc (.cells #[.int .i64 n0, .int .i64 n1, .int .i64 n2, .int .i64 n3, .int .i64 n4, .int .i64 n5, .int .i64 n6, .int .i64 n7, .int .i64 n] 23)) (.cells #[.int .i64 n0, .int .i64 n1, .int .i64 n2, .int .i64 n3, .int .i64 n4, .int .i64 n5, .int .i64 n6, .int .i64 n, .int .i64 n8] 23) (heap_lt hy)).trans hy
         have K3 := Lib.hid (((((K2.out.call b3).alloc (.cells #[.bool u0, .bool u1, .bool u2, .bool u3, .bool u4] 44)).alloc (.cells #[.int .i64 n0, .int .i64 n1, .int .i64 n2, .int .i64 n3, .int .i64 n4, .int .i64 n5, .int .i64 n6, .int .i64 n7, .int .i64 n] 23)).alloc (.cells #[.int .i64 n0, .int .i64 n1, .int .i64 n2, .int .i64 n3, .int .i64 n4, .int .i64 n5, .int .i64 n6, .int .i64 n, .int .i64 n8] 23)).alloc (.cells #[.int .i64 n0, .int .i64 n1, .int .i64 n, .int .i64 n3, .int .i64 n4, .int .i64 n5, .int .i64 n6, .int .i64 n7, .int .i64 n8] 23))
         have r0 := cell_of_heap hx 0; have r1 := cell_of_heap hx 1; have r2 := cell_of_heap hx 2; have r3 := cell_of_heap hx 3; have r4 := cell_of_heap hx 4; have r5 := cell_of_heap hx 5; have r6 := cell_of_heap hx 6; have r7 := cell_of_heap hx 7; have r8 := cell_of_heap hx 8; simp only [List.getElem?_toArray, List.getElem?_cons_zero, List.getElem?_cons_succ] at r0 r1 r2 r3 r4 r5 r6 r7 r8
         have s0 := cell_of_heap hy 0; have s1 := cell_of_heap hy 1; have s2 := cell_of_heap hy 2; have s3 := cell_of_heap hy 3; have s4 := cell_of_heap hy 4; have s5 := cell_of_heap hy 5; have s6 := cell_of_heap hy 6; have s7 := cell_of_heap hy 7; have s8 := cell_of_heap hy 8; simp only [List.getElem?_toArray, List.getElem?_cons_zero, List.getElem?_cons_succ] at s0 s1 s2 s3 s4 s5 s6 s7 s8
         have t0 := cell_of_heap hz 0; have t1 := cell_of_heap hz 1; have t2 := cell_of_heap hz 2; have t3 := cell_of_heap hz 3; have t4 := cell_of_heap hz 4; have t5 := cell_of_heap hz 5; have t6 := cell_of_heap hz 6; have t7 := cell_of_heap hz 7; have t8 := cell_of_heap hz 8; simp only [List.getElem?_toArray, List.getElem?_cons_zero, List.getElem?_cons_succ] at t0 t1 t2 t3 t4 t5 t6 t7 t8
         clear b3 hc3 hx hy hz)
      | fail)
    have f0 : ((((w3.alloc (.cells #[.bool u0, .bool u1, .bool u2, .bool u3, .bool u4] 44)).alloc (.cells #[.int .i64 n0, .int .i64 n1, .int .i64 n2, .int .i64 n3, .int .i64 n4, .int .i64 n5, .int .i64 n6, .int .i64 n7, .int .i64 n] 23)).alloc (.cells #[.int .i64 n0, .int .i64 n1, .int .i64 n2, .int .i64 n3, .int .i64 n4, .int .i64 n5, .int .i64 n6, .int .i64 n, .int .i64 n8] 23)).alloc (.cells #[.int .i64 n0, .int .i64 n1, .int .i64 n, .int .i64 n3, .int .i64 n4, .int .i64 n5, .int .i64 n6, .int .i64 n7, .int .i64 n8] 23)).heap[w3.heap.size]? = some (.cells #[.bool u0, .bool u1, .bool u2, .bool u3, .bool u4] 44 (0, 0)) := heap_keep (heap_keep (heap_keep (push_new _ _) _) _) _
    have f1 : ((((w3.alloc (.cells #[.bool u0, .bool u1, .bool u2, .bool u3, .bool u4] 44)).alloc (.cells #[.int .i64 n0, .int .i64 n1, .int .i64 n2, .int .i64 n3, .int .i64 n4, .int .i64 n5, .int .i64 n6, .int .i64 n7, .int .i64 n] 23)).alloc (.cells #[.int .i64 n0, .int .i64 n1, .int .i64 n2, .int .i64 n3, .int .i64 n4, .int .i64 n5, .int .i64 n6, .int .i64 n, .int .i64 n8] 23)).alloc (.cells #[.int .i64 n0, .int .i64 n1, .int .i64 n, .int .i64 n3, .int .i64 n4, .int .i64 n5, .int .i64 n6, .int .i64 n7, .int .i64 n8] 23)).heap[w3.heap.size + 1]? = some (.cells #[.int .i64 n0, .int .i64 n1, .int .i64 n2, .int .i64 n3, .int .i64 n4, .int .i64 n5, .int .i64 n6, .int .i64 n7, .int .i64 n] 23 (0, 0)) := heap_keep (heap_keep (new_at (by simp)) _) _
    have f2 : ((((w3.alloc (.cells #[.bool u0, .bool u1, .bool u2, .bool u3, .bool u4] 44)).alloc (.cells #[.int .i64 n0, .int .i64 n1, .int .i64 n2, .int .i64 n3, .int .i64 n4, .int .i64 n5, .int .i64 n6, .int .i64 n7, .int .i64 n] 23)).alloc (.cells #[.int .i64 n0, .int .i64 n1, .int .i64 n2, .int .i64 n3, .int .i64 n4, .int .i64 n5, .int .i64 n6, .int .i64 n, .int .i64 n8] 23)).alloc (.cells #[.int .i64 n0, .int .i64 n1, .int .i64 n, .int .i64 n3, .int .i64 n4, .int .i64 n5, .int .i64 n6, .int .i64 n7, .int .i64 n8] 23)).heap[w3.heap.size + 1 + 1]? = some (.cells #[.int .i64 n0, .int .i64 n1, .int .i64 n2, .int .i64 n3, .int .i64 n4, .int .i64 n5, .int .i64 n6, .int .i64 n, .int .i64 n8] 23 (0, 0)) := heap_keep (new_at (by simp)) _
    have f3 : ((((w3.alloc (.cells #[.bool u0, .bool u1, .bool u2, .bool u3, .bool u4] 44)).alloc (.cells #[.int .i64 n0, .int .i64 n1, .int .i64 n2, .int .i64 n3, .int .i64 n4, .int .i64 n5, .int .i64 n6, .int .i64 n7, .int .i64 n] 23)).alloc (.cells #[.int .i64 n0, .int .i64 n1, .int .i64 n2, .int .i64 n3, .int .i64 n4, .int .i64 n5, .int .i64 n6, .int .i64 n, .int .i64 n8] 23)).alloc (.cells #[.int .i64 n0, .int .i64 n1, .int .i64 n, .int .i64 n3, .int .i64 n4, .int .i64 n5, .int .i64 n6, .int .i64 n7, .int .i64 n8] 23)).heap[w3.heap.size + 1 + 1 + 1]? = some (.cells #[.int .i64 n0, .int .i64 n1, .int .i64 n, .int .i64 n3, .int .i64 n4, .int .i64 n5, .int .i64 n6, .int .i64 n7, .int .i64 n8] 23 (0, 0)) := new_at (by simp)
    clear p0 p1 p2 p3 p4 p5 p6 p7 p8 q0 q1 q2 q3 q4 q5 q6 q7 q8 r0 r1 r2 r3 r4 r5 r6 r7 r8 s0 s1 s2 s3 s4 s5 s6 s7 s8 t0 t1 t2 t3 t4 t5 t6 t7 t8
    generalize ((((w3.alloc (.cells #[.bool u0, .bool u1, .bool u2, .bool u3, .bool u4] 44)).alloc (.cells #[.int .i64 n0, .int .i64 n1, .int .i64 n2, .int .i64 n3, .int .i64 n4, .int .i64 n5, .int .i64 n6, .int .i64 n7, .int .i64 n] 23)).alloc (.cells #[.int .i64 n0, .int .i64 n1, .int .i64 n2, .int .i64 n3, .int .i64 n4, .int .i64 n5, .int .i64 n6, .int .i64 n, .int .i64 n8] 23)).alloc (.cells #[.int .i64 n0, .int .i64 n1, .int .i64 n, .int .i64 n3, .int .i64 n4, .int .i64 n5, .int .i64 n6, .int .i64 n7, .int .i64 n8] 23)) = W4 at *
    generalize w3.heap.size + 1 + 1 + 1 = gd at *
    generalize w3.heap.size + 1 + 1 = gb at *
    generalize w3.heap.size + 1 = ga at *
    generalize w3.heap.size = gu at *
    have v0 := cell_of_heap f0 0; have v1 := cell_of_heap f0 1; have v2 := cell_of_heap f0 2; have v3 := cell_of_heap f0 3; have v4 := cell_of_heap f0 4; simp only [List.getElem?_toArray, List.getElem?_cons_zero, List.getElem?_cons_succ] at v0 v1 v2 v3 v4
    have x0 := cell_of_heap f1 0; have x1 := cell_of_heap f1 1; have x2 := cell_of_heap f1 2; have x3 := cell_of_heap f1 3; have x4 := cell_of_heap f1 4; have x5 := cell_of_heap f1 5; have x6 := cell_of_heap f1 6; have x7 := cell_of_heap f1 7; have x8 := cell_of_heap f1 8; simp only [List.getElem?_toArray, List.getElem?_cons_zero, List.getElem?_cons_succ] at x0 x1 x2 x3 x4 x5 x6 x7 x8
    have F2 := Lib.hid f2
    have F3 := Lib.hid f3
    clear f0 f1 f2 f3 w3
    have hn : n < 0 ∨ n = 0 ∨ (1 ≤ n ∧ n ≤ 1073741824) ∨ (1073741824 < n ∧ n ≤ 1099511627776) ∨ 1099511627776 < n := by omega
    rcases u4 with _ | _ <;> rcases u3 with _ | _ <;> rcases hn with hn | rfl | hn | hn | hn
    · obtain rfl : ra = 1 := ZA.out.2 (by have := I2.out rfl; omega)
      obtain rfl : rb = 1 := ZB.out.2 (by have := Q2.out rfl; omega)
      obtain rfl : rd = 1 := ZD.out.2 (by omega)
      have g1 : decide (1 ≤ n) = false := by simp; omega
      have g1b : decide (n ≥ 1) = false := by simp; omega
      have g2 : decide (n ≤ 1099511627776) = true := by simp; omega
      have g3 : decide (n ≤ 1073741824) = true := by simp; omega
      have g4 : (n == 0) = false := by simp; omega
      go_wp2_with fail
      refine (MA.out _).mono ?_
      rintro e w5 ⟨rfl, b5⟩
      have f2 := (b5.block gb (heap_lt F2.out)).trans F2.out
      have f3 := (b5.block gd (heap_lt F3.out)).trans F3.out
      have F3' := Lib.hid f3
      have K5 := Lib.hid (K3.out.call b5)
      have y0 := cell_of_heap f2 0; have y1 := cell_of_heap f2 1; have y2 := cell_of_heap f2 2; have y3 := cell_of_heap f2 3; have y4 := cell_of_heap f2 4; have y5 := cell_of_heap f2 5; have y6 := cell_of_heap f2 6; have y7 := cell_of_heap f2 7; have y8 := cell_of_heap f2 8; simp only [List.getElem?_toArray, List.getElem?_cons_zero, List.getElem?_cons_succ] at y0 y1 y2 y3 y4 y5 y6 y7 y8
      clear b5 f2 f3
      go_wp2_with fail
      refine (MB.out _).mono ?_
      rintro e w6 ⟨rfl, b6⟩
      have f3 := (b6.block gd (heap_lt F3'.out)).trans F3'.out
      have K6 := Lib.hid (K5.out.call b6)
      have z0 := cell_of_heap f3 0; have z1 := cell_of_heap f3 1; have z2 := cell_of_heap f3 2; have z3 := cell_of_heap f3 3; have z4 := cell_of_heap f3 4; have z5 := cell_of_heap f3 5; have z6 := cell_of_heap f3 6; have z7 := cell_of_heap f3 7; have z8 := cell_of_heap f3 8; simp only [List.getElem?_toArray, List.getElem?_cons_zero, List.getElem?_cons_succ] at z0 z1 z2 z3 z4 z5 z6 z7 z8
      clear b6 f3
      go_wp2_with fail
      refine (MD.out _).mono ?_
      rintro e w7 ⟨rfl, b7⟩
      have K7 := Lib.hid (K6.out.call b7)
      clear b7
      go_wp2
      go_ret
      exact ⟨rfl, K7.out.1⟩
    · obtain rfl : ra = 0 := ZA.out.1 (by have := I2.out rfl; omega)
      obtain rfl : rb = 0 := ZB.out.1 (by have := Q2.out rfl; omega)
      obtain rfl : rd = 1 := ZD.out.2 (by omega)
      go_wp2_with fail
      refine (MA.out _).mono ?_
      rintro e w5 ⟨rfl, b5⟩
      have f2 := (b5.block gb (heap_lt F2.out)).trans F2.out
      have f3 := (b5.block gd (heap_lt F3.out)).trans F3.out
      have F3' := Lib.hid f3
      have K5 := Lib.hid (K3.out.call b5)
      have y0 := cell_of_heap f2 0; have y1 := cell_of_heap f2 1; have y2 := cell_of_heap f2 2; have y3 := cell_of_heap f2 3; have y4 := cell_of_heap f2 4; have y5 := cell_of_heap f2 5; have y6 := cell_of_heap f2 6; have y7 := cell_of_heap f2 7; have y8 := cell_of_heap f2 8; simp only [List.getElem?_toArray, List.getElem?_cons_zero, List.getElem?_cons_succ] at y0 y1 y2 y3 y4 y5 y6 y7 y8
      clear b5 f2 f3
      go_wp2_with fail
      refine (MB.out _).mono ?_
      rintro e w6 ⟨rfl, b6⟩
      have f3 := (b6.block gd (heap_lt F3'.out)).trans F3'.out
      have K6 := Lib.hid (K5.out.call b6)
      have z0 := cell_of_heap f3 0; have z1 := cell_of_heap f3 1; have z2 := cell_of_heap f3 2; have z3 := cell_of_heap f3 3; have z4 := cell_of_heap f3 4; have z5 := cell_of_heap f3 5; have z6 := cell_of_heap f3 6; have z7 := cell_of_heap f3 7; have z8 := cell_of_heap f3 8; simp only [List.getElem?_toArray, List.getElem?_cons_zero, List.getElem?_cons_succ] at z0 z1 z2 z3 z4 z5 z6 z7 z8
      clear b6 f3
      go_wp2_with fail
      refine (MD.out _).mono ?_
      rintro e w7 ⟨rfl, b7⟩
      have K7 := Lib.hid (K6.out.call b7)
      clear b7
      go_wp2
      go_ret
      exact ⟨rfl, K7.out.1⟩
    · obtain rfl : ra = 1 := ZA.out.2 (by have := I2.out rfl; omega)
      obtain rfl : rb = 1 := ZB.out.2 (by have := Q2.out rfl; omega)
      obtain rfl : rd = 0 := ZD.out.1 (by omega)
      have g1 : decide (1 ≤ n) = true := by simp; omega
      have g1b : decide (n ≥ 1) = true := by simp; omega
      have g2 : decide (n ≤ 1099511627776) = true := by simp; omega
      have g3 : decide (n ≤ 1073741824) = true := by simp; omega
      have g4 : (n == 0) = false := by simp; omega
      go_wp2_with fail
      refine (MA.out _).mono ?_
      rintro e w5 ⟨rfl, b5⟩
      have f2 := (b5.block gb (heap_lt F2.out)).trans F2.out
      have f3 := (b5.block gd (heap_lt F3.out)).trans F3.out
      have F3' := Lib.hid f3
      have K5 := Lib.hid (K3.out.call b5)
      have y0 := cell_of_heap f2 0; have y1 := cell_of_heap f2 1; have y2 := cell_of_heap f2 2; have y3 := cell_of_heap f2 3; have y4 := cell_of_heap f2 4; have y5 := cell_of_heap f2 5; have y6 := cell_of_heap f2 6; have y7 := cell_of_heap f2 7; have y8 := cell_of_heap f2 8; simp only [List.getElem?_toArray, List.getElem?_cons_zero, List.getElem?_cons_succ] at y0 y1 y2 y3 y4 y5 y6 y7 y8
      clear b5 f2 f3
      go_wp2_with fail
      refine (MB.out _).mono ?_
      rintro e w6 ⟨rfl, b6⟩
      have f3 := (b6.block gd (heap_lt F3'.out)).trans F3'.out
      have K6 := Lib.hid (K5.out.call b6)
      have z0 := cell_of_heap f3 0; have z1 := cell_of_heap f3 1; have z2 := cell_of_heap f3 2; have z3 := cell_of_heap f3 3; have z4 := cell_of_heap f3 4; have z5 := cell_of_heap f3 5; have z6 := cell_of_heap f3 6; have z7 := cell_of_heap f3 7; have z8 := cell_of_heap f3 8; simp only [List.getElem?_toArray, List.getElem?_cons_zero, List.getElem?_cons_succ] at z0 z1 z2 z3 z4 z5 z6 z7 z8
      clear b6 f3
      go_wp2_with fail
      refine (MD.out _).mono ?_
      rintro e w7 ⟨rfl, b7⟩
      have K7 := Lib.hid (K6.out.call b7)
      clear b7
      go_wp2
      go_ret
      exact ⟨rfl, K7.out.1⟩
    · obtain rfl : ra = 1 := ZA.out.2 (by have := I2.out rfl; omega)
      obtain rfl : rb = 1 := ZB.out.2 (by have := Q2.out rfl; omega)
      obtain rfl : rd = 0 := ZD.out.1 (by omega)
      have g1 : decide (1 ≤ n) = true := by simp; omega
      have g1b : decide (n ≥ 1) = true := by simp; omega
      have g2 : decide (n ≤ 1099511627776) = true := by simp; omega
      have g3 : decide (n ≤ 1073741824) = false := by simp; omega
      have g4 : (n == 0) = false := by simp; omega
      go_wp2_with fail
      refine (MA.out _).mono ?_
      rintro e w5 ⟨rfl, b5⟩
      have f2 := (b5.block gb (heap_lt F2.out)).trans F2.out
      have f3 := (b5.block gd (heap_lt F3.out)).trans F3.out
      have F3' := Lib.hid f3
      have K5 := Lib.hid (K3.out.call b5)
      have y0 := cell_of_heap f2 0; have y1 := cell_of_heap f2 1; have y2 := cell_of_heap f2 2; have y3 := cell_of_heap f2 3; have y4 := cell_of_heap f2 4; have y5 := cell_of_heap f2 5; have y6 := cell_of_heap f2 6; have y7 := cell_of_heap f2 7; have y8 := cell_of_heap f2 8; simp only [List.getElem?_toArray, List.getElem?_cons_zero, List.getElem?_cons_succ] at y0 y1 y2 y3 y4 y5 y6 y7 y8
      clear b5 f2 f3
      go_wp2_with fail
      refine (MB.out _).mono ?_
      rintro e w6 ⟨rfl, b6⟩
      have f3 := (b6.block gd (heap_lt F3'.out)).trans F3'.out
      have K6 := Lib.hid (K5.out.call b6)
      have z0 := cell_of_heap f3 0; have z1 := cell_of_heap f3 1; have z2 := cell_of_heap f3 2; have z3 := cell_of_heap f3 3; have z4 := cell_of_heap f3 4; have z5 := cell_of_heap f3 5; have z6 := cell_of_heap f3 6; have z7 := cell_of_heap f3 7; have z8 := cell_of_heap f3 8; simp only [List.getElem?_toArray, List.getElem?_cons_zero, List.getElem?_cons_succ] at z0 z1 z2 z3 z4 z5 z6 z7 z8
      clear b6 f3
      go_wp2_with fail
      refine (MD.out _).mono ?_
      rintro e w7 ⟨rfl, b7⟩
      have K7 := Lib.hid (K6.out.call b7)
      clear b7
      go_wp2
      go_ret
      exact ⟨rfl, K7.out.1⟩
    · obtain rfl : ra = 1 := ZA.out.2 (by have := I2.out rfl; omega)
      obtain rfl : rb = 1 := ZB.out.2 (by have := Q2.out rfl; omega)
      obtain rfl : rd = 1 := ZD.out.2 (by omega)
      have g1 : decide (1 ≤ n) = true := by simp; omega
      have g1b : decide (n ≥ 1) = true := by simp; omega
      have g2 : decide (n ≤ 1099511627776) = false := by simp; omega
      have g3 : decide (n ≤ 1073741824) = false := by simp; omega
      have g4 : (n == 0) = false := by simp; omega
      go_wp2_with fail
      refine (MA.out _).mono ?_
      rintro e w5 ⟨rfl, b5⟩
      have f2 := (b5.block gb (heap_lt F2.out)).trans F2.out
      have f3 := (b5.block gd (heap_lt F3.out)).trans F3.out
      have F3' := Lib.hid f3
      have K5 := Lib.hid (K3.out.call b5)
      have y0 := cell_of_heap f2 0; have y1 := cell_of_heap f2 1; have y2 := cell_of_heap f2 2; have y3 := cell_of_heap f2 3; have y4 := cell_of_heap f2 4; have y5 := cell_of_heap f2 5; have y6 := cell_of_heap f2 6; have y7 := cell_of_heap f2 7; have y8 := cell_of_heap f2 8; simp only [List.getElem?_toArray, List.getElem?_cons_zero, List.getElem?_cons_succ] at y0 y1 y2 y3 y4 y5 y6 y7 y8
      clear b5 f2 f3
      go_wp2_with fail
      refine (MB.out _).mono ?_
      rintro e w6 ⟨rfl, b6⟩
      have f3 := (b6.block gd (heap_lt F3'.out)).trans F3'.out
      have K6 := Lib.hid (K5.out.call b6)
      have z0 := cell_of_heap f3 0; have z1 := cell_of_heap f3 1; have z2 := cell_of_heap f3 2; have z3 := cell_of_heap f3 3; have z4 := cell_of_heap f3 4; have z5 := cell_of_heap f3 5; have z6 := cell_of_heap f3 6; have z7 := cell_of_heap f3 7; have z8 := cell_of_heap f3 8; simp only [List.getElem?_toArray, List.getElem?_cons_zero, List.getElem?_cons_succ] at z0 z1 z2 z3 z4 z5 z6 z7 z8
      clear b6 f3
      go_wp2_with fail
      refine (MD.out _).mono ?_
      rintro e w7 ⟨rfl, b7⟩
      have K7 := Lib.hid (K6.out.call b7)
      clear b7
      go_wp2
      go_ret
      exact ⟨rfl, K7.out.1⟩
    · obtain rfl : ra = 1 := ZA.out.2 (by have := I2.out rfl; omega)
      obtain rfl : rb = 1 := ZB.out.2 (by have := Q1.out rfl; omega)
      obtain rfl : rd = 1 := ZD.out.2 (by omega)
      have g1 : decide (1 ≤ n) = false := by simp; omega
      have g1b : decide (n ≥ 1) = false := by simp; omega
      have g2 : decide (n ≤ 1099511627776) = true := by simp; omega
      have g3 : decide (n ≤ 1073741824) = true := by simp; omega
      have g4 : (n == 0) = false := by simp; omega
      go_wp2_with fail
      refine (MA.out _).mono ?_
      rintro e w5 ⟨rfl, b5⟩
      have f2 := (b5.block gb (heap_lt F2.out)).trans F2.out
      have f3 := (b5.block gd (heap_lt F3.out)).trans F3.out
      have F3' := Lib.hid f3
      have K5 := Lib.hid (K3.out.call b5)
      have y0 := cell_of_heap f2 0; have y1 := cell_of_heap f2 1; have y2 := cell_of_heap f2 2; have y3 := cell_of_heap f2 3; have y4 := cell_of_heap f2 4; have y5 := cell_of_heap f2 5; have y6 := cell_of_heap f2 6; have y7 := cell_of_heap f2 7; have y8 := cell_of_heap f2 8; simp only [List.getElem?_toArray, List.getElem?_cons_zero, List.getElem?_cons_succ] at y0 y1 y2 y3 y4 y5 y6 y7 y8
      clear b5 f2 f3
      go_wp2_with fail
      refine (MB.out _).mono ?_
      rintro e w6 ⟨rfl, b6⟩
      have f3 := (b6.block gd (heap_lt F3'.out)).trans F3'.out
      have K6 := Lib.hid (K5.out.call b6)
      have z0 := cell_of_heap f3 0; have z1 := cell_of_heap f3 1; have z2 := cell_of_heap f3 2; have z3 := cell_of_heap f3 3; have z4 := cell_of_heap f3 4; have z5 := cell_of_heap f3 5; have z6 := cell_of_heap f3 6; have z7 := cell_of_heap f3 7; have z8 := cell_of_heap f3 8; simp only [List.getElem?_toArray, List.getElem?_cons_zero, List.getElem?_cons_succ] at z0 z1 z2 z3 z4 z5 z6 z7 z8
      clear b6 f3
      go_wp2_with fail
      refine (MD.out _).mono ?_
      rintro e w7 ⟨rfl, b7⟩
      have K7 := Lib.hid (K6.out.call b7)
      clear b7
      go_wp2
      go_ret
      exact ⟨rfl, K7.out.1⟩
    · obtain rfl : ra = 0 := ZA.out.1 (by have := I2.out rfl; omega)
      obtain rfl : rb = 1 := ZB.out.2 (by have := Q1.out rfl; omega)
      obtain rfl : rd = 1 := ZD.out.2 (by omega)
      go_wp2_with fail
      refine (MA.out _).mono ?_
      rintro e w5 ⟨rfl, b5⟩
      have f2 := (b5.block gb (heap_lt F2.out)).trans F2.out
      have f3 := (b5.block gd (heap_lt F3.out)).trans F3.out
      have F3' := Lib.hid f3
      have K5 := Lib.hid (K3.out.call b5)
      have y0 := cell_of_heap f2 0; have y1 := cell_of_heap f2 1; have y2 := cell_of_heap f2 2; have y3 := cell_of_heap f2 3; have y4 := cell_of_heap f2 4; have y5 := cell_of_heap f2 5; have y6 := cell_of_heap f2 6; have y7 := cell_of_heap f2 7; have y8 := cell_of_heap f2 8; simp only [List.getElem?_toArray, List.getElem?_cons_zero, List.getElem?_cons_succ] at y0 y1 y2 y3 y4 y5 y6 y7 y8
      clear b5 f2 f3
      go_wp2_with fail
      refine (MB.out _).mono ?_
      rintro e w6 ⟨rfl, b6⟩
      have f3 := (b6.block gd (heap_lt F3'.out)).trans F3'.out
      have K6 := Lib.hid (K5.out.call b6)
      have z0 := cell_of_heap f3 0; have z1 := cell_of_heap f3 1; have z2 := cell_of_heap f3 2; have z3 := cell_of_heap f3 3; have z4 := cell_of_heap f3 4; have z5 := cell_of_heap f3 5; have z6 := cell_of_heap f3 6; have z7 := cell_of_heap f3 7; have z8 := cell_of_heap f3 8; simp only [List.getElem?_toArray, List.getElem?_cons_zero, List.getElem?_cons_succ] at z0 z1 z2 z3 z4 z5 z6 z7 z8
      clear b6 f3
      go_wp2_with fail
      refine (MD.out _).mono ?_
      rintro e w7 ⟨rfl, b7⟩
      have K7 := Lib.hid (K6.out.call b7)
      clear b7
      go_wp2
      go_ret
      exact ⟨rfl, K7.out.1⟩
    · obtain rfl : ra = 1 := ZA.out.2 (by have := I2.out rfl; omega)
      obtain rfl : rb = 0 := ZB.out.1 (by have := Q1.out rfl; omega)
      obtain rfl : rd = 0 := ZD.out.1 (by omega)
      have g1 : decide (1 ≤ n) = true := by simp; omega
      have g1b : decide (n ≥ 1) = true := by simp; omega
      have g2 : decide (n ≤ 1099511627776) = true := by simp; omega
      have g3 : decide (n ≤ 1073741824) = true := by simp; omega
      have g4 : (n == 0) = false := by simp; omega
      go_wp2_with fail
      refine (MA.out _).mono ?_
      rintro e w5 ⟨rfl, b5⟩
      have f2 := (b5.block gb (heap_lt F2.out)).trans F2.out
      have f3 := (b5.block gd (heap_lt F3.out)).trans F3.out
      have F3' := Lib.hid f3
      have K5 := Lib.hid (K3.out.call b5)
      have y0 := cell_of_heap f2 0; have y1 := cell_of_heap f2 1; have y2 := cell_of_heap f2 2; have y3 := cell_of_heap f2 3; have y4 := cell_of_heap f2 4; have y5 := cell_of_heap f2 5; have y6 := cell_of_heap f2 6; have y7 := cell_of_heap f2 7; have y8 := cell_of_heap f2 8; simp only [List.getElem?_toArray, List.getElem?_cons_zero, List.getElem?_cons_succ] at y0 y1 y2 y3 y4 y5 y6 y7 y8
      clear b5 f2 f3
      go_wp2_with fail
      refine (MB.out _).mono ?_
      rintro e w6 ⟨rfl, b6⟩
      have f3 := (b6.block gd (heap_lt F3'.out)).trans F3'.out
      have K6 := Lib.hid (K5.out.call b6)
      have z0 := cell_of_heap f3 0; have z1 := cell_of_heap f3 1; have z2 := cell_of_heap f3 2; have z3 := cell_of_heap f3 3; have z4 := cell_of_heap f3 4; have z5 := cell_of_heap f3 5; have z6 := cell_of_heap f3 6; have z7 := cell_of_heap f3 7; have z8 := cell_of_heap f3 8; simp only [List.getElem?_toArray, List.getElem?_cons_zero, List.getElem?_cons_succ] at z0 z1 z2 z3 z4 z5 z6 z7 z8
      clear b6 f3
      go_wp2_with fail
      refine (MD.out _).mono ?_
      rintro e w7 ⟨rfl, b7⟩
      have K7 := Lib.hid (K6.out.call b7)
      clear b7
      go_wp2
      go_ret
      exact ⟨rfl, K7.out.1⟩
    · obtain rfl : ra = 1 := ZA.out.2 (by have := I2.out rfl; omega)
      obtain rfl : rb = 1 := ZB.out.2 (by have := Q1.out rfl; omega)
      obtain rfl : rd = 0 := ZD.out.1 (by omega)
      have g1 : decide (1 ≤ n) = true := by simp; omega
      have g1b : decide (n ≥ 1) = true := by simp; omega
      have g2 : decide (n ≤ 1099511627776) = true := by simp; omega
      have g3 : decide (n ≤ 1073741824) = false := by simp; omega
      have g4 : (n == 0) = false := by simp; omega
      go_wp2_with fail
      refine (MA.out _).mono ?_
      rintro e w5 ⟨rfl, b5⟩
      have f2 := (b5.block gb (heap_lt F2.out)).trans F2.out
      have f3 := (b5.block gd (heap_lt F3.out)).trans F3.out
      have F3' := Lib.hid f3
      have K5 := Lib.hid (K3.out.call b5)
      have y0 := cell_of_heap f2 0; have y1 := cell_of_heap f2 1; have y2 := cell_of_heap f2 2; have y3 := cell_of_heap f2 3; have y4 := cell_of_heap f2 4; have y5 := cell_of_heap f2 5; have y6 := cell_of_heap f2 6; have y7 := cell_of_heap f2 7; have y8 := cell_of_heap f2 8; simp only [List.getElem?_toArray, List.getElem?_cons_zero, List.getElem?_cons_succ] at y0 y1 y2 y3 y4 y5 y6 y7 y8
      clear b5 f2 f3
      go_wp2_with fail
      refine (MB.out _).mono ?_
      rintro e w6 ⟨rfl, b6⟩
      have f3 := (b6.block gd (heap_lt F3'.out)).trans F3'.out
      have K6 := Lib.hid (K5.out.call b6)
      have z0 := cell_of_heap f3 0; have z1 := cell_of_heap f3 1; have z2 := cell_of_heap f3 2; have z3 := cell_of_heap f3 3; have z4 := cell_of_heap f3 4; have z5 := cell_of_heap f3 5; have z6 := cell_of_heap f3 6; have z7 := cell_of_heap f3 7; have z8 := cell_of_heap f3 8; simp only [List.getElem?_toArray, List.getElem?_cons_zero, List.getElem?_cons_succ] at z0 z1 z2 z3 z4 z5 z6 z7 z8
      clear b6 f3
      go_wp2_with fail
      refine (MD.out _).mono ?_
      rintro e w7 ⟨rfl, b7⟩
      have K7 := Lib.hid (K6.out.call b7)
      clear b7
      go_wp2
      go_ret
      exact ⟨rfl, K7.out.1⟩
    · obtain rfl : ra = 1 := ZA.out.2 (by have := I2.out rfl; omega)
      obtain rfl : rb = 1 := ZB.out.2 (by have := Q1.out rfl; omega)
      obtain rfl : rd = 1 := ZD.out.2 (by omega)
      have g1 : decide (1 ≤ n) = true := by simp; omega
      have g1b : decide (n ≥ 1) = true := by simp; omega
      have g2 : decide (n ≤ 1099511627776) = false := by simp; omega
      have g3 : decide (n ≤ 1073741824) = false := by simp; omega
      have g4 : (n == 0) = false := by simp; omega
      go_wp2_with fail
      refine (MA.out _).mono ?_
      rintro e w5 ⟨rfl, b5⟩
      have f2 := (b5.block gb (heap_lt F2.out)).trans F2.out
      have f3 := (b5.block gd (heap_lt F3.out)).trans F3.out
      have F3' := Lib.hid f3
      have K5 := Lib.hid (K3.out.call b5)
      have y0 := cell_of_heap f2 0; have y1 := cell_of_heap f2 1; have y2 := cell_of_heap f2 2; have y3 := cell_of_heap f2 3; have y4 := cell_of_heap f2 4; have y5 := cell_of_heap f2 5; have y6 := cell_of_heap f2 6; have y7 := cell_of_heap f2 7; have y8 := cell_of_heap f2 8; simp only [List.getElem?_toArray, List.getElem?_cons_zero, List.getElem?_cons_succ] at y0 y1 y2 y3 y4 y5 y6 y7 y8
      clear b5 f2 f3
      go_wp2_with fail
      refine (MB.out _).mono ?_
      rintro e w6 ⟨rfl, b6⟩
      have f3 := (b6.block gd (heap_lt F3'.out)).trans F3'.out
      have K6 := Lib.hid (K5.out.call b6)
      have z0 := cell_of_heap f3 0; have z1 := cell_of_heap f3 1; have z2 := cell_of_heap f3 2; have z3 := cell_of_heap f3 3; have z4 := cell_of_heap f3 4; have z5 := cell_of_heap f3 5; have z6 := cell_of_heap f3 6; have z7 := cell_of_heap f3 7; have z8 := cell_of_heap f3 8; simp only [List.getElem?_toArray, List.getElem?_cons_zero, List.getElem?_cons_succ] at z0 z1 z2 z3 z4 z5 z6 z7 z8
      clear b6 f3
      go_wp2_with fail
      refine (MD.out _).mono ?_
      rintro e w7 ⟨rfl, b7⟩
      have K7 := Lib.hid (K6.out.call b7)
      clear b7
      go_wp2
      go_ret
      exact ⟨rfl, K7.out.1⟩
    · obtain rfl : ra = 1 := ZA.out.2 (by have := I1.out rfl; omega)
      obtain rfl : rb = 1 := ZB.out.2 (by have := Q2.out rfl; omega)
      obtain rfl : rd = 1 := ZD.out.2 (by omega)
      have g1 : decide (1 ≤ n) = false := by simp; omega
      have g1b : decide (n ≥ 1) = false := by simp; omega
      have g2 : decide (n ≤ 1099511627776) = true := by simp; omega
      have g3 : decide (n ≤ 1073741824) = true := by simp; omega
      have g4 : (n == 0) = false := by simp; omega
      go_wp2_with fail
      refine (MA.out _).mono ?_
      rintro e w5 ⟨rfl, b5⟩
      have f2 := (b5.block gb (heap_lt F2.out)).trans F2.out
      have f3 := (b5.block gd (heap_lt F3.out)).trans F3.out
      have F3' := Lib.hid f3
      have K5 := Lib.hid (K3.out.call b5)
      have y0 := cell_of_heap f2 0; have y1 := cell_of_heap f2 1; have y2 := cell_of_heap f2 2; have y3 := cell_of_heap f2 3; have y4 := cell_of_heap f2 4; have y5 := cell_of_heap f2 5; have y6 := cell_of_heap f2 6; have y7 := cell_of_heap f2 7; have y8 := cell_of_heap f2 8; simp only [List.getElem?_toArray, List.getElem?_cons_zero, List.getElem?_cons_succ] at y0 y1 y2 y3 y4 y5 y6 y7 y8
      clear b5 f2 f3
      go_wp2_with fail
      refine (MB.out _).mono ?_
      rintro e w6 ⟨rfl, b6⟩
      have f3 := (b6.block gd (heap_lt F3'.out)).trans F3'.out
      have K6 := Lib.hid (K5.out.call b6)
      have z0 := cell_of_heap f3 0; have z1 := cell_of_heap f3 1; have z2 := cell_of_heap f3 2; have z3 := cell_of_heap f3 3; have z4 := cell_of_heap f3 4; have z5 := cell_of_heap f3 5; have z6 := cell_of_heap f3 6; have z7 := cell_of_heap f3 7; have z8 := cell_of_heap f3 8; simp only [List.getElem?_toArray, List.getElem?_cons_zero, List.getElem?_cons_succ] at z0 z1 z2 z3 z4 z5 z6 z7 z8
      clear b6 f3
      go_wp2_with fail
      refine (MD.out _).mono ?_
      rintro e w7 ⟨rfl, b7⟩
      have K7 := Lib.hid (K6.out.call b7)
      clear b7
      go_wp2
      go_ret
      exact ⟨rfl, K7.out.1⟩
    · obtain rfl : ra = 1 := ZA.out.2 (by have := I1.out rfl; omega)
      obtain rfl : rb = 0 := ZB.out.1 (by have := Q2.out rfl; omega)
      obtain rfl : rd = 1 := ZD.out.2 (by omega)
      go_wp2_with fail
      refine (MA.out _).mono ?_
      rintro e w5 ⟨rfl, b5⟩
      have f2 := (b5.block gb (heap_lt F2.out)).trans F2.out
      have f3 := (b5.block gd (heap_lt F3.out)).trans F3.out
      have F3' := Lib.hid f3
      have K5 := Lib.hid (K3.out.call b5)
      have y0 := cell_of_heap f2 0; have y1 := cell_of_heap f2 1; have y2 := cell_of_heap f2 2; have y3 := cell_of_heap f2 3; have y4 := cell_of_heap f2 4; have y5 := cell_of_heap f2 5; have y6 := cell_of_heap f2 6; have y7 := cell_of_heap f2 7; have y8 := cell_of_heap f2 8; simp only [List.getElem?_toArray, List.getElem?_cons_zero, List.getElem?_cons_succ] at y0 y1 y2 y3 y4 y5 y6 y7 y8
      clear b5 f2 f3
      go_wp2_with fail
      refine (MB.out _).mono ?_
      rintro e w6 ⟨rfl, b6⟩
      have f3 := (b6.block gd (heap_lt F3'.out)).trans F3'.out
      have K6 := Lib.hid (K5.out.call b6)
      have z0 := cell_of_heap f3 0; have z1 := cell_of_heap f3 1; have z2 := cell_of_heap f3 2; have z3 := cell_of_heap f3 3; have z4 := cell_of_heap f3 4; have z5 := cell_of_heap f3 5; have z6 := cell_of_heap f3 6; have z7 := cell_of_heap f3 7; have z8 := cell_of_heap f3 8; simp only [List.getElem?_toArray, List.getElem?_cons_zero, List.getElem?_cons_succ] at z0 z1 z2 z3 z4 z5 z6 z7 z8
      clear b6 f3
      go_wp2_with fail
      refine (MD.out _).mono ?_
      rintro e w7 ⟨rfl, b7⟩
      have K7 := Lib.hid (K6.out.call b7)
      clear b7
      go_wp2
      go_ret
      exact ⟨rfl, K7.out.1⟩
    · obtain rfl : ra = 0 := ZA.out.1 (by have := I1.out rfl; omega)
      obtain rfl : rb = 1 := ZB.out.2 (by have := Q2.out rfl; omega)
      obtain rfl : rd = 0 := ZD.out.1 (by omega)
      have g1 : decide (1 ≤ n) = true := by simp; omega
      have g1b : decide (n ≥ 1) = true := by simp; omega
      have g2 : decide (n ≤ 1099511627776) = true := by simp; omega
      have g3 : decide (n ≤ 1073741824) = true := by simp; omega
      have g4 : (n == 0) = false := by simp; omega
      go_wp2_with fail
      refine (MA.out _).mono ?_
      rintro e w5 ⟨rfl, b5⟩
      have f2 := (b5.block gb (heap_lt F2.out)).trans F2.out
      have f3 := (b5.block gd (heap_lt F3.out)).trans F3.out
      have F3' := Lib.hid f3
      have K5 := Lib.hid (K3.out.call b5)
      have y0 := cell_of_heap f2 0; have y1 := cell_of_heap f2 1; have y2 := cell_of_heap f2 2; have y3 := cell_of_heap f2 3; have y4 := cell_of_heap f2 4; have y5 := cell_of_heap f2 5; have y6 := cell_of_heap f2 6; have y7 := cell_of_heap f2 7; have y8 := cell_of_heap f2 8; simp only [List.getElem?_toArray, List.getElem?_cons_zero, List.getElem?_cons_succ] at y0 y1 y2 y3 y4 y5 y6 y7 y8
      clear b5 f2 f3
      go_wp2_with fail
      refine (MB.out _).mono ?_
      rintro e w6 ⟨rfl, b6⟩
      have f3 := (b6.block gd (heap_lt F3'.out)).trans F3'.out
      have K6 := Lib.hid (K5.out.call b6)
      have z0 := cell_of_heap f3 0; have z1 := cell_of_heap f3 1; have z2 := cell_of_heap f3 2; have z3 := cell_of_heap f3 3; have z4 := cell_of_heap f3 4; have z5 := cell_of_heap f3 5; have z6 := cell_of_heap f3 6; have z7 := cell_of_heap f3 7; have z8 := cell_of_heap f3 8; simp only [List.getElem?_toArray, List.getElem?_cons_zero, List.getElem?_cons_succ] at z0 z1 z2 z3 z4 z5 z6 z7 z8
      clear b6 f3
      go_wp2_with fail
      refine (MD.out _).mono ?_
      rintro e w7 ⟨rfl, b7⟩
      have K7 := Lib.hid (K6.out.call b7)
      clear b7
      go_wp2
      go_ret
      exact ⟨rfl, K7.out.1⟩
    · obtain rfl : ra = 0 := ZA.out.1 (by have := I1.out rfl; omega)
      obtain rfl : rb = 1 := ZB.out.2 (by have := Q2.out rfl; omega)
      obtain rfl : rd = 0 := ZD.out.1 (by omega)
      have g1 : decide (1 ≤ n) = true := by simp; omega
      have g1b : decide (n ≥ 1) = true := by simp; omega
      have g2 : decide (n ≤ 1099511627776) = true := by simp; omega
      have g3 : decide (n ≤ 1073741824) = false := by simp; omega
      have g4 : (n == 0) = false := by simp; omega
      go_wp2_with fail
      refine (MA.out _).mono ?_
      rintro e w5 ⟨rfl, b5⟩
      have f2 := (b5.block gb (heap_lt F2.out)).trans F2.out
      have f3 := (b5.block gd (heap_lt F3.out)).trans F3.out
      have F3' := Lib.hid f3
      have K5 := Lib.hid (K3.out.call b5)
      have y0 := cell_of_heap f2 0; have y1 := cell_of_heap f2 1; have y2 := cell_of_heap f2 2; have y3 := cell_of_heap f2 3; have y4 := cell_of_heap f2 4; have y5 := cell_of_heap f2 5; have y6 := cell_of_heap f2 6; have y7 := cell_of_heap f2 7; have y8 := cell_of_heap f2 8; simp only [List.getElem?_toArray, List.getElem?_cons_zero, List.getElem?_cons_succ] at y0 y1 y2 y3 y4 y5 y6 y7 y8
      clear b5 f2 f3
      go_wp2_with fail
      refine (MB.out _).mono ?_
      rintro e w6 ⟨rfl, b6⟩
      have f3 := (b6.block gd (heap_lt F3'.out)).trans F3'.out
      have K6 := Lib.hid (K5.out.call b6)
      have z0 := cell_of_heap f3 0; have z1 := cell_of_heap f3 1; have z2 := cell_of_heap f3 2; have z3 := cell_of_heap f3 3; have z4 := cell_of_heap f3 4; have z5 := cell_of_heap f3 5; have z6 := cell_of_heap f3 6; have z7 := cell_of_heap f3 7; have z8 := cell_of_heap f3 8; simp only [List.getElem?_toArray, List.getElem?_cons_zero, List.getElem?_cons_succ] at z0 z1 z2 z3 z4 z5 z6 z7 z8
      clear b6 f3
      go_wp2_with fail
      refine (MD.out _).mono ?_
      rintro e w7 ⟨rfl, b7⟩
      have K7 := Lib.hid (K6.out.call b7)
      clear b7
      go_wp2
      go_ret
      exact ⟨rfl, K7.out.1⟩
    · obtain rfl : ra = 1 := ZA.out.2 (by have := I1.out rfl; omega)
      obtain rfl : rb = 1 := ZB.out.2 (by have := Q2.out rfl; omega)
      obtain rfl : rd = 1 := ZD.out.2 (by omega)
      have g1 : decide (1 ≤ n) = true := by simp; omega
      have g1b : decide (n ≥ 1) = true := by simp; omega
      have g2 : decide (n ≤ 1099511627776) = false := by simp; omega
      have g3 : decide (n ≤ 1073741824) = false := by simp; omega
      have g4 : (n == 0) = false := by simp; omega
      go_wp2_with fail
      refine (MA.out _).mono ?_
      rintro e w5 ⟨rfl, b5⟩
      have f2 := (b5.block gb (heap_lt F2.out)).trans F2.out
      have f3 := (b5.block gd (heap_lt F3.out)).trans F3.out
      have F3' := Lib.hid f3
      have K5 := Lib.hid (K3.out.call b5)
      have y0 := cell_of_heap f2 0; have y1 := cell_of_heap f2 1; have y2 := cell_of_heap f2 2; have y3 := cell_of_heap f2 3; have y4 := cell_of_heap f2 4; have y5 := cell_of_heap f2 5; have y6 := cell_of_heap f2 6; have y7 := cell_of_heap f2 7; have y8 := cell_of_heap f2 8; simp only [List.getElem?_toArray, List.getElem?_cons_zero, List.getElem?_cons_succ] at y0 y1 y2 y3 y4 y5 y6 y7 y8
      clear b5 f2 f3
      go_wp2_with fail
      refine (MB.out _).mono ?_
      rintro e w6 ⟨rfl, b6⟩
      have f3 := (b6.block gd (heap_lt F3'.out)).trans F3'.out
      have K6 := Lib.hid (K5.out.call b6)
      have z0 := cell_of_heap f3 0; have z1 := cell_of_heap f3 1; have z2 := cell_of_heap f3 2; have z3 := cell_of_heap f3 3; have z4 := cell_of_heap f3 4; have z5 := cell_of_heap f3 5; have z6 := cell_of_heap f3 6; have z7 := cell_of_heap f3 7; have z8 := cell_of_heap f3 8; simp only [List.getElem?_toArray, List.getElem?_cons_zero, List.getElem?_cons_succ] at z0 z1 z2 z3 z4 z5 z6 z7 z8
      clear b6 f3
      go_wp2_with fail
      refine (MD.out _).mono ?_
      rintro e w7 ⟨rfl, b7⟩
      have K7 := Lib.hid (K6.out.call b7)
      clear b7
      go_wp2
      go_ret
      exact ⟨rfl, K7.out.1⟩
    · obtain rfl : ra = 1 := ZA.out.2 (by have := I1.out rfl; omega)
      obtain rfl : rb = 1 := ZB.out.2 (by have := Q1.out rfl; omega)
      obtain rfl : rd = 1 := ZD.out.2 (by omega)
      have g1 : decide (1 ≤ n) = false := by simp; omega
      have g1b : decide (n ≥ 1) = false := by simp; omega
      have g2 : decide (n ≤ 1099511627776) = true := by simp; omega
      have g3 : decide (n ≤ 1073741824) = true := by simp; omega
      have g4 : (n == 0) = false := by simp; omega
      go_wp2_with fail
      refine (MA.out _).mono ?_
      rintro e w5 ⟨rfl, b5⟩
      have f2 := (b5.block gb (heap_lt F2.out)).trans F2.out
      have f3 := (b5.block gd (heap_lt F3.out)).trans F3.out
      have F3' := Lib.hid f3
      have K5 := Lib.hid (K3.out.call b5)
      have y0 := cell_of_heap f2 0; have y1 := cell_of_heap f2 1; have y2 := cell_of_heap f2 2; have y3 := cell_of_heap f2 3; have y4 := cell_of_heap f2 4; have y5 := cell_of_heap f2 5; have y6 := cell_of_heap f2 6; have y7 := cell_of_heap f2 7; have y8 := cell_of_heap f2 8; simp only [List.getElem?_toArray, List.getElem?_cons_zero, List.getElem?_cons_succ] at y0 y1 y2 y3 y4 y5 y6 y7 y8
      clear b5 f2 f3
      go_wp2_with fail
      refine (MB.out _).mono ?_
      rintro e w6 ⟨rfl, b6⟩
      have f3 := (b6.block gd (heap_lt F3'.out)).trans F3'.out
      have K6 := Lib.hid (K5.out.call b6)
      have z0 := cell_of_heap f3 0; have z1 := cell_of_heap f3 1; have z2 := cell_of_heap f3 2; have z3 := cell_of_heap f3 3; have z4 := cell_of_heap f3 4; have z5 := cell_of_heap f3 5; have z6 := cell_of_heap f3 6; have z7 := cell_of_heap f3 7; have z8 := cell_of_heap f3 8; simp only [List.getElem?_toArray, List.getElem?_cons_zero, List.getElem?_cons_succ] at z0 z1 z2 z3 z4 z5 z6 z7 z8
      clear b6 f3
      go_wp2_with fail
      refine (MD.out _).mono ?_
      rintro e w7 ⟨rfl, b7⟩
      have K7 := Lib.hid (K6.out.call b7)
      clear b7
      go_wp2
      go_ret
      exact ⟨rfl, K7.out.1⟩
    · obtain rfl : ra = 1 := ZA.out.2 (by have := I1.out rfl; omega)
      obtain rfl : rb = 1 := ZB.out.2 (by have := Q1.out rfl; omega)
      obtain rfl : rd = 1 := ZD.out.2 (by omega)
      go_wp2_with fail
      refine (MA.out _).mono ?_
      rintro e w5 ⟨rfl, b5⟩
      have f2 := (b5.block gb (heap_lt F2.out)).trans F2.out
      have f3 := (b5.block gd (heap_lt F3.out)).trans F3.out
      have F3' := Lib.hid f3
      have K5 := Lib.hid (K3.out.call b5)
      have y0 := cell_of_heap f2 0; have y1 := cell_of_heap f2 1; have y2 := cell_of_heap f2 2; have y3 := cell_of_heap f2 3; have y4 := cell_of_heap f2 4; have y5 := cell_of_heap f2 5; have y6 := cell_of_heap f2 6; have y7 := cell_of_heap f2 7; have y8 := cell_of_heap f2 8; simp only [List.getElem?_toArray, List.getElem?_cons_zero, List.getElem?_cons_succ] at y0 y1 y2 y3 y4 y5 y6 y7 y8
      clear b5 f2 f3
      go_wp2_with fail
      refine (MB.out _).mono ?_
      rintro e w6 ⟨rfl, b6⟩
      have f3 := (b6.block gd (heap_lt F3'.out)).trans F3'.out
      have K6 := Lib.hid (K5.out.call b6)
      have z0 := cell_of_heap f3 0; have z1 := cell_of_heap f3 1; have z2 := cell_of_heap f3 2; have z3 := cell_of_heap f3 3; have z4 := cell_of_heap f3 4; have z5 := cell_of_heap f3 5; have z6 := cell_of_heap f3 6; have z7 := cell_of_heap f3 7; have z8 := cell_of_heap f3 8; simp only [List.getElem?_toArray, List.getElem?_cons_zero, List.getElem?_cons_succ] at z0 z1 z2 z3 z4 z5 z6 z7 z8
      clear b6 f3
      go_wp2_with fail
      refine (MD.out _).mono ?_
      rintro e w7 ⟨rfl, b7⟩
      have K7 := Lib.hid (K6.out.call b7)
      clear b7
      go_wp2
      go_ret
      exact ⟨rfl, K7.out.1⟩
    · obtain rfl : ra = 0 := ZA.out.1 (by have := I1.out rfl; omega)
      obtain rfl : rb = 0 := ZB.out.1 (by have := Q1.out rfl; omega)
      obtain rfl : rd = 0 := ZD.out.1 (by omega)
      have g1 : decide (1 ≤ n) = true := by simp; omega
      have g1b : decide (n ≥ 1) = true := by simp; omega
      have g2 : decide (n ≤ 1099511627776) = true := by simp; omega
      have g3 : decide (n ≤ 1073741824) = true := by simp; omega
      have g4 : (n == 0) = false := by simp; omega
      go_wp2_with fail
      refine (MA.out _).mono ?_
      rintro e w5 ⟨rfl, b5⟩
      have f2 := (b5.block gb (heap_lt F2.out)).trans F2.out
      have f3 := (b5.block gd (heap_lt F3.out)).trans F3.out
      have F3' := Lib.hid f3
      have K5 := Lib.hid (K3.out.call b5)
      have y0 := cell_of_heap f2 0; have y1 := cell_of_heap f2 1; have y2 := cell_of_heap f2 2; have y3 := cell_of_heap f2 3; have y4 := cell_of_heap f2 4; have y5 := cell_of_heap f2 5; have y6 := cell_of_heap f2 6; have y7 := cell_of_heap f2 7; have y8 := cell_of_heap f2 8; simp only [List.getElem?_toArray, List.getElem?_cons_zero, List.getElem?_cons_succ] at y0 y1 y2 y3 y4 y5 y6 y7 y8
      clear b5 f2 f3
      go_wp2_with fail
      refine (MB.out _).mono ?_
      rintro e w6 ⟨rfl, b6⟩
      have f3 := (b6.block gd (heap_lt F3'.out)).trans F3'.out
      have K6 := Lib.hid (K5.out.call b6)
      have z0 := cell_of_heap f3 0; have z1 := cell_of_heap f3 1; have z2 := cell_of_heap f3 2; have z3 := cell_of_heap f3 3; have z4 := cell_of_heap f3 4; have z5 := cell_of_heap f3 5; have z6 := cell_of_heap f3 6; have z7 := cell_of_heap f3 7; have z8 := cell_of_heap f3 8; simp only [List.getElem?_toArray, List.getElem?_cons_zero, List.getElem?_cons_succ] at z0 z1 z2 z3 z4 z5 z6 z7 z8
      clear b6 f3
      go_wp2_with fail
      refine (MD.out _).mono ?_
      rintro e w7 ⟨rfl, b7⟩
      have K7 := Lib.hid (K6.out.call b7)
      clear b7
      go_wp2
      go_ret
      exact ⟨rfl, K7.out.1⟩
    · obtain rfl : ra = 0 := ZA.out.1 (by have := I1.out rfl; omega)
      obtain rfl : rb = 1 := ZB.out.2 (by have := Q1.out rfl; omega)
      obtain rfl : rd = 0 := ZD.out.1 (by omega)
      have g1 : decide (1 ≤ n) = true := by simp; omega
      have g1b : decide (n ≥ 1) = true := by simp; omega
      have g2 : decide (n ≤ 1099511627776) = true := by simp; omega
      have g3 : decide (n ≤ 1073741824) = false := by simp; omega
      have g4 : (n == 0) = false := by simp; omega
      go_wp2_with fail
      refine (MA.out _).mono ?_
      rintro e w5 ⟨rfl, b5⟩
      have f2 := (b5.block gb (heap_lt F2.out)).trans F2.out
      have f3 := (b5.block gd (heap_lt F3.out)).trans F3.out
      have F3' := Lib.hid f3
      have K5 := Lib.hid (K3.out.call b5)
      have y0 := cell_of_heap f2 0; have y1 := cell_of_heap f2 1; have y2 := cell_of_heap f2 2; have y3 := cell_of_heap f2 3; have y4 := cell_of_heap f2 4; have y5 := cell_of_heap f2 5; have y6 := cell_of_heap f2 6; have y7 := cell_of_heap f2 7; have y8 := cell_of_heap f2 8; simp only [List.getElem?_toArray, List.getElem?_cons_zero, List.getElem?_cons_succ] at y0 y1 y2 y3 y4 y5 y6 y7 y8
      clear b5 f2 f3
      go_wp2_with fail
      refine (MB.out _).mono ?_
      rintro e w6 ⟨rfl, b6⟩
      have f3 := (b6.block gd (heap_lt F3'.out)).trans F3'.out
      have K6 := Lib.hid (K5.out.call b6)
      have z0 := cell_of_heap f3 0; have z1 := cell_of_heap f3 1; have z2 := cell_of_heap f3 2; have z3 := cell_of_heap f3 3; have z4 := cell_of_heap f3 4; have z5 := cell_of_heap f3 5; have z6 := cell_of_heap f3 6; have z7 := cell_of_heap f3 7; have z8 := cell_of_heap f3 8; simp only [List.getElem?_toArray, List.getElem?_cons_zero, List.getElem?_cons_succ] at z0 z1 z2 z3 z4 z5 z6 z7 z8
      clear b6 f3
      go_wp2_with fail
      refine (MD.out _).mono ?_
      rintro e w7 ⟨rfl, b7⟩
      have K7 := Lib.hid (K6.out.call b7)
      clear b7
      go_wp2
      go_ret
      exact ⟨rfl, K7.out.1⟩
    · obtain rfl : ra = 1 := ZA.out.2 (by have := I1.out rfl; omega)
      obtain rfl : rb = 1 := ZB.out.2 (by have := Q1.out rfl; omega)
      obtain rfl : rd = 1 := ZD.out.2 (by omega)
      have g1 : decide (1 ≤ n) = true := by simp; omega
      have g1b : decide (n ≥ 1) = true := by simp; omega
      have g2 : decide (n ≤ 1099511627776) = false := by simp; omega
      have g3 : decide (n ≤ 1073741824) = false := by simp; omega
      have g4 : (n == 0) = false := by simp; omega
      go_wp2_with fail
      refine (MA.out _).mono ?_
      rintro e w5 ⟨rfl, b5⟩
      have f2 := (b5.block gb (heap_lt F2.out)).trans F2.out
      have f3 := (b5.block gd (heap_lt F3.out)).trans F3.out
      have F3' := Lib.hid f3
      have K5 := Lib.hid (K3.out.call b5)
      have y0 := cell_of_heap f2 0; have y1 := cell_of_heap f2 1; have y2 := cell_of_heap f2 2; have y3 := cell_of_heap f2 3; have y4 := cell_of_heap f2 4; have y5 := cell_of_heap f2 5; have y6 := cell_of_heap f2 6; have y7 := cell_of_heap f2 7; have y8 := cell_of_heap f2 8; simp only [List.getElem?_toArray, List.getElem?_cons_zero, List.getElem?_cons_succ] at y0 y1 y2 y3 y4 y5 y6 y7 y8
      clear b5 f2 f3
      go_wp2_with fail
      refine (MB.out _).mono ?_
      rintro e w6 ⟨rfl, b6⟩
      have f3 := (b6.block gd (heap_lt F3'.out)).trans F3'.out
      have K6 := Lib.hid (K5.out.call b6)
      have z0 := cell_of_heap f3 0; have z1 := cell_of_heap f3 1; have z2 := cell_of_heap f3 2; have z3 := cell_of_heap f3 3; have z4 := cell_of_heap f3 4; have z5 := cell_of_heap f3 5; have z6 := cell_of_heap f3 6; have z7 := cell_of_heap f3 7; have z8 := cell_of_heap f3 8; simp only [List.getElem?_toArray, List.getElem?_cons_zero, List.getElem?_cons_succ] at z0 z1 z2 z3 z4 z5 z6 z7 z8
      clear b6 f3
      go_wp2_with fail
      refine (MD.out _).mono ?_
      rintro e w7 ⟨rfl, b7⟩
      have K7 := Lib.hid (K6.out.call b7)
      clear b7
      go_wp2
      go_ret
      exact ⟨rfl, K7.out.1⟩
  · simp only [code_no hok] at hmay
    unfold nums at *
    simp only [List.map_cons, List.map_nil] at *
    have HM := Lib.hid hmay
    clear hmay hok hg w0 hc0
    go_enter Tryd.func7, Tryd.ntmps7
    go_wp2_with (first
      | (go_at_call 9; refine (awake_any _ (HG.out.below K0.out.1)).mono ?_; rintro e w1 ⟨rfl, b1⟩
         have hc1 := (b1.block w.heap.size (heap_lt HC0.out)).trans HC0.out
         have K1 := Lib.hid (K0.out.call b1)
         have p0 := cell_of_heap hc1 0; have p1 := cell_of_heap hc1 1; have p2 := cell_of_heap hc1 2; have p3 := cell_of_heap hc1 3; have p4 := cell_of_heap hc1 4; have p5 := cell_of_heap hc1 5; have p6 := cell_of_heap hc1 6; have p7 := cell_of_heap hc1 7; have p8 := cell_of_heap hc1 8; simp only [List.getElem?_toArray, List.getElem?_cons_zero, List.getElem?_cons_succ] at p0 p1 p2 p3 p4 p5 p6 p7 p8
         clear b1 hc1)
      | (go_at_call 14; refine (HM.out _).mono ?_; rintro e w2 ⟨rfl, b2⟩
         have K2 := Lib.hid (K1.out.call b2)
         clear b2)
      | fail)
    go_ret
    exact ⟨rfl, K2.out.1⟩
end Go.Proofs.YtegjlcmeaelbnaaDoor
