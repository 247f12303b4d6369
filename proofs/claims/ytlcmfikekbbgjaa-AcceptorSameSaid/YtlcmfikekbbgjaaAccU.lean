/- One acceptor of a slot: whether a state may be, of the program and of the document. -/
import Derived.Test.YtlcmfikekbbgjaaAccP
namespace Go.Proofs.Ytlcmfikekbbgjaa
open Go.RowKit

set_option maxRecDepth 100000 in
set_option maxHeartbeats 1000000 in
theorem acmay_any {w : World} {x : Ac} {A : Option Addr} {c : Nat} (n : Int) : Calls Try.prog 17 #[acv x A x.val.length c, .int .i64 n] w fun e w' => e = .returned (.bool (mayA x n)) ∧ Kept w w' := by
  obtain ⟨r, t, so, ar, as_, val⟩ := x
  have HM := Lib.hid (may_any r t n)
  have HN := Lib.hid (may_any ar as_ n)
  have HC := Lib.hid (compare_any ar as_ r t)
  unfold mayA
  simp only [acv] at *
  generalize mayB r t n = m1 at *
  generalize mayB ar as_ n = m2 at *
  generalize cmpB ar as_ r t = z at *
  generalize val.length = len at *
  have p1 : (w.alloc (.cells #[.int .i64 r, .int .i64 t, .bool so, .int .i64 ar, .int .i64 as_, .slice A len c] 26)).heap[w.heap.size]? = some (.cells #[.int .i64 r, .int .i64 t, .bool so, .int .i64 ar, .int .i64 as_, .slice A len c] 26 (0, 0)) := push_new w _
  have P1 := Lib.hid p1
  have K0 : Hid (Kept w (w.alloc (.cells #[.int .i64 r, .int .i64 t, .bool so, .int .i64 ar, .int .i64 as_, .slice A len c] 26))) := Lib.hid ((Kept.refl w).alloc _)
  clear p1
  cases m1 with
  | false =>
    rw [Bool.false_and]
    go_enter Try.func17, Try.ntmps17
    go_wp2_with fail
    refine (HM.out _).mono ?_
    rintro e u ⟨rfl, hb⟩
    have KK := Lib.hid (K0.out.call hb)
    clear hb
    go_wp2
    go_ret
    exact ⟨rfl, KK.out⟩
  | true =>
    rw [Bool.true_and]
    cases so with
    | false =>
      rw [if_neg (by simp)]
      have e1 : decide (len = 0) = ((len : Int) == 0) := by by_cases h : len = 0 <;> simp [h]
      rw [e1]
      clear e1
      by_cases h0 : ar = 0 ∧ as_ = 0
      · rw [decide_eq_true h0, Bool.true_and]
        obtain ⟨rfl, rfl⟩ := h0
        go_enter Try.func17, Try.ntmps17
        go_wp2_with fail
        refine (HM.out _).mono ?_
        rintro e u ⟨rfl, hb⟩
        have KK := Lib.hid (K0.out.call hb)
        obtain ⟨c0, c1, c2, c3, c4, c5⟩ := Hs.cells (x := ⟨r, t, false, 0, 0, []⟩) ((hb.block _ (heap_lt P1.out)).trans P1.out)
        simp only at c0 c1 c2 c3 c4 c5
        clear hb
        go_wp2
        go_ret
        exact ⟨by go_simp, KK.out⟩
      · rw [decide_eq_false h0, Bool.false_and]
        go_enter Try.func17, Try.ntmps17
        go_wp2_with fail
        refine (HM.out _).mono ?_
        rintro e u ⟨rfl, hb⟩
        have KK := Lib.hid (K0.out.call hb)
        obtain ⟨c0, c1, c2, c3, c4, c5⟩ := Hs.cells (x := ⟨r, t, false, ar, as_, []⟩) ((hb.block _ (heap_lt P1.out)).trans P1.out)
        simp only at c0 c1 c2 c3 c4 c5
        clear hb
        go_wp2
        all_goals
          go_ret
          exact ⟨rfl, KK.out⟩
    | true =>
      rw [if_pos rfl]
      have e1 : decide (len ≤ 2048) = decide ((len : Int) ≤ 2048) := by by_cases h : len ≤ 2048 <;> simp [h] <;> omega
      rw [e1]
      clear e1
      cases m2 with
      | false =>
        rw [Bool.false_and, Bool.false_and]
        go_enter Try.func17, Try.ntmps17
        go_wp2_with fail
        refine (HM.out _).mono ?_
        rintro e u ⟨rfl, hb⟩
        have k1 := K0.out.call hb
        have KK := Lib.hid k1
        obtain ⟨c0, c1, c2, c3, c4, c5⟩ := Hs.cells (x := ⟨r, t, true, ar, as_, []⟩) ((hb.block _ (heap_lt P1.out)).trans P1.out)
        simp only at c0 c1 c2 c3 c4 c5
        clear hb k1
        go_wp2_with fail
        refine (HN.out _).mono ?_
        rintro e u2 ⟨rfl, hb2⟩
        have K2 := Lib.hid (KK.out.call hb2)
        clear hb2
        go_wp2
        go_ret
        exact ⟨rfl, K2.out⟩
      | true =>
        rw [Bool.true_and]
        have HZ : Hid (decide (z ≤ 0) = true ∨ decide (z ≤ 0) = false) := Lib.hid (by cases decide (z ≤ 0) <;> simp)
        go_enter Try.func17, Try.ntmps17
        go_wp2_with fail
        refine (HM.out _).mono ?_
        rintro e u ⟨rfl, hb⟩
        have k1 : Kept _ u := ⟨hb, hb.size⟩
        have q1 := (hb.block _ (heap_lt P1.out)).trans P1.out
        have KK := Lib.hid (K0.out.trans k1)
        obtain ⟨c0, c1, c2, c3, c4, c5⟩ := Hs.cells (x := ⟨r, t, true, ar, as_, []⟩) q1
        simp only at c0 c1 c2 c3 c4 c5
        have Q1 := Lib.hid q1
        clear hb k1 q1
        go_wp2_with fail
        refine (HN.out _).mono ?_
        rintro e u2 ⟨rfl, hb2⟩
        have q2 := (hb2.block _ (heap_lt Q1.out)).trans Q1.out
        have K2 := Lib.hid (KK.out.call hb2)
        obtain ⟨d0, d1, d2, d3, d4, d5⟩ := Hs.cells (x := ⟨r, t, true, ar, as_, []⟩) q2
        simp only at d0 d1 d2 d3 d4 d5
        have Q2 := Lib.hid q2
        clear hb2 q2
        go_wp2_with fail
        refine (HC.out _).mono ?_
        rintro e u3 ⟨rfl, hb3⟩
        have q3 := (hb3.block _ (heap_lt Q2.out)).trans Q2.out
        have K3 := Lib.hid (K2.out.call hb3)
        obtain ⟨e0, e1, e2, e3, e4, e5⟩ := Hs.cells (x := ⟨r, t, true, ar, as_, []⟩) q3
        simp only at e0 e1 e2 e3 e4 e5
        clear hb3 q3
        rcases HZ.out with h | h
        all_goals
          go_wp2
          go_ret
          exact ⟨by go_simp, K3.out⟩

set_option maxRecDepth 100000 in
set_option maxHeartbeats 1000000 in
theorem refacmay_any {w : World} {x : Ac} {A : Option Addr} {c : Nat} (n : Int) : Calls Try.prog 18 #[acv x A x.val.length c, .int .i64 n] w fun e w' => e = .returned (.bool (mayA x n)) ∧ Kept w w' := by
  obtain ⟨r, t, so, ar, as_, val⟩ := x
  have HM := Lib.hid (refmay8_any r t n)
  have HN := Lib.hid (refmay8_any ar as_ n)
  have HC := Lib.hid (refcompare_any ar as_ r t)
  unfold mayA
  simp only [acv] at *
  generalize mayB r t n = m1 at *
  generalize mayB ar as_ n = m2 at *
  generalize cmpB ar as_ r t = z at *
  generalize val.length = len at *
  have p1 : (w.alloc (.cells #[.int .i64 r, .int .i64 t, .bool so, .int .i64 ar, .int .i64 as_, .slice A len c] 32)).heap[w.heap.size]? = some (.cells #[.int .i64 r, .int .i64 t, .bool so, .int .i64 ar, .int .i64 as_, .slice A len c] 32 (0, 0)) := push_new w _
  have P1 := Lib.hid p1
  have K0 : Hid (Kept w (w.alloc (.cells #[.int .i64 r, .int .i64 t, .bool so, .int .i64 ar, .int .i64 as_, .slice A len c] 32))) := Lib.hid ((Kept.refl w).alloc _)
  clear p1
  cases m1 with
  | false =>
    rw [Bool.false_and]
    go_enter Try.func18, Try.ntmps18
    go_wp2_with fail
    refine (HM.out _).mono ?_
    rintro e u ⟨rfl, hb⟩
    have KK := Lib.hid (K0.out.call hb)
    clear hb
    go_wp2
    go_ret
    exact ⟨rfl, KK.out⟩
  | true =>
    rw [Bool.true_and]
    cases so with
    | false =>
      rw [if_neg (by simp)]
      have e1 : decide (len = 0) = ((len : Int) == 0) := by by_cases h : len = 0 <;> simp [h]
      rw [e1]
      clear e1
      by_cases h0 : ar = 0 ∧ as_ = 0
      · rw [decide_eq_true h0, Bool.true_and]
        obtain ⟨rfl, rfl⟩ := h0
        go_enter Try.func18, Try.ntmps18
        go_wp2_with fail
        refine (HM.out _).mono ?_
        rintro e u ⟨rfl, hb⟩
        have KK := Lib.hid (K0.out.call hb)
        obtain ⟨c0, c1, c2, c3, c4, c5⟩ := Hs.cells (x := ⟨r, t, false, 0, 0, []⟩) ((hb.block _ (heap_lt P1.out)).trans P1.out)
        simp only at c0 c1 c2 c3 c4 c5
        clear hb
        go_wp2
        go_ret
        exact ⟨by go_simp, KK.out⟩
      · rw [decide_eq_false h0, Bool.false_and]
        go_enter Try.func18, Try.ntmps18
        go_wp2_with fail
        refine (HM.out _).mono ?_
        rintro e u ⟨rfl, hb⟩
        have KK := Lib.hid (K0.out.call hb)
        obtain ⟨c0, c1, c2, c3, c4, c5⟩ := Hs.cells (x := ⟨r, t, false, ar, as_, []⟩) ((hb.block _ (heap_lt P1.out)).trans P1.out)
        simp only at c0 c1 c2 c3 c4 c5
        clear hb
        go_wp2
        all_goals
          go_ret
          exact ⟨rfl, KK.out⟩
    | true =>
      rw [if_pos rfl]
      have e1 : decide (len ≤ 2048) = decide ((len : Int) ≤ 2048) := by by_cases h : len ≤ 2048 <;> simp [h] <;> omega
      rw [e1]
      clear e1
      cases m2 with
      | false =>
        rw [Bool.false_and, Bool.false_and]
        go_enter Try.func18, Try.ntmps18
        go_wp2_with fail
        refine (HM.out _).mono ?_
        rintro e u ⟨rfl, hb⟩
        have k1 := K0.out.call hb
        have KK := Lib.hid k1
        obtain ⟨c0, c1, c2, c3, c4, c5⟩ := Hs.cells (x := ⟨r, t, true, ar, as_, []⟩) ((hb.block _ (heap_lt P1.out)).trans P1.out)
        simp only at c0 c1 c2 c3 c4 c5
        clear hb k1
        go_wp2_with fail
        refine (HN.out _).mono ?_
        rintro e u2 ⟨rfl, hb2⟩
        have K2 := Lib.hid (KK.out.call hb2)
        clear hb2
        go_wp2
        go_ret
        exact ⟨rfl, K2.out⟩
      | true =>
        rw [Bool.true_and]
        have HZ : Hid (decide (z ≤ 0) = true ∨ decide (z ≤ 0) = false) := Lib.hid (by cases decide (z ≤ 0) <;> simp)
        go_enter Try.func18, Try.ntmps18
        go_wp2_with fail
        refine (HM.out _).mono ?_
        rintro e u ⟨rfl, hb⟩
        have k1 : Kept _ u := ⟨hb, hb.size⟩
        have q1 := (hb.block _ (heap_lt P1.out)).trans P1.out
        have KK := Lib.hid (K0.out.trans k1)
        obtain ⟨c0, c1, c2, c3, c4, c5⟩ := Hs.cells (x := ⟨r, t, true, ar, as_, []⟩) q1
        simp only at c0 c1 c2 c3 c4 c5
        have Q1 := Lib.hid q1
        clear hb k1 q1
        go_wp2_with fail
        refine (HN.out _).mono ?_
        rintro e u2 ⟨rfl, hb2⟩
        have q2 := (hb2.block _ (heap_lt Q1.out)).trans Q1.out
        have K2 := Lib.hid (KK.out.call hb2)
        obtain ⟨d0, d1, d2, d3, d4, d5⟩ := Hs.cells (x := ⟨r, t, true, ar, as_, []⟩) q2
        simp only at d0 d1 d2 d3 d4 d5
        have Q2 := Lib.hid q2
        clear hb2 q2
        go_wp2_with fail
        refine (HC.out _).mono ?_
        rintro e u3 ⟨rfl, hb3⟩
        have q3 := (hb3.block _ (heap_lt Q2.out)).trans Q2.out
        have K3 := Lib.hid (K2.out.call hb3)
        obtain ⟨e0, e1, e2, e3, e4, e5⟩ := Hs.cells (x := ⟨r, t, true, ar, as_, []⟩) q3
        simp only at e0 e1 e2 e3 e4 e5
        clear hb3 q3
        rcases HZ.out with h | h
        all_goals
          go_wp2
          go_ret
          exact ⟨by go_simp, K3.out⟩
end Go.Proofs.Ytlcmfikekbbgjaa
