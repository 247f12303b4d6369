/- One acceptor of a slot: the document's Prepare and Accept, the statements' own function real. -/
import Derived.Test.YtlcmfikekbbgjaaAccR
namespace Go.Proofs.Ytlcmfikekbbgjaa
open Go.RowKit

theorem push_three_new (w : World) (o u v : Obj) : (((w.alloc o).alloc u).alloc v).heap[w.heap.size + 1 + 1]? = some v := by
  have := push_new ((w.alloc o).alloc u) v
  rwa [World.size_alloc, World.size_alloc] at this
theorem acreal_any {w : World} (x : Ac) (A : Option Addr) (n c : Nat) : Calls Try.prog 12 #[acv x A n c] w fun e w' => e = .returned (acv x A n c) ∧ Kept w w' := by
  obtain ⟨pr, ps, so, ar, as_, val⟩ := x
  simp only [acv] at *
  go_enter Try.func12, Try.ntmps12
  go_wp2
  refine bodyPost_ret (results_cell_row (p := 2) (ty := 32) rfl _ _ (w.heap.size + 1) _ _ _ _ rfl (push_two_new w _ _) Try.underlying32 rfl (by kernel_rfl)) rfl ?_
  exact ⟨rfl, ((Kept.refl w).alloc _).alloc _⟩

set_option maxRecDepth 100000 in
set_option maxHeartbeats 1000000 in
theorem refprepare_any {w : World} (x : Ac) (A : Option Addr) (c : Nat) (r t : Int) (h : Row w A x.val.length c x.val) :
    Calls Try.prog 11 #[acv x A x.val.length c, .agg #[.int .i64 r, .int .i64 t]] w fun e w' => ∃ v, e = .returned v ∧ Kept w w' ∧ ToldT (told x (prepA x r t)) (prepA x r t).isSome v w' := by
  have HC := Lib.hid (refcompare_any r t x.pr x.ps)
  have HR := Lib.hid h
  clear h
  by_cases h1 : r < 1
  · have e : prepA x r t = none := if_pos (.inl h1)
    rw [e]
    obtain ⟨pr, ps, so, ar, as_, val⟩ := x
    simp only [acv, told, Option.getD_none, Option.isSome_none] at *
    clear e
    go_enter Try.func11, Try.ntmps11
    go_wp2
    refine bodyPost_ret (results_row_tmp (p := 4) (u := 5) (ty := 32) rfl _ _ _ (w.heap.size + 1 + 1) _ _ _ _ _ rfl rfl (push_three_new w _ _ _) Try.underlying32 rfl (by kernel_rfl)) rfl ?_
    exact ⟨_, rfl, (((Kept.refl w).alloc _).alloc _).alloc _, A, c, rfl, HR.out.below ((((Kept.refl w).alloc _).alloc _).alloc _).1⟩
  · by_cases h2 : cmpB r t x.pr x.ps < 0
    · have e : prepA x r t = none := if_pos (.inr h2)
      rw [e]
      obtain ⟨pr, ps, so, ar, as_, val⟩ := x
      simp only [acv, told, Option.getD_none, Option.isSome_none] at *
      clear e
      generalize cmpB r t pr ps = z at *
      have hd : decide (r < 1) = false := by simpa using h1
      have K0 : Hid (Kept w (((w.alloc (.cells #[.int .i64 pr, .int .i64 ps, .bool so, .int .i64 ar, .int .i64 as_, .slice A val.length c] 32)).alloc (.cells #[.int .i64 r, .int .i64 t] 23)).alloc (.cells #[.int .i64 0, .int .i64 0, .bool false, .int .i64 0, .int .i64 0, .slice none 0 0] 32))) := Lib.hid ((((Kept.refl w).alloc _).alloc _).alloc _)
      have P1 : Hid (Hs (((w.alloc (.cells #[.int .i64 pr, .int .i64 ps, .bool so, .int .i64 ar, .int .i64 as_, .slice A val.length c] 32)).alloc (.cells #[.int .i64 r, .int .i64 t] 23)).alloc (.cells #[.int .i64 0, .int .i64 0, .bool false, .int .i64 0, .int .i64 0, .slice none 0 0] 32)) w.heap.size 32 ⟨pr, ps, so, ar, as_, val⟩ A val.length c) := Lib.hid ((push_old _ _ (by simp; omega)).trans (push_two_old w _ _))
      have B1 : Hid (Bx (((w.alloc (.cells #[.int .i64 pr, .int .i64 ps, .bool so, .int .i64 ar, .int .i64 as_, .slice A val.length c] 32)).alloc (.cells #[.int .i64 r, .int .i64 t] 23)).alloc (.cells #[.int .i64 0, .int .i64 0, .bool false, .int .i64 0, .int .i64 0, .slice none 0 0] 32)) (w.heap.size + 1) r t) := Lib.hid ((push_old _ _ (by simp)).trans (push_two_new w _ _))
      have P2 : Hid (Hs (((w.alloc (.cells #[.int .i64 pr, .int .i64 ps, .bool so, .int .i64 ar, .int .i64 as_, .slice A val.length c] 32)).alloc (.cells #[.int .i64 r, .int .i64 t] 23)).alloc (.cells #[.int .i64 0, .int .i64 0, .bool false, .int .i64 0, .int .i64 0, .slice none 0 0] 32)) (w.heap.size + 1 + 1) 32 Ac.zero none 0 0) := Lib.hid (push_three_new w _ _ _)
      go_enter Try.func11, Try.ntmps11
      go_wp2_with fail
      refine (HC.out _).mono ?_
      rintro e u ⟨rfl, hb⟩
      have k1 : Kept _ u := ⟨hb, hb.size⟩
      have q1 := P1.out.kept k1
      have q2 := P2.out.kept k1
      have b1 := B1.out.kept k1
      have KK := Lib.hid (K0.out.trans k1)
      have hsz : w.heap.size + 3 ≤ u.heap.size := by have := k1.2; simp at this; exact this
      obtain ⟨c0, c1, c2, c3, c4, c5⟩ := q1.cells
      obtain ⟨f0, f1, f2, f3, f4, f5⟩ := q1.free
      obtain ⟨d0, d1, d2, d3, d4, d5⟩ := q2.cells
      obtain ⟨e0, e1, e2, e3, e4, e5⟩ := q2.free
      have y0 := b1.c0
      have y1 := b1.c1
      have Q1 := Lib.hid q1
      have Q2 := Lib.hid q2
      simp only [Ac.zero] at d0 d1 d2 d3 d4 d5
      clear hb k1 q1 q2 b1
      go_wp2
      have H5 := Lib.hid (put6_new Q2.out ⟨pr, ps, so, ar, as_, val⟩ A val.length c)
      refine bodyPost_ret (results_row_tmp (p := 4) (u := 5) (ty := 32) rfl _ _ _ (w.heap.size + 1 + 1) _ _ _ _ _ rfl rfl (by with_reducible exact H5.out) Try.underlying32 rfl (by kernel_rfl)) rfl ?_
      have hk := put6_kept (g := w.heap.size + 1 + 1) ⟨pr, ps, so, ar, as_, val⟩ A val.length c KK.out (by omega)
      have hr := Row.put6 (x := ⟨pr, ps, so, ar, as_, val⟩) (B' := A) (m' := val.length) (d' := c) (HR.out.below KK.out.1) Q2.out
      refine ⟨_, rfl, ?_, A, c, rfl, ?_⟩
      · with_reducible exact hk
      · with_reducible exact hr
    · have e : prepA x r t = some ⟨r, t, x.so, x.ar, x.as_, x.val⟩ := if_neg (by omega)
      rw [e]
      obtain ⟨pr, ps, so, ar, as_, val⟩ := x
      simp only [acv, told, Option.getD_some, Option.isSome_some] at *
      clear e
      generalize cmpB r t pr ps = z at *
      have hd : decide (r < 1) = false := by simpa using h1
      have K0 : Hid (Kept w (((w.alloc (.cells #[.int .i64 pr, .int .i64 ps, .bool so, .int .i64 ar, .int .i64 as_, .slice A val.length c] 32)).alloc (.cells #[.int .i64 r, .int .i64 t] 23)).alloc (.cells #[.int .i64 0, .int .i64 0, .bool false, .int .i64 0, .int .i64 0, .slice none 0 0] 32))) := Lib.hid ((((Kept.refl w).alloc _).alloc _).alloc _)
      have P1 : Hid (Hs (((w.alloc (.cells #[.int .i64 pr, .int .i64 ps, .bool so, .int .i64 ar, .int .i64 as_, .slice A val.length c] 32)).alloc (.cells #[.int .i64 r, .int .i64 t] 23)).alloc (.cells #[.int .i64 0, .int .i64 0, .bool false, .int .i64 0, .int .i64 0, .slice none 0 0] 32)) w.heap.size 32 ⟨pr, ps, so, ar, as_, val⟩ A val.length c) := Lib.hid ((push_old _ _ (by simp; omega)).trans (push_two_old w _ _))
      have B1 : Hid (Bx (((w.alloc (.cells #[.int .i64 pr, .int .i64 ps, .bool so, .int .i64 ar, .int .i64 as_, .slice A val.length c] 32)).alloc (.cells #[.int .i64 r, .int .i64 t] 23)).alloc (.cells #[.int .i64 0, .int .i64 0, .bool false, .int .i64 0, .int .i64 0, .slice none 0 0] 32)) (w.heap.size + 1) r t) := Lib.hid ((push_old _ _ (by simp)).trans (push_two_new w _ _))
      have P2 : Hid (Hs (((w.alloc (.cells #[.int .i64 pr, .int .i64 ps, .bool so, .int .i64 ar, .int .i64 as_, .slice A val.length c] 32)).alloc (.cells #[.int .i64 r, .int .i64 t] 23)).alloc (.cells #[.int .i64 0, .int .i64 0, .bool false, .int .i64 0, .int .i64 0, .slice none 0 0] 32)) (w.heap.size + 1 + 1) 32 Ac.zero none 0 0) := Lib.hid (push_three_new w _ _ _)
      go_enter Try.func11, Try.ntmps11
      go_wp2_with fail
      refine (HC.out _).mono ?_
      rintro e u ⟨rfl, hb⟩
      have k1 : Kept _ u := ⟨hb, hb.size⟩
      have q1 := P1.out.kept k1
      have q2 := P2.out.kept k1
      have b1 := B1.out.kept k1
      have KK := Lib.hid (K0.out.trans k1)
      have hsz : w.heap.size + 3 ≤ u.heap.size := by have := k1.2; simp at this; exact this
      obtain ⟨c0, c1, c2, c3, c4, c5⟩ := q1.cells
      obtain ⟨f0, f1, f2, f3, f4, f5⟩ := q1.free
      obtain ⟨d0, d1, d2, d3, d4, d5⟩ := q2.cells
      obtain ⟨e0, e1, e2, e3, e4, e5⟩ := q2.free
      have y0 := b1.c0
      have y1 := b1.c1
      have Q1 := Lib.hid q1
      have Q2 := Lib.hid q2
      simp only [Ac.zero] at d0 d1 d2 d3 d4 d5
      clear hb k1 q1 q2 b1
      go_wp2
      obtain ⟨W2, hW2⟩ : ∃ W2, W2 = (u.setCell ⟨w.heap.size, 0, none⟩ (.int .i64 r)).setCell ⟨w.heap.size, 1, none⟩ (.int .i64 t) := ⟨_, rfl⟩
      rw [← hW2]
      have K2 : Hid (Kept w W2) := Lib.hid (by rw [hW2]; exact (KK.out.setCell (p := ⟨w.heap.size, 0, none⟩) (Nat.le_refl _) _).setCell (p := ⟨w.heap.size, 1, none⟩) (Nat.le_refl _) _)
      have Z2 : Hid (Hs W2 (w.heap.size + 1 + 1) 32 Ac.zero none 0 0) := Lib.hid (by
        rw [hW2]
        exact ((Below.heap_setCell _ ⟨w.heap.size, 1, none⟩ _ (w.heap.size + 1 + 1) (by show _ ≠ _; simp only; omega)).trans (Below.heap_setCell u ⟨w.heap.size, 0, none⟩ _ (w.heap.size + 1 + 1) (by show _ ≠ _; simp only; omega))).trans Q2.out)
      clear hW2
      have H5 := Lib.hid (put6_new Z2.out ⟨r, t, so, ar, as_, val⟩ A val.length c)
      refine bodyPost_ret (results_row_tmp (p := 4) (u := 5) (ty := 32) rfl _ _ _ (w.heap.size + 1 + 1) _ _ _ _ _ rfl rfl (by with_reducible exact H5.out) Try.underlying32 rfl (by kernel_rfl)) rfl ?_
      have hk := put6_kept (g := w.heap.size + 1 + 1) ⟨r, t, so, ar, as_, val⟩ A val.length c K2.out (by omega)
      have hr := Row.put6 (x := ⟨r, t, so, ar, as_, val⟩) (B' := A) (m' := val.length) (d' := c) (HR.out.below K2.out.1) Z2.out
      refine ⟨_, rfl, ?_, A, c, rfl, ?_⟩
      · with_reducible exact hk
      · with_reducible exact hr

set_option maxRecDepth 100000 in
set_option maxHeartbeats 1000000 in
theorem refaccept_any {w : World} (x : Ac) (A B : Option Addr) (c d : Nat) (vs : List Nat) (r t : Int) (h : Row w A x.val.length c x.val) (hv : Row w B vs.length d vs) :
    Calls Try.prog 14 #[acv x A x.val.length c, .agg #[.int .i64 r, .int .i64 t], .slice B vs.length d] w fun e w' => ∃ v, e = .returned v ∧ Kept w w' ∧ ToldT (told x (acceA x r t vs)) (acceA x r t vs).isSome v w' := by
  have HC := Lib.hid (refcompare_any r t x.pr x.ps)
  have HR := Lib.hid h
  have HV := Lib.hid hv
  clear h hv
  by_cases h2 : cmpB r t x.pr x.ps < 0
  · have e : acceA x r t vs = none := if_pos h2
    rw [e]
    obtain ⟨pr, ps, so, ar, as_, val⟩ := x
    simp only [acv, told, Option.getD_none, Option.isSome_none] at *
    clear e
    generalize cmpB r t pr ps = z at *
    have K0 : Hid (Kept w (((w.alloc (.cells #[.int .i64 pr, .int .i64 ps, .bool so, .int .i64 ar, .int .i64 as_, .slice A val.length c] 32)).alloc (.cells #[.int .i64 r, .int .i64 t] 23)).alloc (.cells #[.int .i64 0, .int .i64 0, .bool false, .int .i64 0, .int .i64 0, .slice none 0 0] 32))) := Lib.hid ((((Kept.refl w).alloc _).alloc _).alloc _)
    have P1 : Hid (Hs (((w.alloc (.cells #[.int .i64 pr, .int .i64 ps, .bool so, .int .i64 ar, .int .i64 as_, .slice A val.length c] 32)).alloc (.cells #[.int .i64 r, .int .i64 t] 23)).alloc (.cells #[.int .i64 0, .int .i64 0, .bool false, .int .i64 0, .int .i64 0, .slice none 0 0] 32)) w.heap.size 32 ⟨pr, ps, so, ar, as_, val⟩ A val.length c) := Lib.hid ((push_old _ _ (by simp; omega)).trans (push_two_old w _ _))
    have B1 : Hid (Bx (((w.alloc (.cells #[.int .i64 pr, .int .i64 ps, .bool so, .int .i64 ar, .int .i64 as_, .slice A val.length c] 32)).alloc (.cells #[.int .i64 r, .int .i64 t] 23)).alloc (.cells #[.int .i64 0, .int .i64 0, .bool false, .int .i64 0, .int .i64 0, .slice none 0 0] 32)) (w.heap.size + 1) r t) := Lib.hid ((push_old _ _ (by simp)).trans (push_two_new w _ _))
    have P2 : Hid (Hs (((w.alloc (.cells #[.int .i64 pr, .int .i64 ps, .bool so, .int .i64 ar, .int .i64 as_, .slice A val.length c] 32)).alloc (.cells #[.int .i64 r, .int .i64 t] 23)).alloc (.cells #[.int .i64 0, .int .i64 0, .bool false, .int .i64 0, .int .i64 0, .slice none 0 0] 32)) (w.heap.size + 1 + 1) 32 Ac.zero none 0 0) := Lib.hid (push_three_new w _ _ _)
    go_enter Try.func14, Try.ntmps14
    go_wp2_with fail
    refine (HC.out _).mono ?_
    rintro e u ⟨rfl, hb⟩
    have k1 : Kept _ u := ⟨hb, hb.size⟩
    have q1 := P1.out.kept k1
    have q2 := P2.out.kept k1
    have b1 := B1.out.kept k1
    have KK := Lib.hid (K0.out.trans k1)
    have hsz : w.heap.size + 3 ≤ u.heap.size := by have := k1.2; simp at this; exact this
    obtain ⟨c0, c1, c2, c3, c4, c5⟩ := q1.cells
    obtain ⟨f0, f1, f2, f3, f4, f5⟩ := q1.free
    obtain ⟨d0, d1, d2, d3, d4, d5⟩ := q2.cells
    obtain ⟨e0, e1, e2, e3, e4, e5⟩ := q2.free
    have y0 := b1.c0
    have y1 := b1.c1
    have Q1 := Lib.hid q1
    have Q2 := Lib.hid q2
    simp only [Ac.zero] at d0 d1 d2 d3 d4 d5
    clear hb k1 q1 q2 b1
    go_wp2
    have H5 := Lib.hid (put6_new Q2.out ⟨pr, ps, so, ar, as_, val⟩ A val.length c)
    refine bodyPost_ret (results_row_tmp (p := 6) (u := 7) (ty := 32) rfl _ _ _ (w.heap.size + 1 + 1) _ _ _ _ _ rfl rfl (by with_reducible exact H5.out) Try.underlying32 rfl (by kernel_rfl)) rfl ?_
    have hk := put6_kept (g := w.heap.size + 1 + 1) ⟨pr, ps, so, ar, as_, val⟩ A val.length c KK.out (by omega)
    have hr := Row.put6 (x := ⟨pr, ps, so, ar, as_, val⟩) (B' := A) (m' := val.length) (d' := c) (HR.out.below KK.out.1) Q2.out
    refine ⟨_, rfl, ?_, A, c, rfl, ?_⟩
    · with_reducible exact hk
    · with_reducible exact hr
  · have e : acceA x r t vs = some ⟨r, t, true, r, t, vs⟩ := if_neg h2
    rw [e]
    obtain ⟨pr, ps, so, ar, as_, val⟩ := x
    simp only [acv, told, Option.getD_some, Option.isSome_some] at *
    clear e
    generalize cmpB r t pr ps = z at *
    have K0 : Hid (Kept w (((w.alloc (.cells #[.int .i64 pr, .int .i64 ps, .bool so, .int .i64 ar, .int .i64 as_, .slice A val.length c] 32)).alloc (.cells #[.int .i64 r, .int .i64 t] 23)).alloc (.cells #[.int .i64 0, .int .i64 0, .bool false, .int .i64 0, .int .i64 0, .slice none 0 0] 32))) := Lib.hid ((((Kept.refl w).alloc _).alloc _).alloc _)
    have P1 : Hid (Hs (((w.alloc (.cells #[.int .i64 pr, .int .i64 ps, .bool so, .int .i64 ar, .int .i64 as_, .slice A val.length c] 32)).alloc (.cells #[.int .i64 r, .int .i64 t] 23)).alloc (.cells #[.int .i64 0, .int .i64 0, .bool false, .int .i64 0, .int .i64 0, .slice none 0 0] 32)) w.heap.size 32 ⟨pr, ps, so, ar, as_, val⟩ A val.length c) := Lib.hid ((push_old _ _ (by simp; omega)).trans (push_two_old w _ _))
    have B1 : Hid (Bx (((w.alloc (.cells #[.int .i64 pr, .int .i64 ps, .bool so, .int .i64 ar, .int .i64 as_, .slice A val.length c] 32)).alloc (.cells #[.int .i64 r, .int .i64 t] 23)).alloc (.cells #[.int .i64 0, .int .i64 0, .bool false, .int .i64 0, .int .i64 0, .slice none 0 0] 32)) (w.heap.size + 1) r t) := Lib.hid ((push_old _ _ (by simp)).trans (push_two_new w _ _))
    have P2 : Hid (Hs (((w.alloc (.cells #[.int .i64 pr, .int .i64 ps, .bool so, .int .i64 ar, .int .i64 as_, .slice A val.length c] 32)).alloc (.cells #[.int .i64 r, .int .i64 t] 23)).alloc (.cells #[.int .i64 0, .int .i64 0, .bool false, .int .i64 0, .int .i64 0, .slice none 0 0] 32)) (w.heap.size + 1 + 1) 32 Ac.zero none 0 0) := Lib.hid (push_three_new w _ _ _)
    go_enter Try.func14, Try.ntmps14
    go_wp2_with fail
    refine (HC.out _).mono ?_
    rintro e u ⟨rfl, hb⟩
    have k1 : Kept _ u := ⟨hb, hb.size⟩
    have q1 := P1.out.kept k1
    have q2 := P2.out.kept k1
    have b1 := B1.out.kept k1
    have KK := Lib.hid (K0.out.trans k1)
    have hsz : w.heap.size + 3 ≤ u.heap.size := by have := k1.2; simp at this; exact this
    obtain ⟨c0, c1, c2, c3, c4, c5⟩ := q1.cells
    obtain ⟨f0, f1, f2, f3, f4, f5⟩ := q1.free
    obtain ⟨d0, d1, d2, d3, d4, d5⟩ := q2.cells
    obtain ⟨e0, e1, e2, e3, e4, e5⟩ := q2.free
    have y0 := b1.c0
    have y1 := b1.c1
    have Q1 := Lib.hid q1
    have Q2 := Lib.hid q2
    simp only [Ac.zero] at d0 d1 d2 d3 d4 d5
    clear hb k1 q1 q2 b1
    go_wp2
    have H5 := Lib.hid (put6_new Q2.out ⟨r, t, true, r, t, vs⟩ B vs.length d)
    refine bodyPost_ret (results_row_tmp (p := 6) (u := 7) (ty := 32) rfl _ _ _ (w.heap.size + 1 + 1) _ _ _ _ _ rfl rfl (by with_reducible exact H5.out) Try.underlying32 rfl (by kernel_rfl)) rfl ?_
    have hk := put6_kept (g := w.heap.size + 1 + 1) ⟨r, t, true, r, t, vs⟩ B vs.length d KK.out (by omega)
    have hr := Row.put6 (x := ⟨r, t, true, r, t, vs⟩) (B' := B) (m' := vs.length) (d' := d) (HV.out.below KK.out.1) Q2.out
    refine ⟨_, rfl, ?_, B, d, rfl, ?_⟩
    · with_reducible exact hk
    · with_reducible exact hr
end Go.Proofs.Ytlcmfikekbbgjaa
