/- One acceptor of a slot: Prepare and Accept of the program. -/
import Derived.Test.YtifenlopgpbpbaaAccP
import Derived.Test.YtifenlopgpbpbaaRes
namespace Go.Proofs.Ytifenlopgpbpbaa
open Go.RowKit

/-- what a call tells: the state behind it, and whether it did something -/
def ToldT (x : Ac) (b : Bool) (v : Value) (w : World) : Prop := ∃ A c, v = .tuple #[acv x A x.val.length c, .bool b] ∧ RowB w A x.val.length c x.val
theorem ToldT.kept {x : Ac} {b : Bool} {v : Value} {w w' : World} (h : ToldT x b v w) (k : Kept w w') : ToldT x b v w' := by
  obtain ⟨A, c, e, hr⟩ := h
  exact ⟨A, c, e, hr.below k.1⟩

theorem turn_fn (r t : Int) (f : Value) (hf : ∃ k caps, f = .func (.func k) #[] caps) (w : World) : Calls Try.prog 39 #[.agg #[.int .i64 r, .int .i64 t], f] w fun e w' =>
    e = .returned (.func (.func 43) #[] #[.pointer (some ⟨w.heap.size, 0, none⟩), .pointer (some ⟨w.heap.size + 1, 0, none⟩)]) ∧
    w' = (w.alloc (.cells #[.int .i64 r, .int .i64 t] 33)).alloc (.cells #[f] 84) := by
  obtain ⟨k, caps, rfl⟩ := hf
  go_enter Try.func39, Try.ntmps39
  go_wp2
  go_ret
  exact ⟨by simp, rfl⟩

set_option maxRecDepth 100000 in
set_option maxHeartbeats 1000000 in
theorem turned_not {w : World} {x : Ac} {A : Option Addr} {c g1 g2 : Nat} {r t : Int} {fv : Value} (h : Row w A x.val.length c x.val) (h1 : Bx w g1 r t) (h2 : w.heap[g2]? = some (.cells #[fv] 84 (0, 0))) (hc : cmpB r t x.pr x.ps < 0) :
    Calls Try.prog 43 #[acv x A x.val.length c, .pointer (some ⟨g1, 0, none⟩), .pointer (some ⟨g2, 0, none⟩)] w fun e w' => ∃ v, e = .returned v ∧ Kept w w' ∧ ToldT x false v w' := by
  obtain ⟨pr, ps, so, ar, as_, val⟩ := x
  simp only [acv] at *
  have k0 : Kept w ((w.alloc (.cells #[.int .i64 pr, .int .i64 ps, .bool so, .int .i64 ar, .int .i64 as_, .slice A val.length c] 45)).alloc (.cells #[.int .i64 0, .int .i64 0, .bool false, .int .i64 0, .int .i64 0, .slice none 0 0] 45)) := ((Kept.refl w).alloc _).alloc _
  have p1 : Hs ((w.alloc (.cells #[.int .i64 pr, .int .i64 ps, .bool so, .int .i64 ar, .int .i64 as_, .slice A val.length c] 45)).alloc (.cells #[.int .i64 0, .int .i64 0, .bool false, .int .i64 0, .int .i64 0, .slice none 0 0] 45)) w.heap.size 45 ⟨pr, ps, so, ar, as_, val⟩ A val.length c := push_two_old w _ _
  have p2 : Hs ((w.alloc (.cells #[.int .i64 pr, .int .i64 ps, .bool so, .int .i64 ar, .int .i64 as_, .slice A val.length c] 45)).alloc (.cells #[.int .i64 0, .int .i64 0, .bool false, .int .i64 0, .int .i64 0, .slice none 0 0] 45)) (w.heap.size + 1) 45 Ac.zero none 0 0 := push_two_new w _ _
  have l1 := heap_lt h1
  have l2 := heap_lt h2
  have b0 := h1.c0
  have b1 := h1.c1
  have HR := Lib.hid h
  have H1 := Lib.hid h1
  have H2 := Lib.hid h2
  have K0 := Lib.hid k0
  have P1 := Lib.hid p1
  have P2 := Lib.hid p2
  have HC := Lib.hid (compare_any r t pr ps)
  clear h h1 h2 k0 p1 p2
  generalize cmpB r t pr ps = z at *
  go_enter Try.func43, Try.ntmps43
  go_wp2_with fail
  refine (HC.out _).mono ?_
  rintro e u ⟨rfl, hb⟩
  have k1 : Kept _ u := ⟨hb, hb.size⟩
  have q1 := P1.out.kept k1
  obtain ⟨c0, c1, c2, c3, c4, c5⟩ := q1.cells
  obtain ⟨f0, f1, f2, f3, f4, f5⟩ := q1.free
  have hsz : w.heap.size + 2 ≤ u.heap.size := by have := k1.2; simp at this; exact this
  have bx := (H1.out.kept K0.out).kept k1
  have fx := (K0.out.trans k1).1.block g2 l2
  have b0 := bx.c0
  have b1 := bx.c1
  have g0 := cell_of_heap (fx.trans H2.out) 0
  simp only [List.getElem?_toArray, List.getElem?_cons_zero] at g0
  have K1 := Lib.hid k1
  clear hb k1 q1 bx fx
  go_wp2_with fail
  refine (own_any (w := u) (x := ⟨pr, ps, so, ar, as_, val⟩) (A := A) (c := c) ((HR.out.below K0.out.1).below K1.out.1)).mono ?_
  rintro e u2 ⟨v, rfl, ⟨A', c', rfl, hr2⟩, k2⟩
  have KK := Lib.hid ((K0.out.trans K1.out).trans k2)
  have q2 := (P2.out.kept K1.out).kept k2
  have HR2 := Lib.hid hr2
  obtain ⟨d0, d1, d2, d3, d4, d5⟩ := q2.cells
  obtain ⟨e0, e1, e2, e3, e4, e5⟩ := q2.free
  have Q2 := Lib.hid q2
  simp only [Ac.zero] at d0 d1 d2 d3 d4 d5
  clear k2 q2 hr2
  simp only [acv]
  go_wp2
  have H5 := Lib.hid (put6_new Q2.out ⟨pr, ps, so, ar, as_, val⟩ A' val.length c')
  refine bodyPost_ret (results_row_tmp (p := 4) (u := 5) (ty := 45) rfl _ _ _ (w.heap.size + 1) _ _ _ _ _ rfl rfl (by with_reducible exact H5.out) Try.underlying45 rfl (by kernel_rfl)) rfl ?_
  have hk := put6_kept (g := w.heap.size + 1) ⟨pr, ps, so, ar, as_, val⟩ A' val.length c' KK.out (by omega)
  have hr := HR2.out.put6 (x := ⟨pr, ps, so, ar, as_, val⟩) (B' := A') (m' := val.length) (d' := c') Q2.out
  refine ⟨_, rfl, ?_, A', c', rfl, ?_⟩
  · with_reducible exact hk
  · with_reducible exact hr
set_option maxRecDepth 100000 in
set_option maxHeartbeats 1000000 in
theorem turned_idle {w : World} {x : Ac} {A : Option Addr} {c g1 g2 : Nat} {r t : Int} (h : Row w A x.val.length c x.val) (h1 : Bx w g1 r t) (h2 : w.heap[g2]? = some (.cells #[.func (.func 40) #[] #[]] 84 (0, 0))) (hc : ¬ cmpB r t x.pr x.ps < 0) :
    Calls Try.prog 43 #[acv x A x.val.length c, .pointer (some ⟨g1, 0, none⟩), .pointer (some ⟨g2, 0, none⟩)] w fun e w' => ∃ v, e = .returned v ∧ Kept w w' ∧ ToldT ⟨r, t, x.so, x.ar, x.as_, x.val⟩ true v w' := by
  obtain ⟨pr, ps, so, ar, as_, val⟩ := x
  simp only [acv] at *
  have k0 : Kept w ((w.alloc (.cells #[.int .i64 pr, .int .i64 ps, .bool so, .int .i64 ar, .int .i64 as_, .slice A val.length c] 45)).alloc (.cells #[.int .i64 0, .int .i64 0, .bool false, .int .i64 0, .int .i64 0, .slice none 0 0] 45)) := ((Kept.refl w).alloc _).alloc _
  have p1 : Hs ((w.alloc (.cells #[.int .i64 pr, .int .i64 ps, .bool so, .int .i64 ar, .int .i64 as_, .slice A val.length c] 45)).alloc (.cells #[.int .i64 0, .int .i64 0, .bool false, .int .i64 0, .int .i64 0, .slice none 0 0] 45)) w.heap.size 45 ⟨pr, ps, so, ar, as_, val⟩ A val.length c := push_two_old w _ _
  have p2 : Hs ((w.alloc (.cells #[.int .i64 pr, .int .i64 ps, .bool so, .int .i64 ar, .int .i64 as_, .slice A val.length c] 45)).alloc (.cells #[.int .i64 0, .int .i64 0, .bool false, .int .i64 0, .int .i64 0, .slice none 0 0] 45)) (w.heap.size + 1) 45 Ac.zero none 0 0 := push_two_new w _ _
  have l1 := heap_lt h1
  have l2 := heap_lt h2
  have b0 := h1.c0
  have b1 := h1.c1
  have HR := Lib.hid h
  have H1 := Lib.hid h1
  have H2 := Lib.hid h2
  have K0 := Lib.hid k0
  have P1 := Lib.hid p1
  have P2 := Lib.hid p2
  have HC := Lib.hid (compare_any r t pr ps)
  clear h h1 h2 k0 p1 p2
  generalize cmpB r t pr ps = z at *
  go_enter Try.func43, Try.ntmps43
  go_wp2_with fail
  refine (HC.out _).mono ?_
  rintro e u ⟨rfl, hb⟩
  have k1 : Kept _ u := ⟨hb, hb.size⟩
  have q1 := P1.out.kept k1
  obtain ⟨c0, c1, c2, c3, c4, c5⟩ := q1.cells
  obtain ⟨f0, f1, f2, f3, f4, f5⟩ := q1.free
  have hsz : w.heap.size + 2 ≤ u.heap.size := by have := k1.2; simp at this; exact this
  have bx := (H1.out.kept K0.out).kept k1
  have fx := (K0.out.trans k1).1.block g2 l2
  have b0 := bx.c0
  have b1 := bx.c1
  have g0 := cell_of_heap (fx.trans H2.out) 0
  simp only [List.getElem?_toArray, List.getElem?_cons_zero] at g0
  have K1 := Lib.hid k1
  clear hb k1 q1 bx fx
  go_wp2_with fail
  obtain ⟨W2, hW2⟩ : ∃ W2, W2 = (u.setCell ⟨w.heap.size, 0, none⟩ (.int .i64 r)).setCell ⟨w.heap.size, 1, none⟩ (.int .i64 t) := ⟨_, rfl⟩
  rw [← hW2]
  have K2 : Hid (Kept w W2) := Lib.hid (by rw [hW2]; exact ((K0.out.trans K1.out).setCell (p := ⟨w.heap.size, 0, none⟩) (Nat.le_refl _) _).setCell (p := ⟨w.heap.size, 1, none⟩) (Nat.le_refl _) _)
  have S2 : Hid (W2.heap.size = u.heap.size) := Lib.hid (by rw [hW2]; simp [World.setCell])
  have Z2 : Hid (Hs W2 (w.heap.size + 1) 45 Ac.zero none 0 0) := Lib.hid (by
    rw [hW2]
    exact ((Below.heap_setCell _ ⟨w.heap.size, 1, none⟩ _ (w.heap.size + 1) (by simp)).trans (Below.heap_setCell u ⟨w.heap.size, 0, none⟩ _ (w.heap.size + 1) (by simp))).trans (P2.out.kept K1.out))
  clear hW2
  refine (idle_any ⟨r, t, so, ar, as_, val⟩ A val.length c W2).mono ?_
  rintro e u1 ⟨rfl, k1⟩
  have K3 := Lib.hid k1
  clear k1
  simp only [acv]
  go_wp2_with fail
  refine (own_any (w := u1) (x := ⟨r, t, so, ar, as_, val⟩) (A := A) (c := c) ((HR.out.below K2.out.1).below K3.out.1)).mono ?_
  rintro e u2 ⟨v, rfl, ⟨A', c', rfl, hr2⟩, k2⟩
  have KK := Lib.hid ((K2.out.trans K3.out).trans k2)
  have q2 := (Z2.out.kept K3.out).kept k2
  have HR2 := Lib.hid hr2
  obtain ⟨d0, d1, d2, d3, d4, d5⟩ := q2.cells
  obtain ⟨e0, e1, e2, e3, e4, e5⟩ := q2.free
  have Q2 := Lib.hid q2
  simp only [Ac.zero] at d0 d1 d2 d3 d4 d5
  clear k2 q2 hr2
  simp only [acv]
  go_wp2
  have H5 := Lib.hid (put6_new Q2.out ⟨r, t, so, ar, as_, val⟩ A' val.length c')
  refine bodyPost_ret (results_row_tmp (p := 4) (u := 5) (ty := 45) rfl _ _ _ (w.heap.size + 1) _ _ _ _ _ rfl rfl (by with_reducible exact H5.out) Try.underlying45 rfl (by kernel_rfl)) rfl ?_
  have hk := put6_kept (g := w.heap.size + 1) ⟨r, t, so, ar, as_, val⟩ A' val.length c' KK.out (by have := S2.out; omega)
  have hr := HR2.out.put6 (x := ⟨r, t, so, ar, as_, val⟩) (B' := A') (m' := val.length) (d' := c') Q2.out
  refine ⟨_, rfl, ?_, A', c', rfl, ?_⟩
  · with_reducible exact hk
  · with_reducible exact hr

set_option maxRecDepth 100000 in
set_option maxHeartbeats 1000000 in
theorem turned_put {w : World} {x : Ac} {A B : Option Addr} {c g1 g2 g3 g4 d : Nat} {r t : Int} {vs : List Nat} (h : Row w A x.val.length c x.val) (h1 : Bx w g1 r t) (h2 : w.heap[g2]? = some (.cells #[.func (.func 41) #[] #[.pointer (some ⟨g3, 0, none⟩), .pointer (some ⟨g4, 0, none⟩)]] 84 (0, 0))) (h3 : Bx w g3 r t) (h4 : w.heap[g4]? = some (.cells #[.slice B vs.length d] 24 (0, 0))) (h5 : Row w B vs.length d vs) (hc : ¬ cmpB r t x.pr x.ps < 0) :
    Calls Try.prog 43 #[acv x A x.val.length c, .pointer (some ⟨g1, 0, none⟩), .pointer (some ⟨g2, 0, none⟩)] w fun e w' => ∃ v, e = .returned v ∧ Kept w w' ∧ ToldT ⟨r, t, true, r, t, vs⟩ true v w' := by
  obtain ⟨pr, ps, so, ar, as_, val⟩ := x
  simp only [acv] at *
  have k0 : Kept w ((w.alloc (.cells #[.int .i64 pr, .int .i64 ps, .bool so, .int .i64 ar, .int .i64 as_, .slice A val.length c] 45)).alloc (.cells #[.int .i64 0, .int .i64 0, .bool false, .int .i64 0, .int .i64 0, .slice none 0 0] 45)) := ((Kept.refl w).alloc _).alloc _
  have p1 : Hs ((w.alloc (.cells #[.int .i64 pr, .int .i64 ps, .bool so, .int .i64 ar, .int .i64 as_, .slice A val.length c] 45)).alloc (.cells #[.int .i64 0, .int .i64 0, .bool false, .int .i64 0, .int .i64 0, .slice none 0 0] 45)) w.heap.size 45 ⟨pr, ps, so, ar, as_, val⟩ A val.length c := push_two_old w _ _
  have p2 : Hs ((w.alloc (.cells #[.int .i64 pr, .int .i64 ps, .bool so, .int .i64 ar, .int .i64 as_, .slice A val.length c] 45)).alloc (.cells #[.int .i64 0, .int .i64 0, .bool false, .int .i64 0, .int .i64 0, .slice none 0 0] 45)) (w.heap.size + 1) 45 Ac.zero none 0 0 := push_two_new w _ _
  have l1 := heap_lt h1
  have l2 := heap_lt h2
  have b0 := h1.c0
  have b1 := h1.c1
  have H3 := Lib.hid h3
  have H4 := Lib.hid h4
  have H5 := Lib.hid h5
  have H1 := Lib.hid h1
  have H2 := Lib.hid h2
  have K0 := Lib.hid k0
  have P1 := Lib.hid p1
  have P2 := Lib.hid p2
  have HC := Lib.hid (compare_any r t pr ps)
  clear h h1 h2 h3 h4 h5 k0 p1 p2
  generalize cmpB r t pr ps = z at *
  go_enter Try.func43, Try.ntmps43
  go_wp2_with fail
  refine (HC.out _).mono ?_
  rintro e u ⟨rfl, hb⟩
  have k1 : Kept _ u := ⟨hb, hb.size⟩
  have q1 := P1.out.kept k1
  obtain ⟨c0, c1, c2, c3, c4, c5⟩ := q1.cells
  obtain ⟨f0, f1, f2, f3, f4, f5⟩ := q1.free
  have hsz : w.heap.size + 2 ≤ u.heap.size := by have := k1.2; simp at this; exact this
  have bx := (H1.out.kept K0.out).kept k1
  have fx := (K0.out.trans k1).1.block g2 l2
  have b0 := bx.c0
  have b1 := bx.c1
  have g0 := cell_of_heap (fx.trans H2.out) 0
  simp only [List.getElem?_toArray, List.getElem?_cons_zero] at g0
  have K1 := Lib.hid k1
  clear hb k1 q1 bx fx
  go_wp2_with fail
  obtain ⟨W2, hW2⟩ : ∃ W2, W2 = (u.setCell ⟨w.heap.size, 0, none⟩ (.int .i64 r)).setCell ⟨w.heap.size, 1, none⟩ (.int .i64 t) := ⟨_, rfl⟩
  rw [← hW2]
  have K2 : Hid (Kept w W2) := Lib.hid (by rw [hW2]; exact ((K0.out.trans K1.out).setCell (p := ⟨w.heap.size, 0, none⟩) (Nat.le_refl _) _).setCell (p := ⟨w.heap.size, 1, none⟩) (Nat.le_refl _) _)
  have S2 : Hid (W2.heap.size = u.heap.size) := Lib.hid (by rw [hW2]; simp [World.setCell])
  have Z2 : Hid (Hs W2 (w.heap.size + 1) 45 Ac.zero none 0 0) := Lib.hid (by
    rw [hW2]
    exact ((Below.heap_setCell _ ⟨w.heap.size, 1, none⟩ _ (w.heap.size + 1) (by simp)).trans (Below.heap_setCell u ⟨w.heap.size, 0, none⟩ _ (w.heap.size + 1) (by simp))).trans (P2.out.kept K1.out))
  clear hW2
  refine (put_any ⟨r, t, so, ar, as_, val⟩ A val.length c (H3.out.kept K2.out) ((K2.out.1.block g4 (heap_lt H4.out)).trans H4.out) vs).mono ?_
  rintro e u1 ⟨rfl, k1⟩
  have K3 := Lib.hid k1
  clear k1
  simp only [acv]
  go_wp2_with fail
  refine (own_any (w := u1) (x := ⟨r, t, true, r, t, vs⟩) (A := B) (c := d) ((H5.out.below K2.out.1).below K3.out.1)).mono ?_
  rintro e u2 ⟨v, rfl, ⟨A', c', rfl, hr2⟩, k2⟩
  have KK := Lib.hid ((K2.out.trans K3.out).trans k2)
  have q2 := (Z2.out.kept K3.out).kept k2
  have HR2 := Lib.hid hr2
  obtain ⟨d0, d1, d2, d3, d4, d5⟩ := q2.cells
  obtain ⟨e0, e1, e2, e3, e4, e5⟩ := q2.free
  have Q2 := Lib.hid q2
  simp only [Ac.zero] at d0 d1 d2 d3 d4 d5
  clear k2 q2 hr2
  simp only [acv]
  go_wp2
  have H6 := Lib.hid (put6_new Q2.out ⟨r, t, true, r, t, vs⟩ A' vs.length c')
  refine bodyPost_ret (results_row_tmp (p := 4) (u := 5) (ty := 45) rfl _ _ _ (w.heap.size + 1) _ _ _ _ _ rfl rfl (by with_reducible exact H6.out) Try.underlying45 rfl (by kernel_rfl)) rfl ?_
  have hk := put6_kept (g := w.heap.size + 1) ⟨r, t, true, r, t, vs⟩ A' vs.length c' KK.out (by have := S2.out; omega)
  have hr := HR2.out.put6 (x := ⟨r, t, true, r, t, vs⟩) (B' := A') (m' := vs.length) (d' := c') Q2.out
  refine ⟨_, rfl, ?_, A', c', rfl, ?_⟩
  · with_reducible exact hk
  · with_reducible exact hr
end Go.Proofs.Ytifenlopgpbpbaa
