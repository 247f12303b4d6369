/- One acceptor of a slot: the statements' own function answer, awake. -/
import Derived.Test.YtlcmfikekbbgjaaAccS
import Derived.Test.YtlcmfikekbbgjaaAccV
import Derived.Test.YtlcmfikekbbgjaaAccU
import Derived.Test.YtlcmfikekbbgjaaAccT
import Derived.Lib.SmallJoins
namespace Go.Proofs.Ytlcmfikekbbgjaa
open Go.RowKit

set_option maxRecDepth 100000 in
set_option maxHeartbeats 1000000 in
theorem answer_any {w : World} (x : Ac) (a : Ak) (A B : Option Addr) (c d : Nat) (h : Row w A x.val.length c x.val) (hv : Row w B a.val.length d a.val) :
    Calls Try.prog 19 #[acv x A x.val.length c, .agg #[.int .i64 a.r, .int .i64 a.s, .bool a.puts, .slice B a.val.length d]] w fun e w' => ∃ v, e = .returned v ∧ Kept w w' ∧ ToldT (told x (ansA x a)) (ansA x a).isSome v w' := by
  obtain ⟨pr, ps, so, ar, as_, val⟩ := x
  obtain ⟨r, t, puts, vs⟩ := a
  simp only [acv] at *
  cases puts with
  | false =>
    have K0 : Hid (Kept w (((w.alloc (.cells #[.int .i64 pr, .int .i64 ps, .bool so, .int .i64 ar, .int .i64 as_, .slice A val.length c] 26)).alloc (.cells #[.int .i64 r, .int .i64 t, .bool false, .slice B vs.length d] 46)).alloc (.cells #[.int .i64 0, .int .i64 0, .bool false, .int .i64 0, .int .i64 0, .slice none 0 0] 26))) := Lib.hid ((((Kept.refl w).alloc _).alloc _).alloc _)
    have P2 : Hid (Hs (((w.alloc (.cells #[.int .i64 pr, .int .i64 ps, .bool so, .int .i64 ar, .int .i64 as_, .slice A val.length c] 26)).alloc (.cells #[.int .i64 r, .int .i64 t, .bool false, .slice B vs.length d] 46)).alloc (.cells #[.int .i64 0, .int .i64 0, .bool false, .int .i64 0, .int .i64 0, .slice none 0 0] 26)) (w.heap.size + 1 + 1) 26 Ac.zero none 0 0) := Lib.hid (push_three_new w _ _ _)
    obtain ⟨y, b, hyb⟩ : ∃ y b, told ⟨pr, ps, so, ar, as_, val⟩ (ansA ⟨pr, ps, so, ar, as_, val⟩ ⟨r, t, false, vs⟩) = y ∧ (ansA ⟨pr, ps, so, ar, as_, val⟩ ⟨r, t, false, vs⟩).isSome = b := ⟨_, _, rfl, rfl⟩
    rw [hyb.1, hyb.2]
    have HC : Hid (Calls Try.prog 10 #[.agg #[.int .i64 pr, .int .i64 ps, .bool so, .int .i64 ar, .int .i64 as_, .slice A val.length c], .agg #[.int .i64 r, .int .i64 t]] (((w.alloc (.cells #[.int .i64 pr, .int .i64 ps, .bool so, .int .i64 ar, .int .i64 as_, .slice A val.length c] 26)).alloc (.cells #[.int .i64 r, .int .i64 t, .bool false, .slice B vs.length d] 46)).alloc (.cells #[.int .i64 0, .int .i64 0, .bool false, .int .i64 0, .int .i64 0, .slice none 0 0] 26)) fun e w' => ∃ v, e = .returned v ∧ Kept (((w.alloc (.cells #[.int .i64 pr, .int .i64 ps, .bool so, .int .i64 ar, .int .i64 as_, .slice A val.length c] 26)).alloc (.cells #[.int .i64 r, .int .i64 t, .bool false, .slice B vs.length d] 46)).alloc (.cells #[.int .i64 0, .int .i64 0, .bool false, .int .i64 0, .int .i64 0, .slice none 0 0] 26)) w' ∧ ToldT y b v w') := Lib.hid (by rw [← hyb.1, ← hyb.2]; exact prepare_any (x := ⟨pr, ps, so, ar, as_, val⟩) r t (h.below ((((Kept.refl w).alloc _).alloc _).alloc _).1))
    clear hyb
    obtain ⟨yr, yt, yo, za, zs, yv⟩ := y
    go_enter Try.func19, Try.ntmps19
    go_wp2_with fail
    refine HC.out.mono ?_
    rintro e u ⟨v, rfl, k1, A', c', rfl, hr⟩
    have HR2 := Lib.hid hr
    have KK := Lib.hid (K0.out.trans k1)
    have q2 := P2.out.kept k1
    have hsz : w.heap.size + 3 ≤ u.heap.size := by have := k1.2; simp at this; exact this
    obtain ⟨d0, d1, d2, d3, d4, d5⟩ := q2.cells
    obtain ⟨e0, e1, e2, e3, e4, e5⟩ := q2.free
    have Q2 := Lib.hid q2
    simp only [Ac.zero] at d0 d1 d2 d3 d4 d5
    simp only at hr
    clear k1 q2 hr
    simp only [acv]
    go_wp2
    have H5 := Lib.hid (put6_new Q2.out ⟨yr, yt, yo, za, zs, yv⟩ A' yv.length c')
    refine bodyPost_ret (results_row_tmp (p := 4) (u := 5) (ty := 26) rfl _ _ _ (w.heap.size + 1 + 1) _ _ _ _ _ rfl rfl (by with_reducible exact H5.out) Try.underlying26 rfl (by kernel_rfl)) rfl ?_
    have hk := put6_kept (g := w.heap.size + 1 + 1) ⟨yr, yt, yo, za, zs, yv⟩ A' yv.length c' KK.out (by omega)
    have hr := HR2.out.put6 (x := ⟨yr, yt, yo, za, zs, yv⟩) (B' := A') (m' := yv.length) (d' := c') Q2.out
    refine ⟨_, rfl, ?_, A', c', rfl, ?_⟩
    · with_reducible exact hk
    · with_reducible exact hr
  | true =>
    have K0 : Hid (Kept w (((w.alloc (.cells #[.int .i64 pr, .int .i64 ps, .bool so, .int .i64 ar, .int .i64 as_, .slice A val.length c] 26)).alloc (.cells #[.int .i64 r, .int .i64 t, .bool true, .slice B vs.length d] 46)).alloc (.cells #[.int .i64 0, .int .i64 0, .bool false, .int .i64 0, .int .i64 0, .slice none 0 0] 26))) := Lib.hid ((((Kept.refl w).alloc _).alloc _).alloc _)
    have P2 : Hid (Hs (((w.alloc (.cells #[.int .i64 pr, .int .i64 ps, .bool so, .int .i64 ar, .int .i64 as_, .slice A val.length c] 26)).alloc (.cells #[.int .i64 r, .int .i64 t, .bool true, .slice B vs.length d] 46)).alloc (.cells #[.int .i64 0, .int .i64 0, .bool false, .int .i64 0, .int .i64 0, .slice none 0 0] 26)) (w.heap.size + 1 + 1) 26 Ac.zero none 0 0) := Lib.hid (push_three_new w _ _ _)
    obtain ⟨y, b, hyb⟩ : ∃ y b, told ⟨pr, ps, so, ar, as_, val⟩ (ansA ⟨pr, ps, so, ar, as_, val⟩ ⟨r, t, true, vs⟩) = y ∧ (ansA ⟨pr, ps, so, ar, as_, val⟩ ⟨r, t, true, vs⟩).isSome = b := ⟨_, _, rfl, rfl⟩
    rw [hyb.1, hyb.2]
    have HC : Hid (Calls Try.prog 13 #[.agg #[.int .i64 pr, .int .i64 ps, .bool so, .int .i64 ar, .int .i64 as_, .slice A val.length c], .agg #[.int .i64 r, .int .i64 t], .slice B vs.length d] (((w.alloc (.cells #[.int .i64 pr, .int .i64 ps, .bool so, .int .i64 ar, .int .i64 as_, .slice A val.length c] 26)).alloc (.cells #[.int .i64 r, .int .i64 t, .bool true, .slice B vs.length d] 46)).alloc (.cells #[.int .i64 0, .int .i64 0, .bool false, .int .i64 0, .int .i64 0, .slice none 0 0] 26)) fun e w' => ∃ v, e = .returned v ∧ Kept (((w.alloc (.cells #[.int .i64 pr, .int .i64 ps, .bool so, .int .i64 ar, .int .i64 as_, .slice A val.length c] 26)).alloc (.cells #[.int .i64 r, .int .i64 t, .bool true, .slice B vs.length d] 46)).alloc (.cells #[.int .i64 0, .int .i64 0, .bool false, .int .i64 0, .int .i64 0, .slice none 0 0] 26)) w' ∧ ToldT y b v w') := Lib.hid (by rw [← hyb.1, ← hyb.2]; exact accept_any (x := ⟨pr, ps, so, ar, as_, val⟩) r t (h.below ((((Kept.refl w).alloc _).alloc _).alloc _).1) (hv.below ((((Kept.refl w).alloc _).alloc _).alloc _).1))
    clear hyb
    obtain ⟨yr, yt, yo, za, zs, yv⟩ := y
    go_enter Try.func19, Try.ntmps19
    go_wp2_with fail
    refine HC.out.mono ?_
    rintro e u ⟨v, rfl, k1, A', c', rfl, hr⟩
    have HR2 := Lib.hid hr
    have KK := Lib.hid (K0.out.trans k1)
    have q2 := P2.out.kept k1
    have hsz : w.heap.size + 3 ≤ u.heap.size := by have := k1.2; simp at this; exact this
    obtain ⟨d0, d1, d2, d3, d4, d5⟩ := q2.cells
    obtain ⟨e0, e1, e2, e3, e4, e5⟩ := q2.free
    have Q2 := Lib.hid q2
    simp only [Ac.zero] at d0 d1 d2 d3 d4 d5
    simp only at hr
    clear k1 q2 hr
    simp only [acv]
    go_wp2
    have H5 := Lib.hid (put6_new Q2.out ⟨yr, yt, yo, za, zs, yv⟩ A' yv.length c')
    refine bodyPost_ret (results_row_tmp (p := 4) (u := 5) (ty := 26) rfl _ _ _ (w.heap.size + 1 + 1) _ _ _ _ _ rfl rfl (by with_reducible exact H5.out) Try.underlying26 rfl (by kernel_rfl)) rfl ?_
    have hk := put6_kept (g := w.heap.size + 1 + 1) ⟨yr, yt, yo, za, zs, yv⟩ A' yv.length c' KK.out (by omega)
    have hr := HR2.out.put6 (x := ⟨yr, yt, yo, za, zs, yv⟩) (B' := A') (m' := yv.length) (d' := c') Q2.out
    refine ⟨_, rfl, ?_, A', c', rfl, ?_⟩
    · with_reducible exact hk
    · with_reducible exact hr

theorem row_one (W : World) {c g : Nat} (fr : Nat × Nat) (hg : g = W.heap.size) (hc : c < 256) : Row (W.alloc (.cells #[.int .u8 (c : Int)] 5 fr)) (some ⟨g, 0, none⟩) 1 1 [c] :=
  ⟨by rw [World.size_alloc]; exact bts_one W 5 fr hg hc, (fun h => by cases h), Nat.le_refl _, by decide⟩
set_option maxRecDepth 100000 in
set_option maxHeartbeats 2000000 in
theorem acawake_any (w : World) : Calls Try.prog 9 #[] w fun e w' => e = .returned (.bool true) ∧ Kept w w' := by
  have HP : Hid (∀ w, Calls Try.prog 10 #[.agg #[.int .i64 0, .int .i64 0, .bool false, .int .i64 0, .int .i64 0, .slice none 0 0], .agg #[.int .i64 1, .int .i64 2]] w fun e w' => ∃ v, e = .returned v ∧ Kept w w' ∧ ToldT ⟨1, 2, false, 0, 0, []⟩ true v w') :=
    Lib.hid (fun w => prepare_any (x := Ac.zero) (A := none) (c := 0) 1 2 Row.none)
  have HB : Hid (∀ w A c B d, Row w A 0 c [] → Row w B 1 d [121] → Calls Try.prog 13 #[.agg #[.int .i64 1, .int .i64 2, .bool false, .int .i64 0, .int .i64 0, .slice A 0 c], .agg #[.int .i64 0, .int .i64 1], .slice B 1 d] w fun e w' => ∃ v, e = .returned v ∧ Kept w w' ∧ ToldT ⟨1, 2, false, 0, 0, []⟩ false v w') :=
    Lib.hid (fun w A c B d h1 h2 => accept_any (x := ⟨1, 2, false, 0, 0, []⟩) (vs := [121]) 0 1 h1 h2)
  have HD : Hid (∀ w A c B d, Row w A 0 c [] → Row w B 1 d [120] → Calls Try.prog 13 #[.agg #[.int .i64 1, .int .i64 2, .bool false, .int .i64 0, .int .i64 0, .slice A 0 c], .agg #[.int .i64 1, .int .i64 2], .slice B 1 d] w fun e w' => ∃ v, e = .returned v ∧ Kept w w' ∧ ToldT ⟨1, 2, true, 1, 2, [120]⟩ true v w') :=
    Lib.hid (fun w A c B d h1 h2 => accept_any (x := ⟨1, 2, false, 0, 0, []⟩) (vs := [120]) 1 2 h1 h2)
  have HM : Hid (∀ w A c, Calls Try.prog 17 #[.agg #[.int .i64 1, .int .i64 2, .bool true, .int .i64 1, .int .i64 2, .slice A 1 c], .int .i64 3] w fun e w' => e = .returned (.bool true) ∧ Kept w w') :=
    Lib.hid (fun w A c => acmay_any (x := ⟨1, 2, true, 1, 2, [120]⟩) (A := A) (c := c) 3)
  have kc := fun (w : World) (C : Array Value) (n c g : Nat) (hg : g = w.heap.size) => Go.Joins.run_convert_bytes_const_at (P := Try.prog) w 24 5 C n c g hg Try.underlying24 Try.underlying5
  have ht : (txt [120]) = ⟨#[120]⟩ := rfl
  go_enter Try.func9, Try.ntmps9
  go_wp2_with fail
  refine (HP.out _).mono ?_
  rintro e u1 ⟨v, rfl, k1, A1, c1, rfl, r1⟩
  have K1 := Lib.hid k1
  have R1 := Lib.hid r1
  clear k1 r1
  simp only [acv]
  go_wp2_with fail
  generalize hg1 : u1.heap.size = g1
  have X1 : Hid (Kept u1 (u1.alloc (.cells #[.int .i64 1, .int .i64 2, .bool false, .int .i64 0, .int .i64 0, .slice A1 0 c1] 26))) := Lib.hid ((Kept.refl _).alloc _)
  have S1 : Hid (Hs (u1.alloc (.cells #[.int .i64 1, .int .i64 2, .bool false, .int .i64 0, .int .i64 0, .slice A1 0 c1] 26)) g1 26 ⟨1, 2, false, 0, 0, []⟩ A1 0 c1) := Lib.hid (by rw [← hg1]; exact push_new _ _)
  have hl1 : g1 < (u1.alloc (.cells #[.int .i64 1, .int .i64 2, .bool false, .int .i64 0, .int .i64 0, .slice A1 0 c1] 26)).heap.size := heap_lt S1.out
  have hz1 : g1 + 1 = (u1.alloc (.cells #[.int .i64 1, .int .i64 2, .bool false, .int .i64 0, .int .i64 0, .slice A1 0 c1] 26)).heap.size := by rw [World.size_alloc, hg1]
  clear hg1
  generalize u1.alloc (.cells #[.int .i64 1, .int .i64 2, .bool false, .int .i64 0, .int .i64 0, .slice A1 0 c1] 26) = W1 at *
  have Y1 : Hid (Kept W1 (W1.alloc (.cells #[.int .u8 121] 5 (1, 2)))) := Lib.hid ((Kept.refl W1).alloc _)
  refine (HB.out _ _ _ _ _ ((R1.out.below X1.out.1).below Y1.out.1) (row_one W1 (c := 121) (1, 2) hz1 (by decide))).mono ?_
  rintro e u2 ⟨v, rfl, k2, A2, c2, rfl, r2⟩
  have K2 := Lib.hid ((K1.out.trans X1.out).trans (Y1.out.trans k2))
  have R12 := Lib.hid (R1.out.below (X1.out.trans (Y1.out.trans k2)).1)
  have S2 := Lib.hid (S1.out.kept (Y1.out.trans k2))
  have hz2 : g1 < u2.heap.size := heap_lt S2.out
  clear k2 r2 hl1 hz1
  simp only [acv]
  have KA : Hid (Kept u2 (u2.alloc (.cells #[.int .i64 1, .int .i64 2, .bool false, .int .i64 0, .int .i64 0, .slice A2 0 c2] 26))) := Lib.hid ((Kept.refl u2).alloc _)
  obtain ⟨b0, b1, b2, b3, b4, b5⟩ := (S2.out.kept KA.out).cells
  simp only at b0 b1 b2 b3 b4 b5
  go_wp2_with fail
  generalize hg2 : u2.heap.size = g2
  have S3 : Hid (Hs (u2.alloc (.cells #[.int .i64 1, .int .i64 2, .bool false, .int .i64 0, .int .i64 0, .slice A2 0 c2] 26)) g1 26 ⟨1, 2, false, 0, 0, []⟩ A1 0 c1) := Lib.hid (S2.out.kept KA.out)
  have hz3 : g2 + 1 = (u2.alloc (.cells #[.int .i64 1, .int .i64 2, .bool false, .int .i64 0, .int .i64 0, .slice A2 0 c2] 26)).heap.size := by rw [World.size_alloc, hg2]
  clear hg2
  generalize u2.alloc (.cells #[.int .i64 1, .int .i64 2, .bool false, .int .i64 0, .int .i64 0, .slice A2 0 c2] 26) = W2 at *
  have Y2 : Hid (Kept W2 (W2.alloc (.cells #[.int .u8 120] 5 (1, 2)))) := Lib.hid ((Kept.refl W2).alloc _)
  refine (HD.out _ _ _ _ _ (R12.out.below (KA.out.trans Y2.out).1) (row_one W2 (c := 120) (1, 2) hz3 (by decide))).mono ?_
  rintro e u3 ⟨v, rfl, k3, A3, c3, rfl, r3⟩
  have K3 := Lib.hid ((K2.out.trans KA.out).trans (Y2.out.trans k3))
  have R3 := Lib.hid r3
  simp only [acv, List.length_singleton] at *
  have P3 : Hid (Hs (u3.alloc (.cells #[.int .i64 1, .int .i64 2, .bool true, .int .i64 1, .int .i64 2, .slice A3 1 c3] 26)) u3.heap.size 26 ⟨1, 2, true, 1, 2, [120]⟩ A3 1 c3) := Lib.hid (push_new _ _)
  have KB : Hid (Kept u3 (u3.alloc (.cells #[.int .i64 1, .int .i64 2, .bool true, .int .i64 1, .int .i64 2, .slice A3 1 c3] 26))) := Lib.hid ((Kept.refl u3).alloc _)
  have htx : Hid ((convert 24 9 (.slice A3 1 c3)).run Try.prog (u3.alloc (.cells #[.int .i64 1, .int .i64 2, .bool true, .int .i64 1, .int .i64 2, .slice A3 1 c3] 26)) = .ok (.string ⟨#[120]⟩) (u3.alloc (.cells #[.int .i64 1, .int .i64 2, .bool true, .int .i64 1, .int .i64 2, .slice A3 1 c3] 26))) := Lib.hid (by rw [← ht]; exact (R3.out.below KB.out.1).str)
  have htx' := htx.out
  clear k3 r3 hz3 hz2
  go_wp2_with fail
  refine (HM.out _ _ _).mono ?_
  rintro e u4 ⟨rfl, k4⟩
  go_wp2
  go_ret
  exact ⟨rfl, (K3.out.trans KB.out).trans k4⟩
end Go.Proofs.Ytlcmfikekbbgjaa
