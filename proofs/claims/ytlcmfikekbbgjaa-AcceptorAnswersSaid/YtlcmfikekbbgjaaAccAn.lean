/- The walk of AcceptorAnswers. -/
import Derived.Test.YtlcmfikekbbgjaaAccX
import Derived.Deep.CutRange
import Derived.Deep.DeepCutAuto
namespace Go.Proofs.Ytlcmfikekbbgjaa
open Go.RowKit

theorem asked_of {w : World} {cs : List Value} (h : cs.length = 15 ∧ IsStruct [(0, 6, (fun w cs => cs.length = 6 ∧ IsStruct [(0, 2, (fun w cs => cs.length = 2 ∧ IsStruct [(0, 1, (IsInt .i64)), (1, 1, (IsInt .i64))] w cs)), (2, 1, IsBool), (3, 2, (fun w cs => cs.length = 2 ∧ IsStruct [(0, 1, (IsInt .i64)), (1, 1, (IsInt .i64))] w cs)), (5, 1, (IsSlice 1 1 (IsInt .u8)))] w cs)), (6, 6, (fun w cs => cs.length = 6 ∧ IsStruct [(0, 2, (fun w cs => cs.length = 2 ∧ IsStruct [(0, 1, (IsInt .i64)), (1, 1, (IsInt .i64))] w cs)), (2, 1, IsBool), (3, 2, (fun w cs => cs.length = 2 ∧ IsStruct [(0, 1, (IsInt .i64)), (1, 1, (IsInt .i64))] w cs)), (5, 1, (IsSlice 1 1 (IsInt .u8)))] w cs)), (12, 2, (fun w cs => cs.length = 2 ∧ IsStruct [(0, 1, (IsInt .i64)), (1, 1, (IsInt .i64))] w cs)), (14, 1, (IsSlice 1 1 (IsInt .u8)))] w cs) :
    ∃ (x y : Ac) (A A2 V : Option Addr) (c c2 d : Nat) (r t : Int) (vs : List Nat), cs = [.int .i64 x.pr, .int .i64 x.ps, .bool x.so, .int .i64 x.ar, .int .i64 x.as_, .slice A x.val.length c, .int .i64 y.pr, .int .i64 y.ps, .bool y.so, .int .i64 y.ar, .int .i64 y.as_, .slice A2 y.val.length c2, .int .i64 r, .int .i64 t, .slice V vs.length d] ∧
      Row w A x.val.length c x.val ∧ Row w A2 y.val.length c2 y.val ∧ Row w V vs.length d vs := by
  obtain ⟨hl, h0, h1, h2, h3, -⟩ := h
  match cs, hl with
  | [v0, v1, v2, v3, v4, v5, v6, v7, v8, v9, v10, v11, v12, v13, v14], _ =>
    obtain ⟨x, A, c, e0, -, r0, -⟩ := state_of h0
    obtain ⟨y, A2, c2, e1, -, r1, -⟩ := state_of h1
    obtain ⟨r, t, e2, -, -⟩ := ballot_of h2
    obtain ⟨V, n, d, e3, hs⟩ := h3
    obtain ⟨vs, hb⟩ := Row.of hs
    have hlen := hb.len
    subst hlen
    simp only [List.drop_zero, List.take_succ_cons, List.take_zero, List.drop_succ_cons, List.cons.injEq, and_true] at e0 e1 e2 e3
    obtain ⟨rfl, rfl, rfl, rfl, rfl, rfl⟩ := e0
    obtain ⟨rfl, rfl, rfl, rfl, rfl, rfl⟩ := e1
    obtain ⟨rfl, rfl⟩ := e2
    subst e3
    exact ⟨x, y, A, A2, V, c, c2, d, r, t, vs, rfl, r0, r1, hb⟩
/-- a new state's block, of the document's -/
def PtrQ (B : Nat) (u : Value) (w : World) : Prop := ∃ z, u = .pointer (some ⟨z, 0, none⟩) ∧ B ≤ z ∧ Hs w z 32 Ac.zero none 0 0
theorem PtrQ.mono (B : Nat) : (Slot.has (PtrQ B)).Mono := fun _ _ _ hk ⟨z, h1, h2, h3⟩ => ⟨z, h1, h2, (hk.1.block z (heap_lt h3)).trans h3⟩

set_option maxRecDepth 100000 in
set_option maxHeartbeats 8000000 in
theorem AcceptorAnswers_walk (a0 : List Value) (w : World) (w0 : (fun w cs => cs.length = 15 ∧ IsStruct [(0, 6, (fun w cs => cs.length = 6 ∧ IsStruct [(0, 2, (fun w cs => cs.length = 2 ∧ IsStruct [(0, 1, (IsInt .i64)), (1, 1, (IsInt .i64))] w cs)), (2, 1, IsBool), (3, 2, (fun w cs => cs.length = 2 ∧ IsStruct [(0, 1, (IsInt .i64)), (1, 1, (IsInt .i64))] w cs)), (5, 1, (IsSlice 1 1 (IsInt .u8)))] w cs)), (6, 6, (fun w cs => cs.length = 6 ∧ IsStruct [(0, 2, (fun w cs => cs.length = 2 ∧ IsStruct [(0, 1, (IsInt .i64)), (1, 1, (IsInt .i64))] w cs)), (2, 1, IsBool), (3, 2, (fun w cs => cs.length = 2 ∧ IsStruct [(0, 1, (IsInt .i64)), (1, 1, (IsInt .i64))] w cs)), (5, 1, (IsSlice 1 1 (IsInt .u8)))] w cs)), (12, 2, (fun w cs => cs.length = 2 ∧ IsStruct [(0, 1, (IsInt .i64)), (1, 1, (IsInt .i64))] w cs)), (14, 1, (IsSlice 1 1 (IsInt .u8)))] w cs : World → List Value → Prop) w a0) :
    Calls Try.prog 3 #[.agg a0.toArray] w fun e w' => e = .returned (.bool true) ∧ Below w.heap.size w w' := by
  obtain ⟨x, y0, A, A2, V, c, cT, d, r, t, vs, rfl, r0, r1, r2⟩ := asked_of w0
  obtain ⟨pr, ps, so, xr, xs, xv⟩ := x
  obtain ⟨pr2, ps2, so2, xr2, xs2, xv2⟩ := y0
  simp only at r0 r1
  have HR0 := Lib.hid r0
  have HR1 := Lib.hid r1
  have HR2 := Lib.hid r2
  clear w0 r0 r1 r2
  have KV : Hid (Kept w (w.alloc (.cells #[.int .i64 pr, .int .i64 ps, .bool so, .int .i64 xr, .int .i64 xs, .slice A xv.length c, .int .i64 pr2, .int .i64 ps2, .bool so2, .int .i64 xr2, .int .i64 xs2, .slice A2 xv2.length cT, .int .i64 r, .int .i64 t, .slice V vs.length d] 28))) := Lib.hid ((Kept.refl w).alloc _)
  have PS : Hid ((w.alloc (.cells #[.int .i64 pr, .int .i64 ps, .bool so, .int .i64 xr, .int .i64 xs, .slice A xv.length c, .int .i64 pr2, .int .i64 ps2, .bool so2, .int .i64 xr2, .int .i64 xs2, .slice A2 xv2.length cT, .int .i64 r, .int .i64 t, .slice V vs.length d] 28)).heap[w.heap.size]? = some (.cells #[.int .i64 pr, .int .i64 ps, .bool so, .int .i64 xr, .int .i64 xs, .slice A xv.length c, .int .i64 pr2, .int .i64 ps2, .bool so2, .int .i64 xr2, .int .i64 xs2, .slice A2 xv2.length cT, .int .i64 r, .int .i64 t, .slice V vs.length d] 28 (0, 0))) := Lib.hid (push_new w _)
  have Y1E : Hid (∃ y bb, told ⟨pr, ps, so, xr, xs, xv⟩ (prepA ⟨pr, ps, so, xr, xs, xv⟩ r t) = y ∧ (prepA ⟨pr, ps, so, xr, xs, xv⟩ r t).isSome = bb) := Lib.hid ⟨_, _, rfl, rfl⟩
  have Y2E : Hid (∃ y bb, told ⟨pr, ps, so, xr, xs, xv⟩ (acceA ⟨pr, ps, so, xr, xs, xv⟩ r t vs) = y ∧ (acceA ⟨pr, ps, so, xr, xs, xv⟩ r t vs).isSome = bb) := Lib.hid ⟨_, _, rfl, rfl⟩
  obtain ⟨y1, bb1, hy1⟩ := Y1E.out
  obtain ⟨y2, bb2, hy2⟩ := Y2E.out
  obtain ⟨yr, yt, yo, za, zs, yv⟩ := y1
  obtain ⟨yr2, yt2, yo2, za2, zs2, yv2⟩ := y2
  have C1 : Hid (∀ W, Kept w W → Calls Try.prog 10 #[.agg #[.int .i64 pr, .int .i64 ps, .bool so, .int .i64 xr, .int .i64 xs, .slice A xv.length c], .agg #[.int .i64 r, .int .i64 t]] W fun e w' => ∃ v, e = .returned v ∧ Kept W w' ∧ ToldT ⟨yr, yt, yo, za, zs, yv⟩ bb1 v w') := Lib.hid (fun W k => by
    rw [← hy1.1, ← hy1.2]; exact prepare_any (x := ⟨pr, ps, so, xr, xs, xv⟩) r t (HR0.out.below k.1))
  have C2 : Hid (∀ W, Kept w W → Calls Try.prog 11 #[.agg #[.int .i64 pr, .int .i64 ps, .bool so, .int .i64 xr, .int .i64 xs, .slice A xv.length c], .agg #[.int .i64 r, .int .i64 t]] W fun e w' => ∃ v, e = .returned v ∧ Kept W w' ∧ ToldT ⟨yr, yt, yo, za, zs, yv⟩ bb1 v w') := Lib.hid (fun W k => by
    rw [← hy1.1, ← hy1.2]; exact refprepare_any ⟨pr, ps, so, xr, xs, xv⟩ A c r t (HR0.out.below k.1))
  have C3 : Hid (∀ W, Kept w W → Calls Try.prog 13 #[.agg #[.int .i64 pr, .int .i64 ps, .bool so, .int .i64 xr, .int .i64 xs, .slice A xv.length c], .agg #[.int .i64 r, .int .i64 t], .slice V vs.length d] W fun e w' => ∃ v, e = .returned v ∧ Kept W w' ∧ ToldT ⟨yr2, yt2, yo2, za2, zs2, yv2⟩ bb2 v w') := Lib.hid (fun W k => by
    rw [← hy2.1, ← hy2.2]; exact accept_any (x := ⟨pr, ps, so, xr, xs, xv⟩) r t (HR0.out.below k.1) (HR2.out.below k.1))
  have C4 : Hid (∀ W, Kept w W → Calls Try.prog 14 #[.agg #[.int .i64 pr, .int .i64 ps, .bool so, .int .i64 xr, .int .i64 xs, .slice A xv.length c], .agg #[.int .i64 r, .int .i64 t], .slice V vs.length d] W fun e w' => ∃ v, e = .returned v ∧ Kept W w' ∧ ToldT ⟨yr2, yt2, yo2, za2, zs2, yv2⟩ bb2 v w') := Lib.hid (fun W k => by
    rw [← hy2.1, ← hy2.2]; exact refaccept_any ⟨pr, ps, so, xr, xs, xv⟩ A V c d vs r t (HR0.out.below k.1) (HR2.out.below k.1))
  clear hy1 hy2 Y1E Y2E
  go_enter Try.func3, Try.ntmps3
  go_wp2_with fail
  refine (acawake_any _).mono ?_
  rintro e v ⟨rfl, k1⟩
  have hb0 : w.heap.size < v.heap.size := heap_lt ((k1.1.block _ (heap_lt PS.out)).trans PS.out)
  have K1 := Lib.hid (KV.out.trans k1)
  have HC : Hid (∀ W, Kept v W → ∀ j, W.cell? ⟨w.heap.size, j, none⟩ = [.int .i64 pr, .int .i64 ps, .bool so, .int .i64 xr, .int .i64 xs, .slice A xv.length c, .int .i64 pr2, .int .i64 ps2, .bool so2, .int .i64 xr2, .int .i64 xs2, .slice A2 xv2.length cT, .int .i64 r, .int .i64 t, .slice V vs.length d][j]?) := Lib.hid (fun W k j => by
    have h := ((k1.trans k).1.block _ (heap_lt PS.out)).trans PS.out
    exact (cell_of_heap h j).trans (by simp))
  generalize w.heap.size = B0 at *
  clear k1 KV PS
  have q0 := HC.out v (Kept.refl v) 0
  have q1 := HC.out v (Kept.refl v) 1
  have q2 := HC.out v (Kept.refl v) 2
  have q3 := HC.out v (Kept.refl v) 3
  have q4 := HC.out v (Kept.refl v) 4
  have q5 := HC.out v (Kept.refl v) 5
  have q6 := HC.out v (Kept.refl v) 6
  have q7 := HC.out v (Kept.refl v) 7
  have q8 := HC.out v (Kept.refl v) 8
  have q9 := HC.out v (Kept.refl v) 9
  have q10 := HC.out v (Kept.refl v) 10
  have q11 := HC.out v (Kept.refl v) 11
  have q12 := HC.out v (Kept.refl v) 12
  have q13 := HC.out v (Kept.refl v) 13
  have q14 := HC.out v (Kept.refl v) 14
  simp only [List.getElem?_cons_zero, List.getElem?_cons_succ] at q0 q1 q2 q3 q4 q5 q6 q7 q8 q9 q10 q11 q12 q13 q14
  go_upto_region 3 with fail
  clear q0 q1 q2 q3 q4 q5 q6 q7 q8 q9 q10 q11 q12 q13 q14
  have KA : Hid (Kept v (v.alloc (.cells #[.int .i64 pr, .int .i64 ps, .bool so, .int .i64 xr, .int .i64 xs, .slice A xv.length c] 26))) := Lib.hid ((Kept.refl v).alloc _)
  have QA : Hid (Hs (v.alloc (.cells #[.int .i64 pr, .int .i64 ps, .bool so, .int .i64 xr, .int .i64 xs, .slice A xv.length c] 26)) v.heap.size 26 ⟨pr, ps, so, xr, xs, xv⟩ A xv.length c) := Lib.hid (push_new v _)
  generalize v.alloc (.cells #[.int .i64 pr, .int .i64 ps, .bool so, .int .i64 xr, .int .i64 xs, .slice A xv.length c] 26) = W1 at *
  generalize hgs : v.heap.size = gs at *
  have q0 := HC.out W1 KA.out 0
  have q1 := HC.out W1 KA.out 1
  have q2 := HC.out W1 KA.out 2
  have q3 := HC.out W1 KA.out 3
  have q4 := HC.out W1 KA.out 4
  have q5 := HC.out W1 KA.out 5
  have q6 := HC.out W1 KA.out 6
  have q7 := HC.out W1 KA.out 7
  have q8 := HC.out W1 KA.out 8
  have q9 := HC.out W1 KA.out 9
  have q10 := HC.out W1 KA.out 10
  have q11 := HC.out W1 KA.out 11
  have q12 := HC.out W1 KA.out 12
  have q13 := HC.out W1 KA.out 13
  have q14 := HC.out W1 KA.out 14
  simp only [List.getElem?_cons_zero, List.getElem?_cons_succ] at q0 q1 q2 q3 q4 q5 q6 q7 q8 q9 q10 q11 q12 q13 q14
  go_upto_region 4 with fail
  clear q0 q1 q2 q3 q4 q5 q6 q7 q8 q9 q10 q11 q12 q13 q14
  have KB : Hid (Kept W1 (W1.alloc (.cells #[.int .i64 pr2, .int .i64 ps2, .bool so2, .int .i64 xr2, .int .i64 xs2, .slice A2 xv2.length cT] 26))) := Lib.hid ((Kept.refl W1).alloc _)
  have QB : Hid (Hs (W1.alloc (.cells #[.int .i64 pr2, .int .i64 ps2, .bool so2, .int .i64 xr2, .int .i64 xs2, .slice A2 xv2.length cT] 26)) W1.heap.size 26 ⟨pr2, ps2, so2, xr2, xs2, xv2⟩ A2 xv2.length cT) := Lib.hid (push_new W1 _)
  generalize W1.alloc (.cells #[.int .i64 pr2, .int .i64 ps2, .bool so2, .int .i64 xr2, .int .i64 xs2, .slice A2 xv2.length cT] 26) = W2 at *
  generalize hgt : W1.heap.size = gt at *
  have q0 := HC.out W2 (KA.out.trans KB.out) 0
  have q1 := HC.out W2 (KA.out.trans KB.out) 1
  have q2 := HC.out W2 (KA.out.trans KB.out) 2
  have q3 := HC.out W2 (KA.out.trans KB.out) 3
  have q4 := HC.out W2 (KA.out.trans KB.out) 4
  have q5 := HC.out W2 (KA.out.trans KB.out) 5
  have q6 := HC.out W2 (KA.out.trans KB.out) 6
  have q7 := HC.out W2 (KA.out.trans KB.out) 7
  have q8 := HC.out W2 (KA.out.trans KB.out) 8
  have q9 := HC.out W2 (KA.out.trans KB.out) 9
  have q10 := HC.out W2 (KA.out.trans KB.out) 10
  have q11 := HC.out W2 (KA.out.trans KB.out) 11
  have q12 := HC.out W2 (KA.out.trans KB.out) 12
  have q13 := HC.out W2 (KA.out.trans KB.out) 13
  have q14 := HC.out W2 (KA.out.trans KB.out) 14
  simp only [List.getElem?_cons_zero, List.getElem?_cons_succ] at q0 q1 q2 q3 q4 q5 q6 q7 q8 q9 q10 q11 q12 q13 q14
  go_upto_region 5 with fail
  clear q0 q1 q2 q3 q4 q5 q6 q7 q8 q9 q10 q11 q12 q13 q14
  have KC : Hid (Kept W2 (W2.alloc (.cells #[.int .i64 r, .int .i64 t] 23))) := Lib.hid ((Kept.refl W2).alloc _)
  have QC : Hid (Bx (W2.alloc (.cells #[.int .i64 r, .int .i64 t] 23)) W2.heap.size r t) := Lib.hid (push_new W2 _)
  generalize W2.alloc (.cells #[.int .i64 r, .int .i64 t] 23) = W3 at *
  generalize hgb : W2.heap.size = gb at *
  have q0 := HC.out W3 ((KA.out.trans KB.out).trans KC.out) 0
  have q1 := HC.out W3 ((KA.out.trans KB.out).trans KC.out) 1
  have q2 := HC.out W3 ((KA.out.trans KB.out).trans KC.out) 2
  have q3 := HC.out W3 ((KA.out.trans KB.out).trans KC.out) 3
  have q4 := HC.out W3 ((KA.out.trans KB.out).trans KC.out) 4
  have q5 := HC.out W3 ((KA.out.trans KB.out).trans KC.out) 5
  have q6 := HC.out W3 ((KA.out.trans KB.out).trans KC.out) 6
  have q7 := HC.out W3 ((KA.out.trans KB.out).trans KC.out) 7
  have q8 := HC.out W3 ((KA.out.trans KB.out).trans KC.out) 8
  have q9 := HC.out W3 ((KA.out.trans KB.out).trans KC.out) 9
  have q10 := HC.out W3 ((KA.out.trans KB.out).trans KC.out) 10
  have q11 := HC.out W3 ((KA.out.trans KB.out).trans KC.out) 11
  have q12 := HC.out W3 ((KA.out.trans KB.out).trans KC.out) 12
  have q13 := HC.out W3 ((KA.out.trans KB.out).trans KC.out) 13
  have q14 := HC.out W3 ((KA.out.trans KB.out).trans KC.out) 14
  simp only [List.getElem?_cons_zero, List.getElem?_cons_succ] at q0 q1 q2 q3 q4 q5 q6 q7 q8 q9 q10 q11 q12 q13 q14
  have K3 : Hid (Kept w W3) := Lib.hid (K1.out.trans ((KA.out.trans KB.out).trans KC.out))
  have HG : Hid (∀ W, Kept W3 W → Hs W gs 26 ⟨pr, ps, so, xr, xs, xv⟩ A xv.length c ∧ Hs W gt 26 ⟨pr2, ps2, so2, xr2, xs2, xv2⟩ A2 xv2.length cT ∧ Bx W gb r t ∧ Kept w W) := Lib.hid (fun W k => ⟨QA.out.kept ((KB.out.trans KC.out).trans k), QB.out.kept (KC.out.trans k), QC.out.kept k, K3.out.trans k⟩)
  go_upto_region 6 with fail
  clear q0 q1 q2 q3 q4 q5 q6 q7 q8 q9 q10 q11 q12 q13 q14
  clear K1 KA QA KB QB KC QC HC hgs hgt hgb
  obtain ⟨s0, s1, s2, s3, s4, s5⟩ := (HG.out W3 (Kept.refl _)).1.cells
  simp only at s0 s1 s2 s3 s4 s5
  have i0 := (HG.out W3 (Kept.refl _)).2.2.1.c0
  have i1 := (HG.out W3 (Kept.refl _)).2.2.1.c1
  go_wp2_with fail
  refine (C1.out _ K3.out).mono ?_
  rintro e v4 ⟨vv, rfl, k4, A4, c4, rfl, r4⟩
  have K4 := Lib.hid k4
  have R4 := Lib.hid r4
  simp only at r4
  clear k4 r4 s0 s1 s2 s3 s4 s5 i0 i1
  simp only [acv]
  go_upto_region 7 with fail
  have KD : Hid (Kept W3 (v4.alloc (.cells #[.int .i64 yr, .int .i64 yt, .bool yo, .int .i64 za, .int .i64 zs, .slice A4 yv.length c4] 26))) := Lib.hid (K4.out.alloc _)
  have QP : Hid (Hs (v4.alloc (.cells #[.int .i64 yr, .int .i64 yt, .bool yo, .int .i64 za, .int .i64 zs, .slice A4 yv.length c4] 26)) v4.heap.size 26 ⟨yr, yt, yo, za, zs, yv⟩ A4 yv.length c4) := Lib.hid (push_new v4 _)
  have RP : Hid (Row (v4.alloc (.cells #[.int .i64 yr, .int .i64 yt, .bool yo, .int .i64 za, .int .i64 zs, .slice A4 yv.length c4] 26)) A4 yv.length c4 yv) := Lib.hid (R4.out.below ((Kept.refl v4).alloc _).1)
  generalize v4.alloc (.cells #[.int .i64 yr, .int .i64 yt, .bool yo, .int .i64 za, .int .i64 zs, .slice A4 yv.length c4] 26) = W4 at *
  generalize v4.heap.size = gp at *
  clear K4 R4
  have T7 : Hid (∀ W, Kept W4.drew W → (W.cell? ⟨gs, 0, none⟩ = some (.int .i64 pr) ∧ W.cell? ⟨gs, 1, none⟩ = some (.int .i64 ps) ∧ W.cell? ⟨gs, 2, none⟩ = some (.bool so) ∧ W.cell? ⟨gs, 3, none⟩ = some (.int .i64 xr) ∧ W.cell? ⟨gs, 4, none⟩ = some (.int .i64 xs) ∧ W.cell? ⟨gs, 5, none⟩ = some (.slice A xv.length c)) ∧ W.cell? ⟨gb, 0, none⟩ = some (.int .i64 r) ∧ W.cell? ⟨gb, 1, none⟩ = some (.int .i64 t) ∧ Kept w W) := Lib.hid (fun W k => by
    have k' := KD.out.trans ((Kept.refl W4).drew.trans k)
    have h := HG.out W k'
    exact ⟨h.1.cells, h.2.2.1.c0, h.2.2.1.c1, h.2.2.2⟩)
  go_wp2_with fail
  refine wp_region_typed (N := 8) (fl := [false, false, false, false, false, false, true]) (by kernel_rfl) (by kernel_rfl) ?_
  simp only [List.take_succ_cons, List.take_zero, List.drop_succ_cons, List.drop_zero, List.map_cons, List.map_nil, zipF]
  repeat (first
    | (refine wpT_is (.agg #[.int .i64 pr, .int .i64 ps, .bool so, .int .i64 xr, .int .i64 xs, .slice A xv.length c]) rfl (fun ρ w hk ⟨c1, c2, c3⟩ ⟨h1, _⟩ => ?_) ?_
       · have h1 : ρ (.tmp 32) = _ := h1
         refine upT_call 12 #[.agg #[.int .i64 pr, .int .i64 ps, .bool so, .int .i64 xr, .int .i64 xs, .slice A xv.length c]] ?_ ((acreal_any ⟨pr, ps, so, xr, xs, xv⟩ A xv.length c).mono ?_)
         · go_simp
         rintro e u ⟨rfl, hk2⟩
         exact ⟨_, rfl, hk2, rfl⟩
       dsimp only [putS, List.set_cons_succ, List.set_cons_zero])
    | (refine wpT_has (PtrQ.mono W4.heap.size) rfl (fun ρ w hk ⟨c1, c2, c3⟩ _ => upT_made (.pointer (some ⟨w.heap.size, 0, none⟩)) (w' := w.alloc (.cells #[.int .i64 0, .int .i64 0, .bool false, .int .i64 0, .int .i64 0, .slice none 0 0] 32)) ?_ ((Kept.refl w).alloc _) ⟨_, rfl, hk.2, push_new w _⟩) ?_; (· go_simp); dsimp only [putS, List.set_cons_succ, List.set_cons_zero])
    | (refine wpT_slot (S := .has _) _ (.inl rfl) rfl (ToldT.mono _ _) rfl ?_; dsimp only [putS, List.set_cons_succ, List.set_cons_zero])
    | (refine wpT_has (ToldT.mono ⟨yr, yt, yo, za, zs, yv⟩ bb1) rfl (fun ρ w hk ⟨c1, c2, c3⟩ ⟨h1, h2, _⟩ => ?_) ?_
       · have h1 : ρ (.tmp 33) = _ := h1
         have h2 : ρ (.tmp 34) = _ := h2
         refine upT_call 11 #[.agg #[.int .i64 pr, .int .i64 ps, .bool so, .int .i64 xr, .int .i64 xs, .slice A xv.length c], .agg #[.int .i64 r, .int .i64 t]] ?_ ((C2.out w (T7.out w hk).2.2.2).mono ?_)
         · go_simp
         · rintro e u ⟨v, rfl, hk2, ht⟩
           exact ⟨_, rfl, hk2, ht⟩
       dsimp only [putS, List.set_cons_succ, List.set_cons_zero])
    | (refine wpT_has (AcT.mono ⟨yr, yt, yo, za, zs, yv⟩) rfl (fun ρ w hk ⟨c1, c2, c3⟩ ⟨h1, _⟩ => ?_) ?_
       · obtain ⟨A', c', h1, hr⟩ := h1
         refine upT_made (acv ⟨yr, yt, yo, za, zs, yv⟩ A' yv.length c') ?_ (Kept.refl _) ⟨A', c', rfl, hr⟩
         go_simp
       dsimp only [putS, List.set_cons_succ, List.set_cons_zero])
    | (refine wpT_late (v := .bool bb1) rfl (fun ρ w hk ⟨c1, c2, c3⟩ ⟨h1, _⟩ => ?_) ?_
       · obtain ⟨A', c', h1, hr⟩ := h1
         intro w'
         go_simp
       dsimp only [putS, List.set_cons_succ, List.set_cons_zero])
    | (refine wpT_skip rfl ?_; dsimp only [putS, List.set_cons_succ, List.set_cons_zero])
    | (refine wpT_slot (S := .is _) _ (.inl rfl) rfl (Slot.mono_is _) rfl ?_; dsimp only [putS, List.set_cons_succ, List.set_cons_zero])
    | (refine wpT_slot (S := .is _) _ (.inr rfl) rfl (Slot.mono_is _) rfl ?_; dsimp only [putS, List.set_cons_succ, List.set_cons_zero])
    | (refine wpT_exact1 rfl rfl rfl ?_; apply Exists.intro; refine ⟨fun ρ w hk ⟨c1, c2, c3⟩ h1 => ?_, ?_⟩; (· obtain ⟨⟨t1, t2, t3, t4, t5, t6⟩, t7, t8, _⟩ := T7.out w hk; go_simp; exact rfl); dsimp only [putS, List.set_cons_succ, List.set_cons_zero])
    | (refine wpT_exact2 rfl rfl rfl rfl ?_; apply Exists.intro; refine ⟨fun ρ w hk ⟨c1, c2, c3⟩ h1 h2 => ?_, ?_⟩; (· obtain ⟨⟨t1, t2, t3, t4, t5, t6⟩, t7, t8, _⟩ := T7.out w hk; go_simp; exact rfl); dsimp only [putS, List.set_cons_succ, List.set_cons_zero])
    | (refine wpT_exact3 rfl rfl rfl rfl rfl ?_; apply Exists.intro; refine ⟨fun ρ w hk ⟨c1, c2, c3⟩ h1 h2 h3 => ?_, ?_⟩; (· obtain ⟨⟨t1, t2, t3, t4, t5, t6⟩, t7, t8, _⟩ := T7.out w hk; go_simp; exact rfl); dsimp only [putS, List.set_cons_succ, List.set_cons_zero])
    | (refine wpT_exact4 rfl rfl rfl rfl rfl rfl ?_; apply Exists.intro; refine ⟨fun ρ w hk ⟨c1, c2, c3⟩ h1 h2 h3 h4 => ?_, ?_⟩; (· obtain ⟨⟨t1, t2, t3, t4, t5, t6⟩, t7, t8, _⟩ := T7.out w hk; go_simp; exact rfl); dsimp only [putS, List.set_cons_succ, List.set_cons_zero])
    | (refine wpT_exact0 rfl ?_; apply Exists.intro; refine ⟨fun ρ w hk ⟨c1, c2, c3⟩ => ?_, ?_⟩; (· obtain ⟨⟨t1, t2, t3, t4, t5, t6⟩, t7, t8, _⟩ := T7.out w hk; go_simp; exact rfl); dsimp only [putS, List.set_cons_succ, List.set_cons_zero])
    | fail)
  refine wpT_nil ?_
  intro wz kz
  simp only [Fits]
  rintro uz ⟨gq, rfl, hz, hvz⟩ um - uc - ue ⟨A5, c5, rfl, hr⟩
  have kz' : Kept W4 wz := (Kept.refl W4).drew.trans kz
  obtain ⟨z0, z1, z2, z3, z4, z5⟩ := hvz.cells
  obtain ⟨f0, f1, f2, f3, f4, f5⟩ := hvz.free
  have HRQ := Lib.hid hr
  have HVZ := Lib.hid hvz
  have KZ := Lib.hid kz'
  have HZ := Lib.hid hz
  simp only [Ac.zero] at z0 z1 z2 z3 z4 z5
  clear kz kz' hr hvz hz
  simp only [acv]
  go_wp2_with fail
  refine only_end ?_
  go_upto_region 8 with fail
  clear z0 z1 z2 z3 z4 z5 f0 f1 f2 f3 f4 f5
  have KE : Hid (Kept W4 (put6 wz gq ⟨yr, yt, yo, za, zs, yv⟩ A5 yv.length c5)) := Lib.hid (put6_kept _ _ _ _ KZ.out HZ.out)
  have QQ : Hid (Hs (put6 wz gq ⟨yr, yt, yo, za, zs, yv⟩ A5 yv.length c5) gq 32 ⟨yr, yt, yo, za, zs, yv⟩ A5 yv.length c5) := Lib.hid (put6_new HVZ.out _ _ _ _)
  have RQ : Hid (Row (put6 wz gq ⟨yr, yt, yo, za, zs, yv⟩ A5 yv.length c5) A5 yv.length c5 yv) := Lib.hid (HRQ.out.put6 HVZ.out)
  obtain ⟨W5, hW5⟩ : ∃ W5, W5 = put6 wz gq ⟨yr, yt, yo, za, zs, yv⟩ A5 yv.length c5 := ⟨_, rfl⟩
  rw [show ((((((wz.setCell ⟨gq, 0, none⟩ (.int .i64 yr)).setCell ⟨gq, 1, none⟩ (.int .i64 yt)).setCell ⟨gq, 2, none⟩ (.bool yo)).setCell ⟨gq, 3, none⟩ (.int .i64 za)).setCell ⟨gq, 4, none⟩ (.int .i64 zs)).setCell ⟨gq, 5, none⟩ (.slice A5 yv.length c5)) = W5 from hW5.symm]
  rw [← hW5] at KE QQ RQ
  clear hW5 HRQ HVZ KZ HZ
  have K5 := Lib.hid (KD.out.trans KE.out)
  obtain ⟨s0, s1, s2, s3, s4, s5⟩ := (HG.out W5 K5.out).1.cells
  simp only at s0 s1 s2 s3 s4 s5
  have i0 := (HG.out W5 K5.out).2.2.1.c0
  have i1 := (HG.out W5 K5.out).2.2.1.c1
  go_wp2_with fail
  refine (C3.out _ (K3.out.trans K5.out)).mono ?_
  rintro e v6 ⟨vv, rfl, k4, A6, c6, rfl, r4⟩
  have K6 := Lib.hid k4
  have R6 := Lib.hid r4
  clear k4 r4 s0 s1 s2 s3 s4 s5 i0 i1
  simp only [acv]
  go_upto_region 9 with fail
  have KF : Hid (Kept W5 (v6.alloc (.cells #[.int .i64 yr2, .int .i64 yt2, .bool yo2, .int .i64 za2, .int .i64 zs2, .slice A6 yv2.length c6] 26))) := Lib.hid (K6.out.alloc _)
  have QX : Hid (Hs (v6.alloc (.cells #[.int .i64 yr2, .int .i64 yt2, .bool yo2, .int .i64 za2, .int .i64 zs2, .slice A6 yv2.length c6] 26)) v6.heap.size 26 ⟨yr2, yt2, yo2, za2, zs2, yv2⟩ A6 yv2.length c6) := Lib.hid (push_new v6 _)
  have RX : Hid (Row (v6.alloc (.cells #[.int .i64 yr2, .int .i64 yt2, .bool yo2, .int .i64 za2, .int .i64 zs2, .slice A6 yv2.length c6] 26)) A6 yv2.length c6 yv2) := Lib.hid (R6.out.below ((Kept.refl v6).alloc _).1)
  generalize v6.alloc (.cells #[.int .i64 yr2, .int .i64 yt2, .bool yo2, .int .i64 za2, .int .i64 zs2, .slice A6 yv2.length c6] 26) = W6 at *
  generalize v6.heap.size = gx at *
  clear K6 R6
  have T9 : Hid (∀ W, Kept W6.drew W → (W.cell? ⟨gs, 0, none⟩ = some (.int .i64 pr) ∧ W.cell? ⟨gs, 1, none⟩ = some (.int .i64 ps) ∧ W.cell? ⟨gs, 2, none⟩ = some (.bool so) ∧ W.cell? ⟨gs, 3, none⟩ = some (.int .i64 xr) ∧ W.cell? ⟨gs, 4, none⟩ = some (.int .i64 xs) ∧ W.cell? ⟨gs, 5, none⟩ = some (.slice A xv.length c)) ∧ W.cell? ⟨gb, 0, none⟩ = some (.int .i64 r) ∧ W.cell? ⟨gb, 1, none⟩ = some (.int .i64 t) ∧ Kept w W) := Lib.hid (fun W k => by
    have k' := (K5.out.trans KF.out).trans ((Kept.refl W6).drew.trans k)
    have h := HG.out W k'
    exact ⟨h.1.cells, h.2.2.1.c0, h.2.2.1.c1, h.2.2.2⟩)
  go_wp2_with fail
  refine wp_region_typed (N := 9) (fl := [false, false, false, false, false, false, false, true]) (by kernel_rfl) (by kernel_rfl) ?_
  simp only [List.take_succ_cons, List.take_zero, List.drop_succ_cons, List.drop_zero, List.map_cons, List.map_nil, zipF]
  repeat (first
    | (refine wpT_is (.agg #[.int .i64 pr, .int .i64 ps, .bool so, .int .i64 xr, .int .i64 xs, .slice A xv.length c]) rfl (fun ρ w hk ⟨c1, c2, c3⟩ ⟨h1, _⟩ => ?_) ?_
       · have h1 : ρ (.tmp 46) = _ := h1
         refine upT_call 12 #[.agg #[.int .i64 pr, .int .i64 ps, .bool so, .int .i64 xr, .int .i64 xs, .slice A xv.length c]] ?_ ((acreal_any ⟨pr, ps, so, xr, xs, xv⟩ A xv.length c).mono ?_)
         · go_simp
         rintro e u ⟨rfl, hk2⟩
         exact ⟨_, rfl, hk2, rfl⟩
       dsimp only [putS, List.set_cons_succ, List.set_cons_zero])
    | (refine wpT_has (PtrQ.mono W6.heap.size) rfl (fun ρ w hk ⟨c1, c2, c3⟩ _ => upT_made (.pointer (some ⟨w.heap.size, 0, none⟩)) (w' := w.alloc (.cells #[.int .i64 0, .int .i64 0, .bool false, .int .i64 0, .int .i64 0, .slice none 0 0] 32)) ?_ ((Kept.refl w).alloc _) ⟨_, rfl, hk.2, push_new w _⟩) ?_; (· go_simp); dsimp only [putS, List.set_cons_succ, List.set_cons_zero])
    | (refine wpT_slot (S := .has _) _ (.inl rfl) rfl (ToldT.mono _ _) rfl ?_; dsimp only [putS, List.set_cons_succ, List.set_cons_zero])
    | (refine wpT_has (ToldT.mono ⟨yr2, yt2, yo2, za2, zs2, yv2⟩ bb2) rfl (fun ρ w hk ⟨c1, c2, c3⟩ ⟨h1, h2, h3, _⟩ => ?_) ?_
       · have h1 : ρ (.tmp 47) = _ := h1
         have h2 : ρ (.tmp 48) = _ := h2
         have h3 : ρ (.tmp 49) = _ := h3
         refine upT_call 14 #[.agg #[.int .i64 pr, .int .i64 ps, .bool so, .int .i64 xr, .int .i64 xs, .slice A xv.length c], .agg #[.int .i64 r, .int .i64 t], .slice V vs.length d] ?_ ((C4.out w (T9.out w hk).2.2.2).mono ?_)
         · go_simp
         · rintro e u ⟨v, rfl, hk2, ht⟩
           exact ⟨_, rfl, hk2, ht⟩
       dsimp only [putS, List.set_cons_succ, List.set_cons_zero])
    | (refine wpT_has (AcT.mono ⟨yr2, yt2, yo2, za2, zs2, yv2⟩) rfl (fun ρ w hk ⟨c1, c2, c3⟩ ⟨h1, _⟩ => ?_) ?_
       · obtain ⟨A', c', h1, hr⟩ := h1
         refine upT_made (acv ⟨yr2, yt2, yo2, za2, zs2, yv2⟩ A' yv2.length c') ?_ (Kept.refl _) ⟨A', c', rfl, hr⟩
         go_simp
       dsimp only [putS, List.set_cons_succ, List.set_cons_zero])
    | (refine wpT_late (v := .bool bb2) rfl (fun ρ w hk ⟨c1, c2, c3⟩ ⟨h1, _⟩ => ?_) ?_
       · obtain ⟨A', c', h1, hr⟩ := h1
         intro w'
         go_simp
       dsimp only [putS, List.set_cons_succ, List.set_cons_zero])
    | (refine wpT_skip rfl ?_; dsimp only [putS, List.set_cons_succ, List.set_cons_zero])
    | (refine wpT_slot (S := .is _) _ (.inl rfl) rfl (Slot.mono_is _) rfl ?_; dsimp only [putS, List.set_cons_succ, List.set_cons_zero])
    | (refine wpT_slot (S := .is _) _ (.inr rfl) rfl (Slot.mono_is _) rfl ?_; dsimp only [putS, List.set_cons_succ, List.set_cons_zero])
    | (refine wpT_exact1 rfl rfl rfl ?_; apply Exists.intro; refine ⟨fun ρ w hk ⟨c1, c2, c3⟩ h1 => ?_, ?_⟩; (· obtain ⟨⟨t1, t2, t3, t4, t5, t6⟩, t7, t8, _⟩ := T9.out w hk; go_simp; exact rfl); dsimp only [putS, List.set_cons_succ, List.set_cons_zero])
    | (refine wpT_exact2 rfl rfl rfl rfl ?_; apply Exists.intro; refine ⟨fun ρ w hk ⟨c1, c2, c3⟩ h1 h2 => ?_, ?_⟩; (· obtain ⟨⟨t1, t2, t3, t4, t5, t6⟩, t7, t8, _⟩ := T9.out w hk; go_simp; exact rfl); dsimp only [putS, List.set_cons_succ, List.set_cons_zero])
    | (refine wpT_exact3 rfl rfl rfl rfl rfl ?_; apply Exists.intro; refine ⟨fun ρ w hk ⟨c1, c2, c3⟩ h1 h2 h3 => ?_, ?_⟩; (· obtain ⟨⟨t1, t2, t3, t4, t5, t6⟩, t7, t8, _⟩ := T9.out w hk; go_simp; exact rfl); dsimp only [putS, List.set_cons_succ, List.set_cons_zero])
    | (refine wpT_exact4 rfl rfl rfl rfl rfl rfl ?_; apply Exists.intro; refine ⟨fun ρ w hk ⟨c1, c2, c3⟩ h1 h2 h3 h4 => ?_, ?_⟩; (· obtain ⟨⟨t1, t2, t3, t4, t5, t6⟩, t7, t8, _⟩ := T9.out w hk; go_simp; exact rfl); dsimp only [putS, List.set_cons_succ, List.set_cons_zero])
    | (refine wpT_exact0 rfl ?_; apply Exists.intro; refine ⟨fun ρ w hk ⟨c1, c2, c3⟩ => ?_, ?_⟩; (· obtain ⟨⟨t1, t2, t3, t4, t5, t6⟩, t7, t8, _⟩ := T9.out w hk; go_simp; exact rfl); dsimp only [putS, List.set_cons_succ, List.set_cons_zero])
    | fail)
  refine wpT_nil ?_
  intro wz kz
  simp only [Fits]
  rintro uz ⟨gy, rfl, hz, hvz⟩ um2 - uc2 - ue ⟨A7, c7, rfl, hr⟩
  have kz' : Kept W6 wz := (Kept.refl W6).drew.trans kz
  obtain ⟨z0, z1, z2, z3, z4, z5⟩ := hvz.cells
  obtain ⟨f0, f1, f2, f3, f4, f5⟩ := hvz.free
  have HRQ := Lib.hid hr
  have HVZ := Lib.hid hvz
  have KZ := Lib.hid kz'
  have HZ := Lib.hid hz
  simp only [Ac.zero] at z0 z1 z2 z3 z4 z5
  clear kz kz' hr hvz hz
  simp only [acv]
  go_wp2_with fail
  refine only_end ?_
  go_upto_region 10 with fail
  clear z0 z1 z2 z3 z4 z5 f0 f1 f2 f3 f4 f5
  have KG : Hid (Kept W6 (put6 wz gy ⟨yr2, yt2, yo2, za2, zs2, yv2⟩ A7 yv2.length c7)) := Lib.hid (put6_kept _ _ _ _ KZ.out HZ.out)
  have QY : Hid (Hs (put6 wz gy ⟨yr2, yt2, yo2, za2, zs2, yv2⟩ A7 yv2.length c7) gy 32 ⟨yr2, yt2, yo2, za2, zs2, yv2⟩ A7 yv2.length c7) := Lib.hid (put6_new HVZ.out _ _ _ _)
  have RY : Hid (Row (put6 wz gy ⟨yr2, yt2, yo2, za2, zs2, yv2⟩ A7 yv2.length c7) A7 yv2.length c7 yv2) := Lib.hid (HRQ.out.put6 HVZ.out)
  obtain ⟨W7, hW7⟩ : ∃ W7, W7 = put6 wz gy ⟨yr2, yt2, yo2, za2, zs2, yv2⟩ A7 yv2.length c7 := ⟨_, rfl⟩
  rw [show ((((((wz.setCell ⟨gy, 0, none⟩ (.int .i64 yr2)).setCell ⟨gy, 1, none⟩ (.int .i64 yt2)).setCell ⟨gy, 2, none⟩ (.bool yo2)).setCell ⟨gy, 3, none⟩ (.int .i64 za2)).setCell ⟨gy, 4, none⟩ (.int .i64 zs2)).setCell ⟨gy, 5, none⟩ (.slice A7 yv2.length c7)) = W7 from hW7.symm]
  rw [← hW7] at KG QY RY
  clear hW7 HRQ HVZ KZ HZ
  have HA : Hid (∀ W, Kept W7 W → (Hs W gp 26 ⟨yr, yt, yo, za, zs, yv⟩ A4 yv.length c4 ∧ Row W A4 yv.length c4 yv) ∧ (Hs W gq 32 ⟨yr, yt, yo, za, zs, yv⟩ A5 yv.length c5 ∧ Row W A5 yv.length c5 yv) ∧ (Hs W gx 26 ⟨yr2, yt2, yo2, za2, zs2, yv2⟩ A6 yv2.length c6 ∧ Row W A6 yv2.length c6 yv2) ∧ (Hs W gy 32 ⟨yr2, yt2, yo2, za2, zs2, yv2⟩ A7 yv2.length c7 ∧ Row W A7 yv2.length c7 yv2)) := Lib.hid (fun W k => by
    have k6 : Kept W6 W := KG.out.trans k
    have k5 : Kept W5 W := KF.out.trans k6
    have k4 : Kept W4 W := KE.out.trans k5
    exact ⟨⟨QP.out.kept k4, RP.out.below k4.1⟩, ⟨QQ.out.kept k5, RQ.out.below k5.1⟩, ⟨QX.out.kept k6, RX.out.below k6.1⟩, QY.out.kept k, RY.out.below k.1⟩)
  have K7 : Hid (Kept W3 W7) := Lib.hid (K5.out.trans (KF.out.trans KG.out))
  have T10 : Hid (∀ W, Kept W7.drew W → (W.cell? ⟨gp, 0, none⟩ = some (.int .i64 yr) ∧ W.cell? ⟨gp, 1, none⟩ = some (.int .i64 yt) ∧ W.cell? ⟨gp, 2, none⟩ = some (.bool yo) ∧ W.cell? ⟨gp, 3, none⟩ = some (.int .i64 za) ∧ W.cell? ⟨gp, 4, none⟩ = some (.int .i64 zs) ∧ W.cell? ⟨gp, 5, none⟩ = some (.slice A4 yv.length c4)) ∧ (W.cell? ⟨gq, 0, none⟩ = some (.int .i64 yr) ∧ W.cell? ⟨gq, 1, none⟩ = some (.int .i64 yt) ∧ W.cell? ⟨gq, 2, none⟩ = some (.bool yo) ∧ W.cell? ⟨gq, 3, none⟩ = some (.int .i64 za) ∧ W.cell? ⟨gq, 4, none⟩ = some (.int .i64 zs) ∧ W.cell? ⟨gq, 5, none⟩ = some (.slice A5 yv.length c5)) ∧ (W.cell? ⟨gx, 0, none⟩ = some (.int .i64 yr2) ∧ W.cell? ⟨gx, 1, none⟩ = some (.int .i64 yt2) ∧ W.cell? ⟨gx, 2, none⟩ = some (.bool yo2) ∧ W.cell? ⟨gx, 3, none⟩ = some (.int .i64 za2) ∧ W.cell? ⟨gx, 4, none⟩ = some (.int .i64 zs2) ∧ W.cell? ⟨gx, 5, none⟩ = some (.slice A6 yv2.length c6)) ∧ (W.cell? ⟨gy, 0, none⟩ = some (.int .i64 yr2) ∧ W.cell? ⟨gy, 1, none⟩ = some (.int .i64 yt2) ∧ W.cell? ⟨gy, 2, none⟩ = some (.bool yo2) ∧ W.cell? ⟨gy, 3, none⟩ = some (.int .i64 za2) ∧ W.cell? ⟨gy, 4, none⟩ = some (.int .i64 zs2) ∧ W.cell? ⟨gy, 5, none⟩ = some (.slice A7 yv2.length c7))) := Lib.hid (fun W k => by
    have h := HA.out W ((Kept.refl W7).drew.trans k)
    exact ⟨h.1.1.cells, h.2.1.1.cells, h.2.2.1.1.cells, h.2.2.2.1.cells⟩)
  have E1 : Hid (∀ W, Kept W7.drew W → Calls Try.prog 15 #[.agg #[.int .i64 yr, .int .i64 yt, .bool yo, .int .i64 za, .int .i64 zs, .slice A4 yv.length c4], .agg #[.int .i64 yr, .int .i64 yt, .bool yo, .int .i64 za, .int .i64 zs, .slice A5 yv.length c5]] W fun e w' => e = .returned (.bool true) ∧ Kept W w') := Lib.hid (fun W k => by
    have h := HA.out W ((Kept.refl W7).drew.trans k)
    have := refacsame_any (x := ⟨yr, yt, yo, za, zs, yv⟩) (y := ⟨yr, yt, yo, za, zs, yv⟩) h.1.2 h.2.1.2
    rwa [same_self] at this)
  have E2 : Hid (∀ W, Kept W7.drew W → Calls Try.prog 15 #[.agg #[.int .i64 yr2, .int .i64 yt2, .bool yo2, .int .i64 za2, .int .i64 zs2, .slice A6 yv2.length c6], .agg #[.int .i64 yr2, .int .i64 yt2, .bool yo2, .int .i64 za2, .int .i64 zs2, .slice A7 yv2.length c7]] W fun e w' => e = .returned (.bool true) ∧ Kept W w') := Lib.hid (fun W k => by
    have h := HA.out W ((Kept.refl W7).drew.trans k)
    have := refacsame_any (x := ⟨yr2, yt2, yo2, za2, zs2, yv2⟩) (y := ⟨yr2, yt2, yo2, za2, zs2, yv2⟩) h.2.2.1.2 h.2.2.2.2
    rwa [same_self] at this)
  clear KD RP QP KE QQ RQ KF QX RX KG QY RY T7 T9 C1 C2 C3 C4 HA K5
  go_wp2_with fail
  refine wp_region_typed (N := 22) (fl := []) (by kernel_rfl) (by kernel_rfl) ?_
  simp only [List.take_succ_cons, List.take_zero, List.drop_succ_cons, List.drop_zero, List.map_cons, List.map_nil, zipF]
  repeat (first
    | (refine wpT_skip rfl ?_; dsimp only [putS, List.set_cons_succ, List.set_cons_zero])
    | (refine wpT_slot (S := .is _) _ (.inl rfl) rfl (Slot.mono_is _) rfl ?_; dsimp only [putS, List.set_cons_succ, List.set_cons_zero])
    | (refine wpT_slot (S := .is _) _ (.inr rfl) rfl (Slot.mono_is _) rfl ?_; dsimp only [putS, List.set_cons_succ, List.set_cons_zero])
    | (refine wpT_exact1 rfl rfl rfl ?_; apply Exists.intro; refine ⟨fun ρ w hk ⟨c1, c2, c3⟩ h1 => ?_, ?_⟩; (· obtain ⟨⟨t1, t2, t3, t4, t5, t6⟩, ⟨s1, s2, s3, s4, s5, s6⟩, ⟨x1, x2, x3, x4, x5, x6⟩, y1, y2, y3, y4, y5, y6⟩ := T10.out w hk; go_simp; exact rfl); dsimp only [putS, List.set_cons_succ, List.set_cons_zero])
    | (refine wpT_exact2 rfl rfl rfl rfl ?_; apply Exists.intro; refine ⟨fun ρ w hk ⟨c1, c2, c3⟩ h1 h2 => ?_, ?_⟩; (· obtain ⟨⟨t1, t2, t3, t4, t5, t6⟩, ⟨s1, s2, s3, s4, s5, s6⟩, ⟨x1, x2, x3, x4, x5, x6⟩, y1, y2, y3, y4, y5, y6⟩ := T10.out w hk; go_simp; exact rfl); dsimp only [putS, List.set_cons_succ, List.set_cons_zero])
    | (refine wpT_exact3 rfl rfl rfl rfl rfl ?_; apply Exists.intro; refine ⟨fun ρ w hk ⟨c1, c2, c3⟩ h1 h2 h3 => ?_, ?_⟩; (· obtain ⟨⟨t1, t2, t3, t4, t5, t6⟩, ⟨s1, s2, s3, s4, s5, s6⟩, ⟨x1, x2, x3, x4, x5, x6⟩, y1, y2, y3, y4, y5, y6⟩ := T10.out w hk; go_simp; exact rfl); dsimp only [putS, List.set_cons_succ, List.set_cons_zero])
    | (refine wpT_exact4 rfl rfl rfl rfl rfl rfl ?_; apply Exists.intro; refine ⟨fun ρ w hk ⟨c1, c2, c3⟩ h1 h2 h3 h4 => ?_, ?_⟩; (· obtain ⟨⟨t1, t2, t3, t4, t5, t6⟩, ⟨s1, s2, s3, s4, s5, s6⟩, ⟨x1, x2, x3, x4, x5, x6⟩, y1, y2, y3, y4, y5, y6⟩ := T10.out w hk; go_simp; exact rfl); dsimp only [putS, List.set_cons_succ, List.set_cons_zero])
    | (refine wpT_exact0 rfl ?_; apply Exists.intro; refine ⟨fun ρ w hk ⟨c1, c2, c3⟩ => ?_, ?_⟩; (· obtain ⟨⟨t1, t2, t3, t4, t5, t6⟩, ⟨s1, s2, s3, s4, s5, s6⟩, ⟨x1, x2, x3, x4, x5, x6⟩, y1, y2, y3, y4, y5, y6⟩ := T10.out w hk; go_simp; exact rfl); dsimp only [putS, List.set_cons_succ, List.set_cons_zero])
    | (refine wpT_is (.agg #[.int .i64 yr, .int .i64 yt, .bool yo, .int .i64 za, .int .i64 zs, .slice A4 yv.length c4]) rfl (fun ρ w hk ⟨c1, c2, c3⟩ ⟨h1, _⟩ => ?_) ?_
       · have h1 : ρ (.tmp 62) = _ := h1
         refine upT_call 12 #[.agg #[.int .i64 yr, .int .i64 yt, .bool yo, .int .i64 za, .int .i64 zs, .slice A4 yv.length c4]] ?_ ((acreal_any ⟨yr, yt, yo, za, zs, yv⟩ A4 yv.length c4).mono ?_)
         · go_simp
         rintro e u ⟨rfl, hk2⟩
         exact ⟨_, rfl, hk2, rfl⟩
       dsimp only [putS, List.set_cons_succ, List.set_cons_zero])
    | (refine wpT_is (.agg #[.int .i64 yr2, .int .i64 yt2, .bool yo2, .int .i64 za2, .int .i64 zs2, .slice A6 yv2.length c6]) rfl (fun ρ w hk ⟨c1, c2, c3⟩ ⟨h1, _⟩ => ?_) ?_
       · have h1 : ρ (.tmp 69) = _ := h1
         refine upT_call 12 #[.agg #[.int .i64 yr2, .int .i64 yt2, .bool yo2, .int .i64 za2, .int .i64 zs2, .slice A6 yv2.length c6]] ?_ ((acreal_any ⟨yr2, yt2, yo2, za2, zs2, yv2⟩ A6 yv2.length c6).mono ?_)
         · go_simp
         rintro e u ⟨rfl, hk2⟩
         exact ⟨_, rfl, hk2, rfl⟩
       dsimp only [putS, List.set_cons_succ, List.set_cons_zero])
    | (refine wpT_is (.bool true) rfl (fun ρ w hk ⟨c1, c2, c3⟩ ⟨h1, h2, _⟩ => ?_) ?_
       · have h1 : ρ (.tmp 63) = _ := h1
         have h2 : ρ (.tmp 64) = _ := h2
         refine upT_call 15 #[.agg #[.int .i64 yr, .int .i64 yt, .bool yo, .int .i64 za, .int .i64 zs, .slice A4 yv.length c4], .agg #[.int .i64 yr, .int .i64 yt, .bool yo, .int .i64 za, .int .i64 zs, .slice A5 yv.length c5]] ?_ ((E1.out w hk).mono ?_)
         · go_simp
         rintro e u ⟨rfl, hk2⟩
         exact ⟨_, rfl, hk2, rfl⟩
       dsimp only [putS, List.set_cons_succ, List.set_cons_zero])
    | (refine wpT_is (.bool true) rfl (fun ρ w hk ⟨c1, c2, c3⟩ ⟨h1, h2, _⟩ => ?_) ?_
       · have h1 : ρ (.tmp 70) = _ := h1
         have h2 : ρ (.tmp 71) = _ := h2
         refine upT_call 15 #[.agg #[.int .i64 yr2, .int .i64 yt2, .bool yo2, .int .i64 za2, .int .i64 zs2, .slice A6 yv2.length c6], .agg #[.int .i64 yr2, .int .i64 yt2, .bool yo2, .int .i64 za2, .int .i64 zs2, .slice A7 yv2.length c7]] ?_ ((E2.out w hk).mono ?_)
         · go_simp
         rintro e u ⟨rfl, hk2⟩
         exact ⟨_, rfl, hk2, rfl⟩
       dsimp only [putS, List.set_cons_succ, List.set_cons_zero])
    | fail)
  refine wpT_nil ?_
  intro wz kz
  simp only [Fits]
  have K8 : Hid (Kept W3 wz) := Lib.hid (K7.out.trans ((Kept.refl W7).drew.trans kz))
  clear kz T10 E1 E2 K7
  rename World => W8
  refine wpList_end ?_
  have T12 : Hid (∀ W, Kept W8.drew W → (W.cell? ⟨gs, 0, none⟩ = some (.int .i64 pr) ∧ W.cell? ⟨gs, 1, none⟩ = some (.int .i64 ps) ∧ W.cell? ⟨gs, 2, none⟩ = some (.bool so) ∧ W.cell? ⟨gs, 3, none⟩ = some (.int .i64 xr) ∧ W.cell? ⟨gs, 4, none⟩ = some (.int .i64 xs) ∧ W.cell? ⟨gs, 5, none⟩ = some (.slice A xv.length c)) ∧ (W.cell? ⟨gt, 0, none⟩ = some (.int .i64 pr2) ∧ W.cell? ⟨gt, 1, none⟩ = some (.int .i64 ps2) ∧ W.cell? ⟨gt, 2, none⟩ = some (.bool so2) ∧ W.cell? ⟨gt, 3, none⟩ = some (.int .i64 xr2) ∧ W.cell? ⟨gt, 4, none⟩ = some (.int .i64 xs2) ∧ W.cell? ⟨gt, 5, none⟩ = some (.slice A2 xv2.length cT))) := Lib.hid (fun W k => by
    have h := HG.out W (K8.out.trans ((Kept.refl W8).drew.trans k))
    exact ⟨h.1.cells, h.2.1.cells⟩)
  obtain ⟨s12, hs12⟩ : ∃ b, sameA ⟨pr, ps, so, xr, xs, xv⟩ ⟨pr2, ps2, so2, xr2, xs2, xv2⟩ = b := ⟨_, rfl⟩
  obtain ⟨m12, hm12⟩ : ∃ b, mayA ⟨pr, ps, so, xr, xs, xv⟩ (vs.length : Int) = b := ⟨_, rfl⟩
  have E1 : Hid (∀ W, Kept W8.drew W → Calls Try.prog 16 #[.agg #[.int .i64 pr, .int .i64 ps, .bool so, .int .i64 xr, .int .i64 xs, .slice A xv.length c], .agg #[.int .i64 pr2, .int .i64 ps2, .bool so2, .int .i64 xr2, .int .i64 xs2, .slice A2 xv2.length cT]] W fun e w' => e = .returned (.bool s12) ∧ Kept W w') := Lib.hid (fun W k => by
    have h := (HG.out W (K8.out.trans ((Kept.refl W8).drew.trans k))).2.2.2
    rw [← hs12]; exact acsame_any (x := ⟨pr, ps, so, xr, xs, xv⟩) (y := ⟨pr2, ps2, so2, xr2, xs2, xv2⟩) (HR0.out.below h.1) (HR1.out.below h.1))
  have E2 : Hid (∀ W, Kept W8.drew W → Calls Try.prog 15 #[.agg #[.int .i64 pr, .int .i64 ps, .bool so, .int .i64 xr, .int .i64 xs, .slice A xv.length c], .agg #[.int .i64 pr2, .int .i64 ps2, .bool so2, .int .i64 xr2, .int .i64 xs2, .slice A2 xv2.length cT]] W fun e w' => e = .returned (.bool s12) ∧ Kept W w') := Lib.hid (fun W k => by
    have h := (HG.out W (K8.out.trans ((Kept.refl W8).drew.trans k))).2.2.2
    rw [← hs12]; exact refacsame_any (x := ⟨pr, ps, so, xr, xs, xv⟩) (y := ⟨pr2, ps2, so2, xr2, xs2, xv2⟩) (HR0.out.below h.1) (HR1.out.below h.1))
  have E3 : Hid (∀ W, Calls Try.prog 17 #[.agg #[.int .i64 pr, .int .i64 ps, .bool so, .int .i64 xr, .int .i64 xs, .slice A xv.length c], .int .i64 (vs.length : Int)] W fun e w' => e = .returned (.bool m12) ∧ Kept W w') := Lib.hid (fun W => by
    rw [← hm12]; exact acmay_any (x := ⟨pr, ps, so, xr, xs, xv⟩) (vs.length : Int))
  have E4 : Hid (∀ W, Calls Try.prog 18 #[.agg #[.int .i64 pr, .int .i64 ps, .bool so, .int .i64 xr, .int .i64 xs, .slice A xv.length c], .int .i64 (vs.length : Int)] W fun e w' => e = .returned (.bool m12) ∧ Kept W w') := Lib.hid (fun W => by
    rw [← hm12]; exact refacmay_any (x := ⟨pr, ps, so, xr, xs, xv⟩) (vs.length : Int))
  clear hs12 hm12
  go_wp2_with fail
  refine wp_region_typed (N := 25) (fl := []) (by kernel_rfl) (by kernel_rfl) ?_
  simp only [List.take_succ_cons, List.take_zero, List.drop_succ_cons, List.drop_zero, List.map_cons, List.map_nil, zipF]
  repeat (first
    | (refine wpT_skip rfl ?_; dsimp only [putS, List.set_cons_succ, List.set_cons_zero])
    | (refine wpT_slot (S := .is _) _ (.inl rfl) rfl (Slot.mono_is _) rfl ?_; dsimp only [putS, List.set_cons_succ, List.set_cons_zero])
    | (refine wpT_slot (S := .is _) _ (.inr rfl) rfl (Slot.mono_is _) rfl ?_; dsimp only [putS, List.set_cons_succ, List.set_cons_zero])
    | (refine wpT_exact1 rfl rfl rfl ?_; apply Exists.intro; refine ⟨fun ρ w hk ⟨c1, c2, c3⟩ h1 => ?_, ?_⟩; (· obtain ⟨⟨t1, t2, t3, t4, t5, t6⟩, s1, s2, s3, s4, s5, s6⟩ := T12.out w hk; go_simp; exact rfl); dsimp only [putS, List.set_cons_succ, List.set_cons_zero])
    | (refine wpT_exact2 rfl rfl rfl rfl ?_; apply Exists.intro; refine ⟨fun ρ w hk ⟨c1, c2, c3⟩ h1 h2 => ?_, ?_⟩; (· obtain ⟨⟨t1, t2, t3, t4, t5, t6⟩, s1, s2, s3, s4, s5, s6⟩ := T12.out w hk; go_simp; exact rfl); dsimp only [putS, List.set_cons_succ, List.set_cons_zero])
    | (refine wpT_exact3 rfl rfl rfl rfl rfl ?_; apply Exists.intro; refine ⟨fun ρ w hk ⟨c1, c2, c3⟩ h1 h2 h3 => ?_, ?_⟩; (· obtain ⟨⟨t1, t2, t3, t4, t5, t6⟩, s1, s2, s3, s4, s5, s6⟩ := T12.out w hk; go_simp; exact rfl); dsimp only [putS, List.set_cons_succ, List.set_cons_zero])
    | (refine wpT_exact4 rfl rfl rfl rfl rfl rfl ?_; apply Exists.intro; refine ⟨fun ρ w hk ⟨c1, c2, c3⟩ h1 h2 h3 h4 => ?_, ?_⟩; (· obtain ⟨⟨t1, t2, t3, t4, t5, t6⟩, s1, s2, s3, s4, s5, s6⟩ := T12.out w hk; go_simp; exact rfl); dsimp only [putS, List.set_cons_succ, List.set_cons_zero])
    | (refine wpT_exact0 rfl ?_; apply Exists.intro; refine ⟨fun ρ w hk ⟨c1, c2, c3⟩ => ?_, ?_⟩; (· obtain ⟨⟨t1, t2, t3, t4, t5, t6⟩, s1, s2, s3, s4, s5, s6⟩ := T12.out w hk; go_simp; exact rfl); dsimp only [putS, List.set_cons_succ, List.set_cons_zero])
    | (refine wpT_is (.bool s12) rfl (fun ρ w hk ⟨c1, c2, c3⟩ ⟨h1, h2, _⟩ => ?_) ?_
       · have h1 : ρ (.tmp 77) = _ := h1
         have h2 : ρ (.tmp 78) = _ := h2
         refine upT_call 16 #[.agg #[.int .i64 pr, .int .i64 ps, .bool so, .int .i64 xr, .int .i64 xs, .slice A xv.length c], .agg #[.int .i64 pr2, .int .i64 ps2, .bool so2, .int .i64 xr2, .int .i64 xs2, .slice A2 xv2.length cT]] ?_ ((E1.out w hk).mono ?_)
         · go_simp
         rintro e u ⟨rfl, hk2⟩
         exact ⟨_, rfl, hk2, rfl⟩
       dsimp only [putS, List.set_cons_succ, List.set_cons_zero])
    | (refine wpT_is (.agg #[.int .i64 pr, .int .i64 ps, .bool so, .int .i64 xr, .int .i64 xs, .slice A xv.length c]) rfl (fun ρ w hk ⟨c1, c2, c3⟩ ⟨h1, _⟩ => ?_) ?_
       · have h1 : ρ (.tmp 80) = _ := h1
         refine upT_call 12 #[.agg #[.int .i64 pr, .int .i64 ps, .bool so, .int .i64 xr, .int .i64 xs, .slice A xv.length c]] ?_ ((acreal_any ⟨pr, ps, so, xr, xs, xv⟩ A xv.length c).mono ?_)
         · go_simp
         rintro e u ⟨rfl, hk2⟩
         exact ⟨_, rfl, hk2, rfl⟩
       dsimp only [putS, List.set_cons_succ, List.set_cons_zero])
    | (refine wpT_is (.agg #[.int .i64 pr2, .int .i64 ps2, .bool so2, .int .i64 xr2, .int .i64 xs2, .slice A2 xv2.length cT]) rfl (fun ρ w hk ⟨c1, c2, c3⟩ ⟨h1, _⟩ => ?_) ?_
       · have h1 : ρ (.tmp 82) = _ := h1
         refine upT_call 12 #[.agg #[.int .i64 pr2, .int .i64 ps2, .bool so2, .int .i64 xr2, .int .i64 xs2, .slice A2 xv2.length cT]] ?_ ((acreal_any ⟨pr2, ps2, so2, xr2, xs2, xv2⟩ A2 xv2.length cT).mono ?_)
         · go_simp
         rintro e u ⟨rfl, hk2⟩
         exact ⟨_, rfl, hk2, rfl⟩
       dsimp only [putS, List.set_cons_succ, List.set_cons_zero])
    | (refine wpT_is (.bool s12) rfl (fun ρ w hk ⟨c1, c2, c3⟩ ⟨h1, h2, _⟩ => ?_) ?_
       · have h1 : ρ (.tmp 81) = _ := h1
         have h2 : ρ (.tmp 83) = _ := h2
         refine upT_call 15 #[.agg #[.int .i64 pr, .int .i64 ps, .bool so, .int .i64 xr, .int .i64 xs, .slice A xv.length c], .agg #[.int .i64 pr2, .int .i64 ps2, .bool so2, .int .i64 xr2, .int .i64 xs2, .slice A2 xv2.length cT]] ?_ ((E2.out w hk).mono ?_)
         · go_simp
         rintro e u ⟨rfl, hk2⟩
         exact ⟨_, rfl, hk2, rfl⟩
       dsimp only [putS, List.set_cons_succ, List.set_cons_zero])
    | (refine wpT_is (.bool m12) rfl (fun ρ w hk ⟨c1, c2, c3⟩ ⟨h1, h2, _⟩ => ?_) ?_
       · have h1 : ρ (.tmp 88) = _ := h1
         have h2 : ρ (.tmp 90) = _ := h2
         refine upT_call 17 #[.agg #[.int .i64 pr, .int .i64 ps, .bool so, .int .i64 xr, .int .i64 xs, .slice A xv.length c], .int .i64 (vs.length : Int)] ?_ ((E3.out w).mono ?_)
         · go_simp
         rintro e u ⟨rfl, hk2⟩
         exact ⟨_, rfl, hk2, rfl⟩
       dsimp only [putS, List.set_cons_succ, List.set_cons_zero])
    | (refine wpT_is (.agg #[.int .i64 pr, .int .i64 ps, .bool so, .int .i64 xr, .int .i64 xs, .slice A xv.length c]) rfl (fun ρ w hk ⟨c1, c2, c3⟩ ⟨h1, _⟩ => ?_) ?_
       · have h1 : ρ (.tmp 92) = _ := h1
         refine upT_call 12 #[.agg #[.int .i64 pr, .int .i64 ps, .bool so, .int .i64 xr, .int .i64 xs, .slice A xv.length c]] ?_ ((acreal_any ⟨pr, ps, so, xr, xs, xv⟩ A xv.length c).mono ?_)
         · go_simp
         rintro e u ⟨rfl, hk2⟩
         exact ⟨_, rfl, hk2, rfl⟩
       dsimp only [putS, List.set_cons_succ, List.set_cons_zero])
    | (refine wpT_is (.bool m12) rfl (fun ρ w hk ⟨c1, c2, c3⟩ ⟨h1, h2, _⟩ => ?_) ?_
       · have h1 : ρ (.tmp 93) = _ := h1
         have h2 : ρ (.tmp 95) = _ := h2
         refine upT_call 18 #[.agg #[.int .i64 pr, .int .i64 ps, .bool so, .int .i64 xr, .int .i64 xs, .slice A xv.length c], .int .i64 (vs.length : Int)] ?_ ((E4.out w).mono ?_)
         · go_simp
         rintro e u ⟨rfl, hk2⟩
         exact ⟨_, rfl, hk2, rfl⟩
       dsimp only [putS, List.set_cons_succ, List.set_cons_zero])
    | fail)
  refine wpT_nil ?_
  intro wz kz
  simp only [Fits]
  refine wpList_end ?_
  go_wp2
  go_ret
  exact ⟨by go_simp, (K3.out.trans (K8.out.trans ((Kept.refl W8).drew.trans kz))).1⟩
end Go.Proofs.Ytlcmfikekbbgjaa
