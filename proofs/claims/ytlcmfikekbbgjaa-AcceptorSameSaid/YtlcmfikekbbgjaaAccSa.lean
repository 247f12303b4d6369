/- The walk of AcceptorSame. -/
import Derived.Test.YtlcmfikekbbgjaaAccX
import Derived.Deep.CutRange
import Derived.Deep.DeepCutAuto
namespace Go.Proofs.Ytlcmfikekbbgjaa
open Go.RowKit

theorem wrap_more {n : Int} (_ : -9223372036854775808 ≤ n ∧ n ≤ 9223372036854775807) : ∃ m, IntKind.i64.wrap (n + 1) = m ∧ m ≠ n := by
  refine ⟨_, rfl, ?_⟩
  rw [IntKind.wrap_i64]
  omega

theorem Hs.far {W : World} {g n c : Nat} {t : TypeId} {x : Ac} {A : Option Addr} (h : Hs W g t x A n c) {p : Addr} (hp : g ≠ p.block) (u : Value) : Hs (W.setCell p u) g t x A n c := (Below.heap_setCell W p u g hp).trans h
theorem Hs.set0 {W : World} {g n c : Nat} {t : TypeId} {x : Ac} {A : Option Addr} (h : Hs W g t x A n c) (m : Int) : Hs (W.setCell ⟨g, 0, none⟩ (.int .i64 m)) g t ⟨m, x.ps, x.so, x.ar, x.as_, x.val⟩ A n c := (heap_setCell_same h _).trans rfl
theorem Hs.set2 {W : World} {g n c : Nat} {t : TypeId} {x : Ac} {A : Option Addr} (h : Hs W g t x A n c) (m : Bool) : Hs (W.setCell ⟨g, 2, none⟩ (.bool m)) g t ⟨x.pr, x.ps, m, x.ar, x.as_, x.val⟩ A n c := (heap_setCell_same h _).trans rfl
theorem Hs.set4 {W : World} {g n c : Nat} {t : TypeId} {x : Ac} {A : Option Addr} (h : Hs W g t x A n c) (m : Int) : Hs (W.setCell ⟨g, 4, none⟩ (.int .i64 m)) g t ⟨x.pr, x.ps, x.so, x.ar, m, x.val⟩ A n c := (heap_setCell_same h _).trans rfl
theorem Hs.set5 {W : World} {g n c n' c' : Nat} {t : TypeId} {x : Ac} {A B : Option Addr} (h : Hs W g t x A n c) (vs : List Nat) : Hs (W.setCell ⟨g, 5, none⟩ (.slice B n' c')) g t ⟨x.pr, x.ps, x.so, x.ar, x.as_, vs⟩ B n' c' := (heap_setCell_same h _).trans rfl
/-- bytes stay where a cell of another kind is written -/
theorem Row.far6 {W : World} {A B : Option Addr} {n c m d g : Nat} {t : TypeId} {y : Ac} {bs : List Nat} (hr : Row W A n c bs) (hz : Hs W g t y B m d) (j : Nat) (u : Value) : Row (W.setCell ⟨g, j, Option.none⟩ u) A n c bs :=
  hr.off (by simp [World.setCell]) fun a ha hn => Below.heap_setCell W ⟨g, j, Option.none⟩ u _ (hr.apart6 hz a ha hn)

set_option maxRecDepth 100000 in
set_option maxHeartbeats 4000000 in
theorem AcceptorSame_walk (a0 : List Value) (w : World) (w0 : (fun w cs => cs.length = 6 ∧ IsStruct [(0, 2, (fun w cs => cs.length = 2 ∧ IsStruct [(0, 1, (IsInt .i64)), (1, 1, (IsInt .i64))] w cs)), (2, 1, IsBool), (3, 2, (fun w cs => cs.length = 2 ∧ IsStruct [(0, 1, (IsInt .i64)), (1, 1, (IsInt .i64))] w cs)), (5, 1, (IsSlice 1 1 (IsInt .u8)))] w cs : World → List Value → Prop) w a0) :
    Calls Try.prog 8 #[.agg a0.toArray] w fun e w' => e = .returned (.bool true) ∧ Below w.heap.size w w' := by
  obtain ⟨x, A, c, rfl, hwf, hrow, hlen⟩ := state_of w0
  obtain ⟨m1, e1, n1⟩ := wrap_more hwf.1
  obtain ⟨m2, e2, n2⟩ := wrap_more hwf.2.2.2
  clear w0 hwf
  obtain ⟨pr, ps, so, xr, xs, xv⟩ := x
  simp only at e1 e2 n1 n2 hlen hrow
  have HR := Lib.hid hrow
  have N1 := Lib.hid n1
  have N2 := Lib.hid n2
  have HLEN := Lib.hid hlen
  have KV : Hid (Kept w (w.alloc (.cells #[.int .i64 pr, .int .i64 ps, .bool so, .int .i64 xr, .int .i64 xs, .slice A xv.length c] 26))) := Lib.hid ((Kept.refl w).alloc _)
  have PS : Hid (Hs (w.alloc (.cells #[.int .i64 pr, .int .i64 ps, .bool so, .int .i64 xr, .int .i64 xs, .slice A xv.length c] 26)) w.heap.size 26 ⟨pr, ps, so, xr, xs, xv⟩ A xv.length c) := Lib.hid (push_new w _)
  clear hrow n1 n2 hlen
  go_enter Try.func8, Try.ntmps8
  go_wp2_with fail
  refine (acawake_any _).mono ?_
  rintro e v ⟨rfl, k1⟩
  have P1 := Lib.hid (PS.out.kept k1)
  have K1 := Lib.hid (KV.out.trans k1)
  have hB : w.heap.size < v.heap.size := heap_lt P1.out
  generalize w.heap.size = B0 at *
  have HRV := Lib.hid (HR.out.below K1.out.1)
  -- a
  obtain ⟨b0, b1, b2, b3, b4, b5⟩ := P1.out.cells
  simp only at b0 b1 b2 b3 b4 b5
  go_upto_region 3 with fail
  clear b0 b1 b2 b3 b4 b5
  have KA : Hid (Kept v (v.alloc (.cells #[.int .i64 pr, .int .i64 ps, .bool so, .int .i64 xr, .int .i64 xs, .slice A xv.length c] 26))) := Lib.hid ((Kept.refl v).alloc _)
  have QA : Hid (Hs (v.alloc (.cells #[.int .i64 pr, .int .i64 ps, .bool so, .int .i64 xr, .int .i64 xs, .slice A xv.length c] 26)) v.heap.size 26 ⟨pr, ps, so, xr, xs, xv⟩ A xv.length c) := Lib.hid (push_new v _)
  generalize v.alloc (.cells #[.int .i64 pr, .int .i64 ps, .bool so, .int .i64 xr, .int .i64 xs, .slice A xv.length c] 26) = W1 at *
  generalize hga : v.heap.size = ga at *
  have PA := Lib.hid (P1.out.kept KA.out)
  obtain ⟨b0, b1, b2, b3, b4, b5⟩ := PA.out.cells
  simp only at b0 b1 b2 b3 b4 b5
  obtain ⟨a0, a1, a2, a3, a4, a5⟩ := QA.out.cells
  simp only at a0 a1 a2 a3 a4 a5
  obtain ⟨fa0, fa1, fa2, fa3, fa4, fa5⟩ := QA.out.free
  go_upto_region 4 with fail
  clear b0 b1 b2 b3 b4 b5 a0 a1 a2 a3 a4 a5 fa0 fa1 fa2 fa3 fa4 fa5
  have KB : Hid (Kept v (W1.setCell ⟨ga, 0, none⟩ (.int .i64 m1))) := Lib.hid (KA.out.setCell (p := ⟨ga, 0, none⟩) (by rw [hga]; exact Nat.le_refl _) _)
  have QB : Hid (Hs (W1.setCell ⟨ga, 0, none⟩ (.int .i64 m1)) ga 26 ⟨m1, ps, so, xr, xs, xv⟩ A xv.length c) := Lib.hid (QA.out.set0 m1)
  generalize W1.setCell ⟨ga, 0, none⟩ (.int .i64 m1) = W2 at *
  have PB := Lib.hid (P1.out.kept KB.out)
  obtain ⟨b0, b1, b2, b3, b4, b5⟩ := PB.out.cells
  simp only at b0 b1 b2 b3 b4 b5
  go_upto_region 5 with fail
  clear b0 b1 b2 b3 b4 b5
  have KC : Hid (Kept W2 (W2.alloc (.cells #[.int .i64 pr, .int .i64 ps, .bool so, .int .i64 xr, .int .i64 xs, .slice A xv.length c] 26))) := Lib.hid ((Kept.refl W2).alloc _)
  have QC : Hid (Hs (W2.alloc (.cells #[.int .i64 pr, .int .i64 ps, .bool so, .int .i64 xr, .int .i64 xs, .slice A xv.length c] 26)) W2.heap.size 26 ⟨pr, ps, so, xr, xs, xv⟩ A xv.length c) := Lib.hid (push_new W2 _)
  have hgb : ga < W2.heap.size := heap_lt QB.out
  generalize W2.alloc (.cells #[.int .i64 pr, .int .i64 ps, .bool so, .int .i64 xr, .int .i64 xs, .slice A xv.length c] 26) = W3 at *
  generalize hgb2 : W2.heap.size = gb at *
  have PC := Lib.hid (PB.out.kept KC.out)
  obtain ⟨b0, b1, b2, b3, b4, b5⟩ := PC.out.cells
  simp only at b0 b1 b2 b3 b4 b5
  obtain ⟨a0, a1, a2, a3, a4, a5⟩ := QC.out.cells
  simp only at a0 a1 a2 a3 a4 a5
  obtain ⟨fa0, fa1, fa2, fa3, fa4, fa5⟩ := QC.out.free
  go_upto_region 6 with fail
  clear b0 b1 b2 b3 b4 b5 a0 a1 a2 a3 a4 a5 fa0 fa1 fa2 fa3 fa4 fa5
  have KD : Hid (Kept W2 (W3.setCell ⟨gb, 4, none⟩ (.int .i64 m2))) := Lib.hid (KC.out.setCell (p := ⟨gb, 4, none⟩) (by rw [hgb2]; exact Nat.le_refl _) _)
  have QD : Hid (Hs (W3.setCell ⟨gb, 4, none⟩ (.int .i64 m2)) gb 26 ⟨pr, ps, so, xr, m2, xv⟩ A xv.length c) := Lib.hid (QC.out.set4 m2)
  generalize W3.setCell ⟨gb, 4, none⟩ (.int .i64 m2) = W4 at *
  have PD := Lib.hid (PB.out.kept KD.out)
  obtain ⟨b0, b1, b2, b3, b4, b5⟩ := PD.out.cells
  simp only at b0 b1 b2 b3 b4 b5
  go_upto_region 7 with fail
  clear b0 b1 b2 b3 b4 b5
  have KE : Hid (Kept W4 (W4.alloc (.cells #[.int .i64 pr, .int .i64 ps, .bool so, .int .i64 xr, .int .i64 xs, .slice A xv.length c] 26))) := Lib.hid ((Kept.refl W4).alloc _)
  have QE : Hid (Hs (W4.alloc (.cells #[.int .i64 pr, .int .i64 ps, .bool so, .int .i64 xr, .int .i64 xs, .slice A xv.length c] 26)) W4.heap.size 26 ⟨pr, ps, so, xr, xs, xv⟩ A xv.length c) := Lib.hid (push_new W4 _)
  have hgc : gb < W4.heap.size := heap_lt QD.out
  generalize W4.alloc (.cells #[.int .i64 pr, .int .i64 ps, .bool so, .int .i64 xr, .int .i64 xs, .slice A xv.length c] 26) = W5 at *
  generalize hgc2 : W4.heap.size = gc at *
  have PE := Lib.hid (PD.out.kept KE.out)
  have HRE := Lib.hid (HRV.out.below (KB.out.trans (KD.out.trans KE.out)).1)
  have own0 : Own (W5.alloc (.cells #[] 5)) W5.heap.size (.slice (some ⟨W5.heap.size, 0, none⟩) 0 0) [] := Own.lit [] (Nat.le_refl _) (by simp)
  have O0 := Lib.hid own0
  have KF : Hid (Kept W5 (W5.alloc (.cells #[] 5))) := Lib.hid ((Kept.refl W5).alloc _)
  obtain ⟨b0, b1, b2, b3, b4, b5⟩ := (PE.out.kept KF.out).cells
  simp only at b0 b1 b2 b3 b4 b5
  clear own0
  go_upto_region 8 with (first
    | (at_builtin
       refine wpList_append_bts rfl (.tmp 24) (.tmp 26) rfl (v := .slice (some ⟨W5.heap.size, 0, none⟩) 0 0) (base := W5.heap.size) (ds := []) (bs := xv) (n := xv.length) rfl rfl O0.out (HRE.out.below KF.out.1).bts HRE.out.nil (by have := HLEN.out; simp; omega) KF.out.2 ?_
       intro v6 w6 own6 gr6 at6
       have K6 := Lib.hid ((KF.out.append O0.out gr6).alloc (.cells #[.int .u8 0] 5))
       have G6 := Lib.hid (KF.out.append O0.out gr6)
       obtain ⟨A6, n6, c6, rfl⟩ := own6.slice
       have O6 := Lib.hid (own6.alloc' (.cells #[.int .u8 0] 5))
       clear own6 gr6 at6)
    | (at_builtin
       refine wpList_append_bts rfl (.tmp 27) (.tmp 28) rfl (v := .slice A6 n6 c6) (base := W5.heap.size) (ds := [] ++ xv) (bs := [0]) (n := 1) rfl rfl O6.out (bts_one w6 5 (0, 0) rfl (by decide)) (by simp) (by have := HLEN.out; rw [List.nil_append]; omega) K6.out.2 ?_
       intro v7 w7 own7 gr7 at7
       have K7 := Lib.hid (K6.out.append O6.out gr7)
       rw [List.nil_append] at own7
       obtain ⟨A7, c7, rfl, hrow7⟩ := own7.row (by have := HLEN.out; rw [List.length_append, List.length_singleton]; omega) (by
         intro y hy
         rcases List.mem_append.1 hy with h | h
         · exact HRE.out.bts.2.2.1 y h
         · simp only [List.mem_singleton] at h; omega)
       have R7 := Lib.hid hrow7
       have q7 := QE.out.kept K7.out
       have Q7 := Lib.hid q7
       obtain ⟨g0, g1, g2, g3, g4, g5⟩ := q7.free
       obtain ⟨h0, h1, h2, h3, h4, h5⟩ := q7.cells
       clear own7 gr7 at7 hrow7 q7)
    | fail)
  have e7 : (xv ++ [0]).length = xv.length + 1 := by simp
  have K8 : Hid (Kept W4 (w7.setCell ⟨gc, 5, none⟩ (.slice A7 (xv.length + 1) c7))) := Lib.hid ((KE.out.trans K7.out).setCell (p := ⟨gc, 5, none⟩) (by rw [hgc2]; exact Nat.le_refl _) _)
  have Q8 : Hid (Hs (w7.setCell ⟨gc, 5, none⟩ (.slice A7 (xv.length + 1) c7)) gc 26 ⟨pr, ps, so, xr, xs, xv ++ [0]⟩ A7 (xv.length + 1) c7) := Lib.hid (Q7.out.set5 (xv ++ [0]))
  have R8 : Hid (Row (w7.setCell ⟨gc, 5, none⟩ (.slice A7 (xv.length + 1) c7)) A7 (xv.length + 1) c7 (xv ++ [0])) := Lib.hid (by have := R7.out.far6 Q7.out 5 (.slice A7 (xv.length + 1) c7); rwa [e7] at this)
  clear e7 g0 g1 g2 g3 g4 g5 h5
  generalize w7.setCell ⟨gc, 5, none⟩ (.slice A7 (xv.length + 1) c7) = W8 at *
  have P8 := Lib.hid (PD.out.kept K8.out)
  obtain ⟨b0, b1, b2, b3, b4, b5⟩ := P8.out.cells
  simp only at b0 b1 b2 b3 b4 b5
  go_upto_region 9 with fail
  clear b0 b1 b2 b3 b4 b5
  have KG : Hid (Kept W8 (W8.alloc (.cells #[.int .i64 pr, .int .i64 ps, .bool so, .int .i64 xr, .int .i64 xs, .slice A xv.length c] 26))) := Lib.hid ((Kept.refl W8).alloc _)
  have QG : Hid (Hs (W8.alloc (.cells #[.int .i64 pr, .int .i64 ps, .bool so, .int .i64 xr, .int .i64 xs, .slice A xv.length c] 26)) W8.heap.size 26 ⟨pr, ps, so, xr, xs, xv⟩ A xv.length c) := Lib.hid (push_new W8 _)
  generalize W8.alloc (.cells #[.int .i64 pr, .int .i64 ps, .bool so, .int .i64 xr, .int .i64 xs, .slice A xv.length c] 26) = W9 at *
  generalize hgd : W8.heap.size = gd at *
  obtain ⟨b0, b1, b2, b3, b4, b5⟩ := (P8.out.kept KG.out).cells
  simp only at b0 b1 b2 b3 b4 b5
  obtain ⟨a0, a1, a2, a3, a4, a5⟩ := QG.out.cells
  simp only at a0 a1 a2 a3 a4 a5
  obtain ⟨fa0, fa1, fa2, fa3, fa4, fa5⟩ := QG.out.free
  go_upto_region 10 with fail
  clear b0 b1 b2 b3 b4 b5 a0 a1 a2 a3 a4 a5 fa0 fa1 fa2 fa3 fa4 fa5
  have KH : Hid (Kept W8 (W9.setCell ⟨gd, 2, none⟩ (.bool (!so)))) := Lib.hid (KG.out.setCell (p := ⟨gd, 2, none⟩) (by rw [hgd]; exact Nat.le_refl _) _)
  have QH : Hid (Hs (W9.setCell ⟨gd, 2, none⟩ (.bool (!so))) gd 26 ⟨pr, ps, !so, xr, xs, xv⟩ A xv.length c) := Lib.hid (QG.out.set2 (!so))
  generalize W9.setCell ⟨gd, 2, none⟩ (.bool (!so)) = W10 at *
  have HF : Hid (∀ W, Kept W10 W → Hs W B0 26 ⟨pr, ps, so, xr, xs, xv⟩ A xv.length c ∧ Hs W ga 26 ⟨m1, ps, so, xr, xs, xv⟩ A xv.length c ∧ Hs W gb 26 ⟨pr, ps, so, xr, m2, xv⟩ A xv.length c ∧ Hs W gc 26 ⟨pr, ps, so, xr, xs, xv ++ [0]⟩ A7 (xv.length + 1) c7 ∧ Hs W gd 26 ⟨pr, ps, !so, xr, xs, xv⟩ A xv.length c ∧ Row W A xv.length c xv ∧ Row W A7 (xv.length + 1) c7 (xv ++ [0])) := Lib.hid (fun W k => by
    have k4 : Kept W4 W := (K8.out.trans KH.out).trans k
    have k8 : Kept W8 W := KH.out.trans k
    exact ⟨PD.out.kept k4, QB.out.kept (KD.out.trans k4), QD.out.kept k4, Q8.out.kept k8, QH.out.kept k, HRV.out.below ((KB.out.trans KD.out).trans k4).1, R8.out.below k8.1⟩)
  have KK : Hid (Kept w W10) := Lib.hid ((K1.out.trans (KB.out.trans KD.out)).trans (K8.out.trans KH.out))
  have E0 : Hid (∀ W, Kept W10 W → Calls Try.prog 16 #[.agg #[.int .i64 pr, .int .i64 ps, .bool so, .int .i64 xr, .int .i64 xs, .slice A xv.length c], .agg #[.int .i64 pr, .int .i64 ps, .bool so, .int .i64 xr, .int .i64 xs, .slice A xv.length c]] W fun e w' => e = .returned (.bool true) ∧ Kept W w') := Lib.hid (fun W k => by
    obtain ⟨-, -, -, -, -, r1, r2⟩ := HF.out W k
    have := acsame_any (x := ⟨pr, ps, so, xr, xs, xv⟩) (y := ⟨pr, ps, so, xr, xs, xv⟩) r1 r1
    rwa [same_self] at this)
  have E1 : Hid (∀ W, Kept W10 W → Calls Try.prog 16 #[.agg #[.int .i64 pr, .int .i64 ps, .bool so, .int .i64 xr, .int .i64 xs, .slice A xv.length c], .agg #[.int .i64 m1, .int .i64 ps, .bool so, .int .i64 xr, .int .i64 xs, .slice A xv.length c]] W fun e w' => e = .returned (.bool false) ∧ Kept W w') := Lib.hid (fun W k => by
    obtain ⟨-, -, -, -, -, r1, r2⟩ := HF.out W k
    have := acsame_any (x := ⟨pr, ps, so, xr, xs, xv⟩) (y := ⟨m1, ps, so, xr, xs, xv⟩) r1 r1
    rwa [show sameA ⟨pr, ps, so, xr, xs, xv⟩ ⟨m1, ps, so, xr, xs, xv⟩ = false from by unfold sameA; simp; exact fun h => N1.out h.symm] at this)
  have E2 : Hid (∀ W, Kept W10 W → Calls Try.prog 16 #[.agg #[.int .i64 pr, .int .i64 ps, .bool so, .int .i64 xr, .int .i64 m2, .slice A xv.length c], .agg #[.int .i64 pr, .int .i64 ps, .bool so, .int .i64 xr, .int .i64 xs, .slice A xv.length c]] W fun e w' => e = .returned (.bool false) ∧ Kept W w') := Lib.hid (fun W k => by
    obtain ⟨-, -, -, -, -, r1, r2⟩ := HF.out W k
    have := acsame_any (x := ⟨pr, ps, so, xr, m2, xv⟩) (y := ⟨pr, ps, so, xr, xs, xv⟩) r1 r1
    rwa [show sameA ⟨pr, ps, so, xr, m2, xv⟩ ⟨pr, ps, so, xr, xs, xv⟩ = false from by unfold sameA; simp; exact N2.out] at this)
  have E3 : Hid (∀ W, Kept W10 W → Calls Try.prog 16 #[.agg #[.int .i64 pr, .int .i64 ps, .bool so, .int .i64 xr, .int .i64 xs, .slice A xv.length c], .agg #[.int .i64 pr, .int .i64 ps, .bool so, .int .i64 xr, .int .i64 xs, .slice A7 (xv.length + 1) c7]] W fun e w' => e = .returned (.bool false) ∧ Kept W w') := Lib.hid (fun W k => by
    obtain ⟨-, -, -, -, -, r1, r2⟩ := HF.out W k
    have e7 : (xv ++ [0]).length = xv.length + 1 := by simp
    have := acsame_any (x := ⟨pr, ps, so, xr, xs, xv⟩) (y := ⟨pr, ps, so, xr, xs, xv ++ [0]⟩) (B := A7) (d := c7) r1 (by show Row W A7 (xv ++ [0]).length c7 (xv ++ [0]); rw [e7]; exact r2)
    rw [show sameA ⟨pr, ps, so, xr, xs, xv⟩ ⟨pr, ps, so, xr, xs, xv ++ [0]⟩ = false from by unfold sameA; simp] at this
    simpa only [acv, e7] using this)
  have E4 : Hid (∀ W, Kept W10 W → Calls Try.prog 16 #[.agg #[.int .i64 pr, .int .i64 ps, .bool so, .int .i64 xr, .int .i64 xs, .slice A xv.length c], .agg #[.int .i64 pr, .int .i64 ps, .bool (!so), .int .i64 xr, .int .i64 xs, .slice A xv.length c]] W fun e w' => e = .returned (.bool false) ∧ Kept W w') := Lib.hid (fun W k => by
    obtain ⟨-, -, -, -, -, r1, r2⟩ := HF.out W k
    have := acsame_any (x := ⟨pr, ps, so, xr, xs, xv⟩) (y := ⟨pr, ps, !so, xr, xs, xv⟩) r1 r1
    rwa [show sameA ⟨pr, ps, so, xr, xs, xv⟩ ⟨pr, ps, !so, xr, xs, xv⟩ = false from by unfold sameA; cases so <;> simp] at this)
  clear K1 P1 HR HRV KA QA PA KB QB PB KC QC PC KD QD PD KE QE PE HRE O0 KF K6 G6 O6 K7 R7 Q7 K8 Q8 R8 P8 KG QG KH QH N1 N2 HLEN hga hgb hgb2 hgc hgc2 hgd
  obtain ⟨fs, fa, fb, fc, fd, -, -⟩ := HF.out W10 (Kept.refl W10)
  obtain ⟨x00, x01, x02, x03, x04, x05⟩ := fs.cells
  simp only at x00 x01 x02 x03 x04 x05
  clear fs fa fb fc fd
  go_wp2_with fail
  refine (E0.out _ (Kept.refl W10)).mono ?_
  rintro e u10 ⟨rfl, kk0⟩
  have J0 : Hid (Kept W10 u10) := Lib.hid ((Kept.refl W10).trans kk0)
  clear kk0
  obtain ⟨fs, fa, fb, fc, fd, -, -⟩ := HF.out u10 J0.out
  obtain ⟨x10, x11, x12, x13, x14, x15⟩ := fa.cells
  simp only at x10 x11 x12 x13 x14 x15
  obtain ⟨y10, y11, y12, y13, y14, y15⟩ := fs.cells
  simp only at y10 y11 y12 y13 y14 y15
  clear fs fa fb fc fd
  go_wp2_with fail
  refine (E1.out _ J0.out).mono ?_
  rintro e u11 ⟨rfl, kk1⟩
  have J1 : Hid (Kept W10 u11) := Lib.hid (J0.out.trans kk1)
  clear kk1
  obtain ⟨fs, fa, fb, fc, fd, -, -⟩ := HF.out u11 J1.out
  obtain ⟨x20, x21, x22, x23, x24, x25⟩ := fb.cells
  simp only at x20 x21 x22 x23 x24 x25
  obtain ⟨y20, y21, y22, y23, y24, y25⟩ := fs.cells
  simp only at y20 y21 y22 y23 y24 y25
  clear fs fa fb fc fd
  go_wp2_with fail
  refine (E2.out _ J1.out).mono ?_
  rintro e u12 ⟨rfl, kk2⟩
  have J2 : Hid (Kept W10 u12) := Lib.hid (J1.out.trans kk2)
  clear kk2
  obtain ⟨fs, fa, fb, fc, fd, -, -⟩ := HF.out u12 J2.out
  obtain ⟨x30, x31, x32, x33, x34, x35⟩ := fc.cells
  simp only at x30 x31 x32 x33 x34 x35
  obtain ⟨y30, y31, y32, y33, y34, y35⟩ := fs.cells
  simp only at y30 y31 y32 y33 y34 y35
  clear fs fa fb fc fd
  go_wp2_with fail
  refine (E3.out _ J2.out).mono ?_
  rintro e u13 ⟨rfl, kk3⟩
  have J3 : Hid (Kept W10 u13) := Lib.hid (J2.out.trans kk3)
  clear kk3
  obtain ⟨fs, fa, fb, fc, fd, -, -⟩ := HF.out u13 J3.out
  obtain ⟨x40, x41, x42, x43, x44, x45⟩ := fd.cells
  simp only at x40 x41 x42 x43 x44 x45
  obtain ⟨y40, y41, y42, y43, y44, y45⟩ := fs.cells
  simp only at y40 y41 y42 y43 y44 y45
  clear fs fa fb fc fd
  go_wp2_with fail
  refine (E4.out _ J3.out).mono ?_
  rintro e u14 ⟨rfl, kk4⟩
  have J4 : Hid (Kept W10 u14) := Lib.hid (J3.out.trans kk4)
  clear kk4
  go_wp2
  go_ret
  exact ⟨by go_simp, (KK.out.trans J4.out).1⟩
end Go.Proofs.Ytlcmfikekbbgjaa
