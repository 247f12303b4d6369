/- The walk of AcceptorTwice. -/
import Derived.Test.YtlcmfikekbbgjaaAccX
namespace Go.Proofs.Ytlcmfikekbbgjaa
open Go.RowKit

set_option maxRecDepth 100000 in
set_option maxHeartbeats 4000000 in
theorem AcceptorTwice_walk (a0 : Option Addr) (len0 cap0 : Nat) (a1 : List Value) (w : World) (w0 : SliceAt 4 48 (fun w cs => cs.length = 4 ∧ IsStruct [(0, 2, (fun w cs => cs.length = 2 ∧ IsStruct [(0, 1, (IsInt .i64)), (1, 1, (IsInt .i64))] w cs)), (2, 1, IsBool), (3, 1, (IsSlice 1 1 (IsInt .u8)))] w cs) w a0 len0 cap0) (w1 : (fun w cs => cs.length = 4 ∧ IsStruct [(0, 2, (fun w cs => cs.length = 2 ∧ IsStruct [(0, 1, (IsInt .i64)), (1, 1, (IsInt .i64))] w cs)), (2, 1, IsBool), (3, 1, (IsSlice 1 1 (IsInt .u8)))] w cs : World → List Value → Prop) w a1) :
    Calls Try.prog 5 #[.slice a0 len0 cap0, .agg a1.toArray] w fun e w' => e = .returned (.bool true) ∧ Below w.heap.size w w' := by
  obtain ⟨l, hl, hmax, hls⟩ := asks_of w0
  obtain ⟨a, B, d, rfl, hrow⟩ := ask_of w1
  obtain ⟨ar, at_, ap, av⟩ := a
  have HL := Lib.hid hl
  have HLS := Lib.hid hls
  have HB := Lib.hid hrow
  clear w0 w1 hl hls hrow
  have KV : Hid (Kept w (w.alloc (.cells #[.int .i64 ar, .int .i64 at_, .bool ap, .slice B av.length d] 46))) := Lib.hid ((Kept.refl w).alloc _)
  have PV : Hid ((w.alloc (.cells #[.int .i64 ar, .int .i64 at_, .bool ap, .slice B av.length d] 46)).heap[w.heap.size]? = some (.cells #[.int .i64 ar, .int .i64 at_, .bool ap, .slice B av.length d] 46 (0, 0))) := Lib.hid (push_new w _)
  go_enter Try.func5, Try.ntmps5
  go_wp2_with fail
  refine (acawake_any _).mono ?_
  rintro e u1 ⟨rfl, k1⟩
  generalize w.alloc (.cells #[.int .i64 ar, .int .i64 at_, .bool ap, .slice B av.length d] 46) = v at *
  have S0 := Lib.hid (St.start v u1 k1)
  clear k1
  go_wp2_with fail
  generalize u1.heap.size = g at *
  generalize u1.alloc (.cells #[.int .i64 0, .int .i64 0, .bool false, .int .i64 0, .int .i64 0, .slice none 0 0] 26) = W0 at *
  go_loopw [7] (fun i wr => ∃ k : Nat, k ≤ len0 ∧ i = .int .i64 k ∧ St v wr g (runA Ac.zero (l.take k))) (fun i _ => len0 - (intOf i).toNat)
  case atStart => exact ⟨0, Nat.zero_le _, rfl, S0.out⟩
  case round =>
    obtain ⟨k, hk, rfl, hst⟩ := hrel
    by_cases hc : k < len0 ∧ k < 100
    · obtain ⟨hlt, h100⟩ := hc
      have hkl : k < l.length := by rw [HL.out]; exact hlt
      obtain ⟨b, off, rfl, hask⟩ := HLS.out k hkl
      have hask := hask.kept (KV.out.trans hst.kept)
      have HSN : Hid (runA Ac.zero (l.take (k + 1)) = told (runA Ac.zero (l.take k)) (ansA (runA Ac.zero (l.take k)) l[k])) := Lib.hid (by rw [List.take_succ_eq_append_getElem hkl, runA_snoc])
      generalize l[k] = q at *
      generalize runA Ac.zero (l.take k) = x at *
      obtain ⟨y, bb, hyb⟩ : ∃ y bb, told x (ansA x q) = y ∧ (ansA x q).isSome = bb := ⟨_, _, rfl, rfl⟩
      have HST := Lib.hid hst
      obtain ⟨A, c, hhs, hrow⟩ := hst.row
      obtain ⟨hb, a0c, a1c, a2c, QA, qc, a3c, qrow⟩ := hask
      obtain ⟨pr, ps, so, xr, xs, xv⟩ := x
      obtain ⟨qr, qs, qp, qv⟩ := q
      have HYB := Lib.hid hyb
      have TC : Hid (∀ W, Kept wr.drew W → Calls Try.prog 19 #[.agg #[.int .i64 pr, .int .i64 ps, .bool so, .int .i64 xr, .int .i64 xs, .slice A xv.length c], .agg #[.int .i64 qr, .int .i64 qs, .bool qp, .slice QA qv.length qc]] W fun e w' => ∃ v, e = .returned v ∧ Kept W w' ∧ ToldT y bb v w') := Lib.hid (fun W hk => by
        have k' : Kept wr W := (Kept.refl wr).drew.trans hk
        rw [← hyb.1, ← hyb.2]
        exact answer_any ⟨pr, ps, so, xr, xs, xv⟩ ⟨qr, qs, qp, qv⟩ A QA c qc (hrow.below k'.1) (qrow.below k'.1))
      simp only at a0c a1c a2c a3c hhs
      have T1 : Hid (∀ W, Kept wr.drew W → W.cell? ⟨g, 0, none⟩ = some (.int .i64 pr) ∧ W.cell? ⟨g, 1, none⟩ = some (.int .i64 ps) ∧ W.cell? ⟨g, 2, none⟩ = some (.bool so) ∧ W.cell? ⟨g, 3, none⟩ = some (.int .i64 xr) ∧ W.cell? ⟨g, 4, none⟩ = some (.int .i64 xs) ∧ W.cell? ⟨g, 5, none⟩ = some (.slice A xv.length c)) := Lib.hid (fun W hk => (hhs.kept ((Kept.refl wr).drew.trans hk)).cells)
      have T2 : Hid (∀ W, Kept wr.drew W → W.cell? ⟨b, off + k * 4, none⟩ = some (.int .i64 qr) ∧ W.cell? ⟨b, off + k * 4 + 1, none⟩ = some (.int .i64 qs) ∧ W.cell? ⟨b, off + k * 4 + 2, none⟩ = some (.bool qp) ∧ W.cell? ⟨b, off + k * 4 + 3, none⟩ = some (.slice QA qv.length qc)) := Lib.hid (fun W hk => by
        have k' : Kept wr W := (Kept.refl wr).drew.trans hk
        exact ⟨(k'.cell (p := ⟨b, off + k * 4, none⟩) hb).trans a0c, (k'.cell (p := ⟨b, off + k * 4 + 1, none⟩) hb).trans a1c, (k'.cell (p := ⟨b, off + k * 4 + 2, none⟩) hb).trans a2c, (k'.cell (p := ⟨b, off + k * 4 + 3, none⟩) hb).trans a3c⟩)
      clear hyb hst hrow hhs a0c a1c a2c a3c qrow hb
      go_wp2_with fail
      refine wp_region_typed (N := 10) (fl := [false, false, false, false, false, false, false, false, true]) (by kernel_rfl) (by kernel_rfl) ?_
      simp only [List.take_succ_cons, List.take_zero, List.drop_succ_cons, List.drop_zero, List.map_cons, List.map_nil, zipF]
      repeat (first
        | (refine wpT_has (PtrA.mono wr.heap.size) rfl (fun ρ w hk ⟨c1, c2, c3⟩ _ => upT_made (.pointer (some ⟨w.heap.size, 0, none⟩)) (w' := w.alloc (.cells #[.int .i64 0, .int .i64 0, .bool false, .int .i64 0, .int .i64 0, .slice none 0 0] 26)) ?_ ((Kept.refl w).alloc _) ⟨_, rfl, hk.2, push_new w _⟩) ?_; (· go_simp); dsimp only [putS, List.set_cons_succ, List.set_cons_zero])
        | (refine wpT_slot (S := .has _) _ (.inl rfl) rfl (ToldT.mono _ _) rfl ?_; dsimp only [putS, List.set_cons_succ, List.set_cons_zero])
        | (refine wpT_has (ToldT.mono y bb) rfl (fun ρ w hk ⟨c1, c2, c3⟩ ⟨h1, h2, _⟩ => ?_) ?_
           · have h1 : ρ (.tmp 27) = _ := h1
             have h2 : ρ (.tmp 31) = _ := h2
             refine upT_call 19 #[.agg #[.int .i64 pr, .int .i64 ps, .bool so, .int .i64 xr, .int .i64 xs, .slice A xv.length c], .agg #[.int .i64 qr, .int .i64 qs, .bool qp, .slice QA qv.length qc]] ?_ ((TC.out w hk).mono ?_)
             · go_simp
             · rintro e u ⟨v, rfl, hk2, ht⟩
               exact ⟨_, rfl, hk2, ht⟩
           dsimp only [putS, List.set_cons_succ, List.set_cons_zero])
        | (refine wpT_has (AcT.mono y) rfl (fun ρ w hk ⟨c1, c2, c3⟩ ⟨h1, _⟩ => ?_) ?_
           · obtain ⟨A', c', h1, hr⟩ := h1
             refine upT_made (acv y A' y.val.length c') ?_ (Kept.refl _) ⟨A', c', rfl, hr⟩
             go_simp
           dsimp only [putS, List.set_cons_succ, List.set_cons_zero])
        | (refine wpT_late (v := .bool bb) rfl (fun ρ w hk ⟨c1, c2, c3⟩ ⟨h1, _⟩ => ?_) ?_
           · obtain ⟨A', c', h1, hr⟩ := h1
             intro w'
             go_simp
           dsimp only [putS, List.set_cons_succ, List.set_cons_zero])
        | (refine wpT_skip rfl ?_; dsimp only [putS, List.set_cons_succ, List.set_cons_zero])
        | (refine wpT_slot (S := .is _) _ (.inl rfl) rfl (Slot.mono_is _) rfl ?_; dsimp only [putS, List.set_cons_succ, List.set_cons_zero])
        | (refine wpT_slot (S := .is _) _ (.inr rfl) rfl (Slot.mono_is _) rfl ?_; dsimp only [putS, List.set_cons_succ, List.set_cons_zero])
        | (refine wpT_exact1 rfl rfl rfl ?_; apply Exists.intro; refine ⟨fun ρ w hk ⟨c1, c2, c3⟩ h1 => ?_, ?_⟩; (· obtain ⟨t1, t2, t3, t4, t5, t6⟩ := T1.out w hk; obtain ⟨s1, s2, s3, s4⟩ := T2.out w hk; go_simp; exact rfl); dsimp only [putS, List.set_cons_succ, List.set_cons_zero])
        | (refine wpT_exact2 rfl rfl rfl rfl ?_; apply Exists.intro; refine ⟨fun ρ w hk ⟨c1, c2, c3⟩ h1 h2 => ?_, ?_⟩; (· obtain ⟨t1, t2, t3, t4, t5, t6⟩ := T1.out w hk; obtain ⟨s1, s2, s3, s4⟩ := T2.out w hk; go_simp; exact rfl); dsimp only [putS, List.set_cons_succ, List.set_cons_zero])
        | (refine wpT_exact3 rfl rfl rfl rfl rfl ?_; apply Exists.intro; refine ⟨fun ρ w hk ⟨c1, c2, c3⟩ h1 h2 h3 => ?_, ?_⟩; (· obtain ⟨t1, t2, t3, t4, t5, t6⟩ := T1.out w hk; obtain ⟨s1, s2, s3, s4⟩ := T2.out w hk; go_simp; exact rfl); dsimp only [putS, List.set_cons_succ, List.set_cons_zero])
        | (refine wpT_exact4 rfl rfl rfl rfl rfl rfl ?_; apply Exists.intro; refine ⟨fun ρ w hk ⟨c1, c2, c3⟩ h1 h2 h3 h4 => ?_, ?_⟩; (· obtain ⟨t1, t2, t3, t4, t5, t6⟩ := T1.out w hk; obtain ⟨s1, s2, s3, s4⟩ := T2.out w hk; go_simp; exact rfl); dsimp only [putS, List.set_cons_succ, List.set_cons_zero])
        | (refine wpT_exact0 rfl ?_; apply Exists.intro; refine ⟨fun ρ w hk ⟨c1, c2, c3⟩ => ?_, ?_⟩; (· obtain ⟨t1, t2, t3, t4, t5, t6⟩ := T1.out w hk; obtain ⟨s1, s2, s3, s4⟩ := T2.out w hk; go_simp; exact rfl); dsimp only [putS, List.set_cons_succ, List.set_cons_zero])
        | fail)
      refine wpT_nil ?_
      intro wz kz
      simp only [Fits]
      rintro uz ⟨z, rfl, hz, hvz⟩ um - uc - ue ⟨A', c', rfl, hr⟩
      have kz' : Kept wr wz := (Kept.refl wr).drew.trans kz
      obtain ⟨A1, c1, q1, -⟩ := HST.out.row
      have hgl : g < wr.heap.size := heap_lt q1
      have hzg : z ≠ g := by omega
      have hgz : g ≠ z := by omega
      have q2 := q1.kept kz'
      obtain ⟨d0, d1, d2, d3, d4, d5⟩ := q2.cells
      obtain ⟨e0, e1, e2, e3, e4, e5⟩ := q2.free
      obtain ⟨z0, z1, z2, z3, z4, z5⟩ := hvz.cells
      obtain ⟨f0, f1, f2, f3, f4, f5⟩ := hvz.free
      have HR := Lib.hid hr
      have HVZ := Lib.hid hvz
      have KZ := Lib.hid kz'
      have HZ := Lib.hid hz
      simp only [Ac.zero] at z0 z1 z2 z3 z4 z5
      clear kz kz' hr hvz q1 q2 hz
      obtain ⟨yr, yt, yo, za, zs, yv⟩ := y
      simp only [acv]
      go_wp2_with fail
      refine only_end ?_
      go_wp2_with fail
      refine ⟨⟨k + 1, by omega, by go_num, ?_⟩, by simp [intOf]; omega⟩
      have hend := (HST.out.round (y := ⟨yr, yt, yo, za, zs, yv⟩) KZ.out HZ.out HVZ.out HR.out).1
      rw [HSN.out, HYB.out.1]
      with_reducible exact hend
    · have hex : k < len0 ∧ ¬ k < 100 ∨ k = len0 := by omega
      clear hc
      rcases hex with ⟨hlt, h100⟩ | rfl
      all_goals
        have hpv := (hst.kept.1.block _ (heap_lt PV.out)).trans PV.out
        have hbr := HB.out.below (KV.out.trans hst.kept).1
        generalize runA Ac.zero (l.take k) = x at *
        obtain ⟨y, bb, hyb⟩ : ∃ y bb, told x (ansA x ⟨ar, at_, ap, av⟩) = y ∧ (ansA x ⟨ar, at_, ap, av⟩).isSome = bb := ⟨_, _, rfl, rfl⟩
        have htw := ans_twice x ⟨ar, at_, ap, av⟩
        rw [hyb.1, hyb.2] at htw
        have KST := Lib.hid (KV.out.trans hst.kept)
        obtain ⟨A, c, hhs, hrow⟩ := hst.row
        obtain ⟨pr, ps, so, xr, xs, xv⟩ := x
        obtain ⟨yr, yt, yo, za, zs, yv⟩ := y
        have TC : Hid (Calls Try.prog 19 #[.agg #[.int .i64 pr, .int .i64 ps, .bool so, .int .i64 xr, .int .i64 xs, .slice A xv.length c], .agg #[.int .i64 ar, .int .i64 at_, .bool ap, .slice B av.length d]] wr fun e w' => ∃ v, e = .returned v ∧ Kept wr w' ∧ ToldT ⟨yr, yt, yo, za, zs, yv⟩ bb v w') := Lib.hid (by
          rw [← hyb.1, ← hyb.2]
          exact answer_any ⟨pr, ps, so, xr, xs, xv⟩ ⟨ar, at_, ap, av⟩ A B c d hrow hbr)
        have TD : Hid (∀ W A2 c2, Row W A2 yv.length c2 yv → Row W B av.length d av → Calls Try.prog 19 #[.agg #[.int .i64 yr, .int .i64 yt, .bool yo, .int .i64 za, .int .i64 zs, .slice A2 yv.length c2], .agg #[.int .i64 ar, .int .i64 at_, .bool ap, .slice B av.length d]] W fun e w' => ∃ v, e = .returned v ∧ Kept W w' ∧ ToldT ⟨yr, yt, yo, za, zs, yv⟩ bb v w') := Lib.hid (fun W A2 c2 h1 h2 => by
          have := answer_any ⟨yr, yt, yo, za, zs, yv⟩ ⟨ar, at_, ap, av⟩ A2 B c2 d h1 h2
          rw [htw.1, htw.2] at this
          exact this)
        have TS : Hid (∀ W A2 c2 A3 c3, Row W A2 yv.length c2 yv → Row W A3 yv.length c3 yv → Calls Try.prog 16 #[.agg #[.int .i64 yr, .int .i64 yt, .bool yo, .int .i64 za, .int .i64 zs, .slice A2 yv.length c2], .agg #[.int .i64 yr, .int .i64 yt, .bool yo, .int .i64 za, .int .i64 zs, .slice A3 yv.length c3]] W fun e w' => e = .returned (.bool true) ∧ Kept W w') := Lib.hid (fun W A2 c2 A3 c3 h1 h2 => by
          have := acsame_any (x := ⟨yr, yt, yo, za, zs, yv⟩) (y := ⟨yr, yt, yo, za, zs, yv⟩) h1 h2
          rw [same_self] at this
          exact this)
        obtain ⟨b0, b1, b2, b3, b4, b5⟩ := hhs.cells
        simp only at b0 b1 b2 b3 b4 b5
        have p0 := cell_of_heap hpv 0
        have p1 := cell_of_heap hpv 1
        have p2 := cell_of_heap hpv 2
        have p3 := cell_of_heap hpv 3
        simp only [List.getElem?_toArray, List.getElem?_cons_zero, List.getElem?_cons_succ] at p0 p1 p2 p3
        have HPV := Lib.hid hpv
        have HBR := Lib.hid hbr
        clear hyb htw hst hhs hrow hpv hbr
        go_wp2_with fail
        refine TC.out.mono ?_
        rintro e v2 ⟨vv, rfl, k2, A2, c2, rfl, r2⟩
        have K2 := Lib.hid k2
        have R2 := Lib.hid r2
        have KA : Hid (Kept v2 (v2.alloc (.cells #[.int .i64 yr, .int .i64 yt, .bool yo, .int .i64 za, .int .i64 zs, .slice A2 yv.length c2] 26))) := Lib.hid ((Kept.refl v2).alloc _)
        have hp2 := ((k2.trans KA.out).1.block _ (heap_lt HPV.out)).trans HPV.out
        have i0 := cell_of_heap hp2 0
        have i1 := cell_of_heap hp2 1
        have i2 := cell_of_heap hp2 2
        have i3 := cell_of_heap hp2 3
        simp only [List.getElem?_toArray, List.getElem?_cons_zero, List.getElem?_cons_succ] at i0 i1 i2 i3
        simp only [acv]
        clear k2 r2 hp2
        go_wp2_with fail
        refine (TD.out _ _ _ (R2.out.below KA.out.1) (HBR.out.below (K2.out.trans KA.out).1)).mono ?_
        rintro e v3 ⟨vv, rfl, k3, A3, c3, rfl, r3⟩
        have K3 := Lib.hid k3
        have R3 := Lib.hid r3
        have hy3 := (k3.1.block _ (by simp)).trans (push_new v2 (.cells #[.int .i64 yr, .int .i64 yt, .bool yo, .int .i64 za, .int .i64 zs, .slice A2 yv.length c2] 26))
        have KB : Hid (Kept v3 (v3.alloc (.cells #[.int .i64 yr, .int .i64 yt, .bool yo, .int .i64 za, .int .i64 zs, .slice A3 yv.length c3] 26))) := Lib.hid ((Kept.refl v3).alloc _)
        have hy4 : Hs (v3.alloc (.cells #[.int .i64 yr, .int .i64 yt, .bool yo, .int .i64 za, .int .i64 zs, .slice A3 yv.length c3] 26)) v2.heap.size 26 ⟨yr, yt, yo, za, zs, yv⟩ A2 yv.length c2 := (KB.out.1.block _ (heap_lt hy3)).trans hy3
        obtain ⟨j0, j1, j2, j3, j4, j5⟩ := hy4.cells
        simp only at j0 j1 j2 j3 j4 j5
        have hlt3 : v2.heap.size < v3.heap.size := heap_lt hy3
        simp only [acv]
        clear k3 r3 hy3 hy4
        go_wp2_with fail
        refine (TS.out _ _ _ _ _ (R2.out.below (KA.out.trans (K3.out.trans KB.out)).1) (R3.out.below KB.out.1)).mono ?_
        rintro e v4 ⟨rfl, k4⟩
        have K4 := Lib.hid k4
        clear k4
        go_wp2
        go_ret
        exact ⟨by go_simp, ((KST.out.trans (K2.out.trans (KA.out.trans K3.out))).trans (KB.out.trans K4.out)).1⟩
end Go.Proofs.Ytlcmfikekbbgjaa
