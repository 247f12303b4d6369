/- The walk of AcceptorMay. -/
import Derived.Test.YtlcmfikekbbgjaaAccX
namespace Go.Proofs.Ytlcmfikekbbgjaa
open Go.RowKit

set_option maxRecDepth 100000 in
set_option maxHeartbeats 4000000 in
theorem AcceptorMay_walk (a0 : Option Addr) (len0 cap0 : Nat) (a1 : Int) (w : World) (w0 : SliceAt 4 48 (fun w cs => cs.length = 4 ∧ IsStruct [(0, 2, (fun w cs => cs.length = 2 ∧ IsStruct [(0, 1, (IsInt .i64)), (1, 1, (IsInt .i64))] w cs)), (2, 1, IsBool), (3, 1, (IsSlice 1 1 (IsInt .u8)))] w cs) w a0 len0 cap0) (w1 : (Lit.int .u8 a1).wf = true) :
    Calls Try.prog 7 #[.slice a0 len0 cap0, .int .u8 a1] w fun e w' => e = .returned (.bool true) ∧ Below w.heap.size w w' := by
  obtain ⟨l, hl, hmax, hls⟩ := asks_of w0
  have hw1 : 0 ≤ a1 ∧ a1 < 256 := by have := bounds_u8 w1; omega
  have HL := Lib.hid hl
  have HLS := Lib.hid hls
  clear w0 w1 hl hls
  have m1 := Int.emod_nonneg a1 (show (7 : Int) ≠ 0 by omega)
  have m2 := Int.emod_lt_of_pos a1 (show (0 : Int) < 7 by omega)
  have t1 : a1.tmod 7 = a1 % 7 := Int.tmod_eq_emod_of_nonneg hw1.1
  generalize a1 % 7 = m at *
  have q1 : IntKind.u8.wrap m = m := by rw [IntKind.wrap_u8]; omega
  have q2 : IntKind.i64.wrap m = m := by rw [IntKind.wrap_i64]; omega
  have q3 : IntKind.i64.wrap (1 + m) = 1 + m := by rw [IntKind.wrap_i64]; omega
  go_enter Try.func7, Try.ntmps7
  go_wp2_with fail
  refine (acawake_any _).mono ?_
  rintro e v ⟨rfl, k1⟩
  have S0 := Lib.hid (St.start v v (Kept.refl v))
  have KV := Lib.hid k1
  clear k1
  go_wp2_with fail
  have hN : 1 ≤ 1 + m := by omega
  generalize 1 + m = N at *
  have HMZ := Lib.hid (may_zero hN)
  have HM0 := Lib.hid (fun W => acmay_any (w := W) (x := Ac.zero) (A := none) (c := 0) N)
  rw [HMZ.out] at HM0
  generalize hW0 : v.alloc (.cells #[.int .i64 0, .int .i64 0, .bool false, .int .i64 0, .int .i64 0, .slice none 0 0] 26) = W0 at *
  generalize v.heap.size = g at *
  clear m1 m2 t1 q1 q2 q3 hW0
  refine (HM0.out _).mono ?_
  rintro e W1 ⟨rfl, k1⟩
  have S1 := Lib.hid (S0.out.grow k1)
  clear k1
  go_wp2_with fail
  go_loopw [8] (fun i wr => ∃ (k : Nat) (x : Ac), k ≤ len0 ∧ i = .int .i64 k ∧ St v wr g x ∧ mayA x N = true) (fun i _ => len0 - (intOf i).toNat)
  case atStart => exact ⟨0, _, Nat.zero_le _, rfl, S1.out, HMZ.out⟩
  case round =>
    obtain ⟨k, x, hk, rfl, hst, hmx⟩ := hrel
    by_cases hc : k < len0 ∧ k < 100
    · obtain ⟨hlt, h100⟩ := hc
      have hkl : k < l.length := by rw [HL.out]; exact hlt
      obtain ⟨b, off, rfl, hask⟩ := HLS.out k hkl
      have hask := hask.kept (KV.out.trans hst.kept)
      generalize l[k] = q at *
      have HASK := Lib.hid hask
      have HST0 := Lib.hid hst
      have HMX := Lib.hid hmx
      obtain ⟨hb, a0c, a1c, a2c, QA, qc, a3c, qrow⟩ := hask
      have HMB := Lib.hid (refmay8_any q.r q.s N)
      obtain ⟨qr, qs, qp, qv⟩ := q
      simp only at a0c a1c a2c a3c HMB
      clear hst qrow
      cases hmb : mayB qr qs N with
      | false =>
        rw [hmb] at HMB
        clear hmb
        go_wp2_with fail
        refine (HMB.out _).mono ?_
        rintro e v2 ⟨rfl, hb2⟩
        have hst2 := Lib.hid (HST0.out.grow (Kept.call (Kept.refl _) hb2))
        clear hb2
        go_wp2_with fail
        exact ⟨⟨k + 1, x, by omega, by go_num, hst2.out, HMX.out⟩, by simp [intOf]; omega⟩
      | true =>
        rw [hmb] at HMB
        by_cases hlen : 2048 < qv.length
        · clear hmb
          generalize hql : qv.length = qn at *
          go_wp2_with fail
          refine (HMB.out _).mono ?_
          rintro e v2 ⟨rfl, hb2⟩
          have k2 : Kept wr v2 := Kept.call (Kept.refl _) hb2
          have hst2 := Lib.hid (HST0.out.grow k2)
          have c3 := (k2.cell (p := ⟨b, off + k * 4 + 3, none⟩) hb).trans a3c
          clear hb2 k2
          go_wp2_with fail
          exact ⟨⟨k + 1, x, by omega, by go_num, hst2.out, HMX.out⟩, by simp [intOf]; omega⟩
        · have HNX : Hid (mayA (told x (ansA x ⟨qr, qs, qp, qv⟩)) N = true) := Lib.hid (may_told HMX.out hmb (by show qv.length ≤ 2048; omega))
          clear hmb
          have HLEN := Lib.hid (show ¬ 2048 < qv.length from hlen)
          have hnl : ¬ (2048 : Int) < (qv.length : Int) := by omega
          go_wp2_with fail
          refine (HMB.out _).mono ?_
          rintro e v2 ⟨rfl, hb2⟩
          have k2 : Kept wr v2 := Kept.call (Kept.refl _) hb2
          have hst := HST0.out.grow k2
          have hask := HASK.out.kept k2
          generalize hq : (⟨qr, qs, qp, qv⟩ : Ak) = q at *
          clear hb2 hb a0c a1c a2c a3c hnl hlen HASK
          subst hq
          obtain ⟨y, bb, hyb⟩ : ∃ y bb, told x (ansA x ⟨qr, qs, qp, qv⟩) = y ∧ (ansA x ⟨qr, qs, qp, qv⟩).isSome = bb := ⟨_, _, rfl, rfl⟩
          have HST := Lib.hid hst
          obtain ⟨A, c, hhs, hrow⟩ := hst.row
          obtain ⟨hb, a0c, a1c, a2c, QA, qc, a3c, qrow⟩ := hask
          have cc3 := a3c
          obtain ⟨pr, ps, so, xr, xs, xv⟩ := x
          have HYB := Lib.hid hyb
          have TC : Hid (∀ W, Kept v2.drew W → Calls Try.prog 19 #[.agg #[.int .i64 pr, .int .i64 ps, .bool so, .int .i64 xr, .int .i64 xs, .slice A xv.length c], .agg #[.int .i64 qr, .int .i64 qs, .bool qp, .slice QA qv.length qc]] W fun e w' => ∃ v, e = .returned v ∧ Kept W w' ∧ ToldT y bb v w') := Lib.hid (fun W hk => by
            have k' : Kept v2 W := (Kept.refl v2).drew.trans hk
            rw [← hyb.1, ← hyb.2]
            exact answer_any ⟨pr, ps, so, xr, xs, xv⟩ ⟨qr, qs, qp, qv⟩ A QA c qc (hrow.below k'.1) (qrow.below k'.1))
          simp only at a0c a1c a2c a3c hhs cc3
          have hnl : ¬ (2048 : Int) < (qv.length : Int) := by have := HLEN.out; omega
          have T1 : Hid (∀ W, Kept v2.drew W → W.cell? ⟨g, 0, none⟩ = some (.int .i64 pr) ∧ W.cell? ⟨g, 1, none⟩ = some (.int .i64 ps) ∧ W.cell? ⟨g, 2, none⟩ = some (.bool so) ∧ W.cell? ⟨g, 3, none⟩ = some (.int .i64 xr) ∧ W.cell? ⟨g, 4, none⟩ = some (.int .i64 xs) ∧ W.cell? ⟨g, 5, none⟩ = some (.slice A xv.length c)) := Lib.hid (fun W hk => (hhs.kept ((Kept.refl v2).drew.trans hk)).cells)
          have T2 : Hid (∀ W, Kept v2.drew W → W.cell? ⟨b, off + k * 4, none⟩ = some (.int .i64 qr) ∧ W.cell? ⟨b, off + k * 4 + 1, none⟩ = some (.int .i64 qs) ∧ W.cell? ⟨b, off + k * 4 + 2, none⟩ = some (.bool qp) ∧ W.cell? ⟨b, off + k * 4 + 3, none⟩ = some (.slice QA qv.length qc)) := Lib.hid (fun W hk => by
            have k' : Kept v2 W := (Kept.refl v2).drew.trans hk
            exact ⟨(k'.cell (p := ⟨b, off + k * 4, none⟩) hb).trans a0c, (k'.cell (p := ⟨b, off + k * 4 + 1, none⟩) hb).trans a1c, (k'.cell (p := ⟨b, off + k * 4 + 2, none⟩) hb).trans a2c, (k'.cell (p := ⟨b, off + k * 4 + 3, none⟩) hb).trans a3c⟩)
          clear hyb hst hrow hhs a0c a1c a2c a3c qrow hb
          go_wp2_with fail
          refine wp_region_typed (N := 10) (fl := [false, false, false, false, false, false, false, false, true]) (by kernel_rfl) (by kernel_rfl) ?_
          simp only [List.take_succ_cons, List.take_zero, List.drop_succ_cons, List.drop_zero, List.map_cons, List.map_nil, zipF]
          repeat (first
            | (refine wpT_has (PtrA.mono v2.heap.size) rfl (fun ρ w hk ⟨c1, c2, c3⟩ _ => upT_made (.pointer (some ⟨w.heap.size, 0, none⟩)) (w' := w.alloc (.cells #[.int .i64 0, .int .i64 0, .bool false, .int .i64 0, .int .i64 0, .slice none 0 0] 26)) ?_ ((Kept.refl w).alloc _) ⟨_, rfl, hk.2, push_new w _⟩) ?_; (· go_simp); dsimp only [putS, List.set_cons_succ, List.set_cons_zero])
            | (refine wpT_slot (S := .has _) _ (.inl rfl) rfl (ToldT.mono _ _) rfl ?_; dsimp only [putS, List.set_cons_succ, List.set_cons_zero])
            | (refine wpT_has (ToldT.mono y bb) rfl (fun ρ w hk ⟨c1, c2, c3⟩ ⟨h1, h2, _⟩ => ?_) ?_
               · have h1 : ρ (.tmp 49) = _ := h1
                 have h2 : ρ (.tmp 53) = _ := h2
                 refine upT_call 19 #[.agg #[.int .i64 pr, .int .i64 ps, .bool so, .int .i64 xr, .int .i64 xs, .slice A xv.length c], .agg #[.int .i64 qr, .int .i64 qs, .bool qp, .slice QA qv.length qc]] ?_ ((TC.out w hk).mono ?_)
                 · go_simp
                 · rintro e u ⟨v, rfl, hk2, ht⟩
                   exact ⟨_, rfl, hk2, ht⟩
               dsimp only [putS, List.set_cons_succ, List.set_cons_zero])
            | (refine wpT_has (AcT.mono y) rfl (fun ρ w hk ⟨c1, c2, c3⟩ ⟨h1, _⟩ => ?_) ?_
               · obtain ⟨A', c', h1, hr⟩ := h1
                 refine upT_made (acv y A' y.val.length c') ?_ (Kept.refl _) ⟨A', c', rfl, hr⟩
                 go_simp
               dsimp only [putS, List.set_cons_succ, List.set_cons_zero])
            | (refine wpT_late (v := .bool bb) rfl (fun ρ w hk ⟨c1, c2, c3⟩ ⟨h1, _⟩ => ?_) ?_
               · obtain ⟨A', c', h1, hr⟩ := h1
                 intro w'
                 go_simp
               dsimp only [putS, List.set_cons_succ, List.set_cons_zero])
            | (refine wpT_skip rfl ?_; dsimp only [putS, List.set_cons_succ, List.set_cons_zero])
            | (refine wpT_slot (S := .is _) _ (.inl rfl) rfl (Slot.mono_is _) rfl ?_; dsimp only [putS, List.set_cons_succ, List.set_cons_zero])
            | (refine wpT_slot (S := .is _) _ (.inr rfl) rfl (Slot.mono_is _) rfl ?_; dsimp only [putS, List.set_cons_succ, List.set_cons_zero])
            | (refine wpT_exact1 rfl rfl rfl ?_; apply Exists.intro; refine ⟨fun ρ w hk ⟨c1, c2, c3⟩ h1 => ?_, ?_⟩; (· obtain ⟨t1, t2, t3, t4, t5, t6⟩ := T1.out w hk; obtain ⟨s1, s2, s3, s4⟩ := T2.out w hk; go_simp; exact rfl); dsimp only [putS, List.set_cons_succ, List.set_cons_zero])
            | (refine wpT_exact2 rfl rfl rfl rfl ?_; apply Exists.intro; refine ⟨fun ρ w hk ⟨c1, c2, c3⟩ h1 h2 => ?_, ?_⟩; (· obtain ⟨t1, t2, t3, t4, t5, t6⟩ := T1.out w hk; obtain ⟨s1, s2, s3, s4⟩ := T2.out w hk; go_simp; exact rfl); dsimp only [putS, List.set_cons_succ, List.set_cons_zero])
            | (refine wpT_exact3 rfl rfl rfl rfl rfl ?_; apply Exists.intro; refine ⟨fun ρ w hk ⟨c1, c2, c3⟩ h1 h2 h3 => ?_, ?_⟩; (· obtain ⟨t1, t2, t3, t4, t5, t6⟩ := T1.out w hk; obtain ⟨s1, s2, s3, s4⟩ := T2.out w hk; go_simp; exact rfl); dsimp only [putS, List.set_cons_succ, List.set_cons_zero])
            | (refine wpT_exact4 rfl rfl rfl rfl rfl rfl ?_; apply Exists.intro; refine ⟨fun ρ w hk ⟨c1, c2, c3⟩ h1 h2 h3 h4 => ?_, ?_⟩; (· obtain ⟨t1, t2, t3, t4, t5, t6⟩ := T1.out w hk; obtain ⟨s1, s2, s3, s4⟩ := T2.out w hk; go_simp; exact rfl); dsimp only [putS, List.set_cons_succ, List.set_cons_zero])
            | (refine wpT_exact0 rfl ?_; apply Exists.intro; refine ⟨fun ρ w hk ⟨c1, c2, c3⟩ => ?_, ?_⟩; (· obtain ⟨t1, t2, t3, t4, t5, t6⟩ := T1.out w hk; obtain ⟨s1, s2, s3, s4⟩ := T2.out w hk; go_simp; exact rfl); dsimp only [putS, List.set_cons_succ, List.set_cons_zero])
            | fail)
          refine wpT_nil ?_
          intro wz kz
          simp only [Fits]
          rintro uz ⟨z, rfl, hz, hvz⟩ um - uc - ue ⟨A', c', rfl, hr⟩
          have kz' : Kept v2 wz := (Kept.refl v2).drew.trans kz
          obtain ⟨A1, c1, q1, -⟩ := HST.out.row
          have hgl : g < v2.heap.size := heap_lt q1
          have hzg : z ≠ g := by omega
          have hgz : g ≠ z := by omega
          have q2 := q1.kept kz'
          obtain ⟨d0, d1, d2, d3, d4, d5⟩ := q2.cells
          obtain ⟨e0, e1, e2, e3, e4, e5⟩ := q2.free
          obtain ⟨z0, z1, z2, z3, z4, z5⟩ := hvz.cells
          obtain ⟨f0, f1, f2, f3, f4, f5⟩ := hvz.free
          have HR := Lib.hid hr
          have HVZ := Lib.hid hvz
          have KZ := Lib.hid kz'
          have HZ := Lib.hid hz
          simp only [Ac.zero] at z0 z1 z2 z3 z4 z5
          clear kz kz' hr hvz q1 q2 hz
          obtain ⟨yr, yt, yo, za, zs, yv⟩ := y
          simp only [acv]
          have HNY : Hid (mayA ⟨yr, yt, yo, za, zs, yv⟩ N = true) := Lib.hid (by rw [← HYB.out.1]; exact HNX.out)
          have HM1 := Lib.hid (fun W => acmay_any (w := W) (x := ⟨yr, yt, yo, za, zs, yv⟩) (A := A') (c := c') N)
          rw [HNY.out] at HM1
          have HMID := Lib.hid (HST.out.mid (y := ⟨yr, yt, yo, za, zs, yv⟩) KZ.out HZ.out HVZ.out HR.out)
          simp only [acv] at HM1
          go_wp2_with fail
          refine only_end ?_
          go_wp2_with fail
          refine (HM1.out _).mono ?_
          rintro e v5 ⟨rfl, k5⟩
          have hm := HMID.out
          have st5 : St v v5 g _ := hm.1.grow k5
          have z5 := hm.2.1.kept k5
          have r5 := hm.2.2.below k5.1
          obtain ⟨A5, c5', h5, -⟩ := st5.row
          obtain ⟨x0, x1, x2, x3, x4, x5⟩ := h5.cells
          obtain ⟨w0, w1, w2, w3, w4, w5⟩ := h5.free
          obtain ⟨s0, s1, s2, s3, s4, s5⟩ := z5.cells
          have ST5 := Lib.hid st5
          have R5 := Lib.hid r5
          simp only at x0 x1 x2 x3 x4 x5 s0 s1 s2 s3 s4 s5
          clear hm st5 z5 r5 h5 k5
          go_wp2_with fail
          refine ⟨⟨k + 1, ⟨yr, yt, yo, za, zs, yv⟩, by omega, by go_num, ?_, HNY.out⟩, by simp [intOf]; omega⟩
          have hend := ST5.out.put (y := ⟨yr, yt, yo, za, zs, yv⟩) R5.out
          with_reducible exact hend
    · have hex : k < len0 ∧ ¬ k < 100 ∨ k = len0 := by omega
      clear hc
      have KK := Lib.hid (KV.out.trans hst.kept)
      clear hst hmx
      rcases hex with ⟨hlt, h100⟩ | rfl
      all_goals
        go_wp2
        go_ret
        exact ⟨rfl, KK.out.1⟩
end Go.Proofs.Ytlcmfikekbbgjaa
