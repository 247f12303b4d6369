/- The walk of AcceptorKeeps. -/
import Derived.Test.YtlcmfikekbbgjaaAccX
namespace Go.Proofs.Ytlcmfikekbbgjaa
open Go.RowKit

theorem prep_first (r t : Int) : prepA Ac.zero r t = if r < 1 then none else some ⟨r, t, false, 0, 0, []⟩ := by
  unfold prepA Ac.zero cmpB
  by_cases h : r < 1
  · rw [if_pos (.inl h), if_pos h]
  · rw [if_neg h, if_neg]
    simp only
    rw [if_neg (by omega), if_neg (by omega)]
    omega
theorem above_run {r t : Int} {x : Ac} (h : cmpB r t x.pr x.ps ≤ 0) : ∀ (l : List Ak), cmpB r t (runA x l).pr (runA x l).ps ≤ 0 := by
  intro l
  induction l generalizing x with
  | nil => exact h
  | cons a l ih => exact ih (told_above a h)

set_option maxRecDepth 100000 in
set_option maxHeartbeats 4000000 in
theorem AcceptorKeeps_walk (a0 : Option Addr) (len0 cap0 : Nat) (a1 : List Value) (a2 : List Value) (w : World) (w0 : SliceAt 4 48 (fun w cs => cs.length = 4 ∧ IsStruct [(0, 2, (fun w cs => cs.length = 2 ∧ IsStruct [(0, 1, (IsInt .i64)), (1, 1, (IsInt .i64))] w cs)), (2, 1, IsBool), (3, 1, (IsSlice 1 1 (IsInt .u8)))] w cs) w a0 len0 cap0) (w1 : (fun w cs => cs.length = 2 ∧ IsStruct [(0, 1, (IsInt .i64)), (1, 1, (IsInt .i64))] w cs : World → List Value → Prop) w a1) (w2 : (fun w cs => cs.length = 2 ∧ IsStruct [(0, 1, (IsInt .i64)), (1, 1, (IsInt .i64))] w cs : World → List Value → Prop) w a2) :
    Calls Try.prog 6 #[.slice a0 len0 cap0, .agg a1.toArray, .agg a2.toArray] w fun e w' => e = .returned (.bool true) ∧ Below w.heap.size w w' := by
  obtain ⟨l, hl, hmax, hls⟩ := asks_of w0
  obtain ⟨r, t, rfl, -, -⟩ := ballot_of w1
  obtain ⟨lr, ls, rfl, -, -⟩ := ballot_of w2
  have HL := Lib.hid hl
  have HLS := Lib.hid hls
  clear w0 w1 w2 hl hls
  have KV : Hid (Kept w ((w.alloc (.cells #[.int .i64 r, .int .i64 t] 23)).alloc (.cells #[.int .i64 lr, .int .i64 ls] 23))) := Lib.hid (((Kept.refl w).alloc _).alloc _)
  have PB : Hid (Bx ((w.alloc (.cells #[.int .i64 r, .int .i64 t] 23)).alloc (.cells #[.int .i64 lr, .int .i64 ls] 23)) w.heap.size r t) := Lib.hid (push_two_old w _ _)
  have PL : Hid (Bx ((w.alloc (.cells #[.int .i64 r, .int .i64 t] 23)).alloc (.cells #[.int .i64 lr, .int .i64 ls] 23)) (w.heap.size + 1) lr ls) := Lib.hid (push_two_new w _ _)
  have HP : Hid (∀ W, Calls Try.prog 10 #[.agg #[.int .i64 0, .int .i64 0, .bool false, .int .i64 0, .int .i64 0, .slice none 0 0], .agg #[.int .i64 r, .int .i64 t]] W fun e w' => ∃ v, e = .returned v ∧ Kept W w' ∧ ToldT (told Ac.zero (prepA Ac.zero r t)) (prepA Ac.zero r t).isSome v w') :=
    Lib.hid (fun W => prepare_any (x := Ac.zero) (A := none) (c := 0) r t Row.none)
  rw [prep_first] at HP
  go_enter Try.func6, Try.ntmps6
  go_wp2_with fail
  refine (acawake_any _).mono ?_
  rintro e v1 ⟨rfl, k1⟩
  have pb1 := PB.out.kept k1
  have cb0 := pb1.c0
  have cb1 := pb1.c1
  generalize ((w.alloc (.cells #[.int .i64 r, .int .i64 t] 23)).alloc (.cells #[.int .i64 lr, .int .i64 ls] 23)) = v at *
  have K1 := Lib.hid k1
  by_cases hr1 : r < 1
  · rw [if_pos hr1] at HP
    clear k1 pb1
    go_wp2_with fail
    refine (HP.out _).mono ?_
    rintro e v2 ⟨vv, rfl, k2, A2, c2, rfl, r2⟩
    have K2 := Lib.hid k2
    have cc0 := ((PB.out.kept K1.out).kept (k2.alloc (.cells #[.int .i64 0, .int .i64 0, .bool false, .int .i64 0, .int .i64 0, .slice A2 0 c2] 26))).c0
    clear k2 r2
    simp only [acv, told, Option.getD_none, Option.isSome_none, Ac.zero, List.length_nil]
    go_wp2
    go_ret
    exact ⟨rfl, (KV.out.trans (K1.out.trans (K2.out.alloc _))).1⟩
  · rw [if_neg hr1] at HP
    clear k1 pb1
    go_wp2_with fail
    refine (HP.out _).mono ?_
    rintro e v2 ⟨vv, rfl, k2, A2, c2, rfl, r2⟩
    have S0 : Hid (St v (v2.alloc (.cells #[.int .i64 r, .int .i64 t, .bool false, .int .i64 0, .int .i64 0, .slice A2 0 c2] 26)) v2.heap.size ⟨r, t, false, 0, 0, []⟩) := Lib.hid ⟨(K1.out.trans k2).alloc _, (K1.out.trans k2).2, A2, c2, push_new v2 _, r2.below ((Kept.refl v2).alloc _).1⟩
    clear k2 r2 cb0 cb1
    simp only [acv, told, Option.getD_some, Option.isSome_some, Ac.zero, List.length_nil]
    go_wp2_with fail
    generalize v2.heap.size = g at *
    generalize v2.alloc (.cells #[.int .i64 r, .int .i64 t, .bool false, .int .i64 0, .int .i64 0, .slice A2 0 c2] 26) = W0 at *
    go_loopw [10] (fun i wr => ∃ k : Nat, k ≤ len0 ∧ i = .int .i64 k ∧ St v wr g (runA ⟨r, t, false, 0, 0, []⟩ (l.take k))) (fun i _ => len0 - (intOf i).toNat)
    case atStart => exact ⟨0, Nat.zero_le _, rfl, S0.out⟩
    case round =>
      obtain ⟨k, hk, rfl, hst⟩ := hrel
      have hab : cmpB r t (runA ⟨r, t, false, 0, 0, []⟩ (l.take k)).pr (runA ⟨r, t, false, 0, 0, []⟩ (l.take k)).ps ≤ 0 := above_run (x := ⟨r, t, false, 0, 0, []⟩) (by rw [cmp_self]; exact Int.le_refl _) _
      by_cases hc : k < len0 ∧ k < 100
      · obtain ⟨hlt, h100⟩ := hc
        clear hab
        have hkl : k < l.length := by rw [HL.out]; exact hlt
        obtain ⟨b, off, rfl, hask⟩ := HLS.out k hkl
        have hask := hask.kept (KV.out.trans hst.kept)
        have HSN : Hid (runA ⟨r, t, false, 0, 0, []⟩ (l.take (k + 1)) = told (runA ⟨r, t, false, 0, 0, []⟩ (l.take k)) (ansA (runA ⟨r, t, false, 0, 0, []⟩ (l.take k)) l[k])) := Lib.hid (by rw [List.take_succ_eq_append_getElem hkl, runA_snoc])
        generalize l[k] = q at *
        generalize runA ⟨r, t, false, 0, 0, []⟩ (l.take k) = x at *
        obtain ⟨y, bb, hyb⟩ : ∃ y bb, told x (ansA x q) = y ∧ (ansA x q).isSome = bb := ⟨_, _, rfl, rfl⟩
        have HST := Lib.hid hst
        obtain ⟨A, c, hhs, hrow⟩ := hst.row
        obtain ⟨hb, a0c, a1c, a2c, QA, qc, a3c, qrow⟩ := hask
        obtain ⟨pr, ps, so, xr, xs, xv⟩ := x
        obtain ⟨qr, qs, qp, qv⟩ := q
        have HYB := Lib.hid hyb
        have TC : Hid (∀ W, Kept wr.drew W → Calls Try.prog 19 #[.agg #[.int .i64 pr, .int .i64 ps, .bool so, .int .i64 xr, .int .i64 xs, .slice A xv.length c], .agg #[.int .i64 qr, .int .i64 qs, .bool qp, .slice QA qv.length qc]] W fun e w' => ∃ v, e = .returned v ∧ Kept W w' ∧ ToldT y bb v w') := Lib.hid (fun W hk => by
          have k' : Kept wr W := (Kept.refl wr).drew.trans hk
          rw [← hyb.1, ← hyb.2]
          exact answer_any ⟨pr, ps, so, xr, xs, xv⟩ ⟨qr, qs, qp, qv⟩ A QA c qc (hrow.below k'.1) (qrow.below k'.1))
        simp only at a0c a1c a2c a3c hhs
        have T1 : Hid (∀ W, Kept wr.drew W → W.cell? ⟨g, 0, none⟩ = some (.int .i64 pr) ∧ W.cell? ⟨g, 1, none⟩ = some (.int .i64 ps) ∧ W.cell? ⟨g, 2, none⟩ = some (.bool so) ∧ W.cell? ⟨g, 3, none⟩ = some (.int .i64 xr) ∧ W.cell? ⟨g, 4, none⟩ = some (.int .i64 xs) ∧ W.cell? ⟨g, 5, none⟩ = some (.slice A xv.length c)) := Lib.hid (fun W hk => (hhs.kept ((Kept.refl wr).drew.trans hk)).cells)
        have T2 : Hid (∀ W, Kept wr.drew W → W.cell? ⟨b, off + k * 4, none⟩ = some (.int .i64 qr) ∧ W.cell? ⟨b, off + k * 4 + 1, none⟩ = some (.int .i64 qs) ∧ W.cell? ⟨b, off + k * 4 + 2, none⟩ = some (.bool qp) ∧ W.cell? ⟨b, off + k * 4 + 3, none⟩ = some (.slice QA qv.length qc)) := Lib.hid (fun W hk => by
          have k' : Kept wr W := (Kept.refl wr).drew.trans hk
          exact ⟨(k'.cell (p := ⟨b, off + k * 4, none⟩) hb).trans a0c, (k'.cell (p := ⟨b, off + k * 4 + 1, none⟩) hb).trans a1c, (k'.cell (p := ⟨b, off + k * 4 + 2, none⟩) hb).trans a2c, (k'.cell (p := ⟨b, off + k * 4 + 3, none⟩) hb).trans a3c⟩)
        clear hyb hst hrow hhs a0c a1c a2c a3c qrow hb
        go_wp2_with fail
        refine wp_region_typed (N := 10) (fl := [false, false, false, false, false, false, false, false, true]) (by kernel_rfl) (by kernel_rfl) ?_
        simp only [List.take_succ_cons, List.take_zero, List.drop_succ_cons, List.drop_zero, List.map_cons, List.map_nil, zipF]
        repeat (first
          | (refine wpT_has (PtrA.mono wr.heap.size) rfl (fun ρ w hk ⟨c1, c2, c3⟩ _ => upT_made (.pointer (some ⟨w.heap.size, 0, none⟩)) (w' := w.alloc (.cells #[.int .i64 0, .int .i64 0, .bool false, .int .i64 0, .int .i64 0, .slice none 0 0] 26)) ?_ ((Kept.refl w).alloc _) ⟨_, rfl, hk.2, push_new w _⟩) ?_; (· go_simp); dsimp only [putS, List.set_cons_succ, List.set_cons_zero])
          | (refine wpT_slot (S := .has _) _ (.inl rfl) rfl (ToldT.mono _ _) rfl ?_; dsimp only [putS, List.set_cons_succ, List.set_cons_zero])
          | (refine wpT_has (ToldT.mono y bb) rfl (fun ρ w hk ⟨c1, c2, c3⟩ ⟨h1, h2, _⟩ => ?_) ?_
             · have h1 : ρ (.tmp 43) = _ := h1
               have h2 : ρ (.tmp 47) = _ := h2
               refine upT_call 19 #[.agg #[.int .i64 pr, .int .i64 ps, .bool so, .int .i64 xr, .int .i64 xs, .slice A xv.length c], .agg #[.int .i64 qr, .int .i64 qs, .bool qp, .slice QA qv.length qc]] ?_ ((TC.out w hk).mono ?_)
               · go_simp
               · rintro e u ⟨v, rfl, hk2, ht⟩
                 exact ⟨_, rfl, hk2, ht⟩
             dsimp only [putS, List.set_cons_succ, List.set_cons_zero])
          | (refine wpT_has (AcT.mono y) rfl (fun ρ w hk ⟨c1, c2, c3⟩ ⟨h1, _⟩ => ?_) ?_
             · obtain ⟨A', c', h1, hr⟩ := h1
               refine upT_made (acv y A' y.val.length c') ?_ (Kept.refl _) ⟨A', c', rfl, hr⟩
               go_simp
             dsimp only [putS, List.set_cons_succ, List.set_cons_zero])
          | (refine wpT_late (v := .bool bb) rfl (fun ρ w hk ⟨c1, c2, c3⟩ ⟨h1, _⟩ => ?_) ?_
             · obtain ⟨A', c', h1, hr⟩ := h1
               intro w'
               go_simp
             dsimp only [putS, List.set_cons_succ, List.set_cons_zero])
          | (refine wpT_skip rfl ?_; dsimp only [putS, List.set_cons_succ, List.set_cons_zero])
          | (refine wpT_slot (S := .is _) _ (.inl rfl) rfl (Slot.mono_is _) rfl ?_; dsimp only [putS, List.set_cons_succ, List.set_cons_zero])
          | (refine wpT_slot (S := .is _) _ (.inr rfl) rfl (Slot.mono_is _) rfl ?_; dsimp only [putS, List.set_cons_succ, List.set_cons_zero])
          | (refine wpT_exact1 rfl rfl rfl ?_; apply Exists.intro; refine ⟨fun ρ w hk ⟨c1, c2, c3⟩ h1 => ?_, ?_⟩; (· obtain ⟨t1, t2, t3, t4, t5, t6⟩ := T1.out w hk; obtain ⟨s1, s2, s3, s4⟩ := T2.out w hk; go_simp; exact rfl); dsimp only [putS, List.set_cons_succ, List.set_cons_zero])
          | (refine wpT_exact2 rfl rfl rfl rfl ?_; apply Exists.intro; refine ⟨fun ρ w hk ⟨c1, c2, c3⟩ h1 h2 => ?_, ?_⟩; (· obtain ⟨t1, t2, t3, t4, t5, t6⟩ := T1.out w hk; obtain ⟨s1, s2, s3, s4⟩ := T2.out w hk; go_simp; exact rfl); dsimp only [putS, List.set_cons_succ, List.set_cons_zero])
          | (refine wpT_exact3 rfl rfl rfl rfl rfl ?_; apply Exists.intro; refine ⟨fun ρ w hk ⟨c1, c2, c3⟩ h1 h2 h3 => ?_, ?_⟩; (· obtain ⟨t1, t2, t3, t4, t5, t6⟩ := T1.out w hk; obtain ⟨s1, s2, s3, s4⟩ := T2.out w hk; go_simp; exact rfl); dsimp only [putS, List.set_cons_succ, List.set_cons_zero])
          | (refine wpT_exact4 rfl rfl rfl rfl rfl rfl ?_; apply Exists.intro; refine ⟨fun ρ w hk ⟨c1, c2, c3⟩ h1 h2 h3 h4 => ?_, ?_⟩; (· obtain ⟨t1, t2, t3, t4, t5, t6⟩ := T1.out w hk; obtain ⟨s1, s2, s3, s4⟩ := T2.out w hk; go_simp; exact rfl); dsimp only [putS, List.set_cons_succ, List.set_cons_zero])
          | (refine wpT_exact0 rfl ?_; apply Exists.intro; refine ⟨fun ρ w hk ⟨c1, c2, c3⟩ => ?_, ?_⟩; (· obtain ⟨t1, t2, t3, t4, t5, t6⟩ := T1.out w hk; obtain ⟨s1, s2, s3, s4⟩ := T2.out w hk; go_simp; exact rfl); dsimp only [putS, List.set_cons_succ, List.set_cons_zero])
          | fail)
        refine wpT_nil ?_
        intro wz kz
        simp only [Fits]
        rintro uz ⟨z, rfl, hz, hvz⟩ um - uc - ue ⟨A', c', rfl, hr⟩
        have kz' : Kept wr wz := (Kept.refl wr).drew.trans kz
        obtain ⟨A1, c1, q1, -⟩ := HST.out.row
        have hgl : g < wr.heap.size := heap_lt q1
        have hzg : z ≠ g := by omega
        have hgz : g ≠ z := by omega
        have q2 := q1.kept kz'
        obtain ⟨d0, d1, d2, d3, d4, d5⟩ := q2.cells
        obtain ⟨e0, e1, e2, e3, e4, e5⟩ := q2.free
        obtain ⟨z0, z1, z2, z3, z4, z5⟩ := hvz.cells
        obtain ⟨f0, f1, f2, f3, f4, f5⟩ := hvz.free
        have HR := Lib.hid hr
        have HVZ := Lib.hid hvz
        have KZ := Lib.hid kz'
        have HZ := Lib.hid hz
        simp only [Ac.zero] at z0 z1 z2 z3 z4 z5
        clear kz kz' hr hvz q1 q2 hz
        obtain ⟨yr, yt, yo, za, zs, yv⟩ := y
        simp only [acv]
        go_wp2_with fail
        refine only_end ?_
        go_wp2_with fail
        refine ⟨⟨k + 1, by omega, by go_num, ?_⟩, by simp [intOf]; omega⟩
        have hend := (HST.out.round (y := ⟨yr, yt, yo, za, zs, yv⟩) KZ.out HZ.out HVZ.out HR.out).1
        rw [HSN.out, HYB.out.1]
        with_reducible exact hend
      · have hex : k < len0 ∧ ¬ k < 100 ∨ k = len0 := by omega
        clear hc
        rcases hex with ⟨hlt, h100⟩ | rfl
        all_goals
          have hlv := PL.out.kept hst.kept
          have hbv := PB.out.kept hst.kept
          generalize runA ⟨r, t, false, 0, 0, []⟩ (l.take k) = x at *
          have KST := Lib.hid (KV.out.trans hst.kept)
          have hsx := hst
          obtain ⟨A, c, hhs, hrow⟩ := hst.row
          have HLO := Lib.hid (fun (h : cmpB lr ls r t < 0) => low_none hab h [])
          obtain ⟨y1, bb1, hyb1⟩ : ∃ y bb, told x (acceA x lr ls []) = y ∧ (acceA x lr ls []).isSome = bb := ⟨_, _, rfl, rfl⟩
          obtain ⟨y2, bb2, hyb2⟩ : ∃ y bb, told x (prepA x lr ls) = y ∧ (prepA x lr ls).isSome = bb := ⟨_, _, rfl, rfl⟩
          obtain ⟨pr, ps, so, xr, xs, xv⟩ := x
          have TC : Hid (∀ W, Kept wr W → Calls Try.prog 13 #[.agg #[.int .i64 pr, .int .i64 ps, .bool so, .int .i64 xr, .int .i64 xs, .slice A xv.length c], .agg #[.int .i64 lr, .int .i64 ls], .slice none 0 0] W fun e w' => ∃ v, e = .returned v ∧ Kept W w' ∧ ToldT y1 bb1 v w') := Lib.hid (fun W k => by
            rw [← hyb1.1, ← hyb1.2]
            exact accept_any (x := ⟨pr, ps, so, xr, xs, xv⟩) (vs := []) lr ls (hrow.below k.1) Row.none)
          have TD : Hid (∀ W, Kept wr W → Calls Try.prog 10 #[.agg #[.int .i64 pr, .int .i64 ps, .bool so, .int .i64 xr, .int .i64 xs, .slice A xv.length c], .agg #[.int .i64 lr, .int .i64 ls]] W fun e w' => ∃ v, e = .returned v ∧ Kept W w' ∧ ToldT y2 bb2 v w') := Lib.hid (fun W k => by
            rw [← hyb2.1, ← hyb2.2]
            exact prepare_any (x := ⟨pr, ps, so, xr, xs, xv⟩) lr ls (hrow.below k.1))
          have HLOW : Hid (cmpB lr ls r t < 0 → bb1 = false ∧ bb2 = false) := Lib.hid (fun h => by
            obtain ⟨h1, h2⟩ := HLO.out h
            rw [h1] at hyb1
            rw [h2] at hyb2
            exact ⟨hyb1.2.symm, hyb2.2.symm⟩)
          have TS := Lib.hid (refcompare_any lr ls r t)
          have HS := Lib.hid hhs
          have HBV := Lib.hid hbv
          have HLV := Lib.hid hlv
          obtain ⟨b0, b1, b2, b3, b4, b5⟩ := hhs.cells
          simp only at b0 b1 b2 b3 b4 b5
          have l0 := hlv.c0
          have l1 := hlv.c1
          generalize cmpB lr ls r t = zz at *
          clear hyb1 hyb2 hst hsx hhs hrow hlv hbv HLO hab
          go_wp2_with fail
          refine (TC.out _ (Kept.refl _)).mono ?_
          rintro e v2 ⟨vv, rfl, k2, A2, c2, rfl, r2⟩
          obtain ⟨yr, yt, yo, za, zs, yv⟩ := y1
          have K2 := Lib.hid k2
          have KA : Hid (Kept v2 (v2.alloc (.cells #[.int .i64 yr, .int .i64 yt, .bool yo, .int .i64 za, .int .i64 zs, .slice A2 yv.length c2] 26))) := Lib.hid ((Kept.refl v2).alloc _)
          obtain ⟨i0, i1, i2, i3, i4, i5⟩ := (HS.out.kept (k2.trans KA.out)).cells
          simp only at i0 i1 i2 i3 i4 i5
          have m0 := (HLV.out.kept (k2.trans KA.out)).c0
          have m1 := (HLV.out.kept (k2.trans KA.out)).c1
          simp only [acv]
          clear k2 r2
          go_wp2_with fail
          refine (TD.out _ (K2.out.trans KA.out)).mono ?_
          rintro e v3 ⟨vv, rfl, k3, A3, c3, rfl, r3⟩
          obtain ⟨yr2, yt2, yo2, za2, zs2, yv2⟩ := y2
          have K3 := Lib.hid k3
          have KB : Hid (Kept v3 (v3.alloc (.cells #[.int .i64 yr2, .int .i64 yt2, .bool yo2, .int .i64 za2, .int .i64 zs2, .slice A3 yv2.length c3] 26))) := Lib.hid ((Kept.refl v3).alloc _)
          have n0 := (HLV.out.kept (K2.out.trans (KA.out.trans (k3.trans KB.out)))).c0
          have n1 := (HLV.out.kept (K2.out.trans (KA.out.trans (k3.trans KB.out)))).c1
          have o0 := (HBV.out.kept (K2.out.trans (KA.out.trans (k3.trans KB.out)))).c0
          have o1 := (HBV.out.kept (K2.out.trans (KA.out.trans (k3.trans KB.out)))).c1
          simp only [acv]
          clear k3 r3
          go_wp2_with fail
          refine (TS.out _).mono ?_
          rintro e v4 ⟨rfl, k4⟩
          have K4 := Lib.hid (Kept.call (Kept.refl _) k4)
          clear k4
          by_cases hz : zz < 0
          · obtain ⟨rfl, rfl⟩ := HLOW.out hz
            have hd : decide (0 ≤ zz) = false := by simpa using hz
            go_wp2
            go_ret
            exact ⟨by go_simp, ((KST.out.trans (K2.out.trans (KA.out.trans K3.out))).trans (KB.out.trans K4.out)).1⟩
          · have hd : decide (0 ≤ zz) = true := by simp; omega
            go_wp2
            go_ret
            exact ⟨by go_simp, ((KST.out.trans (K2.out.trans (KA.out.trans K3.out))).trans (KB.out.trans K4.out)).1⟩
end Go.Proofs.Ytlcmfikekbbgjaa
