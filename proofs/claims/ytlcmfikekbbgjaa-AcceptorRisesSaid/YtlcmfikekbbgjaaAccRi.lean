/- The walk of AcceptorRises. -/
import Derived.Test.YtlcmfikekbbgjaaAccX
namespace Go.Proofs.Ytlcmfikekbbgjaa
open Go.RowKit

/-- all that the law asks of an answer -/
theorem rises_all {x y : Ac} {q : Ak} {bb : Bool} (hf : x.fit) (h1 : told x (ansA x q) = y) (h2 : (ansA x q).isSome = bb) :
    0 ≤ cmpB y.pr y.ps x.pr x.ps ∧ (bb = false → y = x) ∧ (x.so = true → y.so = true) ∧ y.fit ∧ (bb = true → y.pr = q.r ∧ y.ps = q.s) ∧ (x.so = true → 0 ≤ cmpB y.ar y.as_ x.ar x.as_) := by
  cases ha : ansA x q with
  | none =>
    rw [ha] at h1 h2
    have e : x = y := h1
    subst e
    have e2 : false = bb := h2
    subst e2
    exact ⟨by rw [cmp_self]; exact Int.le_refl _, fun _ => rfl, fun h => h, hf, (fun h => by cases h), fun _ => by rw [cmp_self]; exact Int.le_refl _⟩
  | some z =>
    rw [ha] at h1 h2
    have e : z = y := h1
    subst e
    have e2 : true = bb := h2
    subst e2
    obtain ⟨g1, g2, g3, g4⟩ := ans_rises hf ha
    obtain ⟨-, g5, g6, -⟩ := ans_some ha
    exact ⟨g1, (fun h => by cases h), g2, g3, fun _ => ⟨g5, g6⟩, g4⟩
/-- the state, and the answer, each in its variable -/
structure Pr (v W : World) (g z : Nat) (x y : Ac) (A : Option Addr) (c : Nat) : Prop where
  st : St v W g x
  hs : Hs W z 26 y A y.val.length c
  row : Row W A y.val.length c y.val
theorem Pr.grow {v W W' : World} {g z c : Nat} {x y : Ac} {A : Option Addr} (h : Pr v W g z x y A c) (k : Kept W W') : Pr v W' g z x y A c := ⟨h.st.grow k, h.hs.kept k, h.row.below k.1⟩

set_option maxRecDepth 100000 in
set_option maxHeartbeats 8000000 in
theorem AcceptorRises_walk (a0 : Option Addr) (len0 cap0 : Nat) (w : World) (w0 : SliceAt 4 48 (fun w cs => cs.length = 4 ∧ IsStruct [(0, 2, (fun w cs => cs.length = 2 ∧ IsStruct [(0, 1, (IsInt .i64)), (1, 1, (IsInt .i64))] w cs)), (2, 1, IsBool), (3, 1, (IsSlice 1 1 (IsInt .u8)))] w cs) w a0 len0 cap0) :
    Calls Try.prog 4 #[.slice a0 len0 cap0] w fun e w' => e = .returned (.bool true) ∧ Below w.heap.size w w' := by
  obtain ⟨l, hl, hmax, hls⟩ := asks_of w0
  have HL := Lib.hid hl
  have HLS := Lib.hid hls
  clear w0 hl hls
  go_enter Try.func4, Try.ntmps4
  go_wp2_with fail
  refine (acawake_any _).mono ?_
  rintro e v ⟨rfl, k1⟩
  have S0 := Lib.hid (St.start v v (Kept.refl v))
  have KV := Lib.hid k1
  clear k1
  go_wp2_with fail
  generalize hW0 : v.alloc (.cells #[.int .i64 0, .int .i64 0, .bool false, .int .i64 0, .int .i64 0, .slice none 0 0] 26) = W0 at *
  generalize v.heap.size = g at *
  clear hW0
  go_loopw [5] (fun i wr => ∃ k : Nat, k ≤ len0 ∧ i = .int .i64 k ∧ St v wr g (runA Ac.zero (l.take k)) ∧ (runA Ac.zero (l.take k)).fit) (fun i _ => len0 - (intOf i).toNat)
  case atStart => exact ⟨0, Nat.zero_le _, rfl, S0.out, fun h => by cases h⟩
  case round =>
    obtain ⟨k, hk, rfl, hst, hfit⟩ := hrel
    by_cases hc : k < len0 ∧ k < 100
    · obtain ⟨hlt, h100⟩ := hc
      have hkl : k < l.length := by rw [HL.out]; exact hlt
      obtain ⟨b, off, rfl, hask⟩ := HLS.out k hkl
      have hask := hask.kept (KV.out.trans hst.kept)
      have HSN : Hid (runA Ac.zero (l.take (k + 1)) = told (runA Ac.zero (l.take k)) (ansA (runA Ac.zero (l.take k)) l[k])) := Lib.hid (by rw [List.take_succ_eq_append_getElem hkl, runA_snoc])
      generalize l[k] = q at *
      generalize runA Ac.zero (l.take k) = x at *
      obtain ⟨y, bb, hyb⟩ : ∃ y bb, told x (ansA x q) = y ∧ (ansA x q).isSome = bb := ⟨_, _, rfl, rfl⟩
      have HST := Lib.hid hst
      obtain ⟨A, c, hhs, hrow⟩ := hst.row
      obtain ⟨hb, a0c, a1c, a2c, QA, qc, a3c, qrow⟩ := hask
      obtain ⟨pr, ps, so, xr, xs, xv⟩ := x
      obtain ⟨qr, qs, qp, qv⟩ := q
      have HYB := Lib.hid hyb
      have HASK := Lib.hid (show AkAt wr b (off + k * 4) ⟨qr, qs, qp, qv⟩ from ⟨hb, a0c, a1c, a2c, QA, qc, a3c, qrow⟩)
      have HRI : Hid (0 ≤ cmpB y.pr y.ps pr ps ∧ (bb = false → y = ⟨pr, ps, so, xr, xs, xv⟩) ∧ (so = true → y.so = true) ∧ y.fit ∧ (bb = true → y.pr = qr ∧ y.ps = qs) ∧ (so = true → 0 ≤ cmpB y.ar y.as_ xr xs)) := Lib.hid (rises_all hfit hyb.1 hyb.2)
      have TC : Hid (∀ W, Kept wr.drew W → Calls Try.prog 19 #[.agg #[.int .i64 pr, .int .i64 ps, .bool so, .int .i64 xr, .int .i64 xs, .slice A xv.length c], .agg #[.int .i64 qr, .int .i64 qs, .bool qp, .slice QA qv.length qc]] W fun e w' => ∃ v, e = .returned v ∧ Kept W w' ∧ ToldT y bb v w') := Lib.hid (fun W hk => by
        have k' : Kept wr W := (Kept.refl wr).drew.trans hk
        rw [← hyb.1, ← hyb.2]
        exact answer_any ⟨pr, ps, so, xr, xs, xv⟩ ⟨qr, qs, qp, qv⟩ A QA c qc (hrow.below k'.1) (qrow.below k'.1))
      simp only at a0c a1c a2c a3c hhs
      have T1 : Hid (∀ W, Kept wr.drew W → W.cell? ⟨g, 0, none⟩ = some (.int .i64 pr) ∧ W.cell? ⟨g, 1, none⟩ = some (.int .i64 ps) ∧ W.cell? ⟨g, 2, none⟩ = some (.bool so) ∧ W.cell? ⟨g, 3, none⟩ = some (.int .i64 xr) ∧ W.cell? ⟨g, 4, none⟩ = some (.int .i64 xs) ∧ W.cell? ⟨g, 5, none⟩ = some (.slice A xv.length c)) := Lib.hid (fun W hk => (hhs.kept ((Kept.refl wr).drew.trans hk)).cells)
      have T2 : Hid (∀ W, Kept wr.drew W → W.cell? ⟨b, off + k * 4, none⟩ = some (.int .i64 qr) ∧ W.cell? ⟨b, off + k * 4 + 1, none⟩ = some (.int .i64 qs) ∧ W.cell? ⟨b, off + k * 4 + 2, none⟩ = some (.bool qp) ∧ W.cell? ⟨b, off + k * 4 + 3, none⟩ = some (.slice QA qv.length qc)) := Lib.hid (fun W hk => by
        have k' : Kept wr W := (Kept.refl wr).drew.trans hk
        exact ⟨(k'.cell (p := ⟨b, off + k * 4, none⟩) hb).trans a0c, (k'.cell (p := ⟨b, off + k * 4 + 1, none⟩) hb).trans a1c, (k'.cell (p := ⟨b, off + k * 4 + 2, none⟩) hb).trans a2c, (k'.cell (p := ⟨b, off + k * 4 + 3, none⟩) hb).trans a3c⟩)
      clear hfit hyb hst hrow hhs a0c a1c a2c a3c qrow hb
      go_wp2_with fail
      refine wp_region_typed (N := 10) (fl := [false, false, false, false, false, false, false, false, true]) (by kernel_rfl) (by kernel_rfl) ?_
      simp only [List.take_succ_cons, List.take_zero, List.drop_succ_cons, List.drop_zero, List.map_cons, List.map_nil, zipF]
      repeat (first
        | (refine wpT_has (PtrA.mono wr.heap.size) rfl (fun ρ w hk ⟨c1, c2, c3⟩ _ => upT_made (.pointer (some ⟨w.heap.size, 0, none⟩)) (w' := w.alloc (.cells #[.int .i64 0, .int .i64 0, .bool false, .int .i64 0, .int .i64 0, .slice none 0 0] 26)) ?_ ((Kept.refl w).alloc _) ⟨_, rfl, hk.2, push_new w _⟩) ?_; (· go_simp); dsimp only [putS, List.set_cons_succ, List.set_cons_zero])
        | (refine wpT_slot (S := .has _) _ (.inl rfl) rfl (ToldT.mono _ _) rfl ?_; dsimp only [putS, List.set_cons_succ, List.set_cons_zero])
        | (refine wpT_has (ToldT.mono y bb) rfl (fun ρ w hk ⟨c1, c2, c3⟩ ⟨h1, h2, _⟩ => ?_) ?_
           · have h1 : ρ (.tmp 21) = _ := h1
             have h2 : ρ (.tmp 25) = _ := h2
             refine upT_call 19 #[.agg #[.int .i64 pr, .int .i64 ps, .bool so, .int .i64 xr, .int .i64 xs, .slice A xv.length c], .agg #[.int .i64 qr, .int .i64 qs, .bool qp, .slice QA qv.length qc]] ?_ ((TC.out w hk).mono ?_)
             · go_simp
             · rintro e u ⟨v, rfl, hk2, ht⟩
               exact ⟨_, rfl, hk2, ht⟩
           dsimp only [putS, List.set_cons_succ, List.set_cons_zero])
        | (refine wpT_has (AcT.mono y) rfl (fun ρ w hk ⟨c1, c2, c3⟩ ⟨h1, _⟩ => ?_) ?_
           · obtain ⟨A', c', h1, hr⟩ := h1
             refine upT_made (acv y A' y.val.length c') ?_ (Kept.refl _) ⟨A', c', rfl, hr⟩
             go_simp
           dsimp only [putS, List.set_cons_succ, List.set_cons_zero])
        | (refine wpT_late (v := .bool bb) rfl (fun ρ w hk ⟨c1, c2, c3⟩ ⟨h1, _⟩ => ?_) ?_
           · obtain ⟨A', c', h1, hr⟩ := h1
             intro w'
             go_simp
           dsimp only [putS, List.set_cons_succ, List.set_cons_zero])
        | (refine wpT_skip rfl ?_; dsimp only [putS, List.set_cons_succ, List.set_cons_zero])
        | (refine wpT_slot (S := .is _) _ (.inl rfl) rfl (Slot.mono_is _) rfl ?_; dsimp only [putS, List.set_cons_succ, List.set_cons_zero])
        | (refine wpT_slot (S := .is _) _ (.inr rfl) rfl (Slot.mono_is _) rfl ?_; dsimp only [putS, List.set_cons_succ, List.set_cons_zero])
        | (refine wpT_exact1 rfl rfl rfl ?_; apply Exists.intro; refine ⟨fun ρ w hk ⟨c1, c2, c3⟩ h1 => ?_, ?_⟩; (· obtain ⟨t1, t2, t3, t4, t5, t6⟩ := T1.out w hk; obtain ⟨s1, s2, s3, s4⟩ := T2.out w hk; go_simp; exact rfl); dsimp only [putS, List.set_cons_succ, List.set_cons_zero])
        | (refine wpT_exact2 rfl rfl rfl rfl ?_; apply Exists.intro; refine ⟨fun ρ w hk ⟨c1, c2, c3⟩ h1 h2 => ?_, ?_⟩; (· obtain ⟨t1, t2, t3, t4, t5, t6⟩ := T1.out w hk; obtain ⟨s1, s2, s3, s4⟩ := T2.out w hk; go_simp; exact rfl); dsimp only [putS, List.set_cons_succ, List.set_cons_zero])
        | (refine wpT_exact3 rfl rfl rfl rfl rfl ?_; apply Exists.intro; refine ⟨fun ρ w hk ⟨c1, c2, c3⟩ h1 h2 h3 => ?_, ?_⟩; (· obtain ⟨t1, t2, t3, t4, t5, t6⟩ := T1.out w hk; obtain ⟨s1, s2, s3, s4⟩ := T2.out w hk; go_simp; exact rfl); dsimp only [putS, List.set_cons_succ, List.set_cons_zero])
        | (refine wpT_exact4 rfl rfl rfl rfl rfl rfl ?_; apply Exists.intro; refine ⟨fun ρ w hk ⟨c1, c2, c3⟩ h1 h2 h3 h4 => ?_, ?_⟩; (· obtain ⟨t1, t2, t3, t4, t5, t6⟩ := T1.out w hk; obtain ⟨s1, s2, s3, s4⟩ := T2.out w hk; go_simp; exact rfl); dsimp only [putS, List.set_cons_succ, List.set_cons_zero])
        | (refine wpT_exact0 rfl ?_; apply Exists.intro; refine ⟨fun ρ w hk ⟨c1, c2, c3⟩ => ?_, ?_⟩; (· obtain ⟨t1, t2, t3, t4, t5, t6⟩ := T1.out w hk; obtain ⟨s1, s2, s3, s4⟩ := T2.out w hk; go_simp; exact rfl); dsimp only [putS, List.set_cons_succ, List.set_cons_zero])
        | fail)
      refine wpT_nil ?_
      intro wz kz
      simp only [Fits]
      rintro uz ⟨z, rfl, hz, hvz⟩ um - uc - ue ⟨A', c', rfl, hr⟩
      have kz' : Kept wr wz := (Kept.refl wr).drew.trans kz
      obtain ⟨A1, c1, q1, -⟩ := HST.out.row
      have hgl : g < wr.heap.size := heap_lt q1
      have hzg : z ≠ g := by omega
      have hgz : g ≠ z := by omega
      have q2 := q1.kept kz'
      obtain ⟨d0, d1, d2, d3, d4, d5⟩ := q2.cells
      obtain ⟨e0, e1, e2, e3, e4, e5⟩ := q2.free
      obtain ⟨z0, z1, z2, z3, z4, z5⟩ := hvz.cells
      obtain ⟨f0, f1, f2, f3, f4, f5⟩ := hvz.free
      have HR := Lib.hid hr
      have HVZ := Lib.hid hvz
      have KZ := Lib.hid kz'
      have HZ := Lib.hid hz
      simp only [Ac.zero] at z0 z1 z2 z3 z4 z5
      clear kz kz' hr hvz q1 q2 hz
      obtain ⟨yr, yt, yo, za, zs, yv⟩ := y
      simp only [acv]
      have HC1 := Lib.hid (refcompare_any yr yt pr ps)
      have hc1 := HRI.out.1
      simp only at hc1
      generalize cmpB yr yt pr ps = zz1 at *
      have hd1 : decide (zz1 < 0) = false := by simp; omega
      have HMID := Lib.hid (HST.out.mid (y := ⟨yr, yt, yo, za, zs, yv⟩) KZ.out HZ.out HVZ.out HR.out)
      go_wp2_with fail
      refine only_end ?_
      go_wp2_with fail
      refine (HC1.out _).mono ?_
      rintro e v3 ⟨rfl, k3'⟩
      have k3 : Kept (put6 wz z ⟨yr, yt, yo, za, zs, yv⟩ A' yv.length c') v3 := by
        have := Kept.call (Kept.refl _) k3'
        with_reducible exact this
      have P3 : Hid (Pr v v3 g z ⟨pr, ps, so, xr, xs, xv⟩ ⟨yr, yt, yo, za, zs, yv⟩ A' c') := Lib.hid ⟨HMID.out.1.grow k3, HMID.out.2.1.kept k3, HMID.out.2.2.below k3.1⟩
      have K3 : Hid (Kept wr v3) := Lib.hid ((put6_kept ⟨yr, yt, yo, za, zs, yv⟩ A' yv.length c' KZ.out HZ.out).trans k3)
      clear k3 k3' HMID HST HVZ HZ KZ HR HC1 hc1 d0 d1 d2 d3 d4 d5 e0 e1 e2 e3 e4 e5 z0 z1 z2 z3 z4 z5 f0 f1 f2 f3 f4 f5 TC T1 T2
      cases bb with
      | false =>
        cases so with
        | false =>
          cases yo with
          | false =>
            have he := HRI.out.2.1 rfl
            simp only [Ac.mk.injEq] at he
            obtain ⟨rfl, rfl, he3, rfl, rfl, rfl⟩ := he
            clear he3
            have HF := Lib.hid HRI.out.2.2.2.1
            clear HRI
            obtain ⟨A_, c_, h_, r_⟩ := P3.out.st.row
            obtain ⟨x0, x1, x2, x3, x4, x5⟩ := h_.cells
            obtain ⟨s0, s1, s2, s3, s4, s5⟩ := P3.out.hs.cells
            simp only at x0 x1 x2 x3 x4 x5 s0 s1 s2 s3 s4 s5
            have HSM := Lib.hid (acsame_any (x := ⟨yr, yt, false, za, zs, yv⟩) (y := ⟨yr, yt, false, za, zs, yv⟩) r_ P3.out.row)
            rw [same_self] at HSM
            simp only [acv] at HSM
            clear h_ r_
            go_wp2_with fail
            refine HSM.out.mono ?_
            rintro e v4 ⟨rfl, k4⟩
            have P4 := Lib.hid (P3.out.grow k4)
            have K4 := Lib.hid (K3.out.trans k4)
            clear k4
            obtain ⟨A_, c_, h_, r_⟩ := P4.out.st.row
            obtain ⟨x0, x1, x2, x3, x4, x5⟩ := h_.cells
            obtain ⟨s0, s1, s2, s3, s4, s5⟩ := P4.out.hs.cells
            simp only at x0 x1 x2 x3 x4 x5 s0 s1 s2 s3 s4 s5
            clear h_ r_
            obtain ⟨A9, c9, h9, -⟩ := P4.out.st.row
            have T9 : Hid (∀ W, Kept (v4).drew W → (W.cell? ⟨g, 0, none⟩ = some (.int .i64 yr) ∧ W.cell? ⟨g, 1, none⟩ = some (.int .i64 yt) ∧ W.cell? ⟨g, 2, none⟩ = some (.bool false) ∧ W.cell? ⟨g, 3, none⟩ = some (.int .i64 za) ∧ W.cell? ⟨g, 4, none⟩ = some (.int .i64 zs) ∧ W.cell? ⟨g, 5, none⟩ = some (.slice A9 yv.length c9)) ∧
                (W.cell? ⟨z, 0, none⟩ = some (.int .i64 yr) ∧ W.cell? ⟨z, 1, none⟩ = some (.int .i64 yt) ∧ W.cell? ⟨z, 2, none⟩ = some (.bool false) ∧ W.cell? ⟨z, 3, none⟩ = some (.int .i64 za) ∧ W.cell? ⟨z, 4, none⟩ = some (.int .i64 zs) ∧ W.cell? ⟨z, 5, none⟩ = some (.slice A' yv.length c')) ∧
                W.cell? ⟨b, off + k * 4, none⟩ = some (.int .i64 qr) ∧ W.cell? ⟨b, off + k * 4 + 1, none⟩ = some (.int .i64 qs)) := Lib.hid (fun W hk => by
              have k' : Kept v4 W := (Kept.refl v4).drew.trans hk
              have ha := HASK.out.kept (K4.out.trans k')
              exact ⟨(h9.kept k').cells, (P4.out.hs.kept k').cells, ha.2.1, ha.2.2.1⟩)
            clear h9
            go_wp2_with fail
            refine wp_region_typed (N := 23) (fl := []) (by kernel_rfl) (by kernel_rfl) ?_
            simp only [List.take_succ_cons, List.take_zero, List.drop_succ_cons, List.drop_zero, List.map_cons, List.map_nil, zipF]
            repeat (first
              | (refine wpT_skip rfl ?_; dsimp only [putS, List.set_cons_succ, List.set_cons_zero])
              | (refine wpT_slot (S := .is _) _ (.inl rfl) rfl (Slot.mono_is _) rfl ?_; dsimp only [putS, List.set_cons_succ, List.set_cons_zero])
              | (refine wpT_slot (S := .is _) _ (.inr rfl) rfl (Slot.mono_is _) rfl ?_; dsimp only [putS, List.set_cons_succ, List.set_cons_zero])
              | (refine wpT_exact1 rfl rfl rfl ?_; apply Exists.intro; refine ⟨fun ρ w hk ⟨c1, c2, c3⟩ h1 => ?_, ?_⟩; (· obtain ⟨⟨t1, t2, t3, t4, t5, t6⟩, ⟨s1, s2, s3, s4, s5, s6⟩, q1, q2⟩ := T9.out w hk; go_simp; exact rfl); dsimp only [putS, List.set_cons_succ, List.set_cons_zero])
              | (refine wpT_exact2 rfl rfl rfl rfl ?_; apply Exists.intro; refine ⟨fun ρ w hk ⟨c1, c2, c3⟩ h1 h2 => ?_, ?_⟩; (· obtain ⟨⟨t1, t2, t3, t4, t5, t6⟩, ⟨s1, s2, s3, s4, s5, s6⟩, q1, q2⟩ := T9.out w hk; go_simp; exact rfl); dsimp only [putS, List.set_cons_succ, List.set_cons_zero])
              | (refine wpT_exact3 rfl rfl rfl rfl rfl ?_; apply Exists.intro; refine ⟨fun ρ w hk ⟨c1, c2, c3⟩ h1 h2 h3 => ?_, ?_⟩; (· obtain ⟨⟨t1, t2, t3, t4, t5, t6⟩, ⟨s1, s2, s3, s4, s5, s6⟩, q1, q2⟩ := T9.out w hk; go_simp; exact rfl); dsimp only [putS, List.set_cons_succ, List.set_cons_zero])
              | (refine wpT_exact4 rfl rfl rfl rfl rfl rfl ?_; apply Exists.intro; refine ⟨fun ρ w hk ⟨c1, c2, c3⟩ h1 h2 h3 h4 => ?_, ?_⟩; (· obtain ⟨⟨t1, t2, t3, t4, t5, t6⟩, ⟨s1, s2, s3, s4, s5, s6⟩, q1, q2⟩ := T9.out w hk; go_simp; exact rfl); dsimp only [putS, List.set_cons_succ, List.set_cons_zero])
              | (refine wpT_exact0 rfl ?_; apply Exists.intro; refine ⟨fun ρ w hk ⟨c1, c2, c3⟩ => ?_, ?_⟩; (· obtain ⟨⟨t1, t2, t3, t4, t5, t6⟩, ⟨s1, s2, s3, s4, s5, s6⟩, q1, q2⟩ := T9.out w hk; go_simp; exact rfl); dsimp only [putS, List.set_cons_succ, List.set_cons_zero])
              | fail)
            refine wpT_nil ?_
            intro wz kz
            simp only [Fits]
            have kz : Kept v4 wz := (Kept.refl v4).drew.trans kz
            have P6 := Lib.hid (P4.out.grow kz)
            clear kz
            refine wpList_end ?_
            obtain ⟨A_, c_, h_, r_⟩ := P6.out.st.row
            obtain ⟨x0, x1, x2, x3, x4, x5⟩ := h_.cells
            obtain ⟨s0, s1, s2, s3, s4, s5⟩ := P6.out.hs.cells
            simp only at x0 x1 x2 x3 x4 x5 s0 s1 s2 s3 s4 s5
            obtain ⟨f0, f1, f2, f3, f4, f5⟩ := h_.free
            clear h_ r_
            go_wp2_with fail
            refine ⟨⟨k + 1, by omega, by go_num, ?_, ?_⟩, by simp [intOf]; omega⟩
            · have hend := P6.out.st.put (y := ⟨yr, yt, false, za, zs, yv⟩) P6.out.row
              rw [HSN.out, HYB.out.1]
              with_reducible exact hend
            · rw [HSN.out, HYB.out.1]
              exact HF.out
          | true =>
            have he := HRI.out.2.1 rfl
            simp only [Ac.mk.injEq] at he
            obtain ⟨rfl, rfl, he3, rfl, rfl, rfl⟩ := he
            exact absurd he3 (by simp)
        | true =>
          cases yo with
          | false =>
            have he := HRI.out.2.1 rfl
            simp only [Ac.mk.injEq] at he
            obtain ⟨rfl, rfl, he3, rfl, rfl, rfl⟩ := he
            exact absurd he3 (by simp)
          | true =>
            have he := HRI.out.2.1 rfl
            simp only [Ac.mk.injEq] at he
            obtain ⟨rfl, rfl, he3, rfl, rfl, rfl⟩ := he
            clear he3
            have HF := Lib.hid HRI.out.2.2.2.1
            have H2 := Lib.hid (HRI.out.2.2.2.1 rfl)
            have H3 := Lib.hid (HRI.out.2.2.2.2.2 rfl)
            clear HRI
            obtain ⟨A_, c_, h_, r_⟩ := P3.out.st.row
            obtain ⟨x0, x1, x2, x3, x4, x5⟩ := h_.cells
            obtain ⟨s0, s1, s2, s3, s4, s5⟩ := P3.out.hs.cells
            simp only at x0 x1 x2 x3 x4 x5 s0 s1 s2 s3 s4 s5
            have HSM := Lib.hid (acsame_any (x := ⟨yr, yt, true, za, zs, yv⟩) (y := ⟨yr, yt, true, za, zs, yv⟩) r_ P3.out.row)
            rw [same_self] at HSM
            simp only [acv] at HSM
            clear h_ r_
            go_wp2_with fail
            refine HSM.out.mono ?_
            rintro e v4 ⟨rfl, k4⟩
            have P4 := Lib.hid (P3.out.grow k4)
            have K4 := Lib.hid (K3.out.trans k4)
            clear k4
            obtain ⟨A_, c_, h_, r_⟩ := P4.out.st.row
            obtain ⟨x0, x1, x2, x3, x4, x5⟩ := h_.cells
            obtain ⟨s0, s1, s2, s3, s4, s5⟩ := P4.out.hs.cells
            simp only at x0 x1 x2 x3 x4 x5 s0 s1 s2 s3 s4 s5
            clear h_ r_
            have HC2 := Lib.hid (refcompare_any za zs yr yt)
            have hc2 := H2.out
            generalize cmpB za zs yr yt = zz2 at *
            have hd2 : decide (0 < zz2) = false := by simp; omega
            go_wp2_with fail
            refine (HC2.out _).mono ?_
            rintro e v5 ⟨rfl, k5'⟩
            have k5 : Kept v4 v5 := Kept.call (Kept.refl _) k5'
            have P5 := Lib.hid (P4.out.grow k5)
            have K5 := Lib.hid (K4.out.trans k5)
            clear k5 k5'
            have HC3 := Lib.hid (refcompare_any za zs za zs)
            have hc3 := H3.out
            generalize cmpB za zs za zs = zz3 at *
            have hd3 : decide (zz3 < 0) = false := by simp; omega
            obtain ⟨A9, c9, h9, -⟩ := P5.out.st.row
            have T9 : Hid (∀ W, Kept (v5).drew W → (W.cell? ⟨g, 0, none⟩ = some (.int .i64 yr) ∧ W.cell? ⟨g, 1, none⟩ = some (.int .i64 yt) ∧ W.cell? ⟨g, 2, none⟩ = some (.bool true) ∧ W.cell? ⟨g, 3, none⟩ = some (.int .i64 za) ∧ W.cell? ⟨g, 4, none⟩ = some (.int .i64 zs) ∧ W.cell? ⟨g, 5, none⟩ = some (.slice A9 yv.length c9)) ∧
                (W.cell? ⟨z, 0, none⟩ = some (.int .i64 yr) ∧ W.cell? ⟨z, 1, none⟩ = some (.int .i64 yt) ∧ W.cell? ⟨z, 2, none⟩ = some (.bool true) ∧ W.cell? ⟨z, 3, none⟩ = some (.int .i64 za) ∧ W.cell? ⟨z, 4, none⟩ = some (.int .i64 zs) ∧ W.cell? ⟨z, 5, none⟩ = some (.slice A' yv.length c')) ∧
                W.cell? ⟨b, off + k * 4, none⟩ = some (.int .i64 qr) ∧ W.cell? ⟨b, off + k * 4 + 1, none⟩ = some (.int .i64 qs)) := Lib.hid (fun W hk => by
              have k' : Kept v5 W := (Kept.refl v5).drew.trans hk
              have ha := HASK.out.kept (K5.out.trans k')
              exact ⟨(h9.kept k').cells, (P5.out.hs.kept k').cells, ha.2.1, ha.2.2.1⟩)
            clear h9
            go_wp2_with fail
            refine wp_region_typed (N := 23) (fl := []) (by kernel_rfl) (by kernel_rfl) ?_
            simp only [List.take_succ_cons, List.take_zero, List.drop_succ_cons, List.drop_zero, List.map_cons, List.map_nil, zipF]
            repeat (first
              | (refine wpT_skip rfl ?_; dsimp only [putS, List.set_cons_succ, List.set_cons_zero])
              | (refine wpT_slot (S := .is _) _ (.inl rfl) rfl (Slot.mono_is _) rfl ?_; dsimp only [putS, List.set_cons_succ, List.set_cons_zero])
              | (refine wpT_slot (S := .is _) _ (.inr rfl) rfl (Slot.mono_is _) rfl ?_; dsimp only [putS, List.set_cons_succ, List.set_cons_zero])
              | (refine wpT_exact1 rfl rfl rfl ?_; apply Exists.intro; refine ⟨fun ρ w hk ⟨c1, c2, c3⟩ h1 => ?_, ?_⟩; (· obtain ⟨⟨t1, t2, t3, t4, t5, t6⟩, ⟨s1, s2, s3, s4, s5, s6⟩, q1, q2⟩ := T9.out w hk; go_simp; exact rfl); dsimp only [putS, List.set_cons_succ, List.set_cons_zero])
              | (refine wpT_exact2 rfl rfl rfl rfl ?_; apply Exists.intro; refine ⟨fun ρ w hk ⟨c1, c2, c3⟩ h1 h2 => ?_, ?_⟩; (· obtain ⟨⟨t1, t2, t3, t4, t5, t6⟩, ⟨s1, s2, s3, s4, s5, s6⟩, q1, q2⟩ := T9.out w hk; go_simp; exact rfl); dsimp only [putS, List.set_cons_succ, List.set_cons_zero])
              | (refine wpT_exact3 rfl rfl rfl rfl rfl ?_; apply Exists.intro; refine ⟨fun ρ w hk ⟨c1, c2, c3⟩ h1 h2 h3 => ?_, ?_⟩; (· obtain ⟨⟨t1, t2, t3, t4, t5, t6⟩, ⟨s1, s2, s3, s4, s5, s6⟩, q1, q2⟩ := T9.out w hk; go_simp; exact rfl); dsimp only [putS, List.set_cons_succ, List.set_cons_zero])
              | (refine wpT_exact4 rfl rfl rfl rfl rfl rfl ?_; apply Exists.intro; refine ⟨fun ρ w hk ⟨c1, c2, c3⟩ h1 h2 h3 h4 => ?_, ?_⟩; (· obtain ⟨⟨t1, t2, t3, t4, t5, t6⟩, ⟨s1, s2, s3, s4, s5, s6⟩, q1, q2⟩ := T9.out w hk; go_simp; exact rfl); dsimp only [putS, List.set_cons_succ, List.set_cons_zero])
              | (refine wpT_exact0 rfl ?_; apply Exists.intro; refine ⟨fun ρ w hk ⟨c1, c2, c3⟩ => ?_, ?_⟩; (· obtain ⟨⟨t1, t2, t3, t4, t5, t6⟩, ⟨s1, s2, s3, s4, s5, s6⟩, q1, q2⟩ := T9.out w hk; go_simp; exact rfl); dsimp only [putS, List.set_cons_succ, List.set_cons_zero])
              | (refine wpT_is (.int .i64 zz3) rfl (fun ρ w hk ⟨c1, c2, c3⟩ ⟨h11, h12, _⟩ => ?_) ?_
                 · have e1 : ρ (.tmp 82) = _ := h11
                   have e2 : ρ (.tmp 84) = _ := h12
                   refine upT_call 20 _ (by go_simp) ((HC3.out w).mono ?_)
                   rintro e u ⟨rfl, hb⟩
                   exact ⟨_, rfl, (Kept.refl _).call hb, rfl⟩
                 dsimp only [putS, List.set_cons_succ, List.set_cons_zero])
              | fail)
            refine wpT_nil ?_
            intro wz kz
            simp only [Fits]
            have kz : Kept v5 wz := (Kept.refl v5).drew.trans kz
            have P6 := Lib.hid (P5.out.grow kz)
            clear kz
            refine wpList_end ?_
            obtain ⟨A_, c_, h_, r_⟩ := P6.out.st.row
            obtain ⟨x0, x1, x2, x3, x4, x5⟩ := h_.cells
            obtain ⟨s0, s1, s2, s3, s4, s5⟩ := P6.out.hs.cells
            simp only at x0 x1 x2 x3 x4 x5 s0 s1 s2 s3 s4 s5
            obtain ⟨f0, f1, f2, f3, f4, f5⟩ := h_.free
            clear h_ r_
            go_wp2_with fail
            refine ⟨⟨k + 1, by omega, by go_num, ?_, ?_⟩, by simp [intOf]; omega⟩
            · have hend := P6.out.st.put (y := ⟨yr, yt, true, za, zs, yv⟩) P6.out.row
              rw [HSN.out, HYB.out.1]
              with_reducible exact hend
            · rw [HSN.out, HYB.out.1]
              exact HF.out
      | true =>
        cases so with
        | false =>
          cases yo with
          | false =>
            have HF := Lib.hid HRI.out.2.2.2.1
            have HQ := Lib.hid (HRI.out.2.2.2.2.1 rfl)
            clear HRI
            obtain ⟨A_, c_, h_, r_⟩ := P3.out.st.row
            obtain ⟨x0, x1, x2, x3, x4, x5⟩ := h_.cells
            obtain ⟨s0, s1, s2, s3, s4, s5⟩ := P3.out.hs.cells
            simp only at x0 x1 x2 x3 x4 x5 s0 s1 s2 s3 s4 s5
            clear h_ r_
            obtain ⟨rfl, rfl⟩ : yr = qr ∧ yt = qs := HQ.out
            obtain ⟨A9, c9, h9, -⟩ := P3.out.st.row
            have T9 : Hid (∀ W, Kept (v3).drew W → (W.cell? ⟨g, 0, none⟩ = some (.int .i64 pr) ∧ W.cell? ⟨g, 1, none⟩ = some (.int .i64 ps) ∧ W.cell? ⟨g, 2, none⟩ = some (.bool false) ∧ W.cell? ⟨g, 3, none⟩ = some (.int .i64 xr) ∧ W.cell? ⟨g, 4, none⟩ = some (.int .i64 xs) ∧ W.cell? ⟨g, 5, none⟩ = some (.slice A9 xv.length c9)) ∧
                (W.cell? ⟨z, 0, none⟩ = some (.int .i64 yr) ∧ W.cell? ⟨z, 1, none⟩ = some (.int .i64 yt) ∧ W.cell? ⟨z, 2, none⟩ = some (.bool false) ∧ W.cell? ⟨z, 3, none⟩ = some (.int .i64 za) ∧ W.cell? ⟨z, 4, none⟩ = some (.int .i64 zs) ∧ W.cell? ⟨z, 5, none⟩ = some (.slice A' yv.length c')) ∧
                W.cell? ⟨b, off + k * 4, none⟩ = some (.int .i64 yr) ∧ W.cell? ⟨b, off + k * 4 + 1, none⟩ = some (.int .i64 yt)) := Lib.hid (fun W hk => by
              have k' : Kept v3 W := (Kept.refl v3).drew.trans hk
              have ha := HASK.out.kept (K3.out.trans k')
              exact ⟨(h9.kept k').cells, (P3.out.hs.kept k').cells, ha.2.1, ha.2.2.1⟩)
            clear h9
            go_wp2_with fail
            refine wp_region_typed (N := 23) (fl := []) (by kernel_rfl) (by kernel_rfl) ?_
            simp only [List.take_succ_cons, List.take_zero, List.drop_succ_cons, List.drop_zero, List.map_cons, List.map_nil, zipF]
            repeat (first
              | (refine wpT_skip rfl ?_; dsimp only [putS, List.set_cons_succ, List.set_cons_zero])
              | (refine wpT_slot (S := .is _) _ (.inl rfl) rfl (Slot.mono_is _) rfl ?_; dsimp only [putS, List.set_cons_succ, List.set_cons_zero])
              | (refine wpT_slot (S := .is _) _ (.inr rfl) rfl (Slot.mono_is _) rfl ?_; dsimp only [putS, List.set_cons_succ, List.set_cons_zero])
              | (refine wpT_exact1 rfl rfl rfl ?_; apply Exists.intro; refine ⟨fun ρ w hk ⟨c1, c2, c3⟩ h1 => ?_, ?_⟩; (· obtain ⟨⟨t1, t2, t3, t4, t5, t6⟩, ⟨s1, s2, s3, s4, s5, s6⟩, q1, q2⟩ := T9.out w hk; go_simp; exact rfl); dsimp only [putS, List.set_cons_succ, List.set_cons_zero])
              | (refine wpT_exact2 rfl rfl rfl rfl ?_; apply Exists.intro; refine ⟨fun ρ w hk ⟨c1, c2, c3⟩ h1 h2 => ?_, ?_⟩; (· obtain ⟨⟨t1, t2, t3, t4, t5, t6⟩, ⟨s1, s2, s3, s4, s5, s6⟩, q1, q2⟩ := T9.out w hk; go_simp; exact rfl); dsimp only [putS, List.set_cons_succ, List.set_cons_zero])
              | (refine wpT_exact3 rfl rfl rfl rfl rfl ?_; apply Exists.intro; refine ⟨fun ρ w hk ⟨c1, c2, c3⟩ h1 h2 h3 => ?_, ?_⟩; (· obtain ⟨⟨t1, t2, t3, t4, t5, t6⟩, ⟨s1, s2, s3, s4, s5, s6⟩, q1, q2⟩ := T9.out w hk; go_simp; exact rfl); dsimp only [putS, List.set_cons_succ, List.set_cons_zero])
              | (refine wpT_exact4 rfl rfl rfl rfl rfl rfl ?_; apply Exists.intro; refine ⟨fun ρ w hk ⟨c1, c2, c3⟩ h1 h2 h3 h4 => ?_, ?_⟩; (· obtain ⟨⟨t1, t2, t3, t4, t5, t6⟩, ⟨s1, s2, s3, s4, s5, s6⟩, q1, q2⟩ := T9.out w hk; go_simp; exact rfl); dsimp only [putS, List.set_cons_succ, List.set_cons_zero])
              | (refine wpT_exact0 rfl ?_; apply Exists.intro; refine ⟨fun ρ w hk ⟨c1, c2, c3⟩ => ?_, ?_⟩; (· obtain ⟨⟨t1, t2, t3, t4, t5, t6⟩, ⟨s1, s2, s3, s4, s5, s6⟩, q1, q2⟩ := T9.out w hk; go_simp; exact rfl); dsimp only [putS, List.set_cons_succ, List.set_cons_zero])
              | fail)
            refine wpT_nil ?_
            intro wz kz
            simp only [Fits]
            have kz : Kept v3 wz := (Kept.refl v3).drew.trans kz
            have P6 := Lib.hid (P3.out.grow kz)
            clear kz
            refine wpList_end ?_
            obtain ⟨A_, c_, h_, r_⟩ := P6.out.st.row
            obtain ⟨x0, x1, x2, x3, x4, x5⟩ := h_.cells
            obtain ⟨s0, s1, s2, s3, s4, s5⟩ := P6.out.hs.cells
            simp only at x0 x1 x2 x3 x4 x5 s0 s1 s2 s3 s4 s5
            obtain ⟨f0, f1, f2, f3, f4, f5⟩ := h_.free
            clear h_ r_
            go_wp2_with fail
            refine ⟨⟨k + 1, by omega, by go_num, ?_, ?_⟩, by simp [intOf]; omega⟩
            · have hend := P6.out.st.put (y := ⟨yr, yt, false, za, zs, yv⟩) P6.out.row
              rw [HSN.out, HYB.out.1]
              with_reducible exact hend
            · rw [HSN.out, HYB.out.1]
              exact HF.out
          | true =>
            have HF := Lib.hid HRI.out.2.2.2.1
            have H2 := Lib.hid (HRI.out.2.2.2.1 rfl)
            have HQ := Lib.hid (HRI.out.2.2.2.2.1 rfl)
            clear HRI
            obtain ⟨A_, c_, h_, r_⟩ := P3.out.st.row
            obtain ⟨x0, x1, x2, x3, x4, x5⟩ := h_.cells
            obtain ⟨s0, s1, s2, s3, s4, s5⟩ := P3.out.hs.cells
            simp only at x0 x1 x2 x3 x4 x5 s0 s1 s2 s3 s4 s5
            clear h_ r_
            have HC2 := Lib.hid (refcompare_any za zs yr yt)
            have hc2 := H2.out
            generalize cmpB za zs yr yt = zz2 at *
            have hd2 : decide (0 < zz2) = false := by simp; omega
            go_wp2_with fail
            refine (HC2.out _).mono ?_
            rintro e v5 ⟨rfl, k5'⟩
            have k5 : Kept v3 v5 := Kept.call (Kept.refl _) k5'
            have P5 := Lib.hid (P3.out.grow k5)
            have K5 := Lib.hid (K3.out.trans k5)
            clear k5 k5'
            obtain ⟨rfl, rfl⟩ : yr = qr ∧ yt = qs := HQ.out
            obtain ⟨A9, c9, h9, -⟩ := P5.out.st.row
            have T9 : Hid (∀ W, Kept (v5).drew W → (W.cell? ⟨g, 0, none⟩ = some (.int .i64 pr) ∧ W.cell? ⟨g, 1, none⟩ = some (.int .i64 ps) ∧ W.cell? ⟨g, 2, none⟩ = some (.bool false) ∧ W.cell? ⟨g, 3, none⟩ = some (.int .i64 xr) ∧ W.cell? ⟨g, 4, none⟩ = some (.int .i64 xs) ∧ W.cell? ⟨g, 5, none⟩ = some (.slice A9 xv.length c9)) ∧
                (W.cell? ⟨z, 0, none⟩ = some (.int .i64 yr) ∧ W.cell? ⟨z, 1, none⟩ = some (.int .i64 yt) ∧ W.cell? ⟨z, 2, none⟩ = some (.bool true) ∧ W.cell? ⟨z, 3, none⟩ = some (.int .i64 za) ∧ W.cell? ⟨z, 4, none⟩ = some (.int .i64 zs) ∧ W.cell? ⟨z, 5, none⟩ = some (.slice A' yv.length c')) ∧
                W.cell? ⟨b, off + k * 4, none⟩ = some (.int .i64 yr) ∧ W.cell? ⟨b, off + k * 4 + 1, none⟩ = some (.int .i64 yt)) := Lib.hid (fun W hk => by
              have k' : Kept v5 W := (Kept.refl v5).drew.trans hk
              have ha := HASK.out.kept (K5.out.trans k')
              exact ⟨(h9.kept k').cells, (P5.out.hs.kept k').cells, ha.2.1, ha.2.2.1⟩)
            clear h9
            go_wp2_with fail
            refine wp_region_typed (N := 23) (fl := []) (by kernel_rfl) (by kernel_rfl) ?_
            simp only [List.take_succ_cons, List.take_zero, List.drop_succ_cons, List.drop_zero, List.map_cons, List.map_nil, zipF]
            repeat (first
              | (refine wpT_skip rfl ?_; dsimp only [putS, List.set_cons_succ, List.set_cons_zero])
              | (refine wpT_slot (S := .is _) _ (.inl rfl) rfl (Slot.mono_is _) rfl ?_; dsimp only [putS, List.set_cons_succ, List.set_cons_zero])
              | (refine wpT_slot (S := .is _) _ (.inr rfl) rfl (Slot.mono_is _) rfl ?_; dsimp only [putS, List.set_cons_succ, List.set_cons_zero])
              | (refine wpT_exact1 rfl rfl rfl ?_; apply Exists.intro; refine ⟨fun ρ w hk ⟨c1, c2, c3⟩ h1 => ?_, ?_⟩; (· obtain ⟨⟨t1, t2, t3, t4, t5, t6⟩, ⟨s1, s2, s3, s4, s5, s6⟩, q1, q2⟩ := T9.out w hk; go_simp; exact rfl); dsimp only [putS, List.set_cons_succ, List.set_cons_zero])
              | (refine wpT_exact2 rfl rfl rfl rfl ?_; apply Exists.intro; refine ⟨fun ρ w hk ⟨c1, c2, c3⟩ h1 h2 => ?_, ?_⟩; (· obtain ⟨⟨t1, t2, t3, t4, t5, t6⟩, ⟨s1, s2, s3, s4, s5, s6⟩, q1, q2⟩ := T9.out w hk; go_simp; exact rfl); dsimp only [putS, List.set_cons_succ, List.set_cons_zero])
              | (refine wpT_exact3 rfl rfl rfl rfl rfl ?_; apply Exists.intro; refine ⟨fun ρ w hk ⟨c1, c2, c3⟩ h1 h2 h3 => ?_, ?_⟩; (· obtain ⟨⟨t1, t2, t3, t4, t5, t6⟩, ⟨s1, s2, s3, s4, s5, s6⟩, q1, q2⟩ := T9.out w hk; go_simp; exact rfl); dsimp only [putS, List.set_cons_succ, List.set_cons_zero])
              | (refine wpT_exact4 rfl rfl rfl rfl rfl rfl ?_; apply Exists.intro; refine ⟨fun ρ w hk ⟨c1, c2, c3⟩ h1 h2 h3 h4 => ?_, ?_⟩; (· obtain ⟨⟨t1, t2, t3, t4, t5, t6⟩, ⟨s1, s2, s3, s4, s5, s6⟩, q1, q2⟩ := T9.out w hk; go_simp; exact rfl); dsimp only [putS, List.set_cons_succ, List.set_cons_zero])
              | (refine wpT_exact0 rfl ?_; apply Exists.intro; refine ⟨fun ρ w hk ⟨c1, c2, c3⟩ => ?_, ?_⟩; (· obtain ⟨⟨t1, t2, t3, t4, t5, t6⟩, ⟨s1, s2, s3, s4, s5, s6⟩, q1, q2⟩ := T9.out w hk; go_simp; exact rfl); dsimp only [putS, List.set_cons_succ, List.set_cons_zero])
              | fail)
            refine wpT_nil ?_
            intro wz kz
            simp only [Fits]
            have kz : Kept v5 wz := (Kept.refl v5).drew.trans kz
            have P6 := Lib.hid (P5.out.grow kz)
            clear kz
            refine wpList_end ?_
            obtain ⟨A_, c_, h_, r_⟩ := P6.out.st.row
            obtain ⟨x0, x1, x2, x3, x4, x5⟩ := h_.cells
            obtain ⟨s0, s1, s2, s3, s4, s5⟩ := P6.out.hs.cells
            simp only at x0 x1 x2 x3 x4 x5 s0 s1 s2 s3 s4 s5
            obtain ⟨f0, f1, f2, f3, f4, f5⟩ := h_.free
            clear h_ r_
            go_wp2_with fail
            refine ⟨⟨k + 1, by omega, by go_num, ?_, ?_⟩, by simp [intOf]; omega⟩
            · have hend := P6.out.st.put (y := ⟨yr, yt, true, za, zs, yv⟩) P6.out.row
              rw [HSN.out, HYB.out.1]
              with_reducible exact hend
            · rw [HSN.out, HYB.out.1]
              exact HF.out
        | true =>
          cases yo with
          | false =>
            exact absurd (HRI.out.2.2.1 rfl) (by simp)
          | true =>
            have HF := Lib.hid HRI.out.2.2.2.1
            have H2 := Lib.hid (HRI.out.2.2.2.1 rfl)
            have HQ := Lib.hid (HRI.out.2.2.2.2.1 rfl)
            have H3 := Lib.hid (HRI.out.2.2.2.2.2 rfl)
            clear HRI
            obtain ⟨A_, c_, h_, r_⟩ := P3.out.st.row
            obtain ⟨x0, x1, x2, x3, x4, x5⟩ := h_.cells
            obtain ⟨s0, s1, s2, s3, s4, s5⟩ := P3.out.hs.cells
            simp only at x0 x1 x2 x3 x4 x5 s0 s1 s2 s3 s4 s5
            clear h_ r_
            have HC2 := Lib.hid (refcompare_any za zs yr yt)
            have hc2 := H2.out
            generalize cmpB za zs yr yt = zz2 at *
            have hd2 : decide (0 < zz2) = false := by simp; omega
            go_wp2_with fail
            refine (HC2.out _).mono ?_
            rintro e v5 ⟨rfl, k5'⟩
            have k5 : Kept v3 v5 := Kept.call (Kept.refl _) k5'
            have P5 := Lib.hid (P3.out.grow k5)
            have K5 := Lib.hid (K3.out.trans k5)
            clear k5 k5'
            obtain ⟨rfl, rfl⟩ : yr = qr ∧ yt = qs := HQ.out
            have HC3 := Lib.hid (refcompare_any za zs xr xs)
            have hc3 := H3.out
            generalize cmpB za zs xr xs = zz3 at *
            have hd3 : decide (zz3 < 0) = false := by simp; omega
            obtain ⟨A9, c9, h9, -⟩ := P5.out.st.row
            have T9 : Hid (∀ W, Kept (v5).drew W → (W.cell? ⟨g, 0, none⟩ = some (.int .i64 pr) ∧ W.cell? ⟨g, 1, none⟩ = some (.int .i64 ps) ∧ W.cell? ⟨g, 2, none⟩ = some (.bool true) ∧ W.cell? ⟨g, 3, none⟩ = some (.int .i64 xr) ∧ W.cell? ⟨g, 4, none⟩ = some (.int .i64 xs) ∧ W.cell? ⟨g, 5, none⟩ = some (.slice A9 xv.length c9)) ∧
                (W.cell? ⟨z, 0, none⟩ = some (.int .i64 yr) ∧ W.cell? ⟨z, 1, none⟩ = some (.int .i64 yt) ∧ W.cell? ⟨z, 2, none⟩ = some (.bool true) ∧ W.cell? ⟨z, 3, none⟩ = some (.int .i64 za) ∧ W.cell? ⟨z, 4, none⟩ = some (.int .i64 zs) ∧ W.cell? ⟨z, 5, none⟩ = some (.slice A' yv.length c')) ∧
                W.cell? ⟨b, off + k * 4, none⟩ = some (.int .i64 yr) ∧ W.cell? ⟨b, off + k * 4 + 1, none⟩ = some (.int .i64 yt)) := Lib.hid (fun W hk => by
              have k' : Kept v5 W := (Kept.refl v5).drew.trans hk
              have ha := HASK.out.kept (K5.out.trans k')
              exact ⟨(h9.kept k').cells, (P5.out.hs.kept k').cells, ha.2.1, ha.2.2.1⟩)
            clear h9
            go_wp2_with fail
            refine wp_region_typed (N := 23) (fl := []) (by kernel_rfl) (by kernel_rfl) ?_
            simp only [List.take_succ_cons, List.take_zero, List.drop_succ_cons, List.drop_zero, List.map_cons, List.map_nil, zipF]
            repeat (first
              | (refine wpT_skip rfl ?_; dsimp only [putS, List.set_cons_succ, List.set_cons_zero])
              | (refine wpT_slot (S := .is _) _ (.inl rfl) rfl (Slot.mono_is _) rfl ?_; dsimp only [putS, List.set_cons_succ, List.set_cons_zero])
              | (refine wpT_slot (S := .is _) _ (.inr rfl) rfl (Slot.mono_is _) rfl ?_; dsimp only [putS, List.set_cons_succ, List.set_cons_zero])
              | (refine wpT_exact1 rfl rfl rfl ?_; apply Exists.intro; refine ⟨fun ρ w hk ⟨c1, c2, c3⟩ h1 => ?_, ?_⟩; (· obtain ⟨⟨t1, t2, t3, t4, t5, t6⟩, ⟨s1, s2, s3, s4, s5, s6⟩, q1, q2⟩ := T9.out w hk; go_simp; exact rfl); dsimp only [putS, List.set_cons_succ, List.set_cons_zero])
              | (refine wpT_exact2 rfl rfl rfl rfl ?_; apply Exists.intro; refine ⟨fun ρ w hk ⟨c1, c2, c3⟩ h1 h2 => ?_, ?_⟩; (· obtain ⟨⟨t1, t2, t3, t4, t5, t6⟩, ⟨s1, s2, s3, s4, s5, s6⟩, q1, q2⟩ := T9.out w hk; go_simp; exact rfl); dsimp only [putS, List.set_cons_succ, List.set_cons_zero])
              | (refine wpT_exact3 rfl rfl rfl rfl rfl ?_; apply Exists.intro; refine ⟨fun ρ w hk ⟨c1, c2, c3⟩ h1 h2 h3 => ?_, ?_⟩; (· obtain ⟨⟨t1, t2, t3, t4, t5, t6⟩, ⟨s1, s2, s3, s4, s5, s6⟩, q1, q2⟩ := T9.out w hk; go_simp; exact rfl); dsimp only [putS, List.set_cons_succ, List.set_cons_zero])
              | (refine wpT_exact4 rfl rfl rfl rfl rfl rfl ?_; apply Exists.intro; refine ⟨fun ρ w hk ⟨c1, c2, c3⟩ h1 h2 h3 h4 => ?_, ?_⟩; (· obtain ⟨⟨t1, t2, t3, t4, t5, t6⟩, ⟨s1, s2, s3, s4, s5, s6⟩, q1, q2⟩ := T9.out w hk; go_simp; exact rfl); dsimp only [putS, List.set_cons_succ, List.set_cons_zero])
              | (refine wpT_exact0 rfl ?_; apply Exists.intro; refine ⟨fun ρ w hk ⟨c1, c2, c3⟩ => ?_, ?_⟩; (· obtain ⟨⟨t1, t2, t3, t4, t5, t6⟩, ⟨s1, s2, s3, s4, s5, s6⟩, q1, q2⟩ := T9.out w hk; go_simp; exact rfl); dsimp only [putS, List.set_cons_succ, List.set_cons_zero])
              | (refine wpT_is (.int .i64 zz3) rfl (fun ρ w hk ⟨c1, c2, c3⟩ ⟨h11, h12, _⟩ => ?_) ?_
                 · have e1 : ρ (.tmp 82) = _ := h11
                   have e2 : ρ (.tmp 84) = _ := h12
                   refine upT_call 20 _ (by go_simp) ((HC3.out w).mono ?_)
                   rintro e u ⟨rfl, hb⟩
                   exact ⟨_, rfl, (Kept.refl _).call hb, rfl⟩
                 dsimp only [putS, List.set_cons_succ, List.set_cons_zero])
              | fail)
            refine wpT_nil ?_
            intro wz kz
            simp only [Fits]
            have kz : Kept v5 wz := (Kept.refl v5).drew.trans kz
            have P6 := Lib.hid (P5.out.grow kz)
            clear kz
            refine wpList_end ?_
            obtain ⟨A_, c_, h_, r_⟩ := P6.out.st.row
            obtain ⟨x0, x1, x2, x3, x4, x5⟩ := h_.cells
            obtain ⟨s0, s1, s2, s3, s4, s5⟩ := P6.out.hs.cells
            simp only at x0 x1 x2 x3 x4 x5 s0 s1 s2 s3 s4 s5
            obtain ⟨f0, f1, f2, f3, f4, f5⟩ := h_.free
            clear h_ r_
            go_wp2_with fail
            refine ⟨⟨k + 1, by omega, by go_num, ?_, ?_⟩, by simp [intOf]; omega⟩
            · have hend := P6.out.st.put (y := ⟨yr, yt, true, za, zs, yv⟩) P6.out.row
              rw [HSN.out, HYB.out.1]
              with_reducible exact hend
            · rw [HSN.out, HYB.out.1]
              exact HF.out
    · have hex : k < len0 ∧ ¬ k < 100 ∨ k = len0 := by omega
      clear hc
      have KK := Lib.hid (KV.out.trans hst.kept)
      clear hst hfit
      rcases hex with ⟨hlt, h100⟩ | rfl
      all_goals
        go_wp2
        go_ret
        exact ⟨rfl, KK.out.1⟩
end Go.Proofs.Ytlcmfikekbbgjaa
