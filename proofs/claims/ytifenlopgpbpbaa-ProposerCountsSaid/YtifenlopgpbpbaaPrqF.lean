/- Greatest, of the program and of the document. -/
import Derived.Test.YtifenlopgpbpbaaPrqC
import Derived.Test.YtifenlopgpbpbaaPrqE
namespace Go.Proofs.Ytifenlopgpbpbaa
open Go.RowKit

set_option maxRecDepth 100000 in
set_option maxHeartbeats 2000000 in
theorem greatest_any {w : World} {A : Option Addr} {N cap : Nat} {l : List Vt} (hl : l.length = N) (hR : EV.Reads w A l) (hN : N ≤ 1099511627776) :
    Calls Try.prog 13 #[.slice A N cap] w fun e w' => ∃ y, y = (gV l).getD Vt.zero ∧ e = .returned (.tuple #[.agg #[.int .i64 y.r, .int .i64 y.s], .bool (decide (0 < N))]) ∧ Kept w w' := by
  have KV := Lib.hid ((Kept.refl w).alloc (.cells #[.int .i64 0, .int .i64 0] 33))
  have PV : Hid (Bx (w.alloc (.cells #[.int .i64 0, .int .i64 0] 33)) w.heap.size 0 0) := Lib.hid (push_new w _)
  have HG := Lib.hid (greatestV_any (w := w.alloc (.cells #[.int .i64 0, .int .i64 0] 33)) (cap := cap) hl (hR.kept KV.out) hN)
  clear hl hR
  go_enter Try.func13, Try.ntmps13
  go_wp2_with fail
  refine HG.out.mono ?_
  rintro e u ⟨y, hy, rfl, k1⟩
  have HY := Lib.hid hy
  have P1 := PV.out.kept k1
  have K1 := Lib.hid (KV.out.trans k1)
  have b0 := P1.c0
  have b1 := P1.c1
  have f0 : u.frozen? ⟨w.heap.size, 0, none⟩ = false := frozen_of_heap P1 0
  have f1 : u.frozen? ⟨w.heap.size, 1, none⟩ = false := frozen_of_heap P1 1
  have hlt : w.heap.size < u.heap.size := heap_lt P1
  obtain ⟨yw, yr, ys⟩ := y
  simp only
  have P2 : Hid ((((u.setCell ⟨w.heap.size, 0, none⟩ (.int .i64 yr)).setCell ⟨w.heap.size, 1, none⟩ (.int .i64 ys)).alloc (.cells #[.int .i64 yw, .int .i64 yr, .int .i64 ys] 60)).heap[w.heap.size]? = some (.cells #[.int .i64 yr, .int .i64 ys] 33 (0, 0))) := Lib.hid (by
    have h1 : ((u.setCell ⟨w.heap.size, 0, none⟩ (.int .i64 yr)).setCell ⟨w.heap.size, 1, none⟩ (.int .i64 ys)).heap[w.heap.size]? = some (.cells #[.int .i64 yr, .int .i64 ys] 33 (0, 0)) := (heap_setCell_same (heap_setCell_same P1 _) _).trans rfl
    exact (push_old _ _ (heap_lt h1)).trans h1)
  have K2 : Hid (Kept w (((u.setCell ⟨w.heap.size, 0, none⟩ (.int .i64 yr)).setCell ⟨w.heap.size, 1, none⟩ (.int .i64 ys)).alloc (.cells #[.int .i64 yw, .int .i64 yr, .int .i64 ys] 60))) := Lib.hid (((K1.out.setCell (p := ⟨w.heap.size, 0, none⟩) (Nat.le_refl _) _).setCell (p := ⟨w.heap.size, 1, none⟩) (Nat.le_refl _) _).alloc _)
  clear hy k1 P1
  go_wp2
  refine bodyPost_ret (results_row_tmp (p := 2) (u := 3) (ty := 33) rfl _ _ _ w.heap.size _ _ _ _ _ rfl rfl (by with_reducible exact P2.out) Try.underlying33 rfl (by kernel_rfl)) rfl ?_
  refine ⟨_, HY.out, rfl, ?_⟩
  with_reducible exact K2.out

set_option maxRecDepth 100000 in
set_option maxHeartbeats 2000000 in
theorem refgreatest_any {w : World} {A : Option Addr} {N cap : Nat} {l : List Vt} (hl : l.length = N) (hR : EVr.Reads w A l) (hN : N ≤ 1099511627776) :
    Calls Try.prog 14 #[.slice A N cap] w fun e w' => ∃ y, y = (gV l).getD Vt.zero ∧ e = .returned (.tuple #[.agg #[.int .i64 y.r, .int .i64 y.s], .bool (decide (0 < N))]) ∧ Kept w w' := by
  by_cases h0 : N = 0
  · subst h0
    obtain rfl := List.eq_nil_of_length_eq_zero hl
    go_enter Try.func14, Try.ntmps14
    have P2 : Hid ((w.alloc (.cells #[.int .i64 0, .int .i64 0] 33)).heap[w.heap.size]? = some (.cells #[.int .i64 0, .int .i64 0] 33 (0, 0))) := Lib.hid (push_new w _)
    have K2 : Hid (Kept w (w.alloc (.cells #[.int .i64 0, .int .i64 0] 33))) := Lib.hid ((Kept.refl w).alloc _)
    go_wp2
    refine bodyPost_ret (results_row_tmp (p := 2) (u := 3) (ty := 33) rfl _ _ _ w.heap.size _ _ _ _ _ rfl rfl (by with_reducible exact P2.out) Try.underlying33 rfl (by kernel_rfl)) rfl ?_
    refine ⟨Vt.zero, rfl, rfl, ?_⟩
    with_reducible exact K2.out
  · have HL := Lib.hid hl
    have KV := Lib.hid ((Kept.refl w).alloc (.cells #[.int .i64 0, .int .i64 0] 33))
    have PV : Hid (Bx (w.alloc (.cells #[.int .i64 0, .int .i64 0] 33)) w.heap.size 0 0) := Lib.hid (push_new w _)
    have HR := Lib.hid (show EV.Reads (w.alloc (.cells #[.int .i64 0, .int .i64 0] 33)) A l from (hR.kept KV.out).as (fun _ => rfl) rfl)
    have HT : Hid (l.take l.length = l) := Lib.hid (by rw [List.take_length])
    have hN0 : 0 < N := by omega
    have hdz : ((N : Int) == 0) = false := by simp; omega
    have hl0 : 0 < l.length := by omega
    obtain ⟨b, off, rfl, hb, c0, c1, c2⟩ := EV_three HR.out hl0
    have HG1 : Hid (gV (l.take 1) = some l[0]) := Lib.hid (by
      cases l with
      | nil => simp at hl0
      | cons x l => rfl)
    generalize l[0] = x at *
    obtain ⟨xw, xr, xs⟩ := x
    simp only at c0 c1 c2
    simp only [Nat.zero_mul, Nat.add_zero] at c0 c1 c2
    have HR0 := Lib.hid (show EV.Reads w (some ⟨b, off, none⟩) l from hR.as (fun _ => rfl) rfl)
    clear hR hl
    go_enter Try.func14, Try.ntmps14
    go_wp2_with fail
    have K1 := Lib.hid (KV.out.alloc (.cells #[.int .i64 xr, .int .i64 xs] 33))
    have A1 : Hid (Bx ((w.alloc (.cells #[.int .i64 0, .int .i64 0] 33)).alloc (.cells #[.int .i64 xr, .int .i64 xs] 33)) w.heap.size 0 0) := Lib.hid (push_two_old w _ _)
    have B1 : Hid (Bx ((w.alloc (.cells #[.int .i64 0, .int .i64 0] 33)).alloc (.cells #[.int .i64 xr, .int .i64 xs] 33)) (w.heap.size + 1) xr xs) := Lib.hid (push_two_new w _ _)
    have HR1 := Lib.hid (HR.out.kept ((Kept.refl _).alloc (.cells #[.int .i64 xr, .int .i64 xs] 33)))
    have HRW := Lib.hid (show EV.Reads w (some ⟨b, off, none⟩) l from HR0.out)
    clear c0 c1 c2 hb
    go_loopw [5] (fun i wr => ∃ k : Nat, 1 ≤ k ∧ k ≤ N ∧ i = .int .i64 k ∧ Kept w wr ∧ Bx wr w.heap.size 0 0 ∧ ∃ y, gV (l.take k) = some y ∧ Bx wr (w.heap.size + 1) y.r y.s) (fun i _ => N - (intOf i).toNat)
    case atStart => exact ⟨1, Nat.le_refl _, hN0, rfl, K1.out, A1.out, _, HG1.out, B1.out⟩
    case round =>
      obtain ⟨k, hk1, hk, rfl, kk, ha, ⟨yw, yr, ys⟩, hy, hbx⟩ := hrel
      have KK := Lib.hid kk
      have HA := Lib.hid ha
      have HB := Lib.hid hbx
      by_cases hlt : k < N
      · have hkl : k < l.length := by rw [HL.out]; exact hlt
        obtain ⟨b', off', e', hb, c0, c1, c2⟩ := EV_three (HRW.out.kept kk) hkl
        obtain ⟨rfl, rfl⟩ : b = b' ∧ off = off' := by injection e' with e'; injection e' with h1 h2; exact ⟨h1, h2⟩
        have HS : Hid (gV (l.take (k + 1)) = gvStep (some ⟨yw, yr, ys⟩) l[k]) := Lib.hid (by rw [List.take_succ_eq_append_getElem hkl, gV_snoc, hy])
        generalize l[k] = x at *
        obtain ⟨who, ar, as_⟩ := x
        simp only at c0 c1 c2
        have HG : Hid (gvStep (some ⟨yw, yr, ys⟩) ⟨who, ar, as_⟩ = if 0 < cmpB ar as_ yr ys then some ⟨who, ar, as_⟩ else some ⟨yw, yr, ys⟩) := Lib.hid rfl
        have HC := Lib.hid (refcompare_any ar as_ yr ys)
        generalize cmpB ar as_ yr ys = z at *
        have hgl : w.heap.size + 1 < wr.heap.size := heap_lt hbx
        have T1 : Hid (∀ W, Kept wr.drew W → W.cell? ⟨b, off + k * 3 + 1, none⟩ = some (.int .i64 ar) ∧ W.cell? ⟨b, off + k * 3 + 2, none⟩ = some (.int .i64 as_) ∧ W.cell? ⟨w.heap.size + 1, 0, none⟩ = some (.int .i64 yr) ∧ W.cell? ⟨w.heap.size + 1, 1, none⟩ = some (.int .i64 ys)) := Lib.hid (fun W hk => by
          have k' : Kept wr W := (Kept.refl _).drew.trans hk
          exact ⟨(k'.cell (p := ⟨b, off + k * 3 + 1, none⟩) hb).trans c1, (k'.cell (p := ⟨b, off + k * 3 + 2, none⟩) hb).trans c2, (HB.out.kept k').c0, (HB.out.kept k').c1⟩)
        have TB : Hid (wr.cell? ⟨b, off + k * 3 + 1, none⟩ = some (.int .i64 ar) ∧ wr.cell? ⟨b, off + k * 3 + 2, none⟩ = some (.int .i64 as_)) := Lib.hid ⟨c1, c2⟩
        have HBL := Lib.hid hb
        clear kk ha hbx hy c0 c1 c2 e'
        go_wp2_with fail
        refine wp_region_typed (N := 8) (fl := []) (by kernel_rfl) (by kernel_rfl) ?_
        simp only [List.take_succ_cons, List.take_zero, List.drop_succ_cons, List.drop_zero, List.map_cons, List.map_nil, zipF]
        repeat (first
          | (refine wpT_is (.int .i64 z) rfl (fun ρ w2 hk ⟨c1, c2, c3⟩ ⟨h1, h2, _⟩ => ?_) ?_
             · have h1 : ρ (.tmp 24) = _ := h1
               have h2 : ρ (.tmp 25) = _ := h2
               refine upT_call 21 #[.agg #[.int .i64 ar, .int .i64 as_], .agg #[.int .i64 yr, .int .i64 ys]] ?_ ((HC.out w2).mono ?_)
               · go_simp
               rintro e u ⟨rfl, hk2⟩
               exact ⟨_, rfl, (Kept.refl _).call hk2, rfl⟩
             dsimp only [putS, List.set_cons_succ, List.set_cons_zero])
          | (refine wpT_skip rfl ?_; dsimp only [putS, List.set_cons_succ, List.set_cons_zero])
          | (refine wpT_slot (S := .is _) _ (.inl rfl) rfl (Slot.mono_is _) rfl ?_; dsimp only [putS, List.set_cons_succ, List.set_cons_zero])
          | (refine wpT_slot (S := .is _) _ (.inr rfl) rfl (Slot.mono_is _) rfl ?_; dsimp only [putS, List.set_cons_succ, List.set_cons_zero])
          | (refine wpT_exact1 rfl rfl rfl ?_; apply Exists.intro; refine ⟨fun ρ w hk ⟨c1, c2, c3⟩ h1 => ?_, ?_⟩; (· obtain ⟨t1, t2, t3, t4⟩ := T1.out w hk; go_simp; exact rfl); dsimp only [putS, List.set_cons_succ, List.set_cons_zero])
          | (refine wpT_exact2 rfl rfl rfl rfl ?_; apply Exists.intro; refine ⟨fun ρ w hk ⟨c1, c2, c3⟩ h1 h2 => ?_, ?_⟩; (· obtain ⟨t1, t2, t3, t4⟩ := T1.out w hk; go_simp; exact rfl); dsimp only [putS, List.set_cons_succ, List.set_cons_zero])
          | (refine wpT_exact3 rfl rfl rfl rfl rfl ?_; apply Exists.intro; refine ⟨fun ρ w hk ⟨c1, c2, c3⟩ h1 h2 h3 => ?_, ?_⟩; (· obtain ⟨t1, t2, t3, t4⟩ := T1.out w hk; go_simp; exact rfl); dsimp only [putS, List.set_cons_succ, List.set_cons_zero])
          | (refine wpT_exact4 rfl rfl rfl rfl rfl rfl ?_; apply Exists.intro; refine ⟨fun ρ w hk ⟨c1, c2, c3⟩ h1 h2 h3 h4 => ?_, ?_⟩; (· obtain ⟨t1, t2, t3, t4⟩ := T1.out w hk; go_simp; exact rfl); dsimp only [putS, List.set_cons_succ, List.set_cons_zero])
          | (refine wpT_exact0 rfl ?_; apply Exists.intro; refine ⟨fun ρ w hk ⟨c1, c2, c3⟩ => ?_, ?_⟩; (· obtain ⟨t1, t2, t3, t4⟩ := T1.out w hk; go_simp; exact rfl); dsimp only [putS, List.set_cons_succ, List.set_cons_zero])
          | fail)
        refine wpT_nil ?_
        intro wz kz
        simp only [Fits]
        have kz' : Kept wr wz := (Kept.refl _).drew.trans kz
        have KZ := Lib.hid (KK.out.trans kz')
        have ZA := Lib.hid (HA.out.kept kz')
        have ZB := Lib.hid (HB.out.kept kz')
        by_cases hz : 0 < z
        · have hzd : decide (0 < z) = true := decide_eq_true hz
          rw [if_pos hz] at HG
          have c1 := (kz'.cell (p := ⟨b, off + k * 3 + 1, none⟩) HBL.out).trans TB.out.1
          have c2 := (kz'.cell (p := ⟨b, off + k * 3 + 2, none⟩) HBL.out).trans TB.out.2
          have d0 := ZB.out.c0
          have d1 := ZB.out.c1
          have f0 : wz.frozen? ⟨w.heap.size + 1, 0, none⟩ = false := frozen_of_heap ZB.out 0
          have f1 : wz.frozen? ⟨w.heap.size + 1, 1, none⟩ = false := frozen_of_heap ZB.out 1
          have RB : Hid (Bx ((wz.setCell ⟨w.heap.size + 1, 0, none⟩ (.int .i64 ar)).setCell ⟨w.heap.size + 1, 1, none⟩ (.int .i64 as_)) (w.heap.size + 1) ar as_) := Lib.hid ((heap_setCell_same (heap_setCell_same ZB.out _) _).trans rfl)
          have RA : Hid (Bx ((wz.setCell ⟨w.heap.size + 1, 0, none⟩ (.int .i64 ar)).setCell ⟨w.heap.size + 1, 1, none⟩ (.int .i64 as_)) w.heap.size 0 0) := Lib.hid (((Below.heap_setCell _ ⟨w.heap.size + 1, 1, none⟩ _ w.heap.size (by simp)).trans (Below.heap_setCell wz ⟨w.heap.size + 1, 0, none⟩ _ w.heap.size (by simp))).trans ZA.out)
          have RK : Hid (Kept w ((wz.setCell ⟨w.heap.size + 1, 0, none⟩ (.int .i64 ar)).setCell ⟨w.heap.size + 1, 1, none⟩ (.int .i64 as_))) := Lib.hid ((KZ.out.setCell (p := ⟨w.heap.size + 1, 0, none⟩) (Nat.le_succ _) _).setCell (p := ⟨w.heap.size + 1, 1, none⟩) (Nat.le_succ _) _)
          clear kz kz' T1 TB ZA ZB
          refine wpList_end ?_
          go_wp2
          go_roundw
          case rel => exact ⟨k + 1, by omega, by omega, by go_num, RK.out, RA.out, _, HS.out.trans HG.out, RB.out⟩
          case measure => simp [intOf]; omega
        · have hzd : decide (0 < z) = false := decide_eq_false hz
          rw [if_neg hz] at HG
          clear kz kz' T1 TB
          refine wpList_end ?_
          go_wp2
          go_roundw
          case rel => exact ⟨k + 1, by omega, by omega, by go_num, KZ.out, ZA.out, _, HS.out.trans HG.out, ZB.out⟩
          case measure => simp [intOf]; omega
      · obtain rfl : k = N := by omega
        have e : l.take k = l := by rw [← HL.out, HT.out]
        rw [e] at hy
        have HY : Hid (gV l = some ⟨yw, yr, ys⟩) := Lib.hid hy
        have a0 := ha.c0
        have a1 := ha.c1
        have f0 : wr.frozen? ⟨w.heap.size, 0, none⟩ = false := frozen_of_heap ha 0
        have f1 : wr.frozen? ⟨w.heap.size, 1, none⟩ = false := frozen_of_heap ha 1
        have d0 := hbx.c0
        have d1 := hbx.c1
        have P2 : Hid (((wr.setCell ⟨w.heap.size, 0, none⟩ (.int .i64 yr)).setCell ⟨w.heap.size, 1, none⟩ (.int .i64 ys)).heap[w.heap.size]? = some (.cells #[.int .i64 yr, .int .i64 ys] 33 (0, 0))) := Lib.hid ((heap_setCell_same (heap_setCell_same ha _) _).trans rfl)
        have K2 : Hid (Kept w ((wr.setCell ⟨w.heap.size, 0, none⟩ (.int .i64 yr)).setCell ⟨w.heap.size, 1, none⟩ (.int .i64 ys))) := Lib.hid ((KK.out.setCell (p := ⟨w.heap.size, 0, none⟩) (Nat.le_refl _) _).setCell (p := ⟨w.heap.size, 1, none⟩) (Nat.le_refl _) _)
        have hd : decide (0 < k) = true := decide_eq_true hN0
        have HD := Lib.hid hd
        clear kk ha hbx hy e hd
        go_wp2
        refine bodyPost_ret (results_row_tmp (p := 2) (u := 3) (ty := 33) rfl _ _ _ w.heap.size _ _ _ _ _ rfl rfl (by with_reducible exact P2.out) Try.underlying33 rfl (by kernel_rfl)) rfl ?_
        refine ⟨by rw [HY.out]; rfl, ?_⟩
        with_reducible exact K2.out
end Go.Proofs.Ytifenlopgpbpbaa
