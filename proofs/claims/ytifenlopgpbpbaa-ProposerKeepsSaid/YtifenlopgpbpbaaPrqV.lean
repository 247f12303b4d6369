/- The law's play: a ballot is begun. -/
import Derived.Test.YtifenlopgpbpbaaPrqU
import Derived.Deep.CutRange
import Derived.Deep.DeepCutAuto
namespace Go.Proofs.Ytifenlopgpbpbaa
open Go.RowKit

set_option maxRecDepth 100000 in
set_option maxHeartbeats 16000000 in
theorem play_k0 {v W : World} {g : Nat} {v0 : List Nat} {s : Sl} (hw : SlW v W g s) (I : Inv v0 s) (F : Few 1000 s) (e : Evt) (he : EvOk e) (hki : e.kind = 0) :
    Calls Try.prog 19 #[.pointer (some ⟨g, 0, none⟩), .agg #[.int .i64 e.kind, .int .i64 e.p, .int .i64 e.k, .int .i64 e.a, .bool e.lost]] W fun e' w' => e' = .returned (.tuple #[]) ∧ SlW v w' g (playS s e) := by
  obtain ⟨sl, rl, R, rc, M, H⟩ := hw
  obtain ⟨kq, aq, x, ac, hk, ha, hx, hac, hkr, haq⟩ := play_places I e
  have hpl := playS_at hx hac hk ha
  obtain ⟨n, all, rds⟩ := s
  simp only at M hk ha hkr hx hac haq hpl
  have hmany : rl.length = rds.length := H.many
  have h7 := M.seven
  have hn := I.n1
  have hfl : rds.length ≤ 1000 := F.1
  simp only at hn
  have hkl : kq < rl.length := by omega
  have hal : aq < sl.length := by omega
  have hrd : RdAt W rl[kq] x := by
    have := H.rd kq hkl hkr
    rw [List.getElem?_eq_getElem hkr] at hx
    injection hx with hx
    rw [← hx]; exact this
  have hse : sl[aq].x = ac ∧ RowB W sl[aq].A sl[aq].x.val.length sl[aq].c sl[aq].x.val := by
    refine ⟨?_, H.each _ (List.getElem_mem hal)⟩
    have hall := H.all
    simp only at hall
    rw [← hall, List.getElem?_map, List.getElem?_eq_getElem hal] at hac
    exact Option.some.inj hac
  have HPL := Lib.hid hpl
  have HRD := Lib.hid hrd
  have HSE := Lib.hid hse
  have HI := Lib.hid I
  have HF := Lib.hid F
  have HM := Lib.hid M
  have HH := Lib.hid H
  have HX := Lib.hid hx
  obtain ⟨ki, p, kk, ai, lost⟩ := e
  obtain ⟨⟨-, -⟩, hep, hek, hea⟩ := he
  simp only at hep hek hea hk ha HPL hki
  subst hki
  rw [if_pos rfl] at HPL
  have L1 : Hid (∀ W', Calls Try.prog 30 #[.int .i64 kk, .int .i64 (rl.length : Int)] W' fun e w' => e = .returned (.int .i64 (kq : Int)) ∧ w' = W') := Lib.hid (fun W' => by rw [← hk, hmany]; exact least_any hek (by omega) W')
  have L2 : Hid (∀ W', Calls Try.prog 30 #[.int .i64 ai, .int .i64 n] W' fun e w' => e = .returned (.int .i64 (aq : Int)) ∧ w' = W') := Lib.hid (fun W' => by rw [← ha]; exact least_any hea (by omega) W')
  have L3 : Hid (∀ W', Calls Try.prog 30 #[.int .i64 p, .int .i64 n] W' fun e w' => e = .returned (.int .i64 (leastI p n)) ∧ w' = W') := Lib.hid (fun W' => least_any hep (by omega) W')
  have haq7 : aq < 7 := by omega
  obtain ⟨RB, rfl, hRB, hRBv, hRBg, hrc, hrf, -⟩ := M.round hkl
  have hgl := M.lt
  have K0 : Hid (Kept W (W.alloc (.cells #[.int .i64 0, .int .i64 p, .int .i64 kk, .int .i64 ai, .bool lost] 53))) := Lib.hid ((Kept.refl W).alloc _)
  have EV0 : Hid (HEv (W.alloc (.cells #[.int .i64 0, .int .i64 p, .int .i64 kk, .int .i64 ai, .bool lost] 53)) W.heap.size 0 p kk ai lost) := Lib.hid (push_new W _)
  clear hrc hrf M H hpl hrd hse I F hx hac hk ha hek hea hmany
  go_enter Try.func19, Try.ntmps19
  go_wp2_with fail
  generalize hW1 : W.alloc (.cells #[.int .i64 0, .int .i64 p, .int .i64 kk, .int .i64 ai, .bool lost] 53) = W1 at *
  clear hW1
  generalize W.heap.size = ge at *
  have T1 : Hid (∀ W', Kept W1.drew W' → (W'.cell? ⟨ge, 0, none⟩ = some (.int .i64 0) ∧ W'.cell? ⟨ge, 1, none⟩ = some (.int .i64 p) ∧ W'.cell? ⟨ge, 2, none⟩ = some (.int .i64 kk) ∧ W'.cell? ⟨ge, 3, none⟩ = some (.int .i64 ai) ∧ W'.cell? ⟨ge, 4, none⟩ = some (.bool lost)) ∧ W'.cell? ⟨g, 0, none⟩ = some (.int .i64 n) ∧ W'.cell? ⟨g, 43, none⟩ = some (.slice (some ⟨RB, 0, none⟩) rl.length rc)) := Lib.hid (fun W' h => by
    have k' := (Kept.refl W1).drew.trans h
    have m := HM.out.grow (K0.out.trans k')
    exact ⟨(EV0.out.kept k').cells, m.n, m.rounds⟩)
  refine wp_region_typed (N := 9) (fl := []) (by kernel_rfl) (by kernel_rfl) ?_
  simp only [List.take_succ_cons, List.take_zero, List.drop_succ_cons, List.drop_zero, List.map_cons, List.map_nil, zipF]
  repeat (first
    | (refine wpT_is (.int .i64 (kq : Int)) rfl (fun ρ w hk ⟨c1, c2, c3⟩ ⟨h1, h2, _⟩ => ?_) ?_
       · have h1 : ρ (.tmp 16) = _ := h1
         have h2 : ρ (.tmp 21) = _ := h2
         refine upT_call 30 #[.int .i64 kk, .int .i64 (rl.length : Int)] ?_ ((L1.out w).mono ?_)
         · go_simp
         rintro e u ⟨rfl, rfl⟩
         exact ⟨_, rfl, Kept.refl _, rfl⟩
       dsimp only [putS, List.set_cons_succ, List.set_cons_zero])
    | (refine wpT_skip rfl ?_; dsimp only [putS, List.set_cons_succ, List.set_cons_zero])
    | (refine wpT_slot (S := .is _) _ (.inl rfl) rfl (Slot.mono_is _) rfl ?_; dsimp only [putS, List.set_cons_succ, List.set_cons_zero])
    | (refine wpT_slot (S := .is _) _ (.inr rfl) rfl (Slot.mono_is _) rfl ?_; dsimp only [putS, List.set_cons_succ, List.set_cons_zero])
    | (refine wpT_exact1 rfl rfl rfl ?_; apply Exists.intro; refine ⟨fun ρ w hk ⟨c1, c2, c3⟩ h1 => ?_, ?_⟩; (· obtain ⟨⟨t1, t2, t3, t4, t5⟩, t6, t7⟩ := T1.out w hk; go_simp; exact rfl); dsimp only [putS, List.set_cons_succ, List.set_cons_zero])
    | (refine wpT_exact2 rfl rfl rfl rfl ?_; apply Exists.intro; refine ⟨fun ρ w hk ⟨c1, c2, c3⟩ h1 h2 => ?_, ?_⟩; (· obtain ⟨⟨t1, t2, t3, t4, t5⟩, t6, t7⟩ := T1.out w hk; go_simp; exact rfl); dsimp only [putS, List.set_cons_succ, List.set_cons_zero])
    | (refine wpT_exact3 rfl rfl rfl rfl rfl ?_; apply Exists.intro; refine ⟨fun ρ w hk ⟨c1, c2, c3⟩ h1 h2 h3 => ?_, ?_⟩; (· obtain ⟨⟨t1, t2, t3, t4, t5⟩, t6, t7⟩ := T1.out w hk; go_simp; exact rfl); dsimp only [putS, List.set_cons_succ, List.set_cons_zero])
    | (refine wpT_exact4 rfl rfl rfl rfl rfl rfl ?_; apply Exists.intro; refine ⟨fun ρ w hk ⟨c1, c2, c3⟩ h1 h2 h3 h4 => ?_, ?_⟩; (· obtain ⟨⟨t1, t2, t3, t4, t5⟩, t6, t7⟩ := T1.out w hk; go_simp; exact rfl); dsimp only [putS, List.set_cons_succ, List.set_cons_zero])
    | (refine wpT_exact0 rfl ?_; apply Exists.intro; refine ⟨fun ρ w hk ⟨c1, c2, c3⟩ => ?_, ?_⟩; (· obtain ⟨⟨t1, t2, t3, t4, t5⟩, t6, t7⟩ := T1.out w hk; go_simp; exact rfl); dsimp only [putS, List.set_cons_succ, List.set_cons_zero])
    | fail)
  refine wpT_nil ?_
  intro wz kz
  simp only [Fits]
  obtain ⟨W2, hW2⟩ : ∃ x, x = wz := ⟨_, rfl⟩
  subst hW2
  have K2 : Hid (Kept W W2) := Lib.hid (K0.out.trans ((Kept.refl W1).drew.trans kz))
  have EV2 := Lib.hid (EV0.out.kept ((Kept.refl W1).drew.trans kz))
  clear kz T1 K0 EV0
  refine wpList_end ?_
  go_wp2_with fail
  have T1 : Hid (∀ W', Kept W2.drew W' → (W'.cell? ⟨ge, 0, none⟩ = some (.int .i64 0) ∧ W'.cell? ⟨ge, 1, none⟩ = some (.int .i64 p) ∧ W'.cell? ⟨ge, 2, none⟩ = some (.int .i64 kk) ∧ W'.cell? ⟨ge, 3, none⟩ = some (.int .i64 ai) ∧ W'.cell? ⟨ge, 4, none⟩ = some (.bool lost)) ∧ W'.cell? ⟨g, 0, none⟩ = some (.int .i64 n) ∧ W'.cell? ⟨g, 43, none⟩ = some (.slice (some ⟨RB, 0, none⟩) rl.length rc)) := Lib.hid (fun W' h => by
    have k' := (Kept.refl W2).drew.trans h
    have m := HM.out.grow (K2.out.trans k')
    exact ⟨(EV2.out.kept k').cells, m.n, m.rounds⟩)
  refine wp_region_typed (N := 8) (fl := []) (by kernel_rfl) (by kernel_rfl) ?_
  simp only [List.take_succ_cons, List.take_zero, List.drop_succ_cons, List.drop_zero, List.map_cons, List.map_nil, zipF]
  repeat (first
    | (refine wpT_is (.int .i64 (aq : Int)) rfl (fun ρ w hk ⟨c1, c2, c3⟩ ⟨h1, h2, _⟩ => ?_) ?_
       · have h1 : ρ (.tmp 24) = _ := h1
         have h2 : ρ (.tmp 28) = _ := h2
         refine upT_call 30 #[.int .i64 ai, .int .i64 n] ?_ ((L2.out w).mono ?_)
         · go_simp
         rintro e u ⟨rfl, rfl⟩
         exact ⟨_, rfl, Kept.refl _, rfl⟩
       dsimp only [putS, List.set_cons_succ, List.set_cons_zero])
    | (refine wpT_skip rfl ?_; dsimp only [putS, List.set_cons_succ, List.set_cons_zero])
    | (refine wpT_slot (S := .is _) _ (.inl rfl) rfl (Slot.mono_is _) rfl ?_; dsimp only [putS, List.set_cons_succ, List.set_cons_zero])
    | (refine wpT_slot (S := .is _) _ (.inr rfl) rfl (Slot.mono_is _) rfl ?_; dsimp only [putS, List.set_cons_succ, List.set_cons_zero])
    | (refine wpT_exact1 rfl rfl rfl ?_; apply Exists.intro; refine ⟨fun ρ w hk ⟨c1, c2, c3⟩ h1 => ?_, ?_⟩; (· obtain ⟨⟨t1, t2, t3, t4, t5⟩, t6, t7⟩ := T1.out w hk; go_simp; exact rfl); dsimp only [putS, List.set_cons_succ, List.set_cons_zero])
    | (refine wpT_exact2 rfl rfl rfl rfl ?_; apply Exists.intro; refine ⟨fun ρ w hk ⟨c1, c2, c3⟩ h1 h2 => ?_, ?_⟩; (· obtain ⟨⟨t1, t2, t3, t4, t5⟩, t6, t7⟩ := T1.out w hk; go_simp; exact rfl); dsimp only [putS, List.set_cons_succ, List.set_cons_zero])
    | (refine wpT_exact3 rfl rfl rfl rfl rfl ?_; apply Exists.intro; refine ⟨fun ρ w hk ⟨c1, c2, c3⟩ h1 h2 h3 => ?_, ?_⟩; (· obtain ⟨⟨t1, t2, t3, t4, t5⟩, t6, t7⟩ := T1.out w hk; go_simp; exact rfl); dsimp only [putS, List.set_cons_succ, List.set_cons_zero])
    | (refine wpT_exact4 rfl rfl rfl rfl rfl rfl ?_; apply Exists.intro; refine ⟨fun ρ w hk ⟨c1, c2, c3⟩ h1 h2 h3 h4 => ?_, ?_⟩; (· obtain ⟨⟨t1, t2, t3, t4, t5⟩, t6, t7⟩ := T1.out w hk; go_simp; exact rfl); dsimp only [putS, List.set_cons_succ, List.set_cons_zero])
    | (refine wpT_exact0 rfl ?_; apply Exists.intro; refine ⟨fun ρ w hk ⟨c1, c2, c3⟩ => ?_, ?_⟩; (· obtain ⟨⟨t1, t2, t3, t4, t5⟩, t6, t7⟩ := T1.out w hk; go_simp; exact rfl); dsimp only [putS, List.set_cons_succ, List.set_cons_zero])
    | fail)
  refine wpT_nil ?_
  intro wz kz
  simp only [Fits]
  obtain ⟨W3, hW3⟩ : ∃ x, x = wz := ⟨_, rfl⟩
  subst hW3
  have K3 : Hid (Kept W W3) := Lib.hid (K2.out.trans ((Kept.refl W2).drew.trans kz))
  have EV3 := Lib.hid (EV2.out.kept ((Kept.refl W2).drew.trans kz))
  clear kz T1 K2 EV2
  refine wpList_end ?_
  have m3 := HM.out.grow K3.out
  have t43 := m3.rounds
  obtain ⟨_, e', -, -, -, ⟨r0, r1, r2, r3, r4, r5⟩, -, -⟩ := m3.round hkl
  injection e' with e'
  injection e' with e'
  subst e'
  obtain ⟨v0', v1, v2, v3, v4⟩ := EV3.out.cells
  obtain ⟨y, hy⟩ : ∃ y, rl[kq] = y := ⟨_, rfl⟩
  rw [hy] at r0 r1 r2 r3 r4 r5 HRD
  have HY := Lib.hid hy
  obtain ⟨ylen, hyl⟩ : ∃ m, rl.length = m := ⟨_, rfl⟩
  rw [hyl] at t43 hkl ⊢
  have HYL := Lib.hid hyl
  have hy6 : True := trivial
  obtain ⟨yr, ys, yPA, ypn, ypc, yh, yVA, yvn, yvc, yTA, ytn, ytc⟩ := y
  simp only at r0 r1 r2 r3 r4 r5
  have hgl3 : g < W3.heap.size := m3.lt.2
  have hel3 : ge < W3.heap.size := heap_lt EV3.out
  clear m3 hy hyl hy6
  go_wp2_with fail
  have K4 : Hid (Kept W (W3.alloc (.cells #[.int .i64 yr, .int .i64 ys, .slice yPA ypn ypc, .bool yh, .slice yVA yvn yvc, .slice yTA ytn ytc] 56))) := Lib.hid (K3.out.alloc _)
  have EV4 := Lib.hid (EV3.out.kept ((Kept.refl W3).alloc (.cells #[.int .i64 yr, .int .i64 ys, .slice yPA ypn ypc, .bool yh, .slice yVA yvn yvc, .slice yTA ytn ytc] 56)))
  clear t43 r0 r1 r2 r3 r4 r5 v0' v1 v2 v3 v4 K3 EV3 hel3 hgl3 HY HRD HSE
  generalize W3.alloc (.cells #[.int .i64 yr, .int .i64 ys, .slice yPA ypn ypc, .bool yh, .slice yVA yvn yvc, .slice yTA ytn ytc] 56) = W4 at *
  obtain ⟨m, hm1, hm2, hmy⟩ : ∃ m : Nat, (ylen : Int) - 1 = m ∧ (m : Int) + 1 = ylen ∧ m < ylen := ⟨ylen - 1, by omega, by omega, by omega⟩
  have hml : m < rl.length := by rw [HYL.out]; exact hmy
  have hmr : m < rds.length := by rw [← HH.out.many]; exact hml
  have hlast : (rl[m]).r = (m : Int) := by
    rw [(HH.out.rd m hml hmr).r]
    exact (HI.out.rnd m rds[m] (List.getElem?_eq_getElem hmr)).1
  obtain ⟨ls, hls⟩ : ∃ ls, (rl[m]).s = ls := ⟨_, rfl⟩
  have hy1000 : ylen ≤ 1000 := by have := HH.out.many; rw [HYL.out] at this; simp only at this; omega
  have hwm : IntKind.i64.wrap (m : Int) = m := by rw [IntKind.wrap_i64]; omega
  have hwy : IntKind.i64.wrap (ylen : Int) = ylen := by rw [IntKind.wrap_i64]; omega
  have T1 : Hid (∀ W', Kept W4.drew W' → W'.cell? ⟨g, 43, none⟩ = some (.slice (some ⟨RB, 0, none⟩) ylen rc) ∧ W'.cell? ⟨RB, m * 6, none⟩ = some (.int .i64 (m : Int)) ∧ W'.cell? ⟨RB, m * 6 + 1, none⟩ = some (.int .i64 ls)) := Lib.hid (fun W' h => by
    have M' := HM.out.grow (K4.out.trans ((Kept.refl W4).drew.trans h))
    obtain ⟨_, e', -, -, -, ⟨d0, d1, -⟩, -, -⟩ := M'.round hml
    injection e' with e'
    injection e' with e'
    subst e'
    rw [hlast] at d0
    rw [hls] at d1
    have h43 := M'.rounds
    rw [HYL.out] at h43
    exact ⟨h43, d0, d1⟩)
  clear hlast hls
  refine wp_region_typed (N := 14) (fl := []) (by kernel_rfl) (by kernel_rfl) ?_
  simp only [List.take_succ_cons, List.take_zero, List.drop_succ_cons, List.drop_zero, List.map_cons, List.map_nil, zipF]
  repeat (first
    | (refine wpT_has (PtrN.mono W4.heap.size 33 #[.int .i64 0, .int .i64 0]) rfl (fun ρ w hk ⟨c1, c2, c3⟩ _ => upT_made (.pointer (some ⟨w.heap.size, 0, none⟩)) (w' := w.alloc (.cells #[.int .i64 0, .int .i64 0] 33)) ?_ ((Kept.refl w).alloc _) ⟨_, rfl, hk.2, push_new w _⟩) ?_; (· go_simp); dsimp only [putS, List.set_cons_succ, List.set_cons_zero])
    | (refine wpT_skip rfl ?_; dsimp only [putS, List.set_cons_succ, List.set_cons_zero])
    | (refine wpT_slot (S := .is _) _ (.inl rfl) rfl (Slot.mono_is _) rfl ?_; dsimp only [putS, List.set_cons_succ, List.set_cons_zero])
    | (refine wpT_slot (S := .is _) _ (.inr rfl) rfl (Slot.mono_is _) rfl ?_; dsimp only [putS, List.set_cons_succ, List.set_cons_zero])
    | (refine wpT_exact1 rfl rfl rfl ?_; apply Exists.intro; refine ⟨fun ρ w hk ⟨c1, c2, c3⟩ h1 => ?_, ?_⟩; (· obtain ⟨t1, t2, t3⟩ := T1.out w hk; go_simp; exact rfl); dsimp only [putS, List.set_cons_succ, List.set_cons_zero])
    | (refine wpT_exact2 rfl rfl rfl rfl ?_; apply Exists.intro; refine ⟨fun ρ w hk ⟨c1, c2, c3⟩ h1 h2 => ?_, ?_⟩; (· obtain ⟨t1, t2, t3⟩ := T1.out w hk; go_simp; exact rfl); dsimp only [putS, List.set_cons_succ, List.set_cons_zero])
    | (refine wpT_exact3 rfl rfl rfl rfl rfl ?_; apply Exists.intro; refine ⟨fun ρ w hk ⟨c1, c2, c3⟩ h1 h2 h3 => ?_, ?_⟩; (· obtain ⟨t1, t2, t3⟩ := T1.out w hk; go_simp; exact rfl); dsimp only [putS, List.set_cons_succ, List.set_cons_zero])
    | (refine wpT_exact4 rfl rfl rfl rfl rfl rfl ?_; apply Exists.intro; refine ⟨fun ρ w hk ⟨c1, c2, c3⟩ h1 h2 h3 h4 => ?_, ?_⟩; (· obtain ⟨t1, t2, t3⟩ := T1.out w hk; go_simp; exact rfl); dsimp only [putS, List.set_cons_succ, List.set_cons_zero])
    | (refine wpT_exact0 rfl ?_; apply Exists.intro; refine ⟨fun ρ w hk ⟨c1, c2, c3⟩ => ?_, ?_⟩; (· obtain ⟨t1, t2, t3⟩ := T1.out w hk; go_simp; exact rfl); dsimp only [putS, List.set_cons_succ, List.set_cons_zero])
    | fail)
  refine wpT_nil ?_
  intro wz kz
  simp only [Fits]
  rintro uz ⟨z, rfl, hz, hvz⟩
  have kz' : Kept W4 wz := (Kept.refl W4).drew.trans kz
  have b0 := cell_of_heap hvz 0
  have b1 := cell_of_heap hvz 1
  have f0 : wz.frozen? ⟨z, 0, none⟩ = false := frozen_of_heap hvz 0
  have f1 : wz.frozen? ⟨z, 1, none⟩ = false := frozen_of_heap hvz 1
  simp only [List.getElem?_toArray, List.getElem?_cons_zero, List.getElem?_cons_succ] at b0 b1
  have hgW4 : W.heap.size ≤ W4.heap.size := K4.out.2
  have K5 : Hid (Kept W ((wz.setCell ⟨z, 0, none⟩ (.int .i64 (m : Int))).setCell ⟨z, 1, none⟩ (.int .i64 ls))) := Lib.hid (((K4.out.trans kz').setCell (p := ⟨z, 0, none⟩) (Nat.le_trans hgW4 hz) _).setCell (p := ⟨z, 1, none⟩) (Nat.le_trans hgW4 hz) _)
  have EV5 : Hid (HEv ((wz.setCell ⟨z, 0, none⟩ (.int .i64 (m : Int))).setCell ⟨z, 1, none⟩ (.int .i64 ls)) ge 0 p kk ai lost) := Lib.hid (EV4.out.kept ((kz'.setCell (p := ⟨z, 0, none⟩) hz _).setCell (p := ⟨z, 1, none⟩) hz _))
  have B5 : Hid (Bx ((wz.setCell ⟨z, 0, none⟩ (.int .i64 (m : Int))).setCell ⟨z, 1, none⟩ (.int .i64 ls)) z m ls) := Lib.hid ((heap_setCell_same (heap_setCell_same hvz _) _).trans rfl)
  have W5z : Hid (z < ((wz.setCell ⟨z, 0, none⟩ (.int .i64 (m : Int))).setCell ⟨z, 1, none⟩ (.int .i64 ls)).heap.size) := Lib.hid (heap_lt B5.out)
  clear kz kz' T1 K4 EV4 hvz
  go_wp2_with fail
  refine only_end ?_
  go_wp2_with fail
  generalize (wz.setCell ⟨z, 0, none⟩ (.int .i64 (m : Int))).setCell ⟨z, 1, none⟩ (.int .i64 ls) = W5 at *
  clear b0 b1 f0 f1
  have M5 := Lib.hid (HM.out.grow K5.out)
  obtain ⟨pq, hpq⟩ : ∃ pq, leastI p n = pq := ⟨_, rfl⟩
  rw [hpq] at L3 HPL
  clear hpq
  have T1 : Hid (∀ W', FillE 56 v.heap.size (ER.flat rl) (ER.flat [⟨(ylen : Int), pq, none, 0, 0, false, none, 0, 0, none, 0, 0⟩]) W5.drew W' → W'.cell? ⟨g, 0, none⟩ = some (.int .i64 n) ∧ W'.cell? ⟨g, 43, none⟩ = some (.slice (some ⟨RB, 0, none⟩) ylen rc) ∧ W'.cell? ⟨ge, 1, none⟩ = some (.int .i64 p) ∧ W'.cell? ⟨z, 0, none⟩ = some (.int .i64 (m : Int))) := Lib.hid (fun W' h => by
    obtain ⟨cs, fr, hsb⟩ := M5.out.slotBlock
    have hs2 := h.other (show W5.drew.heap[g]? = _ from hsb) (by decide)
    have hcell : ∀ j, W'.cell? ⟨g, j, none⟩ = W5.cell? ⟨g, j, none⟩ := fun j => World.cell?_of_block (hs2.trans hsb.symm)
    have h43 := M5.out.rounds
    rw [HYL.out] at h43
    have he2 := h.other (show W5.drew.heap[ge]? = _ from EV5.out) (by decide)
    have hb2 := h.other (show W5.drew.heap[z]? = _ from B5.out) (by decide)
    exact ⟨(hcell 0).trans M5.out.n, (hcell 43).trans h43, cell_of_heap he2 1, cell_of_heap hb2 0⟩)
  have TO : Hid (ER.Own W5.drew v.heap.size (.slice (some ⟨RB, 0, none⟩) ylen rc) rl) := Lib.hid (by
    have := M5.out.rds
    rw [HYL.out] at this
    exact this)
  have hvW5 : v.heap.size ≤ W5.drew.heap.size := M5.out.kept.2
  have hrlen : rl.length ≤ 1000 := by rw [HYL.out]; exact hy1000
  letI G : Grow := fillGrowE 56 v.heap.size (ER.flat rl) (ER.flat [⟨(ylen : Int), pq, none, 0, 0, false, none, 0, 0, none, 0, 0⟩])
  refine wp_region_typed (N := 21) (fl := []) (by kernel_rfl) (by kernel_rfl) ?_
  simp only [List.take_succ_cons, List.take_zero, List.drop_succ_cons, List.drop_zero, List.map_cons, List.map_nil, zipF]
  repeat (first
    | (refine wpT_is (.int .i64 pq) rfl (fun ρ w hk ⟨c1, c2, c3⟩ ⟨h1, h2, _⟩ => ?_) ?_
       · have h1 : ρ (.tmp 105) = _ := h1
         have h2 : ρ (.tmp 109) = _ := h2
         refine upT_call 30 #[.int .i64 p, .int .i64 n] ?_ ((L3.out w).mono ?_)
         · go_simp
         rintro e u ⟨rfl, rfl⟩
         exact ⟨_, rfl, (Kept.refl _).fillE, rfl⟩
       dsimp only [putS, List.set_cons_succ, List.set_cons_zero])
    | (refine wpT_has (OneE.mono (E := ER) v.heap.size ⟨(ylen : Int), pq, none, 0, 0, false, none, 0, 0, none, 0, 0⟩ (ER.flat rl)) rfl (fun ρ w hk ⟨c1, c2, c3⟩ ⟨h1, _⟩ => ?_) ?_
       · have h1 : ρ (.tmp 112) = _ := h1
         refine upT_made (.slice (some ⟨w.heap.size, 0, none⟩) 1 1) (w' := w.alloc (.cells #[.int .i64 (ylen : Int), .int .i64 pq, .slice none 0 0, .bool false, .slice none 0 0, .slice none 0 0] 56)) ?_ (((Kept.refl w).alloc _).fillE) ⟨_, Nat.le_trans hvW5 (FillE.size hk), rfl, push_new w (.cells #[.int .i64 (ylen : Int), .int .i64 pq, .slice none 0 0, .bool false, .slice none 0 0, .slice none 0 0] 56)⟩
         go_simp
       dsimp only [putS, List.set_cons_succ, List.set_cons_zero])
    | (refine wpT_has (OwnFE.mono (E := ER) (rl ++ [⟨(ylen : Int), pq, none, 0, 0, false, none, 0, 0, none, 0, 0⟩]) (.inr (ER.flat_append _ _))) rfl (fun ρ w hk ⟨c1, c2, c3⟩ ⟨h11, h12, _⟩ => ?_) ?_
       · have e1 : ρ (.tmp 100) = .slice (some ⟨RB, 0, none⟩) ylen rc := h11
         obtain ⟨gq, hg0, e2, hg⟩ : OneE ER v.heap.size ⟨(ylen : Int), pq, none, 0, 0, false, none, 0, 0, none, 0, 0⟩ (ρ (.tmp 113)) w := h12
         have ho1 : ER.Own w v.heap.size (.slice (some ⟨RB, 0, none⟩) ylen rc) rl := OwnFE.fill (E := ER) TO.out hk (.inl (Nat.le_refl _))
         obtain ⟨v', w', hr, ho, hf⟩ := run_append_fillE (c := 1) (n := 1) 47 ho1 (OneE.reads hg) rfl (fun h => by cases h) (by omega) (Nat.le_trans hvW5 (FillE.size hk))
         exact upT_made v' (exec_appendE rfl e1 e2 hr) (fill_ofE hf rfl) ho
       dsimp only [putS, List.set_cons_succ, List.set_cons_zero])
    | (refine wpT_skip rfl ?_; dsimp only [putS, List.set_cons_succ, List.set_cons_zero])
    | (refine wpT_slot (S := .is _) _ (.inl rfl) rfl (Slot.mono_is _) rfl ?_; dsimp only [putS, List.set_cons_succ, List.set_cons_zero])
    | (refine wpT_slot (S := .is _) _ (.inr rfl) rfl (Slot.mono_is _) rfl ?_; dsimp only [putS, List.set_cons_succ, List.set_cons_zero])
    | (refine wpT_exact1 rfl rfl rfl ?_; apply Exists.intro; refine ⟨fun ρ w hk ⟨c1, c2, c3⟩ h1 => ?_, ?_⟩; (· obtain ⟨t1, t2, t3, t4⟩ := T1.out w hk; go_simp; exact rfl); dsimp only [putS, List.set_cons_succ, List.set_cons_zero])
    | (refine wpT_exact2 rfl rfl rfl rfl ?_; apply Exists.intro; refine ⟨fun ρ w hk ⟨c1, c2, c3⟩ h1 h2 => ?_, ?_⟩; (· obtain ⟨t1, t2, t3, t4⟩ := T1.out w hk; go_simp; exact rfl); dsimp only [putS, List.set_cons_succ, List.set_cons_zero])
    | (refine wpT_exact3 rfl rfl rfl rfl rfl ?_; apply Exists.intro; refine ⟨fun ρ w hk ⟨c1, c2, c3⟩ h1 h2 h3 => ?_, ?_⟩; (· obtain ⟨t1, t2, t3, t4⟩ := T1.out w hk; go_simp; exact rfl); dsimp only [putS, List.set_cons_succ, List.set_cons_zero])
    | (refine wpT_exact4 rfl rfl rfl rfl rfl rfl ?_; apply Exists.intro; refine ⟨fun ρ w hk ⟨c1, c2, c3⟩ h1 h2 h3 h4 => ?_, ?_⟩; (· obtain ⟨t1, t2, t3, t4⟩ := T1.out w hk; go_simp; exact rfl); dsimp only [putS, List.set_cons_succ, List.set_cons_zero])
    | (refine wpT_exact0 rfl ?_; apply Exists.intro; refine ⟨fun ρ w hk ⟨c1, c2, c3⟩ => ?_, ?_⟩; (· obtain ⟨t1, t2, t3, t4⟩ := T1.out w hk; go_simp; exact rfl); dsimp only [putS, List.set_cons_succ, List.set_cons_zero])
    | fail)
  refine wpT_nil ?_
  intro wz kz
  simp only [Fits]
  rintro y113 - y114 hy114
  have ho : ER.Own wz v.heap.size y114 (rl ++ [⟨(ylen : Int), pq, none, 0, 0, false, none, 0, 0, none, 0, 0⟩]) := hy114
  obtain ⟨R', rc', rfl, -, -, -⟩ := ho.slice
  have hfz : FillE 56 v.heap.size (ER.flat rl) (ER.flat [⟨(ylen : Int), pq, none, 0, 0, false, none, 0, 0, none, 0, 0⟩]) W5 wz := ((Kept.refl W5).drew.fillE).trans kz
  have hslot := row_filled M5.out.slot hfz (by decide)
  obtain ⟨m6, hu6⟩ := SlM.putRounds hslot M5.out.seven (M5.out.kept.filled hfz) ho
  have c43 : wz.cell? ⟨g, 43, none⟩ = some (.slice (some ⟨RB, 0, none⟩) ylen rc) := (T1.out wz kz).2.1
  have f43 : wz.frozen? ⟨g, 43, none⟩ = false := World.ownsRow.frozenAt hslot 43
  obtain ⟨nl, hnl⟩ : ∃ nl, (rl ++ [(⟨(ylen : Int), pq, none, 0, 0, false, none, 0, 0, none, 0, 0⟩ : Rit)]).length = nl := ⟨_, rfl⟩
  rw [hnl] at m6 hu6 ⊢
  have HNL := Lib.hid hnl
  clear hnl
  have M6 := Lib.hid m6
  have HU6 : Hid (Hush W (wz.setCell ⟨g, 43, none⟩ (.slice R' nl rc'))) := Lib.hid (K5.out.hush.trans (hfz.hush.trans hu6))
  clear kz hy114 ho hfz hslot m6 hu6 T1 TO
  go_wp2_with fail
  refine only_end ?_
  go_wp2
  go_end0
  refine ⟨rfl, sl, _, R', rc', by rw [HPL.out]; exact M6.out, ?_⟩
  rw [HPL.out]
  have H2 := HH.out.hush HU6.out
  have hl1 : rl.length = rds.length := H2.many
  refine ⟨H2.all, H2.each, by simp [hl1], fun i h1 h2 => ?_⟩
  rcases Nat.lt_or_ge i rl.length with hi | hi
  · have hi2 : i < rds.length := by omega
    have := H2.rd i hi hi2
    rw [List.getElem_append_left hi, List.getElem_append_left hi2]
    exact this
  · have e1 : i = rl.length := by simp only [List.length_append, List.length_singleton] at h1; omega
    subst e1
    have e1 : (rl ++ [(⟨(ylen : Int), pq, none, 0, 0, false, none, 0, 0, none, 0, 0⟩ : Rit)])[rl.length]'h1 = (⟨(ylen : Int), pq, none, 0, 0, false, none, 0, 0, none, 0, 0⟩ : Rit) := by simp
    have e2 : (rds ++ [(⟨(rds.length : Int), pq, [], false, [], []⟩ : Rd)])[rl.length]'h2 = ⟨(rds.length : Int), pq, [], false, [], []⟩ := by simp [hl1]
    rw [e1, e2]
    exact ⟨by rw [← hl1, HYL.out], rfl, rfl, ⟨v.heap.size, [], Elem.Own.nil _ _ _, rfl, rfl, fun z hz => by cases hz⟩, rfl, RowB.none, v.heap.size, Elem.Own.nil _ _ _, rfl⟩
end Go.Proofs.Ytifenlopgpbpbaa
