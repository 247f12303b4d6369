/- The law's play: a value comes. -/
import Derived.Test.YtifenlopgpbpbaaPrqU
import Derived.Deep.CutRange
import Derived.Deep.DeepCutAuto
namespace Go.Proofs.Ytifenlopgpbpbaa
open Go.RowKit

set_option maxRecDepth 100000 in
set_option maxHeartbeats 16000000 in
theorem play_k3 {v W : World} {g : Nat} {v0 : List Nat} {s : Sl} (hw : SlW v W g s) (I : Inv v0 s) (F : Few 1000 s) (e : Evt) (he : EvOk e) (hk0 : e.kind ≠ 0) (hk1 : e.kind ≠ 1) (hk2 : e.kind ≠ 2) :
    Calls Try.prog 19 #[.pointer (some ⟨g, 0, none⟩), .agg #[.int .i64 e.kind, .int .i64 e.p, .int .i64 e.k, .int .i64 e.a, .bool e.lost]] W fun e' w' => e' = .returned (.tuple #[]) ∧ SlW v w' g (playS s e) := by
  obtain ⟨sl, rl, R, rc, M, H⟩ := hw
  obtain ⟨kq, aq, x, ac, hk, ha, hx, hac, hkr, haq⟩ := play_places I e
  have hpl := playS_at hx hac hk ha
  obtain ⟨n, all, rds⟩ := s
  simp only at M hk ha hkr hx hac haq hpl
  have hmany : rl.length = rds.length := H.many
  have h7 := M.seven
  have hn := I.n1
  have hfl : rds.length ≤ 1000 := F.1
  simp only at hn
  have hkl : kq < rl.length := by omega
  have hal : aq < sl.length := by omega
  have hrd : RdAt W rl[kq] x := by
    have := H.rd kq hkl hkr
    rw [List.getElem?_eq_getElem hkr] at hx
    injection hx with hx
    rw [← hx]; exact this
  have hse : sl[aq].x = ac ∧ RowB W sl[aq].A sl[aq].x.val.length sl[aq].c sl[aq].x.val := by
    refine ⟨?_, H.each _ (List.getElem_mem hal)⟩
    have hall := H.all
    simp only at hall
    rw [← hall, List.getElem?_map, List.getElem?_eq_getElem hal] at hac
    exact Option.some.inj hac
  have HPL := Lib.hid hpl
  have HRD := Lib.hid hrd
  have HSE := Lib.hid hse
  have HI := Lib.hid I
  have HF := Lib.hid F
  have HM := Lib.hid M
  have HH := Lib.hid H
  have HX := Lib.hid hx
  obtain ⟨ki, p, kk, ai, lost⟩ := e
  obtain ⟨⟨-, -⟩, hep, hek, hea⟩ := he
  simp only at hep hek hea hk ha HPL hk0 hk1 hk2
  rw [if_neg hk0, if_neg hk1, if_neg hk2] at HPL
  have hd0 : (ki == 0) = false := by simpa using hk0
  have hd1 : (ki == 1) = false := by simpa using hk1
  have hd2 : (ki == 2) = false := by simpa using hk2
  clear hk0 hk1 hk2
  have L1 : Hid (∀ W', Calls Try.prog 30 #[.int .i64 kk, .int .i64 (rl.length : Int)] W' fun e w' => e = .returned (.int .i64 (kq : Int)) ∧ w' = W') := Lib.hid (fun W' => by rw [← hk, hmany]; exact least_any hek (by omega) W')
  have L2 : Hid (∀ W', Calls Try.prog 30 #[.int .i64 ai, .int .i64 n] W' fun e w' => e = .returned (.int .i64 (aq : Int)) ∧ w' = W') := Lib.hid (fun W' => by rw [← ha]; exact least_any hea (by omega) W')
  have L3 : Hid (∀ W', Calls Try.prog 30 #[.int .i64 p, .int .i64 n] W' fun e w' => e = .returned (.int .i64 (leastI p n)) ∧ w' = W') := Lib.hid (fun W' => least_any hep (by omega) W')
  have haq7 : aq < 7 := by omega
  have haqI : (aq : Int) < 7 := by omega
  obtain ⟨RB, rfl, hRB, hRBv, hRBg, hrc, hrf, -⟩ := M.round hkl
  have hgl := M.lt
  have K0 : Hid (Kept W (W.alloc (.cells #[.int .i64 ki, .int .i64 p, .int .i64 kk, .int .i64 ai, .bool lost] 53))) := Lib.hid ((Kept.refl W).alloc _)
  have EV0 : Hid (HEv (W.alloc (.cells #[.int .i64 ki, .int .i64 p, .int .i64 kk, .int .i64 ai, .bool lost] 53)) W.heap.size ki p kk ai lost) := Lib.hid (push_new W _)
  clear hrc hrf M H hpl hrd hse I F hx hac hk ha hek hea hmany
  go_enter Try.func19, Try.ntmps19
  go_wp2_with fail
  generalize hW1 : W.alloc (.cells #[.int .i64 ki, .int .i64 p, .int .i64 kk, .int .i64 ai, .bool lost] 53) = W1 at *
  clear hW1
  generalize W.heap.size = ge at *
  have T1 : Hid (∀ W', Kept W1.drew W' → (W'.cell? ⟨ge, 0, none⟩ = some (.int .i64 ki) ∧ W'.cell? ⟨ge, 1, none⟩ = some (.int .i64 p) ∧ W'.cell? ⟨ge, 2, none⟩ = some (.int .i64 kk) ∧ W'.cell? ⟨ge, 3, none⟩ = some (.int .i64 ai) ∧ W'.cell? ⟨ge, 4, none⟩ = some (.bool lost)) ∧ W'.cell? ⟨g, 0, none⟩ = some (.int .i64 n) ∧ W'.cell? ⟨g, 43, none⟩ = some (.slice (some ⟨RB, 0, none⟩) rl.length rc)) := Lib.hid (fun W' h => by
    have k' := (Kept.refl W1).drew.trans h
    have m := HM.out.grow (K0.out.trans k')
    exact ⟨(EV0.out.kept k').cells, m.n, m.rounds⟩)
  refine wp_region_typed (N := 9) (fl := []) (by kernel_rfl) (by kernel_rfl) ?_
  simp only [List.take_succ_cons, List.take_zero, List.drop_succ_cons, List.drop_zero, List.map_cons, List.map_nil, zipF]
  repeat (first
    | (refine wpT_is (.int .i64 (kq : Int)) rfl (fun ρ w hk ⟨c1, c2, c3⟩ ⟨h1, h2, _⟩ => ?_) ?_
       · have h1 : ρ (.tmp 16) = _ := h1
         have h2 : ρ (.tmp 21) = _ := h2
         refine upT_call 30 #[.int .i64 kk, .int .i64 (rl.length : Int)] ?_ ((L1.out w).mono ?_)
         · go_simp
         rintro e u ⟨rfl, rfl⟩
         exact ⟨_, rfl, Kept.refl _, rfl⟩
       dsimp only [putS, List.set_cons_succ, List.set_cons_zero])
    | (refine wpT_skip rfl ?_; dsimp only [putS, List.set_cons_succ, List.set_cons_zero])
    | (refine wpT_slot (S := .is _) _ (.inl rfl) rfl (Slot.mono_is _) rfl ?_; dsimp only [putS, List.set_cons_succ, List.set_cons_zero])
    | (refine wpT_slot (S := .is _) _ (.inr rfl) rfl (Slot.mono_is _) rfl ?_; dsimp only [putS, List.set_cons_succ, List.set_cons_zero])
    | (refine wpT_exact1 rfl rfl rfl ?_; apply Exists.intro; refine ⟨fun ρ w hk ⟨c1, c2, c3⟩ h1 => ?_, ?_⟩; (· obtain ⟨⟨t1, t2, t3, t4, t5⟩, t6, t7⟩ := T1.out w hk; go_simp; exact rfl); dsimp only [putS, List.set_cons_succ, List.set_cons_zero])
    | (refine wpT_exact2 rfl rfl rfl rfl ?_; apply Exists.intro; refine ⟨fun ρ w hk ⟨c1, c2, c3⟩ h1 h2 => ?_, ?_⟩; (· obtain ⟨⟨t1, t2, t3, t4, t5⟩, t6, t7⟩ := T1.out w hk; go_simp; exact rfl); dsimp only [putS, List.set_cons_succ, List.set_cons_zero])
    | (refine wpT_exact3 rfl rfl rfl rfl rfl ?_; apply Exists.intro; refine ⟨fun ρ w hk ⟨c1, c2, c3⟩ h1 h2 h3 => ?_, ?_⟩; (· obtain ⟨⟨t1, t2, t3, t4, t5⟩, t6, t7⟩ := T1.out w hk; go_simp; exact rfl); dsimp only [putS, List.set_cons_succ, List.set_cons_zero])
    | (refine wpT_exact4 rfl rfl rfl rfl rfl rfl ?_; apply Exists.intro; refine ⟨fun ρ w hk ⟨c1, c2, c3⟩ h1 h2 h3 h4 => ?_, ?_⟩; (· obtain ⟨⟨t1, t2, t3, t4, t5⟩, t6, t7⟩ := T1.out w hk; go_simp; exact rfl); dsimp only [putS, List.set_cons_succ, List.set_cons_zero])
    | (refine wpT_exact0 rfl ?_; apply Exists.intro; refine ⟨fun ρ w hk ⟨c1, c2, c3⟩ => ?_, ?_⟩; (· obtain ⟨⟨t1, t2, t3, t4, t5⟩, t6, t7⟩ := T1.out w hk; go_simp; exact rfl); dsimp only [putS, List.set_cons_succ, List.set_cons_zero])
    | fail)
  refine wpT_nil ?_
  intro wz kz
  simp only [Fits]
  obtain ⟨W2, hW2⟩ : ∃ x, x = wz := ⟨_, rfl⟩
  subst hW2
  have K2 : Hid (Kept W W2) := Lib.hid (K0.out.trans ((Kept.refl W1).drew.trans kz))
  have EV2 := Lib.hid (EV0.out.kept ((Kept.refl W1).drew.trans kz))
  clear kz T1 K0 EV0
  refine wpList_end ?_
  go_wp2_with fail
  have T1 : Hid (∀ W', Kept W2.drew W' → (W'.cell? ⟨ge, 0, none⟩ = some (.int .i64 ki) ∧ W'.cell? ⟨ge, 1, none⟩ = some (.int .i64 p) ∧ W'.cell? ⟨ge, 2, none⟩ = some (.int .i64 kk) ∧ W'.cell? ⟨ge, 3, none⟩ = some (.int .i64 ai) ∧ W'.cell? ⟨ge, 4, none⟩ = some (.bool lost)) ∧ W'.cell? ⟨g, 0, none⟩ = some (.int .i64 n) ∧ W'.cell? ⟨g, 43, none⟩ = some (.slice (some ⟨RB, 0, none⟩) rl.length rc)) := Lib.hid (fun W' h => by
    have k' := (Kept.refl W2).drew.trans h
    have m := HM.out.grow (K2.out.trans k')
    exact ⟨(EV2.out.kept k').cells, m.n, m.rounds⟩)
  refine wp_region_typed (N := 8) (fl := []) (by kernel_rfl) (by kernel_rfl) ?_
  simp only [List.take_succ_cons, List.take_zero, List.drop_succ_cons, List.drop_zero, List.map_cons, List.map_nil, zipF]
  repeat (first
    | (refine wpT_is (.int .i64 (aq : Int)) rfl (fun ρ w hk ⟨c1, c2, c3⟩ ⟨h1, h2, _⟩ => ?_) ?_
       · have h1 : ρ (.tmp 24) = _ := h1
         have h2 : ρ (.tmp 28) = _ := h2
         refine upT_call 30 #[.int .i64 ai, .int .i64 n] ?_ ((L2.out w).mono ?_)
         · go_simp
         rintro e u ⟨rfl, rfl⟩
         exact ⟨_, rfl, Kept.refl _, rfl⟩
       dsimp only [putS, List.set_cons_succ, List.set_cons_zero])
    | (refine wpT_skip rfl ?_; dsimp only [putS, List.set_cons_succ, List.set_cons_zero])
    | (refine wpT_slot (S := .is _) _ (.inl rfl) rfl (Slot.mono_is _) rfl ?_; dsimp only [putS, List.set_cons_succ, List.set_cons_zero])
    | (refine wpT_slot (S := .is _) _ (.inr rfl) rfl (Slot.mono_is _) rfl ?_; dsimp only [putS, List.set_cons_succ, List.set_cons_zero])
    | (refine wpT_exact1 rfl rfl rfl ?_; apply Exists.intro; refine ⟨fun ρ w hk ⟨c1, c2, c3⟩ h1 => ?_, ?_⟩; (· obtain ⟨⟨t1, t2, t3, t4, t5⟩, t6, t7⟩ := T1.out w hk; go_simp; exact rfl); dsimp only [putS, List.set_cons_succ, List.set_cons_zero])
    | (refine wpT_exact2 rfl rfl rfl rfl ?_; apply Exists.intro; refine ⟨fun ρ w hk ⟨c1, c2, c3⟩ h1 h2 => ?_, ?_⟩; (· obtain ⟨⟨t1, t2, t3, t4, t5⟩, t6, t7⟩ := T1.out w hk; go_simp; exact rfl); dsimp only [putS, List.set_cons_succ, List.set_cons_zero])
    | (refine wpT_exact3 rfl rfl rfl rfl rfl ?_; apply Exists.intro; refine ⟨fun ρ w hk ⟨c1, c2, c3⟩ h1 h2 h3 => ?_, ?_⟩; (· obtain ⟨⟨t1, t2, t3, t4, t5⟩, t6, t7⟩ := T1.out w hk; go_simp; exact rfl); dsimp only [putS, List.set_cons_succ, List.set_cons_zero])
    | (refine wpT_exact4 rfl rfl rfl rfl rfl rfl ?_; apply Exists.intro; refine ⟨fun ρ w hk ⟨c1, c2, c3⟩ h1 h2 h3 h4 => ?_, ?_⟩; (· obtain ⟨⟨t1, t2, t3, t4, t5⟩, t6, t7⟩ := T1.out w hk; go_simp; exact rfl); dsimp only [putS, List.set_cons_succ, List.set_cons_zero])
    | (refine wpT_exact0 rfl ?_; apply Exists.intro; refine ⟨fun ρ w hk ⟨c1, c2, c3⟩ => ?_, ?_⟩; (· obtain ⟨⟨t1, t2, t3, t4, t5⟩, t6, t7⟩ := T1.out w hk; go_simp; exact rfl); dsimp only [putS, List.set_cons_succ, List.set_cons_zero])
    | fail)
  refine wpT_nil ?_
  intro wz kz
  simp only [Fits]
  obtain ⟨W3, hW3⟩ : ∃ x, x = wz := ⟨_, rfl⟩
  subst hW3
  have K3 : Hid (Kept W W3) := Lib.hid (K2.out.trans ((Kept.refl W2).drew.trans kz))
  have EV3 := Lib.hid (EV2.out.kept ((Kept.refl W2).drew.trans kz))
  clear kz T1 K2 EV2
  refine wpList_end ?_
  have m3 := HM.out.grow K3.out
  have t43 := m3.rounds
  obtain ⟨_, e', -, -, -, ⟨r0, r1, r2, r3, r4, r5⟩, -, -⟩ := m3.round hkl
  injection e' with e'
  injection e' with e'
  subst e'
  obtain ⟨v0', v1, v2, v3, v4⟩ := EV3.out.cells
  obtain ⟨y, hy⟩ : ∃ y, rl[kq] = y := ⟨_, rfl⟩
  rw [hy] at r0 r1 r2 r3 r4 r5 HRD
  have HY := Lib.hid hy
  obtain ⟨ylen, hyl⟩ : ∃ m, rl.length = m := ⟨_, rfl⟩
  rw [hyl] at t43 hkl ⊢
  have HYL := Lib.hid hyl
  have hy6 : True := trivial
  obtain ⟨yr, ys, yPA, ypn, ypc, yh, yVA, yvn, yvc, yTA, ytn, ytc⟩ := y
  simp only at r0 r1 r2 r3 r4 r5
  have hgl3 : g < W3.heap.size := m3.lt.2
  have hel3 : ge < W3.heap.size := heap_lt EV3.out
  clear m3 hy hyl hy6
  obtain ⟨Y0, hY0⟩ : ∃ y, sl[aq] = y := ⟨_, rfl⟩
  rw [hY0] at HSE
  have HY0 := Lib.hid hY0
  clear hY0
  obtain ⟨x0, A, c⟩ := Y0
  simp only at HSE
  have hx0 := HSE.out.1
  have HRW := Lib.hid HSE.out.2
  subst hx0
  clear HSE
  have HHAS : Hid (yh = x.has) := Lib.hid HRD.out.has
  have HVN : Hid (yvn = x.val.length) := Lib.hid HRD.out.vn
  have HVAL : Hid (RowB W yVA yvn yvc x.val) := Lib.hid HRD.out.val
  rw [← HHAS.out] at HPL
  cases yh with
  | false =>
    simp only [Bool.false_eq_true, if_false] at HPL
    obtain ⟨pr, ps, so, ar, as_, val⟩ := x0
    go_wp2
    refine bodyPost_ret (results_none rfl _ _ _) rfl ?_
    have KE := K3.out.alloc (.cells #[.int .i64 yr, .int .i64 ys, .slice yPA ypn ypc, .bool false, .slice yVA yvn yvc, .slice yTA ytn ytc] 56)
    exact ⟨rfl, by rw [HPL.out]; exact ⟨sl, rl, _, rc, HM.out.grow KE, HH.out.hush KE.hush⟩⟩
  | true =>
  simp only [if_true] at HPL
  obtain ⟨pr, ps, so, ar, as_, val⟩ := x0
  go_wp2_with fail
  have K5a : Hid (Kept W3 (W3.alloc (.cells #[.int .i64 yr, .int .i64 ys, .slice yPA ypn ypc, .bool true, .slice yVA yvn yvc, .slice yTA ytn ytc] 56))) := Lib.hid ((Kept.refl _).alloc _)
  have X5 : Hid (Hx (W3.alloc (.cells #[.int .i64 yr, .int .i64 ys, .slice yPA ypn ypc, .bool true, .slice yVA yvn yvc, .slice yTA ytn ytc] 56)) W3.heap.size ⟨yr, ys, yPA, ypn, ypc, true, yVA, yvn, yvc, yTA, ytn, ytc⟩) := Lib.hid (push_new W3 _)
  have K5 := Lib.hid (K3.out.trans K5a.out)
  clear t43 r0 r1 r2 r3 r4 r5 v0' v1 v2 v3 v4 K5a K3 EV3
  generalize W3.alloc (.cells #[.int .i64 yr, .int .i64 ys, .slice yPA ypn ypc, .bool true, .slice yVA yvn yvc, .slice yTA ytn ytc] 56) = W5 at *
  generalize W3.heap.size = gx at *
  have hxr : yr = x.r := HRD.out.r
  have hxs : ys = x.s := HRD.out.s
  obtain ⟨y, b, hyb⟩ : ∃ y b, told ⟨pr, ps, so, ar, as_, val⟩ (acceA ⟨pr, ps, so, ar, as_, val⟩ yr ys x.val) = y ∧ (acceA ⟨pr, ps, so, ar, as_, val⟩ yr ys x.val).isSome = b := ⟨_, _, rfl, rfl⟩
  have HYB := Lib.hid hyb
  rw [← hxr, ← hxs] at HPL
  clear hxr hxs
  have TC : Hid (∀ W', Kept W5.drew W' → Calls Try.prog 32 #[.agg #[.int .i64 pr, .int .i64 ps, .bool so, .int .i64 ar, .int .i64 as_, .slice A val.length c], .agg #[.int .i64 yr, .int .i64 ys], .slice yVA yvn yvc] W' fun e w' => ∃ v, e = .returned v ∧ Kept W' w' ∧ ToldT y b v w') := Lib.hid (fun W' h => by
    have k' : Kept W W' := K5.out.trans ((Kept.refl _).drew.trans h)
    rw [← hyb.1, ← hyb.2]
    have hv := HVAL.out.row.below k'.1
    have hvn := HVN.out
    subst hvn
    exact accept_any (x := ⟨pr, ps, so, ar, as_, val⟩) (A := A) (c := c) yr ys (HRW.out.row.below k'.1) hv)
  have T1 : Hid (∀ W', Kept W5.drew W' → (W'.cell? ⟨g, 1 + aq * 6, none⟩ = some (.int .i64 pr) ∧ W'.cell? ⟨g, 1 + aq * 6 + 1, none⟩ = some (.int .i64 ps) ∧ W'.cell? ⟨g, 1 + aq * 6 + 2, none⟩ = some (.bool so) ∧ W'.cell? ⟨g, 1 + aq * 6 + 3, none⟩ = some (.int .i64 ar) ∧ W'.cell? ⟨g, 1 + aq * 6 + 4, none⟩ = some (.int .i64 as_) ∧ W'.cell? ⟨g, 1 + aq * 6 + 5, none⟩ = some (.slice A val.length c)) ∧ W'.cell? ⟨gx, 0, none⟩ = some (.int .i64 yr) ∧ W'.cell? ⟨gx, 1, none⟩ = some (.int .i64 ys) ∧ W'.cell? ⟨gx, 4, none⟩ = some (.slice yVA yvn yvc)) := Lib.hid (fun W' h => by
    have k' := (Kept.refl W5).drew.trans h
    have hst := (HM.out.grow (K5.out.trans k')).state hal
    rw [HY0.out] at hst
    obtain ⟨x0, x1, -, -, x4, -⟩ := (X5.out.kept k').cells
    exact ⟨hst, x0, x1, x4⟩)
  clear hyb
  refine wp_region_typed (N := 15) (fl := [false, false, false, false, false, false, false, false, false, false, false, false, false, true]) (by kernel_rfl) (by kernel_rfl) ?_
  simp only [List.take_succ_cons, List.take_zero, List.drop_succ_cons, List.drop_zero, List.map_cons, List.map_nil, zipF]
  repeat (first
    | (refine wpT_has (PtrN.mono W5.heap.size 45 #[.int .i64 0, .int .i64 0, .bool false, .int .i64 0, .int .i64 0, .slice none 0 0]) rfl (fun ρ w hk ⟨c1, c2, c3⟩ _ => upT_made (.pointer (some ⟨w.heap.size, 0, none⟩)) (w' := w.alloc (.cells #[.int .i64 0, .int .i64 0, .bool false, .int .i64 0, .int .i64 0, .slice none 0 0] 45)) ?_ ((Kept.refl w).alloc _) ⟨_, rfl, hk.2, push_new w _⟩) ?_; (· go_simp); dsimp only [putS, List.set_cons_succ, List.set_cons_zero])
    | (refine wpT_slot (S := .has _) _ (.inl rfl) rfl (ToldT.mono _ _) rfl ?_; dsimp only [putS, List.set_cons_succ, List.set_cons_zero])
    | (refine wpT_has (ToldT.mono y b) rfl (fun ρ w hk ⟨c1, c2, c3⟩ ⟨h1, h2, h3, _⟩ => ?_) ?_
       · have h1 : ρ (.tmp 48) = _ := h1
         have h2 : ρ (.tmp 50) = _ := h2
         have h3 : ρ (.tmp 52) = _ := h3
         refine upT_call 32 #[.agg #[.int .i64 pr, .int .i64 ps, .bool so, .int .i64 ar, .int .i64 as_, .slice A val.length c], .agg #[.int .i64 yr, .int .i64 ys], .slice yVA yvn yvc] ?_ ((TC.out w hk).mono ?_)
         · go_simp
         · rintro e u ⟨v, rfl, hk2, ht⟩
           exact ⟨_, rfl, hk2, ht⟩
       dsimp only [putS, List.set_cons_succ, List.set_cons_zero])
    | (refine wpT_has (AcT.mono y) rfl (fun ρ w hk ⟨c1, c2, c3⟩ ⟨h1, _⟩ => ?_) ?_
       · obtain ⟨A', c', h1, hr⟩ := h1
         refine upT_made (acv y A' y.val.length c') ?_ (Kept.refl _) ⟨A', c', rfl, hr⟩
         go_simp
       dsimp only [putS, List.set_cons_succ, List.set_cons_zero])
    | (refine wpT_late (v := .bool b) rfl (fun ρ w hk ⟨c1, c2, c3⟩ ⟨h1, _⟩ => ?_) ?_
       · obtain ⟨A', c', h1, hr⟩ := h1
         intro w'
         go_simp
       dsimp only [putS, List.set_cons_succ, List.set_cons_zero])
    | (refine wpT_skip rfl ?_; dsimp only [putS, List.set_cons_succ, List.set_cons_zero])
    | (refine wpT_slot (S := .is _) _ (.inl rfl) rfl (Slot.mono_is _) rfl ?_; dsimp only [putS, List.set_cons_succ, List.set_cons_zero])
    | (refine wpT_slot (S := .is _) _ (.inr rfl) rfl (Slot.mono_is _) rfl ?_; dsimp only [putS, List.set_cons_succ, List.set_cons_zero])
    | (refine wpT_exact1 rfl rfl rfl ?_; apply Exists.intro; refine ⟨fun ρ w hk ⟨c1, c2, c3⟩ h1 => ?_, ?_⟩; (· obtain ⟨⟨t1, t2, t3, t4, t5, t6⟩, t7, t8, t9⟩ := T1.out w hk; go_simp; exact rfl); dsimp only [putS, List.set_cons_succ, List.set_cons_zero])
    | (refine wpT_exact2 rfl rfl rfl rfl ?_; apply Exists.intro; refine ⟨fun ρ w hk ⟨c1, c2, c3⟩ h1 h2 => ?_, ?_⟩; (· obtain ⟨⟨t1, t2, t3, t4, t5, t6⟩, t7, t8, t9⟩ := T1.out w hk; go_simp; exact rfl); dsimp only [putS, List.set_cons_succ, List.set_cons_zero])
    | (refine wpT_exact3 rfl rfl rfl rfl rfl ?_; apply Exists.intro; refine ⟨fun ρ w hk ⟨c1, c2, c3⟩ h1 h2 h3 => ?_, ?_⟩; (· obtain ⟨⟨t1, t2, t3, t4, t5, t6⟩, t7, t8, t9⟩ := T1.out w hk; go_simp; exact rfl); dsimp only [putS, List.set_cons_succ, List.set_cons_zero])
    | (refine wpT_exact4 rfl rfl rfl rfl rfl rfl ?_; apply Exists.intro; refine ⟨fun ρ w hk ⟨c1, c2, c3⟩ h1 h2 h3 h4 => ?_, ?_⟩; (· obtain ⟨⟨t1, t2, t3, t4, t5, t6⟩, t7, t8, t9⟩ := T1.out w hk; go_simp; exact rfl); dsimp only [putS, List.set_cons_succ, List.set_cons_zero])
    | (refine wpT_exact0 rfl ?_; apply Exists.intro; refine ⟨fun ρ w hk ⟨c1, c2, c3⟩ => ?_, ?_⟩; (· obtain ⟨⟨t1, t2, t3, t4, t5, t6⟩, t7, t8, t9⟩ := T1.out w hk; go_simp; exact rfl); dsimp only [putS, List.set_cons_succ, List.set_cons_zero])
    | fail)
  refine wpT_nil ?_
  intro wz kz
  simp only [Fits]
  rintro uz ⟨z, rfl, hz, hvz⟩ um - uc - ue ⟨A', c', rfl, hr⟩
  have kz' : Kept W5 wz := (Kept.refl W5).drew.trans kz
  have hvz : Hs wz z 45 Ac.zero none 0 0 := hvz
  obtain ⟨d0, d1, d2, d3, d4, d5⟩ := hvz.cells
  obtain ⟨e0, e1, e2, e3, e4, e5⟩ := hvz.free
  simp only [Ac.zero] at d0 d1 d2 d3 d4 d5
  have hg5 : g < W5.heap.size := Nat.lt_trans hgl3 (heap_lt X5.out)
  have HR := Lib.hid (RowB.put6 (x := y) (B' := A') (m' := y.val.length) (d' := c') hr hvz)
  have HV6 := Lib.hid (put6_new hvz y A' y.val.length c')
  have K56 := Lib.hid (put6_kept y A' y.val.length c' kz' hz)
  clear kz kz' T1 hr hvz TC
  obtain ⟨zr, zt, zo, za, zb, zv⟩ := y
  simp only [acv]
  simp only at HR HV6 K56
  go_wp2_with fail
  refine only_end ?_
  go_wp2_with fail
  obtain ⟨W6, hW6⟩ : ∃ W6, W6 = (((((wz.setCell ⟨z, 0, none⟩ (.int .i64 zr)).setCell ⟨z, 1, none⟩ (.int .i64 zt)).setCell ⟨z, 2, none⟩ (.bool zo)).setCell ⟨z, 3, none⟩ (.int .i64 za)).setCell ⟨z, 4, none⟩ (.int .i64 zb)).setCell ⟨z, 5, none⟩ (.slice A' zv.length c') := ⟨_, rfl⟩
  rw [← hW6]
  have HR6 : Hid (RowB W6 A' zv.length c' zv) := Lib.hid (by rw [hW6]; exact HR.out)
  have V6 : Hid (Hs W6 z 45 ⟨zr, zt, zo, za, zb, zv⟩ A' zv.length c') := Lib.hid (by rw [hW6]; exact HV6.out)
  have K6 : Hid (Kept W5 W6) := Lib.hid (by rw [hW6]; exact K56.out)
  clear hW6 HR HV6 K56 d0 d1 d2 d3 d4 d5 e0 e1 e2 e3 e4 e5
  have T1 : Hid (∀ W', Kept W6.drew W' → W'.cell? ⟨z, 0, none⟩ = some (.int .i64 zr) ∧ W'.cell? ⟨z, 1, none⟩ = some (.int .i64 zt) ∧ W'.cell? ⟨z, 2, none⟩ = some (.bool zo) ∧ W'.cell? ⟨z, 3, none⟩ = some (.int .i64 za) ∧ W'.cell? ⟨z, 4, none⟩ = some (.int .i64 zb) ∧ W'.cell? ⟨z, 5, none⟩ = some (.slice A' zv.length c')) := Lib.hid (fun W' h => (V6.out.kept ((Kept.refl W6).drew.trans h)).cells)
  refine wp_region_typed (N := 6) (fl := []) (by kernel_rfl) (by kernel_rfl) ?_
  simp only [List.take_succ_cons, List.take_zero, List.drop_succ_cons, List.drop_zero, List.map_cons, List.map_nil, zipF]
  repeat (first
    | (refine wpT_skip rfl ?_; dsimp only [putS, List.set_cons_succ, List.set_cons_zero])
    | (refine wpT_slot (S := .is _) _ (.inl rfl) rfl (Slot.mono_is _) rfl ?_; dsimp only [putS, List.set_cons_succ, List.set_cons_zero])
    | (refine wpT_slot (S := .is _) _ (.inr rfl) rfl (Slot.mono_is _) rfl ?_; dsimp only [putS, List.set_cons_succ, List.set_cons_zero])
    | (refine wpT_exact1 rfl rfl rfl ?_; apply Exists.intro; refine ⟨fun ρ w hk ⟨c1, c2, c3⟩ h1 => ?_, ?_⟩; (· obtain ⟨t1, t2, t3, t4, t5, t6⟩ := T1.out w hk; go_simp; exact rfl); dsimp only [putS, List.set_cons_succ, List.set_cons_zero])
    | (refine wpT_exact2 rfl rfl rfl rfl ?_; apply Exists.intro; refine ⟨fun ρ w hk ⟨c1, c2, c3⟩ h1 h2 => ?_, ?_⟩; (· obtain ⟨t1, t2, t3, t4, t5, t6⟩ := T1.out w hk; go_simp; exact rfl); dsimp only [putS, List.set_cons_succ, List.set_cons_zero])
    | (refine wpT_exact3 rfl rfl rfl rfl rfl ?_; apply Exists.intro; refine ⟨fun ρ w hk ⟨c1, c2, c3⟩ h1 h2 h3 => ?_, ?_⟩; (· obtain ⟨t1, t2, t3, t4, t5, t6⟩ := T1.out w hk; go_simp; exact rfl); dsimp only [putS, List.set_cons_succ, List.set_cons_zero])
    | (refine wpT_exact4 rfl rfl rfl rfl rfl rfl ?_; apply Exists.intro; refine ⟨fun ρ w hk ⟨c1, c2, c3⟩ h1 h2 h3 h4 => ?_, ?_⟩; (· obtain ⟨t1, t2, t3, t4, t5, t6⟩ := T1.out w hk; go_simp; exact rfl); dsimp only [putS, List.set_cons_succ, List.set_cons_zero])
    | (refine wpT_exact0 rfl ?_; apply Exists.intro; refine ⟨fun ρ w hk ⟨c1, c2, c3⟩ => ?_, ?_⟩; (· obtain ⟨t1, t2, t3, t4, t5, t6⟩ := T1.out w hk; go_simp; exact rfl); dsimp only [putS, List.set_cons_succ, List.set_cons_zero])
    | fail)
  refine wpT_nil ?_
  intro wz kz
  simp only [Fits]
  have k6z : Kept W6 wz := (Kept.refl W6).drew.trans kz
  have k5z := K6.out.trans k6z
  have mz := HM.out.grow (K5.out.trans k5z)
  obtain ⟨d0, d1, d2, d3, d4, d5⟩ := mz.state hal
  have e0 := mz.free (1 + aq * 6)
  have e1 := mz.free (1 + aq * 6 + 1)
  have e2 := mz.free (1 + aq * 6 + 2)
  have e3 := mz.free (1 + aq * 6 + 3)
  have e4 := mz.free (1 + aq * 6 + 4)
  have e5 := mz.free (1 + aq * 6 + 5)
  rw [HY0.out] at d0 d1 d2 d3 d4 d5
  simp only at d0 d1 d2 d3 d4 d5
  obtain ⟨m8, hu8⟩ := mz.putState hal ⟨⟨zr, zt, zo, za, zb, zv⟩, A', c'⟩
  have hne : ∀ i, g < i → (putA wz g aq ⟨⟨zr, zt, zo, za, zb, zv⟩, A', c'⟩).heap[i]? = wz.heap[i]? := fun i hi => putA_old _ _ _ _ (by omega)
  have M8a := Lib.hid m8
  have HU8a := Lib.hid (((K5.out.trans k5z).hush).trans hu8)
  have X8a := Lib.hid ((hne gx (by omega)).trans (X5.out.kept k5z))
  have HR8a := Lib.hid ((HR6.out.below k6z.1).hush hu8)
  simp only [putA] at M8a HU8a X8a HR8a
  clear kz k6z k5z mz m8 hu8 hne T1
  go_wp2_with fail
  refine only_end ?_
  obtain ⟨W8, hW8⟩ : ∃ W8, W8 = (((((wz.setCell ⟨g, 1 + aq * 6, none⟩ (.int .i64 zr)).setCell ⟨g, 1 + aq * 6 + 1, none⟩ (.int .i64 zt)).setCell ⟨g, 1 + aq * 6 + 2, none⟩ (.bool zo)).setCell ⟨g, 1 + aq * 6 + 3, none⟩ (.int .i64 za)).setCell ⟨g, 1 + aq * 6 + 4, none⟩ (.int .i64 zb)).setCell ⟨g, 1 + aq * 6 + 5, none⟩ (.slice A' zv.length c') := ⟨_, rfl⟩
  rw [← hW8] at M8a HU8a X8a HR8a ⊢
  clear hW8 d0 d1 d2 d3 d4 d5 e0 e1 e2 e3 e4 e5
  have X8 : Hid (Hx W8 gx ⟨yr, ys, yPA, ypn, ypc, true, yVA, yvn, yvc, yTA, ytn, ytc⟩) := Lib.hid X8a.out
  have ways : (acceA ⟨pr, ps, so, ar, as_, val⟩ yr ys x.val = none ∧ (⟨zr, zt, zo, za, zb, zv⟩ : Ac) = ⟨pr, ps, so, ar, as_, val⟩ ∧ b = false) ∨ (acceA ⟨pr, ps, so, ar, as_, val⟩ yr ys x.val = some ⟨zr, zt, zo, za, zb, zv⟩ ∧ b = true) := by
    obtain ⟨h1, h2⟩ := HYB.out
    cases hp : acceA ⟨pr, ps, so, ar, as_, val⟩ yr ys x.val with
    | none => rw [hp] at h1 h2; exact .inl ⟨rfl, h1.symm, h2.symm⟩
    | some t => rw [hp] at h1 h2; exact .inr ⟨by rw [← h1]; rfl, h2.symm⟩
  rcases ways with ⟨hp, hzz, rfl⟩ | ⟨hp, rfl⟩
  · rw [hp] at HPL
    cases hzz
    clear hp HYB
    go_wp2
    go_end0
    refine ⟨rfl, _, rl, _, rc, by rw [HPL.out]; exact M8a.out, ?_⟩
    rw [HPL.out]
    have h2 := (HH.out.hush HU8a.out).setState aq ⟨⟨pr, ps, so, ar, as_, val⟩, A', c'⟩ HR8a.out
    have hall : all.set aq (⟨pr, ps, so, ar, as_, val⟩ : Ac) = all := set_same (l := all) (by have h := HH.out.all; simp only at h; rw [← h, List.getElem?_map, List.getElem?_eq_getElem hal, HY0.out]; rfl)
    simp only at h2
    rw [hall] at h2
    exact h2
  · rw [hp] at HPL
    clear hp HYB
    have HRD8 := Lib.hid (HRD.out.hush HU8a.out)
    obtain ⟨bp, hown, hlen⟩ := HRD8.out.vts
    simp only at hown hlen
    have HOW := Lib.hid hown
    have HLEN := Lib.hid hlen
    have hpl : ytn ≤ 1000 := by
      have := (HF.out.2 x (List.mem_of_getElem? HX.out)).2
      omega
    have HNIL : Hid (yTA = none → ytc = 0) := Lib.hid (by
      obtain ⟨A9, c9, e9, h9, -, -⟩ := hown.slice
      injection e9 with e1 e2 e3
      subst e1 e3
      exact h9)
    clear hown hlen
    go_wp2_with fail
    have T1 : Hid (∀ W', Kept W8.drew W' → W'.cell? ⟨gx, 0, none⟩ = some (.int .i64 yr) ∧ W'.cell? ⟨gx, 1, none⟩ = some (.int .i64 ys) ∧ W'.cell? ⟨gx, 5, none⟩ = some (.slice yTA ytn ytc)) := Lib.hid (fun W' h => by
      have k' := (Kept.refl W8).drew.trans h
      obtain ⟨x0, x1, -, -, -, x5⟩ := (X8.out.kept k').cells
      exact ⟨x0, x1, x5⟩)
    have TR : Hid (∀ W', Kept W8.drew W' → EV.Reads W' yTA x.vs) := Lib.hid (fun W' h => (HOW.out.reads).kept ((Kept.refl W8).drew.trans h))
    letI G : Grow := fillGrowE 60 W8.drew.heap.size (EV.flat x.vs) (EV.flat [⟨(aq : Int), yr, ys⟩])
    refine wp_region_typed (N := 11) (fl := []) (by kernel_rfl) (by kernel_rfl) ?_
    simp only [List.take_succ_cons, List.take_zero, List.drop_succ_cons, List.drop_zero, List.map_cons, List.map_nil, zipF]
    repeat (first
      | (refine wpT_has (EmptyE.mono 60 W8.drew.heap.size _ _) rfl (fun ρ w hk ⟨c1, c2, c3⟩ _ => upT_made (.slice (some ⟨w.heap.size, 0, none⟩) 0 0) (w' := w.alloc (.cells #[] 60)) ?_ (((Kept.refl w).alloc _).fillE) ⟨_, FillE.size hk, rfl, push_new w _⟩) ?_; (· go_simp); dsimp only [putS, List.set_cons_succ, List.set_cons_zero])
      | (refine wpT_has (OwnFE.mono (E := EV) x.vs (.inl (Nat.le_refl _))) rfl (fun ρ w hk ⟨c1, c2, c3⟩ ⟨h11, h12, _⟩ => ?_) ?_
         · obtain ⟨gq, hg0, e1, hg⟩ : EmptyE 60 W8.drew.heap.size (ρ (.tmp 63)) w := h11
           have e2 : ρ (.tmp 65) = .slice yTA ytn ytc := h12
           have own0 : EV.Own w W8.drew.heap.size (.slice (some ⟨gq, 0, none⟩) 0 0) [] := ⟨rfl, .inr ⟨gq, 0, #[], rfl, hg0, hg, Nat.le_refl _, by decide, rfl, rfl⟩⟩
           obtain ⟨v', w', hr, ho, hf⟩ := run_append_fillE (c := ytc) 31 own0 (TR.out w (FillE.kept hk)) HLEN.out HNIL.out (by simp only [List.length_nil]; omega) (FillE.size hk)
           refine upT_made v' (exec_appendE rfl e1 e2 hr) ?_ (by rw [List.nil_append] at ho; exact ho)
           rcases hf with hf | ⟨g', cap, cur, e, _, _, hn, hc, _⟩
           · exact hf.fillE
           · injection e with _ _ e
             rw [← e, List.length_nil] at hc
             omega
         dsimp only [putS, List.set_cons_succ, List.set_cons_zero])
      | (refine wpT_has (OneE.mono (E := EV) W8.drew.heap.size ⟨(aq : Int), yr, ys⟩ (EV.flat x.vs)) rfl (fun ρ w hk ⟨c1, c2, c3⟩ ⟨h1, _⟩ => ?_) ?_
         · have h1 : ρ (.tmp 70) = _ := h1
           refine upT_made (.slice (some ⟨w.heap.size, 0, none⟩) 1 1) (w' := w.alloc (.cells #[.int .i64 (aq : Int), .int .i64 yr, .int .i64 ys] 60)) ?_ (((Kept.refl w).alloc _).fillE) ⟨_, FillE.size hk, rfl, push_new w (.cells #[.int .i64 (aq : Int), .int .i64 yr, .int .i64 ys] 60)⟩
           go_simp
         dsimp only [putS, List.set_cons_succ, List.set_cons_zero])
      | (refine wpT_has (OwnFE.mono (E := EV) (x.vs ++ [⟨(aq : Int), yr, ys⟩]) (.inr (EV.flat_append _ _))) rfl (fun ρ w hk ⟨c1, c2, c3⟩ ⟨h11, h12, _⟩ => ?_) ?_
         · have e1 : EV.Own w W8.drew.heap.size (ρ (.tmp 66)) x.vs := h11
           obtain ⟨gq, hg0, e2, hg⟩ : OneE EV W8.drew.heap.size ⟨(aq : Int), yr, ys⟩ (ρ (.tmp 71)) w := h12
           obtain ⟨v', w', hr, ho, hf⟩ := run_append_fillE (c := 1) (n := 1) 31 e1 (OneE.reads hg) rfl (fun h => by cases h) (by rw [HLEN.out]; omega) (FillE.size hk)
           exact upT_made v' (exec_appendE rfl rfl e2 hr) (fill_ofE hf rfl) ho
         dsimp only [putS, List.set_cons_succ, List.set_cons_zero])
      | (refine wpT_skip rfl ?_; dsimp only [putS, List.set_cons_succ, List.set_cons_zero])
      | (refine wpT_slot (S := .is _) _ (.inl rfl) rfl (Slot.mono_is _) rfl ?_; dsimp only [putS, List.set_cons_succ, List.set_cons_zero])
      | (refine wpT_slot (S := .is _) _ (.inr rfl) rfl (Slot.mono_is _) rfl ?_; dsimp only [putS, List.set_cons_succ, List.set_cons_zero])
      | (refine wpT_exact1 rfl rfl rfl ?_; apply Exists.intro; refine ⟨fun ρ w hk ⟨c1, c2, c3⟩ h1 => ?_, ?_⟩; (· obtain ⟨t1, t2, t3⟩ := T1.out w (FillE.kept hk); go_simp; exact rfl); dsimp only [putS, List.set_cons_succ, List.set_cons_zero])
      | (refine wpT_exact2 rfl rfl rfl rfl ?_; apply Exists.intro; refine ⟨fun ρ w hk ⟨c1, c2, c3⟩ h1 h2 => ?_, ?_⟩; (· obtain ⟨t1, t2, t3⟩ := T1.out w (FillE.kept hk); go_simp; exact rfl); dsimp only [putS, List.set_cons_succ, List.set_cons_zero])
      | (refine wpT_exact3 rfl rfl rfl rfl rfl ?_; apply Exists.intro; refine ⟨fun ρ w hk ⟨c1, c2, c3⟩ h1 h2 h3 => ?_, ?_⟩; (· obtain ⟨t1, t2, t3⟩ := T1.out w (FillE.kept hk); go_simp; exact rfl); dsimp only [putS, List.set_cons_succ, List.set_cons_zero])
      | (refine wpT_exact4 rfl rfl rfl rfl rfl rfl ?_; apply Exists.intro; refine ⟨fun ρ w hk ⟨c1, c2, c3⟩ h1 h2 h3 h4 => ?_, ?_⟩; (· obtain ⟨t1, t2, t3⟩ := T1.out w (FillE.kept hk); go_simp; exact rfl); dsimp only [putS, List.set_cons_succ, List.set_cons_zero])
      | (refine wpT_exact0 rfl ?_; apply Exists.intro; refine ⟨fun ρ w hk ⟨c1, c2, c3⟩ => ?_, ?_⟩; (· obtain ⟨t1, t2, t3⟩ := T1.out w (FillE.kept hk); go_simp; exact rfl); dsimp only [putS, List.set_cons_succ, List.set_cons_zero])
      | fail)
    refine wpT_nil ?_
    intro wz kz
    simp only [Fits]
    rintro y63 - y66 - y71 - y72 hy72
    have ho : EV.Own wz W8.drew.heap.size y72 (x.vs ++ [⟨(aq : Int), yr, ys⟩]) := hy72
    obtain ⟨A9, c9, rfl, -, -, -⟩ := ho.slice
    have hl9 : (x.vs ++ [(⟨(aq : Int), yr, ys⟩ : Vt)]).length = ytn + 1 := by rw [List.length_append, HLEN.out]; rfl
    rw [hl9] at ho ⊢
    have kz' : Kept W8 wz := (Kept.refl _).drew.trans (FillE.kept kz)
    have hxz := X8.out.kept kz'
    obtain ⟨-, -, -, -, -, x2⟩ := Hx.cells hxz
    simp only at x2
    have f2 := Hx.free hxz 5
    have m9 := (M8a.out.grow kz').far (gx := gx) (by omega) (by omega) (by have := M8a.out.lt.1; omega) 5 (.slice A9 (ytn + 1) c9)
    have hu89 := kz'.hush.trans (hush_cell hxz (.inl rfl) 5 (.slice A9 (ytn + 1) c9))
    have x9 : Hx (wz.setCell ⟨gx, 5, none⟩ (.slice A9 (ytn + 1) c9)) gx ⟨yr, ys, yPA, ypn, ypc, true, yVA, yvn, yvc, A9, ytn + 1, c9⟩ := (heap_setCell_same hxz _).trans rfl
    have ho9 := ho.hush (hush_cell hxz (.inl rfl) 5 (.slice A9 (ytn + 1) c9)) (by decide) (by decide)
    have M9 := Lib.hid m9
    have HU9 := Lib.hid (HU8a.out.trans hu89)
    have HU89 := Lib.hid hu89
    have X9 := Lib.hid x9
    have HO9 := Lib.hid ho9
    clear kz kz' hy72 ho hxz m9 hu89 x9 ho9 T1 TR
    go_wp2_with fail
    refine only_end ?_
    go_wp2_with fail
    generalize wz.setCell ⟨gx, 5, none⟩ (.slice A9 (ytn + 1) c9) = W9 at *
    clear G
    have T1 : Hid (∀ W', Kept W9.drew W' → (W'.cell? ⟨gx, 0, none⟩ = some (.int .i64 yr) ∧ W'.cell? ⟨gx, 1, none⟩ = some (.int .i64 ys) ∧ W'.cell? ⟨gx, 2, none⟩ = some (.slice yPA ypn ypc) ∧ W'.cell? ⟨gx, 3, none⟩ = some (.bool true) ∧ W'.cell? ⟨gx, 4, none⟩ = some (.slice yVA yvn yvc) ∧ W'.cell? ⟨gx, 5, none⟩ = some (.slice A9 (ytn + 1) c9)) ∧ W'.cell? ⟨g, 43, none⟩ = some (.slice (some ⟨RB, 0, none⟩) ylen rc)) := Lib.hid (fun W' h => by
      have k' := (Kept.refl W9).drew.trans h
      have h43 := (M9.out.grow k').rounds
      rw [HYL.out] at h43
      exact ⟨(Hx.kept X9.out k').cells, h43⟩)
    clear x2 f2
    refine wp_region_typed (N := 7) (fl := []) (by kernel_rfl) (by kernel_rfl) ?_
    simp only [List.take_succ_cons, List.take_zero, List.drop_succ_cons, List.drop_zero, List.map_cons, List.map_nil, zipF]
    repeat (first
      | (refine wpT_skip rfl ?_; dsimp only [putS, List.set_cons_succ, List.set_cons_zero])
      | (refine wpT_slot (S := .is _) _ (.inl rfl) rfl (Slot.mono_is _) rfl ?_; dsimp only [putS, List.set_cons_succ, List.set_cons_zero])
      | (refine wpT_slot (S := .is _) _ (.inr rfl) rfl (Slot.mono_is _) rfl ?_; dsimp only [putS, List.set_cons_succ, List.set_cons_zero])
      | (refine wpT_exact1 rfl rfl rfl ?_; apply Exists.intro; refine ⟨fun ρ w hk ⟨c1, c2, c3⟩ h1 => ?_, ?_⟩; (· obtain ⟨⟨t1, t2, t3, t4, t5, t6⟩, t7⟩ := T1.out w hk; go_simp; exact rfl); dsimp only [putS, List.set_cons_succ, List.set_cons_zero])
      | (refine wpT_exact2 rfl rfl rfl rfl ?_; apply Exists.intro; refine ⟨fun ρ w hk ⟨c1, c2, c3⟩ h1 h2 => ?_, ?_⟩; (· obtain ⟨⟨t1, t2, t3, t4, t5, t6⟩, t7⟩ := T1.out w hk; go_simp; exact rfl); dsimp only [putS, List.set_cons_succ, List.set_cons_zero])
      | (refine wpT_exact3 rfl rfl rfl rfl rfl ?_; apply Exists.intro; refine ⟨fun ρ w hk ⟨c1, c2, c3⟩ h1 h2 h3 => ?_, ?_⟩; (· obtain ⟨⟨t1, t2, t3, t4, t5, t6⟩, t7⟩ := T1.out w hk; go_simp; exact rfl); dsimp only [putS, List.set_cons_succ, List.set_cons_zero])
      | (refine wpT_exact4 rfl rfl rfl rfl rfl rfl ?_; apply Exists.intro; refine ⟨fun ρ w hk ⟨c1, c2, c3⟩ h1 h2 h3 h4 => ?_, ?_⟩; (· obtain ⟨⟨t1, t2, t3, t4, t5, t6⟩, t7⟩ := T1.out w hk; go_simp; exact rfl); dsimp only [putS, List.set_cons_succ, List.set_cons_zero])
      | (refine wpT_exact0 rfl ?_; apply Exists.intro; refine ⟨fun ρ w hk ⟨c1, c2, c3⟩ => ?_, ?_⟩; (· obtain ⟨⟨t1, t2, t3, t4, t5, t6⟩, t7⟩ := T1.out w hk; go_simp; exact rfl); dsimp only [putS, List.set_cons_succ, List.set_cons_zero])
      | fail)
    refine wpT_nil ?_
    intro wz kz
    simp only [Fits]
    have kz' : Kept W9 wz := (Kept.refl _).drew.trans kz
    have mz := M9.out.grow kz'
    obtain ⟨_, e', -, -, -, ⟨r0, r1, r2, r3, r4, r5⟩, hrf, -⟩ := mz.round (k := kq) (by rw [HYL.out]; exact hkl)
    injection e' with e'
    injection e' with e'
    subst e'
    have f0 := hrf (kq * 6)
    have f1 := hrf (kq * 6 + 1)
    have f2 := hrf (kq * 6 + 2)
    have f3 := hrf (kq * 6 + 3)
    have f4 := hrf (kq * 6 + 4)
    have f5 := hrf (kq * 6 + 5)
    obtain ⟨m10, hu10⟩ := mz.putRound (k := kq) (by rw [HYL.out]; exact hkl) ⟨yr, ys, yPA, ypn, ypc, true, yVA, yvn, yvc, A9, ytn + 1, c9⟩
    have M10 := Lib.hid m10
    have HU10 := Lib.hid (HU9.out.trans (kz'.hush.trans hu10))
    have HUZ := Lib.hid (kz'.hush.trans hu10)
    have HU8Z := Lib.hid (HU89.out.trans (kz'.hush.trans hu10))
    simp only [putR] at M10 HU10 HUZ HU8Z
    clear kz kz' mz hrf m10 hu10 T1
    go_wp2_with fail
    refine only_end ?_
    obtain ⟨WF, hWF⟩ : ∃ WF, WF = (((((wz.setCell ⟨RB, kq * 6, none⟩ (.int .i64 yr)).setCell ⟨RB, kq * 6 + 1, none⟩ (.int .i64 ys)).setCell ⟨RB, kq * 6 + 2, none⟩ (.slice yPA ypn ypc)).setCell ⟨RB, kq * 6 + 3, none⟩ (.bool true)).setCell ⟨RB, kq * 6 + 4, none⟩ (.slice yVA yvn yvc)).setCell ⟨RB, kq * 6 + 5, none⟩ (.slice A9 (ytn + 1) c9) := ⟨_, rfl⟩
    rw [← hWF] at M10 HU10 HUZ HU8Z ⊢
    clear hWF r0 r1 r2 r3 r4 r5 f0 f1 f2 f3 f4 f5
    go_wp2
    go_end0
    refine ⟨rfl, _, _, _, rc, by rw [HPL.out]; exact M10.out, ?_⟩
    rw [HPL.out]
    have hrn : RdAt WF ⟨yr, ys, yPA, ypn, ypc, true, yVA, yvn, yvc, A9, ytn + 1, c9⟩ ⟨yr, ys, x.pm, true, x.val, x.vs ++ [⟨(aq : Int), yr, ys⟩]⟩ := by
      have h0 := HRD.out.hush HU10.out
      exact ⟨rfl, rfl, rfl, h0.pms, h0.vn, h0.val, _, HO9.out.hush HUZ.out (by decide) (by decide), hl9⟩
    have hs8 : RowB WF A' zv.length c' zv := HR8a.out.hush HU8Z.out
    exact ((HH.out.hush HU10.out).setState aq ⟨⟨zr, zt, zo, za, zb, zv⟩, A', c'⟩ hs8).setRound kq hrn
end Go.Proofs.Ytifenlopgpbpbaa
