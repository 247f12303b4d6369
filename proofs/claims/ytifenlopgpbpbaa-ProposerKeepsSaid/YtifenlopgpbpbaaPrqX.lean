/- The law's play: a value is chosen. -/
import Derived.Test.YtifenlopgpbpbaaPrqU
import Derived.Deep.CutRange
import Derived.Deep.DeepCutAuto
namespace Go.Proofs.Ytifenlopgpbpbaa
open Go.RowKit

set_option maxRecDepth 100000 in
set_option maxHeartbeats 16000000 in
theorem play_k2 {v W : World} {g : Nat} {v0 : List Nat} {s : Sl} (hw : SlW v W g s) (I : Inv v0 s) (F : Few 1000 s) (e : Evt) (he : EvOk e) (hki : e.kind = 2) :
    Calls Try.prog 19 #[.pointer (some ⟨g, 0, none⟩), .agg #[.int .i64 e.kind, .int .i64 e.p, .int .i64 e.k, .int .i64 e.a, .bool e.lost]] W fun e' w' => e' = .returned (.tuple #[]) ∧ SlW v w' g (playS s e) := by
  obtain ⟨sl, rl, R, rc, M, H⟩ := hw
  obtain ⟨kq, aq, x, ac, hk, ha, hx, hac, hkr, haq⟩ := play_places I e
  have hpl := playS_at hx hac hk ha
  obtain ⟨n, all, rds⟩ := s
  simp only at M hk ha hkr hx hac haq hpl
  have hmany : rl.length = rds.length := H.many
  have h7 := M.seven
  have hn := I.n1
  have hfl : rds.length ≤ 1000 := F.1
  simp only at hn
  have hkl : kq < rl.length := by omega
  have hal : aq < sl.length := by omega
  have hrd : RdAt W rl[kq] x := by
    have := H.rd kq hkl hkr
    rw [List.getElem?_eq_getElem hkr] at hx
    injection hx with hx
    rw [← hx]; exact this
  have hse : sl[aq].x = ac ∧ RowB W sl[aq].A sl[aq].x.val.length sl[aq].c sl[aq].x.val := by
    refine ⟨?_, H.each _ (List.getElem_mem hal)⟩
    have hall := H.all
    simp only at hall
    rw [← hall, List.getElem?_map, List.getElem?_eq_getElem hal] at hac
    exact Option.some.inj hac
  have HPL := Lib.hid hpl
  have HRD := Lib.hid hrd
  have HSE := Lib.hid hse
  have HI := Lib.hid I
  have HF := Lib.hid F
  have HM := Lib.hid M
  have HH := Lib.hid H
  have HX := Lib.hid hx
  obtain ⟨ki, p, kk, ai, lost⟩ := e
  obtain ⟨⟨-, -⟩, hep, hek, hea⟩ := he
  simp only at hep hek hea hk ha HPL hki
  subst hki
  rw [if_neg (by decide), if_neg (by decide), if_pos rfl] at HPL
  have L1 : Hid (∀ W', Calls Try.prog 30 #[.int .i64 kk, .int .i64 (rl.length : Int)] W' fun e w' => e = .returned (.int .i64 (kq : Int)) ∧ w' = W') := Lib.hid (fun W' => by rw [← hk, hmany]; exact least_any hek (by omega) W')
  have L2 : Hid (∀ W', Calls Try.prog 30 #[.int .i64 ai, .int .i64 n] W' fun e w' => e = .returned (.int .i64 (aq : Int)) ∧ w' = W') := Lib.hid (fun W' => by rw [← ha]; exact least_any hea (by omega) W')
  have L3 : Hid (∀ W', Calls Try.prog 30 #[.int .i64 p, .int .i64 n] W' fun e w' => e = .returned (.int .i64 (leastI p n)) ∧ w' = W') := Lib.hid (fun W' => least_any hep (by omega) W')
  have haq7 : aq < 7 := by omega
  have haqI : (aq : Int) < 7 := by omega
  obtain ⟨RB, rfl, hRB, hRBv, hRBg, hrc, hrf, -⟩ := M.round hkl
  have hgl := M.lt
  have K0 : Hid (Kept W (W.alloc (.cells #[.int .i64 2, .int .i64 p, .int .i64 kk, .int .i64 ai, .bool lost] 53))) := Lib.hid ((Kept.refl W).alloc _)
  have EV0 : Hid (HEv (W.alloc (.cells #[.int .i64 2, .int .i64 p, .int .i64 kk, .int .i64 ai, .bool lost] 53)) W.heap.size 2 p kk ai lost) := Lib.hid (push_new W _)
  clear hrc hrf M H hpl hrd hse I F hx hac hk ha hek hea hmany
  go_enter Try.func19, Try.ntmps19
  go_wp2_with fail
  generalize hW1 : W.alloc (.cells #[.int .i64 2, .int .i64 p, .int .i64 kk, .int .i64 ai, .bool lost] 53) = W1 at *
  clear hW1
  generalize W.heap.size = ge at *
  have T1 : Hid (∀ W', Kept W1.drew W' → (W'.cell? ⟨ge, 0, none⟩ = some (.int .i64 2) ∧ W'.cell? ⟨ge, 1, none⟩ = some (.int .i64 p) ∧ W'.cell? ⟨ge, 2, none⟩ = some (.int .i64 kk) ∧ W'.cell? ⟨ge, 3, none⟩ = some (.int .i64 ai) ∧ W'.cell? ⟨ge, 4, none⟩ = some (.bool lost)) ∧ W'.cell? ⟨g, 0, none⟩ = some (.int .i64 n) ∧ W'.cell? ⟨g, 43, none⟩ = some (.slice (some ⟨RB, 0, none⟩) rl.length rc)) := Lib.hid (fun W' h => by
    have k' := (Kept.refl W1).drew.trans h
    have m := HM.out.grow (K0.out.trans k')
    exact ⟨(EV0.out.kept k').cells, m.n, m.rounds⟩)
  refine wp_region_typed (N := 9) (fl := []) (by kernel_rfl) (by kernel_rfl) ?_
  simp only [List.take_succ_cons, List.take_zero, List.drop_succ_cons, List.drop_zero, List.map_cons, List.map_nil, zipF]
  repeat (first
    | (refine wpT_is (.int .i64 (kq : Int)) rfl (fun ρ w hk ⟨c1, c2, c3⟩ ⟨h1, h2, _⟩ => ?_) ?_
       · have h1 : ρ (.tmp 16) = _ := h1
         have h2 : ρ (.tmp 21) = _ := h2
         refine upT_call 30 #[.int .i64 kk, .int .i64 (rl.length : Int)] ?_ ((L1.out w).mono ?_)
         · go_simp
         rintro e u ⟨rfl, rfl⟩
         exact ⟨_, rfl, Kept.refl _, rfl⟩
       dsimp only [putS, List.set_cons_succ, List.set_cons_zero])
    | (refine wpT_skip rfl ?_; dsimp only [putS, List.set_cons_succ, List.set_cons_zero])
    | (refine wpT_slot (S := .is _) _ (.inl rfl) rfl (Slot.mono_is _) rfl ?_; dsimp only [putS, List.set_cons_succ, List.set_cons_zero])
    | (refine wpT_slot (S := .is _) _ (.inr rfl) rfl (Slot.mono_is _) rfl ?_; dsimp only [putS, List.set_cons_succ, List.set_cons_zero])
    | (refine wpT_exact1 rfl rfl rfl ?_; apply Exists.intro; refine ⟨fun ρ w hk ⟨c1, c2, c3⟩ h1 => ?_, ?_⟩; (· obtain ⟨⟨t1, t2, t3, t4, t5⟩, t6, t7⟩ := T1.out w hk; go_simp; exact rfl); dsimp only [putS, List.set_cons_succ, List.set_cons_zero])
    | (refine wpT_exact2 rfl rfl rfl rfl ?_; apply Exists.intro; refine ⟨fun ρ w hk ⟨c1, c2, c3⟩ h1 h2 => ?_, ?_⟩; (· obtain ⟨⟨t1, t2, t3, t4, t5⟩, t6, t7⟩ := T1.out w hk; go_simp; exact rfl); dsimp only [putS, List.set_cons_succ, List.set_cons_zero])
    | (refine wpT_exact3 rfl rfl rfl rfl rfl ?_; apply Exists.intro; refine ⟨fun ρ w hk ⟨c1, c2, c3⟩ h1 h2 h3 => ?_, ?_⟩; (· obtain ⟨⟨t1, t2, t3, t4, t5⟩, t6, t7⟩ := T1.out w hk; go_simp; exact rfl); dsimp only [putS, List.set_cons_succ, List.set_cons_zero])
    | (refine wpT_exact4 rfl rfl rfl rfl rfl rfl ?_; apply Exists.intro; refine ⟨fun ρ w hk ⟨c1, c2, c3⟩ h1 h2 h3 h4 => ?_, ?_⟩; (· obtain ⟨⟨t1, t2, t3, t4, t5⟩, t6, t7⟩ := T1.out w hk; go_simp; exact rfl); dsimp only [putS, List.set_cons_succ, List.set_cons_zero])
    | (refine wpT_exact0 rfl ?_; apply Exists.intro; refine ⟨fun ρ w hk ⟨c1, c2, c3⟩ => ?_, ?_⟩; (· obtain ⟨⟨t1, t2, t3, t4, t5⟩, t6, t7⟩ := T1.out w hk; go_simp; exact rfl); dsimp only [putS, List.set_cons_succ, List.set_cons_zero])
    | fail)
  refine wpT_nil ?_
  intro wz kz
  simp only [Fits]
  obtain ⟨W2, hW2⟩ : ∃ x, x = wz := ⟨_, rfl⟩
  subst hW2
  have K2 : Hid (Kept W W2) := Lib.hid (K0.out.trans ((Kept.refl W1).drew.trans kz))
  have EV2 := Lib.hid (EV0.out.kept ((Kept.refl W1).drew.trans kz))
  clear kz T1 K0 EV0
  refine wpList_end ?_
  go_wp2_with fail
  have T1 : Hid (∀ W', Kept W2.drew W' → (W'.cell? ⟨ge, 0, none⟩ = some (.int .i64 2) ∧ W'.cell? ⟨ge, 1, none⟩ = some (.int .i64 p) ∧ W'.cell? ⟨ge, 2, none⟩ = some (.int .i64 kk) ∧ W'.cell? ⟨ge, 3, none⟩ = some (.int .i64 ai) ∧ W'.cell? ⟨ge, 4, none⟩ = some (.bool lost)) ∧ W'.cell? ⟨g, 0, none⟩ = some (.int .i64 n) ∧ W'.cell? ⟨g, 43, none⟩ = some (.slice (some ⟨RB, 0, none⟩) rl.length rc)) := Lib.hid (fun W' h => by
    have k' := (Kept.refl W2).drew.trans h
    have m := HM.out.grow (K2.out.trans k')
    exact ⟨(EV2.out.kept k').cells, m.n, m.rounds⟩)
  refine wp_region_typed (N := 8) (fl := []) (by kernel_rfl) (by kernel_rfl) ?_
  simp only [List.take_succ_cons, List.take_zero, List.drop_succ_cons, List.drop_zero, List.map_cons, List.map_nil, zipF]
  repeat (first
    | (refine wpT_is (.int .i64 (aq : Int)) rfl (fun ρ w hk ⟨c1, c2, c3⟩ ⟨h1, h2, _⟩ => ?_) ?_
       · have h1 : ρ (.tmp 24) = _ := h1
         have h2 : ρ (.tmp 28) = _ := h2
         refine upT_call 30 #[.int .i64 ai, .int .i64 n] ?_ ((L2.out w).mono ?_)
         · go_simp
         rintro e u ⟨rfl, rfl⟩
         exact ⟨_, rfl, Kept.refl _, rfl⟩
       dsimp only [putS, List.set_cons_succ, List.set_cons_zero])
    | (refine wpT_skip rfl ?_; dsimp only [putS, List.set_cons_succ, List.set_cons_zero])
    | (refine wpT_slot (S := .is _) _ (.inl rfl) rfl (Slot.mono_is _) rfl ?_; dsimp only [putS, List.set_cons_succ, List.set_cons_zero])
    | (refine wpT_slot (S := .is _) _ (.inr rfl) rfl (Slot.mono_is _) rfl ?_; dsimp only [putS, List.set_cons_succ, List.set_cons_zero])
    | (refine wpT_exact1 rfl rfl rfl ?_; apply Exists.intro; refine ⟨fun ρ w hk ⟨c1, c2, c3⟩ h1 => ?_, ?_⟩; (· obtain ⟨⟨t1, t2, t3, t4, t5⟩, t6, t7⟩ := T1.out w hk; go_simp; exact rfl); dsimp only [putS, List.set_cons_succ, List.set_cons_zero])
    | (refine wpT_exact2 rfl rfl rfl rfl ?_; apply Exists.intro; refine ⟨fun ρ w hk ⟨c1, c2, c3⟩ h1 h2 => ?_, ?_⟩; (· obtain ⟨⟨t1, t2, t3, t4, t5⟩, t6, t7⟩ := T1.out w hk; go_simp; exact rfl); dsimp only [putS, List.set_cons_succ, List.set_cons_zero])
    | (refine wpT_exact3 rfl rfl rfl rfl rfl ?_; apply Exists.intro; refine ⟨fun ρ w hk ⟨c1, c2, c3⟩ h1 h2 h3 => ?_, ?_⟩; (· obtain ⟨⟨t1, t2, t3, t4, t5⟩, t6, t7⟩ := T1.out w hk; go_simp; exact rfl); dsimp only [putS, List.set_cons_succ, List.set_cons_zero])
    | (refine wpT_exact4 rfl rfl rfl rfl rfl rfl ?_; apply Exists.intro; refine ⟨fun ρ w hk ⟨c1, c2, c3⟩ h1 h2 h3 h4 => ?_, ?_⟩; (· obtain ⟨⟨t1, t2, t3, t4, t5⟩, t6, t7⟩ := T1.out w hk; go_simp; exact rfl); dsimp only [putS, List.set_cons_succ, List.set_cons_zero])
    | (refine wpT_exact0 rfl ?_; apply Exists.intro; refine ⟨fun ρ w hk ⟨c1, c2, c3⟩ => ?_, ?_⟩; (· obtain ⟨⟨t1, t2, t3, t4, t5⟩, t6, t7⟩ := T1.out w hk; go_simp; exact rfl); dsimp only [putS, List.set_cons_succ, List.set_cons_zero])
    | fail)
  refine wpT_nil ?_
  intro wz kz
  simp only [Fits]
  obtain ⟨W3, hW3⟩ : ∃ x, x = wz := ⟨_, rfl⟩
  subst hW3
  have K3 : Hid (Kept W W3) := Lib.hid (K2.out.trans ((Kept.refl W2).drew.trans kz))
  have EV3 := Lib.hid (EV2.out.kept ((Kept.refl W2).drew.trans kz))
  clear kz T1 K2 EV2
  refine wpList_end ?_
  have m3 := HM.out.grow K3.out
  have t43 := m3.rounds
  obtain ⟨_, e', -, -, -, ⟨r0, r1, r2, r3, r4, r5⟩, -, -⟩ := m3.round hkl
  injection e' with e'
  injection e' with e'
  subst e'
  obtain ⟨v0', v1, v2, v3, v4⟩ := EV3.out.cells
  obtain ⟨y, hy⟩ : ∃ y, rl[kq] = y := ⟨_, rfl⟩
  rw [hy] at r0 r1 r2 r3 r4 r5 HRD
  have HY := Lib.hid hy
  obtain ⟨ylen, hyl⟩ : ∃ m, rl.length = m := ⟨_, rfl⟩
  rw [hyl] at t43 hkl ⊢
  have HYL := Lib.hid hyl
  have hy6 : True := trivial
  obtain ⟨yr, ys, yPA, ypn, ypc, yh, yVA, yvn, yvc, yTA, ytn, ytc⟩ := y
  simp only at r0 r1 r2 r3 r4 r5
  have hgl3 : g < W3.heap.size := m3.lt.2
  have hel3 : ge < W3.heap.size := heap_lt EV3.out
  clear m3 hy hyl hy6
  go_wp2_with fail
  have K4a : Hid (Kept W3 (W3.alloc (.cells #[.int .i64 yr, .int .i64 ys, .slice yPA ypn ypc, .bool yh, .slice yVA yvn yvc, .slice yTA ytn ytc] 56))) := Lib.hid ((Kept.refl _).alloc _)
  have X4 : Hid (Hx (W3.alloc (.cells #[.int .i64 yr, .int .i64 ys, .slice yPA ypn ypc, .bool yh, .slice yVA yvn yvc, .slice yTA ytn ytc] 56)) W3.heap.size ⟨yr, ys, yPA, ypn, ypc, yh, yVA, yvn, yvc, yTA, ytn, ytc⟩) := Lib.hid (push_new W3 _)
  have K4 := Lib.hid (K3.out.trans K4a.out)
  clear t43 r0 r1 r2 r3 r4 r5 v0' v1 v2 v3 v4 K4a K3 EV3 HSE
  generalize W3.alloc (.cells #[.int .i64 yr, .int .i64 ys, .slice yPA ypn ypc, .bool yh, .slice yVA yvn yvc, .slice yTA ytn ytc] 56) = W4 at *
  generalize W3.heap.size = gx at *
  obtain ⟨bp, li, hown, hmap, hlen, hrows⟩ := HRD.out.pms
  simp only at hown hlen
  have hpl : ypn ≤ 1000 := by
    have := (HF.out.2 x (List.mem_of_getElem? HX.out)).1
    rw [← hmap, List.length_map] at this
    omega
  have hwho : ∀ z ∈ li, -9223372036854775808 ≤ z.r.who ∧ z.r.who ≤ 9223372036854775807 := fun z hz => by
    obtain ⟨a', ac', _, hwa, han, _⟩ := HI.out.pms kq x HX.out z.r (by rw [← hmap]; exact List.mem_map_of_mem hz)
    simp only at han
    omega
  obtain ⟨o, ho⟩ : ∃ o, chooseP x.pm n = o := ⟨_, rfl⟩
  have TC : Hid (∀ W', Kept W4.drew W' → Calls Try.prog 10 #[.slice yPA ypn ypc, .int .i64 n] W' fun e w' => ∃ v b, e = .returned (.tuple #[v, .bool b]) ∧ Kept W' w' ∧ ChoT o v b w') := Lib.hid (fun W' h => by
    have k' : Kept W W' := K4.out.trans ((Kept.refl _).drew.trans h)
    rw [← ho, ← hmap]
    exact choose_any hlen (hown.reads.kept k') (fun z hz => (hrows z hz).row.below k'.1) hwho (by omega) (by omega))
  rw [ho] at HPL
  have T1 : Hid (∀ W', Kept W4.drew W' → W'.cell? ⟨gx, 2, none⟩ = some (.slice yPA ypn ypc) ∧ W'.cell? ⟨g, 0, none⟩ = some (.int .i64 n)) := Lib.hid (fun W' h => by
    have k' := (Kept.refl W4).drew.trans h
    obtain ⟨-, -, x2, -⟩ := (X4.out.kept k').cells
    exact ⟨x2, (HM.out.grow (K4.out.trans k')).n⟩)
  clear hown hmap hlen hrows hwho ho
  cases o with
  | none =>
    have hdummy : True := trivial
    refine wp_region_typed (N := 12) (fl := []) (by kernel_rfl) (by kernel_rfl) ?_
    simp only [List.take_succ_cons, List.take_zero, List.drop_succ_cons, List.drop_zero, List.map_cons, List.map_nil, zipF]
    repeat (first
      | (refine wpT_is (.tuple #[.slice none 0 0, .bool false]) rfl (fun ρ w hk ⟨c1, c2, c3⟩ ⟨h1, h2, _⟩ => ?_) ?_
         · have h1 : ρ (.tmp 175) = _ := h1
           have h2 : ρ (.tmp 179) = _ := h2
           refine upT_call 10 #[.slice yPA ypn ypc, .int .i64 n] ?_ ((TC.out w hk).mono ?_)
           · go_simp
           · rintro e u ⟨v, b, rfl, hk2, rfl, rfl⟩
             exact ⟨_, rfl, hk2, rfl⟩
         dsimp only [putS, List.set_cons_succ, List.set_cons_zero])
      | (refine wpT_skip rfl ?_; dsimp only [putS, List.set_cons_succ, List.set_cons_zero])
      | (refine wpT_slot (S := .is _) _ (.inl rfl) rfl (Slot.mono_is _) rfl ?_; dsimp only [putS, List.set_cons_succ, List.set_cons_zero])
      | (refine wpT_slot (S := .is _) _ (.inr rfl) rfl (Slot.mono_is _) rfl ?_; dsimp only [putS, List.set_cons_succ, List.set_cons_zero])
      | (refine wpT_exact1 rfl rfl rfl ?_; apply Exists.intro; refine ⟨fun ρ w hk ⟨c1, c2, c3⟩ h1 => ?_, ?_⟩; (· obtain ⟨t1, t2⟩ := T1.out w hk; go_simp; exact rfl); dsimp only [putS, List.set_cons_succ, List.set_cons_zero])
      | (refine wpT_exact2 rfl rfl rfl rfl ?_; apply Exists.intro; refine ⟨fun ρ w hk ⟨c1, c2, c3⟩ h1 h2 => ?_, ?_⟩; (· obtain ⟨t1, t2⟩ := T1.out w hk; go_simp; exact rfl); dsimp only [putS, List.set_cons_succ, List.set_cons_zero])
      | (refine wpT_exact3 rfl rfl rfl rfl rfl ?_; apply Exists.intro; refine ⟨fun ρ w hk ⟨c1, c2, c3⟩ h1 h2 h3 => ?_, ?_⟩; (· obtain ⟨t1, t2⟩ := T1.out w hk; go_simp; exact rfl); dsimp only [putS, List.set_cons_succ, List.set_cons_zero])
      | (refine wpT_exact4 rfl rfl rfl rfl rfl rfl ?_; apply Exists.intro; refine ⟨fun ρ w hk ⟨c1, c2, c3⟩ h1 h2 h3 h4 => ?_, ?_⟩; (· obtain ⟨t1, t2⟩ := T1.out w hk; go_simp; exact rfl); dsimp only [putS, List.set_cons_succ, List.set_cons_zero])
      | (refine wpT_exact0 rfl ?_; apply Exists.intro; refine ⟨fun ρ w hk ⟨c1, c2, c3⟩ => ?_, ?_⟩; (· obtain ⟨t1, t2⟩ := T1.out w hk; go_simp; exact rfl); dsimp only [putS, List.set_cons_succ, List.set_cons_zero])
      | fail)
    refine wpT_nil ?_
    intro wz kz
    simp only [Fits]
    have kz' : Kept W4 wz := (Kept.refl _).drew.trans kz
    have KZ := Lib.hid (K4.out.trans kz')
    clear kz kz' T1 TC
    refine wpList_end ?_
    go_wp2
    go_end0
    exact ⟨rfl, by rw [HPL.out]; exact ⟨sl, rl, _, rc, HM.out.grow KZ.out, HH.out.hush KZ.out.hush⟩⟩
  | some bs =>
    have hdummy : True := trivial
    refine wp_region_typed (N := 12) (fl := []) (by kernel_rfl) (by kernel_rfl) ?_
    simp only [List.take_succ_cons, List.take_zero, List.drop_succ_cons, List.drop_zero, List.map_cons, List.map_nil, zipF]
    repeat (first
      | (refine wpT_slot (S := .has _) _ (.inl rfl) rfl (CtT.mono _) rfl ?_; dsimp only [putS, List.set_cons_succ, List.set_cons_zero])
      | (refine wpT_slot (S := .has _) _ (.inr rfl) rfl (RbT.mono _) rfl ?_; dsimp only [putS, List.set_cons_succ, List.set_cons_zero])
      | (refine wpT_has (CtT.mono bs) rfl (fun ρ w hk ⟨c1, c2, c3⟩ ⟨h1, h2, _⟩ => ?_) ?_
         · have h1 : ρ (.tmp 175) = _ := h1
           have h2 : ρ (.tmp 179) = _ := h2
           refine upT_call 10 #[.slice yPA ypn ypc, .int .i64 n] ?_ ((TC.out w hk).mono ?_)
           · go_simp
           · rintro e u ⟨v, b, rfl, hk2, rfl, A, c, rfl, hr⟩
             exact ⟨_, rfl, hk2, A, c, rfl, hr⟩
         dsimp only [putS, List.set_cons_succ, List.set_cons_zero])
      | (refine wpT_has (RbT.mono bs) rfl (fun ρ w hk ⟨c1, c2, c3⟩ ⟨h1, _⟩ => ?_) ?_
         · obtain ⟨A, c, h1, hr⟩ := h1
           refine upT_made (.slice A bs.length c) ?_ (Kept.refl _) ⟨A, c, rfl, hr⟩
           go_simp
         dsimp only [putS, List.set_cons_succ, List.set_cons_zero])
      | (refine wpT_is (.bool true) rfl (fun ρ w hk ⟨c1, c2, c3⟩ ⟨h1, _⟩ => ?_) ?_
         · obtain ⟨A, c, h1, hr⟩ := h1
           refine upT_value ?_
           go_simp
         dsimp only [putS, List.set_cons_succ, List.set_cons_zero])
      | (refine wpT_skip rfl ?_; dsimp only [putS, List.set_cons_succ, List.set_cons_zero])
      | (refine wpT_slot (S := .is _) _ (.inl rfl) rfl (Slot.mono_is _) rfl ?_; dsimp only [putS, List.set_cons_succ, List.set_cons_zero])
      | (refine wpT_slot (S := .is _) _ (.inr rfl) rfl (Slot.mono_is _) rfl ?_; dsimp only [putS, List.set_cons_succ, List.set_cons_zero])
      | (refine wpT_exact1 rfl rfl rfl ?_; apply Exists.intro; refine ⟨fun ρ w hk ⟨c1, c2, c3⟩ h1 => ?_, ?_⟩; (· obtain ⟨t1, t2⟩ := T1.out w hk; go_simp; exact rfl); dsimp only [putS, List.set_cons_succ, List.set_cons_zero])
      | (refine wpT_exact2 rfl rfl rfl rfl ?_; apply Exists.intro; refine ⟨fun ρ w hk ⟨c1, c2, c3⟩ h1 h2 => ?_, ?_⟩; (· obtain ⟨t1, t2⟩ := T1.out w hk; go_simp; exact rfl); dsimp only [putS, List.set_cons_succ, List.set_cons_zero])
      | (refine wpT_exact3 rfl rfl rfl rfl rfl ?_; apply Exists.intro; refine ⟨fun ρ w hk ⟨c1, c2, c3⟩ h1 h2 h3 => ?_, ?_⟩; (· obtain ⟨t1, t2⟩ := T1.out w hk; go_simp; exact rfl); dsimp only [putS, List.set_cons_succ, List.set_cons_zero])
      | (refine wpT_exact4 rfl rfl rfl rfl rfl rfl ?_; apply Exists.intro; refine ⟨fun ρ w hk ⟨c1, c2, c3⟩ h1 h2 h3 h4 => ?_, ?_⟩; (· obtain ⟨t1, t2⟩ := T1.out w hk; go_simp; exact rfl); dsimp only [putS, List.set_cons_succ, List.set_cons_zero])
      | (refine wpT_exact0 rfl ?_; apply Exists.intro; refine ⟨fun ρ w hk ⟨c1, c2, c3⟩ => ?_, ?_⟩; (· obtain ⟨t1, t2⟩ := T1.out w hk; go_simp; exact rfl); dsimp only [putS, List.set_cons_succ, List.set_cons_zero])
      | fail)
    refine wpT_nil ?_
    intro wz kz
    simp only [Fits]
    rintro y11 ⟨A9, c9, rfl, hr9⟩ y173 - y180 - y181 -
    have kz' : Kept W4 wz := (Kept.refl _).drew.trans kz
    have KZ := Lib.hid (K4.out.trans kz')
    have HR9 := Lib.hid hr9
    have XZ := Lib.hid (X4.out.kept kz')
    obtain ⟨x0, x1, x2, x3, x4, x5⟩ := XZ.out.cells
    have f3 := XZ.out.free 3
    have f4 := XZ.out.free 4
    simp only at x0 x1 x2 x3 x4 x5
    clear kz kz' T1 TC hr9
    have HHAS := Lib.hid HRD.out.has
    simp only at HHAS
    rw [← HHAS.out] at HPL
    refine wpList_end ?_
    cases yh with
    | true =>
      simp only [if_true] at HPL
      go_wp2
      go_end0
      exact ⟨rfl, by rw [HPL.out]; exact ⟨sl, rl, _, rc, HM.out.grow KZ.out, HH.out.hush KZ.out.hush⟩⟩
    | false =>
      simp only [Bool.false_eq_true, if_false] at HPL
      have hxz : Hx wz gx ⟨yr, ys, yPA, ypn, ypc, false, yVA, yvn, yvc, yTA, ytn, ytc⟩ := XZ.out
      have hgR : gx ≠ g ∧ gx ≠ RB := ⟨by omega, by omega⟩
      have hgv : v.heap.size ≤ gx := by omega
      have m8 := ((HM.out.grow KZ.out).far hgR.1 hgR.2 hgv 3 (.bool true)).far hgR.1 hgR.2 hgv 4 (.slice A9 bs.length c9)
      have hx1 : (wz.setCell ⟨gx, 3, none⟩ (.bool true)).heap[gx]? = some (.cells #[.int .i64 yr, .int .i64 ys, .slice yPA ypn ypc, .bool true, .slice yVA yvn yvc, .slice yTA ytn ytc] 56 (0, 0)) := (heap_setCell_same hxz _).trans rfl
      have hx2 : Hx ((wz.setCell ⟨gx, 3, none⟩ (.bool true)).setCell ⟨gx, 4, none⟩ (.slice A9 bs.length c9)) gx ⟨yr, ys, yPA, ypn, ypc, true, A9, bs.length, c9, yTA, ytn, ytc⟩ := (heap_setCell_same hx1 _).trans rfl
      have hu := (hush_cell hxz (.inl rfl) 3 (.bool true)).trans (hush_cell hx1 (.inl rfl) 4 (.slice A9 bs.length c9))
      have M8 := Lib.hid m8
      have X8 := Lib.hid hx2
      have HU8 := Lib.hid (KZ.out.hush.trans hu)
      have HR8 := Lib.hid (HR9.out.hush hu)
      clear hxz m8 hx1 hx2 hu
      go_wp2_with fail
      generalize (wz.setCell ⟨gx, 3, none⟩ (.bool true)).setCell ⟨gx, 4, none⟩ (.slice A9 bs.length c9) = W9 at *
      clear x0 x1 x2 x3 x4 x5 f3 f4
      have T1 : Hid (∀ W', Kept W9.drew W' → (W'.cell? ⟨gx, 0, none⟩ = some (.int .i64 yr) ∧ W'.cell? ⟨gx, 1, none⟩ = some (.int .i64 ys) ∧ W'.cell? ⟨gx, 2, none⟩ = some (.slice yPA ypn ypc) ∧ W'.cell? ⟨gx, 3, none⟩ = some (.bool true) ∧ W'.cell? ⟨gx, 4, none⟩ = some (.slice A9 bs.length c9) ∧ W'.cell? ⟨gx, 5, none⟩ = some (.slice yTA ytn ytc)) ∧ W'.cell? ⟨g, 43, none⟩ = some (.slice (some ⟨RB, 0, none⟩) ylen rc)) := Lib.hid (fun W' h => by
        have k' := (Kept.refl W9).drew.trans h
        have h43 := (M8.out.grow k').rounds
        rw [HYL.out] at h43
        exact ⟨(Hx.kept X8.out k').cells, h43⟩)
      refine wp_region_typed (N := 7) (fl := []) (by kernel_rfl) (by kernel_rfl) ?_
      simp only [List.take_succ_cons, List.take_zero, List.drop_succ_cons, List.drop_zero, List.map_cons, List.map_nil, zipF]
      repeat (first
        | (refine wpT_skip rfl ?_; dsimp only [putS, List.set_cons_succ, List.set_cons_zero])
        | (refine wpT_slot (S := .is _) _ (.inl rfl) rfl (Slot.mono_is _) rfl ?_; dsimp only [putS, List.set_cons_succ, List.set_cons_zero])
        | (refine wpT_slot (S := .is _) _ (.inr rfl) rfl (Slot.mono_is _) rfl ?_; dsimp only [putS, List.set_cons_succ, List.set_cons_zero])
        | (refine wpT_exact1 rfl rfl rfl ?_; apply Exists.intro; refine ⟨fun ρ w hk ⟨c1, c2, c3⟩ h1 => ?_, ?_⟩; (· obtain ⟨⟨t1, t2, t3, t4, t5, t6⟩, t7⟩ := T1.out w hk; go_simp; exact rfl); dsimp only [putS, List.set_cons_succ, List.set_cons_zero])
        | (refine wpT_exact2 rfl rfl rfl rfl ?_; apply Exists.intro; refine ⟨fun ρ w hk ⟨c1, c2, c3⟩ h1 h2 => ?_, ?_⟩; (· obtain ⟨⟨t1, t2, t3, t4, t5, t6⟩, t7⟩ := T1.out w hk; go_simp; exact rfl); dsimp only [putS, List.set_cons_succ, List.set_cons_zero])
        | (refine wpT_exact3 rfl rfl rfl rfl rfl ?_; apply Exists.intro; refine ⟨fun ρ w hk ⟨c1, c2, c3⟩ h1 h2 h3 => ?_, ?_⟩; (· obtain ⟨⟨t1, t2, t3, t4, t5, t6⟩, t7⟩ := T1.out w hk; go_simp; exact rfl); dsimp only [putS, List.set_cons_succ, List.set_cons_zero])
        | (refine wpT_exact4 rfl rfl rfl rfl rfl rfl ?_; apply Exists.intro; refine ⟨fun ρ w hk ⟨c1, c2, c3⟩ h1 h2 h3 h4 => ?_, ?_⟩; (· obtain ⟨⟨t1, t2, t3, t4, t5, t6⟩, t7⟩ := T1.out w hk; go_simp; exact rfl); dsimp only [putS, List.set_cons_succ, List.set_cons_zero])
        | (refine wpT_exact0 rfl ?_; apply Exists.intro; refine ⟨fun ρ w hk ⟨c1, c2, c3⟩ => ?_, ?_⟩; (· obtain ⟨⟨t1, t2, t3, t4, t5, t6⟩, t7⟩ := T1.out w hk; go_simp; exact rfl); dsimp only [putS, List.set_cons_succ, List.set_cons_zero])
        | fail)
      refine wpT_nil ?_
      intro wz kz
      simp only [Fits]
      have kz' : Kept W9 wz := (Kept.refl _).drew.trans kz
      have mz := M8.out.grow kz'
      obtain ⟨_, e', -, -, -, ⟨r0, r1, r2, r3, r4, r5⟩, hrf, -⟩ := mz.round (k := kq) (by rw [HYL.out]; exact hkl)
      injection e' with e'
      injection e' with e'
      subst e'
      have f0 := hrf (kq * 6)
      have f1 := hrf (kq * 6 + 1)
      have f2 := hrf (kq * 6 + 2)
      have f3 := hrf (kq * 6 + 3)
      have f4 := hrf (kq * 6 + 4)
      have f5 := hrf (kq * 6 + 5)
      obtain ⟨m10, hu10⟩ := mz.putRound (k := kq) (by rw [HYL.out]; exact hkl) ⟨yr, ys, yPA, ypn, ypc, true, A9, bs.length, c9, yTA, ytn, ytc⟩
      have M10 := Lib.hid m10
      have HU10 := Lib.hid (HU8.out.trans (kz'.hush.trans hu10))
      have HUZ := Lib.hid (kz'.hush.trans hu10)
      simp only [putR] at M10 HU10 HUZ
      clear kz kz' mz hrf m10 hu10 T1
      go_wp2_with fail
      refine only_end ?_
      obtain ⟨WF, hWF⟩ : ∃ WF, WF = (((((wz.setCell ⟨RB, kq * 6, none⟩ (.int .i64 yr)).setCell ⟨RB, kq * 6 + 1, none⟩ (.int .i64 ys)).setCell ⟨RB, kq * 6 + 2, none⟩ (.slice yPA ypn ypc)).setCell ⟨RB, kq * 6 + 3, none⟩ (.bool true)).setCell ⟨RB, kq * 6 + 4, none⟩ (.slice A9 bs.length c9)).setCell ⟨RB, kq * 6 + 5, none⟩ (.slice yTA ytn ytc) := ⟨_, rfl⟩
      rw [← hWF] at M10 HU10 HUZ ⊢
      clear hWF r0 r1 r2 r3 r4 r5 f0 f1 f2 f3 f4 f5
      go_wp2
      go_end0
      refine ⟨rfl, _, _, _, rc, by rw [HPL.out]; exact M10.out, ?_⟩
      rw [HPL.out]
      have h0 := HRD.out.hush HU10.out
      exact (HH.out.hush HU10.out).setRound kq ⟨h0.r, h0.s, rfl, h0.pms, rfl, HR8.out.hush HUZ.out, h0.vts⟩
end Go.Proofs.Ytifenlopgpbpbaa
