/- The law's play, whole; one. -/
import Derived.Test.YtifenlopgpbpbaaPrqV
import Derived.Test.YtifenlopgpbpbaaPrqW
import Derived.Test.YtifenlopgpbpbaaPrqX
import Derived.Test.YtifenlopgpbpbaaPrqY
import Derived.Test.YtifenlopgpbpbaaPrqE
import Derived.Test.YtifenlopgpbpbaaStr
namespace Go.Proofs.Ytifenlopgpbpbaa
open Go.RowKit

theorem play_any {v W : World} {g : Nat} {v0 : List Nat} {s : Sl} (hw : SlW v W g s) (I : Inv v0 s) (F : Few 1000 s) (e : Evt) (he : EvOk e) :
    Calls Try.prog 19 #[.pointer (some ⟨g, 0, none⟩), .agg #[.int .i64 e.kind, .int .i64 e.p, .int .i64 e.k, .int .i64 e.a, .bool e.lost]] W fun e' w' => e' = .returned (.tuple #[]) ∧ SlW v w' g (playS s e) := by
  by_cases h0 : e.kind = 0
  · exact play_k0 hw I F e he h0
  · by_cases h1 : e.kind = 1
    · exact play_k1 hw I F e he h1
    · by_cases h2 : e.kind = 2
      · exact play_k2 hw I F e he h2
      · exact play_k3 hw I F e he h0 h1 h2

theorem SlW.grow {v W W' : World} {g : Nat} {s : Sl} (h : SlW v W g s) (k : Kept W W') : SlW v W' g s := by
  obtain ⟨sl, rl, R, rc, M, H⟩ := h
  exact ⟨sl, rl, R, rc, M.grow k, H.hush k.hush⟩
/-- votes of a round are sites' -/
theorem Inv.voters {v0 : List Nat} {s : Sl} (I : Inv v0 s) {k : Nat} {x : Rd} (hx : s.rds[k]? = some x) : ∀ z ∈ x.vs, -9223372036854775808 ≤ z.who ∧ z.who ≤ 9223372036854775807 := fun z hz => by
  obtain ⟨-, -, -, a, ac, ha, hwa, -⟩ := I.vote k x hx z hz
  have := get_lt ha
  have h7 := I.alen
  omega

set_option maxRecDepth 100000 in
set_option maxHeartbeats 16000000 in
theorem one_any {v W : World} {g : Nat} {v0 : List Nat} {s : Sl} (hw : SlW v W g s) (I : Inv v0 s) (F : Few 1000 s) :
    Calls Try.prog 20 #[.pointer (some ⟨g, 0, none⟩)] W fun e w' => e = .returned (.bool true) ∧ Kept W w' := by
  obtain ⟨sl, rl, R, rc, M, H⟩ := hw
  obtain ⟨n, all, rds⟩ := s
  simp only at M
  have hmany : rl.length = rds.length := H.many
  have hn := I.n1
  have hfl : rds.length ≤ 1000 := F.1
  simp only at hn
  obtain ⟨y0, hy0, hy0h, hy0v⟩ := I.first
  simp only at hy0
  have hr0 : 0 < rds.length := get_lt hy0
  have hl0 : 0 < rl.length := by omega
  obtain ⟨RB, rfl, -, -, -, -, -, -⟩ := M.round hl0
  have HM := Lib.hid M
  have HH := Lib.hid H
  have HI := Lib.hid I
  have HF := Lib.hid F
  have H0 := Lib.hid (And.intro hy0 hy0v)
  have HL := Lib.hid hmany
  obtain ⟨N, hN⟩ : ∃ N, rl.length = N := ⟨_, rfl⟩
  have HN := Lib.hid hN
  rw [hN] at hl0
  clear M H I F hy0 hy0h hy0v hmany hr0
  go_enter Try.func20, Try.ntmps20
  go_wp2
  go_loopw [3, 4, 5] (fun sm va i wr => ∃ (k : Nat) (b : Bool) (A : Option Addr) (m c : Nat) (bs : List Nat) (Wr : World), Wr = wr ∧ k ≤ N ∧ i = .int .i64 k ∧ sm = .bool b ∧ va = .slice A m c ∧ Row Wr A m c bs ∧ Kept W Wr ∧ (b = true → ∃ (j : Nat) (y : Rd), rds[j]? = some y ∧ decidedV y.vs y.r y.s n = true ∧ bs = y.val)) (fun _ _ i _ => N - (intOf i).toNat)
  case atStart => exact ⟨0, false, none, 0, 0, [], _, rfl, Nat.zero_le _, rfl, rfl, rfl, Row.none, Kept.refl _, fun h => by cases h⟩
  case round =>
    obtain ⟨k, b, A, m, c, bs, Wr, rfl, hk, rfl, rfl, rfl, hrow, kk, hdec⟩ := hrel
    have KK := Lib.hid kk
    have HROW := Lib.hid hrow
    have HDEC := Lib.hid hdec
    have mr := HM.out.grow kk
    have t43 := mr.rounds
    rw [HN.out] at t43
    clear kk hrow hdec
    by_cases hlt : k < N
    · have hkl : k < rl.length := by rw [HN.out]; exact hlt
      have hkr : k < rds.length := by rw [← HL.out]; exact hkl
      obtain ⟨_, e', -, -, -, ⟨r0, r1, r2, r3, r4, r5⟩, -, -⟩ := mr.round hkl
      injection e' with e'
      injection e' with e'
      subst e'
      have HRD := Lib.hid ((HH.out.hush KK.out.hush).rd k hkl hkr)
      have HX : Hid (rds[k]? = some rds[k]) := Lib.hid (List.getElem?_eq_getElem hkr)
      simp only at HRD
      generalize rds[k] = x at *
      obtain ⟨y, hy⟩ : ∃ y, rl[k] = y := ⟨_, rfl⟩
      rw [hy] at r0 r1 r2 r3 r4 r5 HRD
      obtain ⟨yr, ys, yPA, ypn, ypc, yh, yVA, yvn, yvc, yTA, ytn, ytc⟩ := y
      simp only at r0 r1 r2 r3 r4 r5
      clear mr hy
      go_wp2_with fail
      have K4a : Hid (Kept Wr (Wr.alloc (.cells #[.int .i64 yr, .int .i64 ys, .slice yPA ypn ypc, .bool yh, .slice yVA yvn yvc, .slice yTA ytn ytc] 56))) := Lib.hid ((Kept.refl _).alloc _)
      have X4 : Hid (Hx (Wr.alloc (.cells #[.int .i64 yr, .int .i64 ys, .slice yPA ypn ypc, .bool yh, .slice yVA yvn yvc, .slice yTA ytn ytc] 56)) Wr.heap.size ⟨yr, ys, yPA, ypn, ypc, yh, yVA, yvn, yvc, yTA, ytn, ytc⟩) := Lib.hid (push_new Wr _)
      have K4 := Lib.hid (KK.out.trans K4a.out)
      have HRD4 := Lib.hid (HRD.out.hush K4a.out.hush)
      have HROW4 := Lib.hid (HROW.out.below K4a.out.1)
      clear r0 r1 r2 r3 r4 r5 t43
      generalize Wr.alloc (.cells #[.int .i64 yr, .int .i64 ys, .slice yPA ypn ypc, .bool yh, .slice yVA yvn yvc, .slice yTA ytn ytc] 56) = W4 at *
      generalize Wr.heap.size = gx at *
      obtain ⟨bt, hown, hlen⟩ := HRD4.out.vts
      simp only at hown hlen
      have hxr : yr = x.r := HRD4.out.r
      have hxs : ys = x.s := HRD4.out.s
      have hvl : ytn ≤ 1000 := by
        have := (HF.out.2 x (List.mem_of_getElem? HX.out)).2
        omega
      obtain ⟨d, hd⟩ : ∃ d, decidedV x.vs x.r x.s n = d := ⟨_, rfl⟩
      have TC : Hid (∀ W', Kept W4.drew W' → Calls Try.prog 16 #[.slice yTA ytn ytc, .agg #[.int .i64 yr, .int .i64 ys], .int .i64 n] W' fun e w' => e = .returned (.bool d) ∧ Kept W' w') := Lib.hid (fun W' h => by
        have k' : Kept W4 W' := (Kept.refl _).drew.trans h
        rw [hxr, hxs, ← hd]
        exact decided_any x.r x.s hlen (hown.reads.kept k') (HI.out.voters HX.out) (by omega) (by omega))
      have T1 : Hid (∀ W', Kept W4.drew W' → W'.cell? ⟨gx, 0, none⟩ = some (.int .i64 yr) ∧ W'.cell? ⟨gx, 1, none⟩ = some (.int .i64 ys) ∧ W'.cell? ⟨gx, 5, none⟩ = some (.slice yTA ytn ytc) ∧ W'.cell? ⟨g, 0, none⟩ = some (.int .i64 n)) := Lib.hid (fun W' h => by
        have k' := (Kept.refl W4).drew.trans h
        obtain ⟨x0, x1, -, -, -, x5⟩ := (X4.out.kept k').cells
        exact ⟨x0, x1, x5, (HM.out.grow (K4.out.trans k')).n⟩)
      have HD := Lib.hid hd
      have HVN : Hid (yvn = x.val.length) := Lib.hid HRD4.out.vn
      have HVAL : Hid (RowB W4 yVA yvn yvc x.val) := Lib.hid HRD4.out.val
      clear hown hlen hxr hxs hd HRD HRD4
      refine wp_region_typed (N := 10) (fl := []) (by kernel_rfl) (by kernel_rfl) ?_
      simp only [List.take_succ_cons, List.take_zero, List.drop_succ_cons, List.drop_zero, List.map_cons, List.map_nil, zipF]
      repeat (first
        | (refine wpT_is (.bool d) rfl (fun ρ w hk ⟨c1, c2, c3⟩ ⟨h1, h2, h3, _⟩ => ?_) ?_
           · have h1 : ρ (.tmp 24) = _ := h1
             have h2 : ρ (.tmp 26) = _ := h2
             have h3 : ρ (.tmp 30) = _ := h3
             refine upT_call 16 #[.slice yTA ytn ytc, .agg #[.int .i64 yr, .int .i64 ys], .int .i64 n] ?_ ((TC.out w hk).mono ?_)
             · go_simp
             · rintro e u ⟨rfl, hk2⟩
               exact ⟨_, rfl, hk2, rfl⟩
           dsimp only [putS, List.set_cons_succ, List.set_cons_zero])
        | (refine wpT_skip rfl ?_; dsimp only [putS, List.set_cons_succ, List.set_cons_zero])
        | (refine wpT_slot (S := .is _) _ (.inl rfl) rfl (Slot.mono_is _) rfl ?_; dsimp only [putS, List.set_cons_succ, List.set_cons_zero])
        | (refine wpT_slot (S := .is _) _ (.inr rfl) rfl (Slot.mono_is _) rfl ?_; dsimp only [putS, List.set_cons_succ, List.set_cons_zero])
        | (refine wpT_exact1 rfl rfl rfl ?_; apply Exists.intro; refine ⟨fun ρ w hk ⟨c1, c2, c3⟩ h1 => ?_, ?_⟩; (· obtain ⟨t1, t2, t3, t4⟩ := T1.out w hk; go_simp; exact rfl); dsimp only [putS, List.set_cons_succ, List.set_cons_zero])
        | (refine wpT_exact2 rfl rfl rfl rfl ?_; apply Exists.intro; refine ⟨fun ρ w hk ⟨c1, c2, c3⟩ h1 h2 => ?_, ?_⟩; (· obtain ⟨t1, t2, t3, t4⟩ := T1.out w hk; go_simp; exact rfl); dsimp only [putS, List.set_cons_succ, List.set_cons_zero])
        | (refine wpT_exact3 rfl rfl rfl rfl rfl ?_; apply Exists.intro; refine ⟨fun ρ w hk ⟨c1, c2, c3⟩ h1 h2 h3 => ?_, ?_⟩; (· obtain ⟨t1, t2, t3, t4⟩ := T1.out w hk; go_simp; exact rfl); dsimp only [putS, List.set_cons_succ, List.set_cons_zero])
        | (refine wpT_exact4 rfl rfl rfl rfl rfl rfl ?_; apply Exists.intro; refine ⟨fun ρ w hk ⟨c1, c2, c3⟩ h1 h2 h3 h4 => ?_, ?_⟩; (· obtain ⟨t1, t2, t3, t4⟩ := T1.out w hk; go_simp; exact rfl); dsimp only [putS, List.set_cons_succ, List.set_cons_zero])
        | (refine wpT_exact0 rfl ?_; apply Exists.intro; refine ⟨fun ρ w hk ⟨c1, c2, c3⟩ => ?_, ?_⟩; (· obtain ⟨t1, t2, t3, t4⟩ := T1.out w hk; go_simp; exact rfl); dsimp only [putS, List.set_cons_succ, List.set_cons_zero])
        | fail)
      refine wpT_nil ?_
      intro wz kz
      simp only [Fits]
      have kz' : Kept W4 wz := (Kept.refl _).drew.trans kz
      have KZ := Lib.hid (K4.out.trans kz')
      have RZ := Lib.hid (HROW4.out.below kz'.1)
      have VZ := Lib.hid (HVAL.out.row.below kz'.1)
      have x4 := (Hx.cells (X4.out.kept kz')).2.2.2.2.1
      simp only at x4
      clear kz kz' T1 TC
      refine wpList_end ?_
      cases d with
      | false =>
        go_wp2
        go_roundw
        case rel => exact ⟨k + 1, b, A, m, c, bs, _, rfl, by omega, by go_num, rfl, rfl, RZ.out, KZ.out, HDEC.out⟩
        case measure => simp [intOf]; omega
      | true =>
        have HVZ : Hid (Row wz yVA yvn yvc x.val) := Lib.hid VZ.out
        cases b with
        | false =>
          go_wp2
          go_roundw
          case rel => exact ⟨k + 1, true, yVA, yvn, yvc, x.val, _, rfl, by omega, by go_num, rfl, rfl, HVZ.out, KZ.out, fun _ => ⟨k, x, HX.out, HD.out, rfl⟩⟩
          case measure => simp [intOf]; omega
        | true =>
          have hsame : bs = x.val := by
            obtain ⟨j, y, hj, hjd, rfl⟩ := HDEC.out rfl
            exact (HI.out.one hj HX.out hjd HD.out).1
          subst hsame
          have hs1 := RZ.out.str
          have hs2 := HVZ.out.str
          generalize txt x.val = tx at *
          go_wp2
          go_roundw
          case rel => exact ⟨k + 1, true, yVA, yvn, yvc, x.val, _, rfl, by omega, by go_num, rfl, rfl, HVZ.out, KZ.out, fun _ => ⟨k, x, HX.out, HD.out, rfl⟩⟩
          case measure => simp [intOf]; omega
    · obtain rfl : k = N := by omega
      have hl0' : 0 < rl.length := by rw [HN.out]; exact hl0
      have hr0' : 0 < rds.length := by rw [← HL.out]; exact hl0'
      obtain ⟨_, e', -, -, -, ⟨-, -, -, -, r4, -⟩, -, -⟩ := mr.round hl0'
      injection e' with e'
      injection e' with e'
      subst e'
      have hrd := (HH.out.hush KK.out.hush).rd 0 hl0' hr0'
      simp only at hrd
      have hv0 : rds[0].val = v0 := by
        have := H0.out.1
        rw [List.getElem?_eq_getElem hr0'] at this
        injection this with this
        rw [this]
        exact H0.out.2
      obtain ⟨VA0, hVA0⟩ : ∃ q, rl[0].VA = q := ⟨_, rfl⟩
      obtain ⟨vn0, hvn0⟩ : ∃ q, rl[0].vn = q := ⟨_, rfl⟩
      obtain ⟨vc0, hvc0⟩ : ∃ q, rl[0].vc = q := ⟨_, rfl⟩
      have hval := hrd.val
      rw [hVA0, hvn0, hvc0] at r4 hval
      rw [hv0] at hval
      have T1 : Hid (∀ W', Kept Wr.drew W' → W'.cell? ⟨g, 43, none⟩ = some (.slice (some ⟨RB, 0, none⟩) k rc) ∧ W'.cell? ⟨RB, 4, none⟩ = some (.slice VA0 vn0 vc0) ∧ (convert 24 9 (.slice A m c)).run Try.prog W' = .ok (.string (txt bs)) W' ∧ (convert 24 9 (.slice VA0 vn0 vc0)).run Try.prog W' = .ok (.string (txt v0)) W') := Lib.hid (fun W' h => by
        have k' : Kept Wr W' := (Kept.refl _).drew.trans h
        have m' := HM.out.grow (KK.out.trans k')
        obtain ⟨_, e', -, -, -, ⟨-, -, -, -, q4, -⟩, -, -⟩ := m'.round hl0'
        injection e' with e'
        injection e' with e'
        subst e'
        rw [hVA0, hvn0, hvc0] at q4
        have h43 := m'.rounds
        rw [HN.out] at h43
        exact ⟨h43, by simpa using q4, (HROW.out.below k'.1).str, (hval.row.below k'.1).str⟩)
      have hlen : bs.length = m := HROW.out.len
      have HLEN := Lib.hid hlen
      have ways : b = false ∨ (b = true ∧ m = 0) ∨ (b = true ∧ m ≠ 0 ∧ bs = v0) := by
        cases b with
        | false => exact .inl rfl
        | true =>
          obtain ⟨j, y, hj, hjd, rfl⟩ := HDEC.out rfl
          rcases (HI.out.one hj hj hjd hjd).2 with h | h
          · by_cases hm : m = 0
            · exact .inr (.inl ⟨rfl, hm⟩)
            · exact .inr (.inr ⟨rfl, hm, h⟩)
          · exact .inr (.inl ⟨rfl, by rw [← hlen, h]; rfl⟩)
      clear hrd hv0 hval hVA0 hvn0 hvc0 r4 hlen mr
      rcases ways with rfl | ⟨rfl, rfl⟩ | ⟨rfl, hm, hbv⟩
      all_goals
        go_wp2_with fail
      · clear t43
        refine wp_region_typed (N := 21) (fl := []) (by kernel_rfl) (by kernel_rfl) ?_
        simp only [List.take_succ_cons, List.take_zero, List.drop_succ_cons, List.drop_zero, List.map_cons, List.map_nil, zipF]
        repeat (first
          | (refine wpT_skip rfl ?_; dsimp only [putS, List.set_cons_succ, List.set_cons_zero])
          | (refine wpT_slot (S := .is _) _ (.inl rfl) rfl (Slot.mono_is _) rfl ?_; dsimp only [putS, List.set_cons_succ, List.set_cons_zero])
          | (refine wpT_slot (S := .is _) _ (.inr rfl) rfl (Slot.mono_is _) rfl ?_; dsimp only [putS, List.set_cons_succ, List.set_cons_zero])
          | (refine wpT_exact1 rfl rfl rfl ?_; apply Exists.intro; refine ⟨fun ρ w hk ⟨c1, c2, c3⟩ h1 => ?_, ?_⟩; (· obtain ⟨t1, t2, t3, t4⟩ := T1.out w hk; go_simp; exact rfl); dsimp only [putS, List.set_cons_succ, List.set_cons_zero])
          | (refine wpT_exact2 rfl rfl rfl rfl ?_; apply Exists.intro; refine ⟨fun ρ w hk ⟨c1, c2, c3⟩ h1 h2 => ?_, ?_⟩; (· obtain ⟨t1, t2, t3, t4⟩ := T1.out w hk; go_simp; exact rfl); dsimp only [putS, List.set_cons_succ, List.set_cons_zero])
          | (refine wpT_exact3 rfl rfl rfl rfl rfl ?_; apply Exists.intro; refine ⟨fun ρ w hk ⟨c1, c2, c3⟩ h1 h2 h3 => ?_, ?_⟩; (· obtain ⟨t1, t2, t3, t4⟩ := T1.out w hk; go_simp; exact rfl); dsimp only [putS, List.set_cons_succ, List.set_cons_zero])
          | (refine wpT_exact4 rfl rfl rfl rfl rfl rfl ?_; apply Exists.intro; refine ⟨fun ρ w hk ⟨c1, c2, c3⟩ h1 h2 h3 h4 => ?_, ?_⟩; (· obtain ⟨t1, t2, t3, t4⟩ := T1.out w hk; go_simp; exact rfl); dsimp only [putS, List.set_cons_succ, List.set_cons_zero])
          | (refine wpT_exact0 rfl ?_; apply Exists.intro; refine ⟨fun ρ w hk ⟨c1, c2, c3⟩ => ?_, ?_⟩; (· obtain ⟨t1, t2, t3, t4⟩ := T1.out w hk; go_simp; exact rfl); dsimp only [putS, List.set_cons_succ, List.set_cons_zero])
          | fail)
        refine wpT_nil ?_
        intro wz kz
        simp only [Fits]
        have kz' : Kept Wr wz := (Kept.refl _).drew.trans kz
        refine wpList_end ?_
        go_wp2
        go_ret
        exact ⟨rfl, KK.out.trans kz'⟩
      · clear t43
        refine wp_region_typed (N := 21) (fl := []) (by kernel_rfl) (by kernel_rfl) ?_
        simp only [List.take_succ_cons, List.take_zero, List.drop_succ_cons, List.drop_zero, List.map_cons, List.map_nil, zipF]
        repeat (first
          | (refine wpT_skip rfl ?_; dsimp only [putS, List.set_cons_succ, List.set_cons_zero])
          | (refine wpT_slot (S := .is _) _ (.inl rfl) rfl (Slot.mono_is _) rfl ?_; dsimp only [putS, List.set_cons_succ, List.set_cons_zero])
          | (refine wpT_slot (S := .is _) _ (.inr rfl) rfl (Slot.mono_is _) rfl ?_; dsimp only [putS, List.set_cons_succ, List.set_cons_zero])
          | (refine wpT_exact1 rfl rfl rfl ?_; apply Exists.intro; refine ⟨fun ρ w hk ⟨c1, c2, c3⟩ h1 => ?_, ?_⟩; (· obtain ⟨t1, t2, t3, t4⟩ := T1.out w hk; go_simp; exact rfl); dsimp only [putS, List.set_cons_succ, List.set_cons_zero])
          | (refine wpT_exact2 rfl rfl rfl rfl ?_; apply Exists.intro; refine ⟨fun ρ w hk ⟨c1, c2, c3⟩ h1 h2 => ?_, ?_⟩; (· obtain ⟨t1, t2, t3, t4⟩ := T1.out w hk; go_simp; exact rfl); dsimp only [putS, List.set_cons_succ, List.set_cons_zero])
          | (refine wpT_exact3 rfl rfl rfl rfl rfl ?_; apply Exists.intro; refine ⟨fun ρ w hk ⟨c1, c2, c3⟩ h1 h2 h3 => ?_, ?_⟩; (· obtain ⟨t1, t2, t3, t4⟩ := T1.out w hk; go_simp; exact rfl); dsimp only [putS, List.set_cons_succ, List.set_cons_zero])
          | (refine wpT_exact4 rfl rfl rfl rfl rfl rfl ?_; apply Exists.intro; refine ⟨fun ρ w hk ⟨c1, c2, c3⟩ h1 h2 h3 h4 => ?_, ?_⟩; (· obtain ⟨t1, t2, t3, t4⟩ := T1.out w hk; go_simp; exact rfl); dsimp only [putS, List.set_cons_succ, List.set_cons_zero])
          | (refine wpT_exact0 rfl ?_; apply Exists.intro; refine ⟨fun ρ w hk ⟨c1, c2, c3⟩ => ?_, ?_⟩; (· obtain ⟨t1, t2, t3, t4⟩ := T1.out w hk; go_simp; exact rfl); dsimp only [putS, List.set_cons_succ, List.set_cons_zero])
          | fail)
        refine wpT_nil ?_
        intro wz kz
        simp only [Fits]
        have kz' : Kept Wr wz := (Kept.refl _).drew.trans kz
        refine wpList_end ?_
        go_wp2
        go_ret
        exact ⟨rfl, KK.out.trans kz'⟩
      · subst hbv
        have hm0 : ((m : Int) == 0) = false := by simp; omega
        generalize txt bs = tx at *
        clear t43
        refine wp_region_typed (N := 21) (fl := []) (by kernel_rfl) (by kernel_rfl) ?_
        simp only [List.take_succ_cons, List.take_zero, List.drop_succ_cons, List.drop_zero, List.map_cons, List.map_nil, zipF]
        repeat (first
          | (refine wpT_skip rfl ?_; dsimp only [putS, List.set_cons_succ, List.set_cons_zero])
          | (refine wpT_slot (S := .is _) _ (.inl rfl) rfl (Slot.mono_is _) rfl ?_; dsimp only [putS, List.set_cons_succ, List.set_cons_zero])
          | (refine wpT_slot (S := .is _) _ (.inr rfl) rfl (Slot.mono_is _) rfl ?_; dsimp only [putS, List.set_cons_succ, List.set_cons_zero])
          | (refine wpT_exact1 rfl rfl rfl ?_; apply Exists.intro; refine ⟨fun ρ w hk ⟨c1, c2, c3⟩ h1 => ?_, ?_⟩; (· obtain ⟨t1, t2, t3, t4⟩ := T1.out w hk; go_simp; exact rfl); dsimp only [putS, List.set_cons_succ, List.set_cons_zero])
          | (refine wpT_exact2 rfl rfl rfl rfl ?_; apply Exists.intro; refine ⟨fun ρ w hk ⟨c1, c2, c3⟩ h1 h2 => ?_, ?_⟩; (· obtain ⟨t1, t2, t3, t4⟩ := T1.out w hk; go_simp; exact rfl); dsimp only [putS, List.set_cons_succ, List.set_cons_zero])
          | (refine wpT_exact3 rfl rfl rfl rfl rfl ?_; apply Exists.intro; refine ⟨fun ρ w hk ⟨c1, c2, c3⟩ h1 h2 h3 => ?_, ?_⟩; (· obtain ⟨t1, t2, t3, t4⟩ := T1.out w hk; go_simp; exact rfl); dsimp only [putS, List.set_cons_succ, List.set_cons_zero])
          | (refine wpT_exact4 rfl rfl rfl rfl rfl rfl ?_; apply Exists.intro; refine ⟨fun ρ w hk ⟨c1, c2, c3⟩ h1 h2 h3 h4 => ?_, ?_⟩; (· obtain ⟨t1, t2, t3, t4⟩ := T1.out w hk; go_simp; exact rfl); dsimp only [putS, List.set_cons_succ, List.set_cons_zero])
          | (refine wpT_exact0 rfl ?_; apply Exists.intro; refine ⟨fun ρ w hk ⟨c1, c2, c3⟩ => ?_, ?_⟩; (· obtain ⟨t1, t2, t3, t4⟩ := T1.out w hk; go_simp; exact rfl); dsimp only [putS, List.set_cons_succ, List.set_cons_zero])
          | fail)
        refine wpT_nil ?_
        intro wz kz
        simp only [Fits]
        have kz' : Kept Wr wz := (Kept.refl _).drew.trans kz
        refine wpList_end ?_
        go_wp2
        go_ret
        exact ⟨by go_simp, KK.out.trans kz'⟩
end Go.Proofs.Ytifenlopgpbpbaa
