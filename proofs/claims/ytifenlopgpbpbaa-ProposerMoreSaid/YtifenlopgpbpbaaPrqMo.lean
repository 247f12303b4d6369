/- The walk of ProposerMore. -/
import Derived.Test.YtifenlopgpbpbaaPrqF
import Derived.Test.YtifenlopgpbpbaaPrqH
import Derived.Test.YtifenlopgpbpbaaPrqI
import Derived.Test.YtifenlopgpbpbaaPrpK
import Derived.Test.YtifenlopgpbpbaaFillE
import Derived.Deep.CutRange
import Derived.Deep.DeepCutAuto
namespace Go.Proofs.Ytifenlopgpbpbaa
open Go.RowKit

theorem alone_not (v : Vt) {K : Int} (h : 3 ≤ K) : decidedV [v, v, v, v] v.r v.s K = false := by
  unfold decidedV
  refine most_alone (w := v.who) h (fun x hx => ?_)
  obtain ⟨y, hy, rfl⟩ := List.mem_map.1 hx
  have := (List.mem_filter.1 hy).1
  simp only [List.mem_cons, List.not_mem_nil, or_false, or_self] at this
  rw [this]
theorem more_decided (l : List Vt) (v : Vt) {r s K : Int} (h : decidedV l r s K = true) : decidedV (l ++ [v]) r s K = true := by
  unfold decidedV at *
  refine most_more2 (fun x hx => ?_) h
  rw [List.filter_append, List.map_append]
  exact List.mem_append_left _ hx
theorem more_greatest (l : List Vt) (v : Vt) : ∃ y, gV (l ++ [v]) = some y ∧ ¬ cmpB y.r y.s v.r v.s < 0 := by
  rw [gV_snoc]
  unfold gvStep
  cases gV l with
  | none => exact ⟨v, rfl, by rw [(cmp_zero _ _ _ _).2 ⟨rfl, rfl⟩]; omega⟩
  | some q =>
    simp only
    split
    · exact ⟨v, rfl, by rw [(cmp_zero _ _ _ _).2 ⟨rfl, rfl⟩]; omega⟩
    · rename_i h
      exact ⟨q, rfl, by have := cmp_back v.r v.s q.r q.s; omega⟩

set_option maxRecDepth 100000 in
set_option maxHeartbeats 8000000 in
theorem ProposerMore_walk (a0 : Option Addr) (len0 cap0 : Nat) (a1 : List Value) (a2 : List Value) (w : World) (w0 : SliceAt 3 24 (fun w cs => cs.length = 3 ∧ IsStruct [(0, 1, (IsInt .i64)), (1, 2, (fun w cs => cs.length = 2 ∧ IsStruct [(0, 1, (IsInt .i64)), (1, 1, (IsInt .i64))] w cs))] w cs) w a0 len0 cap0) (w1 : (fun w cs => cs.length = 3 ∧ IsStruct [(0, 1, (IsInt .i64)), (1, 2, (fun w cs => cs.length = 2 ∧ IsStruct [(0, 1, (IsInt .i64)), (1, 1, (IsInt .i64))] w cs))] w cs : World → List Value → Prop) w a1) (w2 : (fun w cs => cs.length = 2 ∧ IsStruct [(0, 1, (IsInt .i64)), (1, 1, (IsInt .i64))] w cs : World → List Value → Prop) w a2) :
    Calls Try.prog 8 #[.slice a0 len0 cap0, .agg a1.toArray, .agg a2.toArray] w fun e w' => e = .returned (.bool true) ∧ Below w.heap.size w w' := by
  obtain ⟨l, hl, hR, hW⟩ := vts_of w0
  obtain ⟨v, rfl, hv⟩ := vote_of w1
  obtain ⟨r, s, rfl, -, -⟩ := ballot_of w2
  have hnil := w0.2.2.2.1
  clear w0 w1 w2
  change Calls Try.prog _ #[.slice a0 len0 cap0, .agg #[.int .i64 v.who, .int .i64 v.r, .int .i64 v.s], .agg #[.int .i64 r, .int .i64 s]] w _
  have KV := Lib.hid (((Kept.refl w).alloc (.cells #[.int .i64 v.who, .int .i64 v.r, .int .i64 v.s] 60)).alloc (.cells #[.int .i64 r, .int .i64 s] 33))
  have PV : Hid (Hv ((w.alloc (.cells #[.int .i64 v.who, .int .i64 v.r, .int .i64 v.s] 60)).alloc (.cells #[.int .i64 r, .int .i64 s] 33)) w.heap.size v) := Lib.hid (push_two_old w _ _)
  have PB : Hid (Bx ((w.alloc (.cells #[.int .i64 v.who, .int .i64 v.r, .int .i64 v.s] 60)).alloc (.cells #[.int .i64 r, .int .i64 s] 33)) (w.heap.size + 1) r s) := Lib.hid (push_two_new w _ _)
  by_cases hs : len0 ≤ 100
  · have hs' : ¬ (100 : Int) < (len0 : Int) := by omega
    obtain ⟨m, hm1, hm2, hm3⟩ : ∃ m : Nat, (len0 : Int) % 5 = m ∧ (len0 : Int).tmod 5 = m ∧ m < 5 := ⟨len0 % 5, by omega, by rw [Int.tmod_eq_emod_of_nonneg (by omega)]; omega, by omega⟩
    obtain ⟨K, hK, hK3, hK7⟩ : ∃ K : Int, (3 : Int) + (m : Int) = K ∧ 3 ≤ K ∧ K ≤ 7 := ⟨3 + m, rfl, by omega, by omega⟩
    have HAL := Lib.hid (alone_not v hK3)
    obtain ⟨y, hy, hcy⟩ := more_greatest l v
    have hWm : ∀ x ∈ l ++ [v], -9223372036854775808 ≤ x.who ∧ x.who ≤ 9223372036854775807 := fun x hx => by
      rcases List.mem_append.1 hx with h | h
      · exact hW x h
      · obtain rfl := List.mem_singleton.1 h
        exact hv
    have hlm : (l ++ [v]).length = len0 + 1 := by rw [List.length_append, hl]; rfl
    have H1 : Hid (∀ W A c, EV.Reads W A (l ++ [v]) → Calls Try.prog 13 #[.slice A (len0 + 1) c] W fun e w' => e = .returned (.tuple #[.agg #[.int .i64 y.r, .int .i64 y.s], .bool true]) ∧ Kept W w') :=
      Lib.hid (fun W A c hr => (greatest_any hlm hr (by omega)).mono (fun e u ⟨z, hz, he, hk⟩ => ⟨by rw [he, hz, hy, decide_eq_true (by omega)]; rfl, hk⟩))
    have H2 : Hid (∀ W g, EV.Reads W (some ⟨g, 0, none⟩) [v, v, v, v] → Calls Try.prog 16 #[.slice (some ⟨g, 0, none⟩) 4 4, .agg #[.int .i64 v.r, .int .i64 v.s], .int .i64 K] W fun e w' => e = .returned (.bool false) ∧ Kept W w') :=
      Lib.hid (fun W g hr => (decided_any (N := 4) v.r v.s rfl hr (fun x hx => by simp only [List.mem_cons, List.not_mem_nil, or_false, or_self] at hx; rw [hx]; exact hv) (by decide) (by omega)).mono (fun e u ⟨he, hk⟩ => ⟨by rw [he, HAL.out], hk⟩))
    have H3 : Hid (∀ W, Kept w W → Calls Try.prog 16 #[.slice a0 len0 cap0, .agg #[.int .i64 r, .int .i64 s], .int .i64 K] W fun e w' => e = .returned (.bool (decidedV l r s K)) ∧ Kept W w') :=
      Lib.hid (fun W k => decided_any r s hl (hR.kept k) hW (by omega) (by omega))
    have H4 : Hid (∀ W A c, EV.Reads W A (l ++ [v]) → Calls Try.prog 16 #[.slice A (len0 + 1) c, .agg #[.int .i64 r, .int .i64 s], .int .i64 K] W fun e w' => e = .returned (.bool (decidedV (l ++ [v]) r s K)) ∧ Kept W w') :=
      Lib.hid (fun W A c hr => decided_any r s hlm hr hWm (by omega) (by omega))
    have HMD := Lib.hid (more_decided l v (r := r) (s := s) (K := K))
    have HC := Lib.hid (refcompare_any y.r y.s v.r v.s)
    generalize decidedV l r s K = d at *
    generalize decidedV (l ++ [v]) r s K = d2 at *
    generalize cmpB y.r y.s v.r v.s = z at *
    have hzd : decide (z < 0) = false := decide_eq_false hcy
    have HR := Lib.hid hR
    have HL := Lib.hid hl
    have HLM := Lib.hid hlm
    have HNIL := Lib.hid hnil
    obtain ⟨vw, vr, vs⟩ := v
    obtain ⟨yw, yr, ys⟩ := y
    simp only at H1 H2 HC
    clear hl hR hW hv hWm hlm hy hcy hnil
    go_enter Try.func8, Try.ntmps8
    go_wp2_with fail
    refine (prawake_any _).mono ?_
    rintro e u1 ⟨rfl, k1⟩
    have K1 := Lib.hid (KV.out.trans k1)
    have P1 := Lib.hid (PV.out.kept k1)
    have B1 := Lib.hid (PB.out.kept k1)
    clear k1 PV PB KV
    go_wp2_with fail
    have T1 : Hid (∀ W, Kept u1.drew W → W.cell? ⟨w.heap.size, 0, none⟩ = some (.int .i64 vw) ∧ W.cell? ⟨w.heap.size, 1, none⟩ = some (.int .i64 vr) ∧ W.cell? ⟨w.heap.size, 2, none⟩ = some (.int .i64 vs)) := Lib.hid (fun W hk => (P1.out.kept ((Kept.refl _).drew.trans hk)).cells)
    have TR : Hid (∀ W, Kept u1.drew W → EV.Reads W a0 l) := Lib.hid (fun W hk => HR.out.kept (K1.out.trans ((Kept.refl _).drew.trans hk)))
    letI G : Grow := fillGrowE 60 u1.drew.heap.size (EV.flat l) (EV.flat [⟨vw, vr, vs⟩])
    refine wp_region_typed (N := 7) (fl := []) (by kernel_rfl) (by kernel_rfl) ?_
    simp only [List.take_succ_cons, List.take_zero, List.drop_succ_cons, List.drop_zero, List.map_cons, List.map_nil, zipF]
    repeat (first
      | (refine wpT_has (EmptyE.mono 60 u1.drew.heap.size _ _) rfl (fun ρ w hk ⟨c1, c2, c3⟩ _ => upT_made (.slice (some ⟨w.heap.size, 0, none⟩) 0 0) (w' := w.alloc (.cells #[] 60)) ?_ (((Kept.refl w).alloc _).fillE) ⟨_, FillE.size hk, rfl, push_new w _⟩) ?_; (· go_simp); dsimp only [putS, List.set_cons_succ, List.set_cons_zero])
      | (refine wpT_has (OwnFE.mono (E := EV) l (.inl (Nat.le_refl _))) rfl (fun ρ w hk ⟨c1, c2, c3⟩ ⟨h11, h12, _⟩ => ?_) ?_
         · obtain ⟨g, hg0, e1, hg⟩ : EmptyE 60 u1.drew.heap.size (ρ (.tmp 22)) w := h11
           have e2 : ρ (.tmp 23) = .slice a0 len0 cap0 := h12
           have own0 : EV.Own w u1.drew.heap.size (.slice (some ⟨g, 0, none⟩) 0 0) [] := ⟨rfl, .inr ⟨g, 0, #[], rfl, hg0, hg, Nat.le_refl _, by decide, rfl, rfl⟩⟩
           obtain ⟨v', w', hr, ho, hf⟩ := run_append_fillE (c := cap0) 31 own0 (TR.out w (FillE.kept hk)) HL.out HNIL.out (by simp only [List.length_nil]; omega) (FillE.size hk)
           refine upT_made v' (exec_appendE rfl e1 e2 hr) ?_ (by rw [List.nil_append] at ho; exact ho)
           rcases hf with hf | ⟨g', cap, cur, e, _, _, hn, hc, _⟩
           · exact hf.fillE
           · injection e with _ _ e
             rw [← e, List.length_nil] at hc
             omega
         dsimp only [putS, List.set_cons_succ, List.set_cons_zero])
      | (refine wpT_has (OneE.mono (E := EV) u1.drew.heap.size ⟨vw, vr, vs⟩ (EV.flat l)) rfl (fun ρ w hk ⟨c1, c2, c3⟩ ⟨h1, _⟩ => ?_) ?_
         · have h1 : ρ (.tmp 25) = _ := h1
           refine upT_made (.slice (some ⟨w.heap.size, 0, none⟩) 1 1) (w' := w.alloc (.cells #[.int .i64 vw, .int .i64 vr, .int .i64 vs] 60)) ?_ (((Kept.refl w).alloc _).fillE) ⟨_, FillE.size hk, rfl, push_new w (.cells #[.int .i64 vw, .int .i64 vr, .int .i64 vs] 60)⟩
           go_simp
         dsimp only [putS, List.set_cons_succ, List.set_cons_zero])
      | (refine wpT_has (OwnFE.mono (E := EV) (l ++ [⟨vw, vr, vs⟩]) (.inr (EV.flat_append _ _))) rfl (fun ρ w hk ⟨c1, c2, c3⟩ ⟨h11, h12, _⟩ => ?_) ?_
         · have e1 : EV.Own w u1.drew.heap.size (ρ (.tmp 24)) l := h11
           obtain ⟨g, hg0, e2, hg⟩ : OneE EV u1.drew.heap.size ⟨vw, vr, vs⟩ (ρ (.tmp 26)) w := h12
           obtain ⟨v', w', hr, ho, hf⟩ := run_append_fillE (c := 1) (n := 1) 31 e1 (OneE.reads hg) rfl (fun h => by cases h) (by rw [HL.out]; omega) (FillE.size hk)
           exact upT_made v' (exec_appendE rfl rfl e2 hr) (fill_ofE hf rfl) ho
         dsimp only [putS, List.set_cons_succ, List.set_cons_zero])
      | (refine wpT_slot (S := .has _) _ (.inr rfl) rfl (OwnFE.mono (E := EV) (l ++ [⟨vw, vr, vs⟩]) (.inr (EV.flat_append _ _))) rfl ?_; dsimp only [putS, List.set_cons_succ, List.set_cons_zero])
      | (refine wpT_skip rfl ?_; dsimp only [putS, List.set_cons_succ, List.set_cons_zero])
      | (refine wpT_slot (S := .is _) _ (.inl rfl) rfl (Slot.mono_is _) rfl ?_; dsimp only [putS, List.set_cons_succ, List.set_cons_zero])
      | (refine wpT_slot (S := .is _) _ (.inr rfl) rfl (Slot.mono_is _) rfl ?_; dsimp only [putS, List.set_cons_succ, List.set_cons_zero])
      | (refine wpT_exact1 rfl rfl rfl ?_; apply Exists.intro; refine ⟨fun ρ w hk ⟨c1, c2, c3⟩ h1 => ?_, ?_⟩; (· obtain ⟨t1, t2, t3⟩ := T1.out w (FillE.kept hk); go_simp; exact rfl); dsimp only [putS, List.set_cons_succ, List.set_cons_zero])
      | (refine wpT_exact2 rfl rfl rfl rfl ?_; apply Exists.intro; refine ⟨fun ρ w hk ⟨c1, c2, c3⟩ h1 h2 => ?_, ?_⟩; (· obtain ⟨t1, t2, t3⟩ := T1.out w (FillE.kept hk); go_simp; exact rfl); dsimp only [putS, List.set_cons_succ, List.set_cons_zero])
      | (refine wpT_exact3 rfl rfl rfl rfl rfl ?_; apply Exists.intro; refine ⟨fun ρ w hk ⟨c1, c2, c3⟩ h1 h2 h3 => ?_, ?_⟩; (· obtain ⟨t1, t2, t3⟩ := T1.out w (FillE.kept hk); go_simp; exact rfl); dsimp only [putS, List.set_cons_succ, List.set_cons_zero])
      | (refine wpT_exact4 rfl rfl rfl rfl rfl rfl ?_; apply Exists.intro; refine ⟨fun ρ w hk ⟨c1, c2, c3⟩ h1 h2 h3 h4 => ?_, ?_⟩; (· obtain ⟨t1, t2, t3⟩ := T1.out w (FillE.kept hk); go_simp; exact rfl); dsimp only [putS, List.set_cons_succ, List.set_cons_zero])
      | (refine wpT_exact0 rfl ?_; apply Exists.intro; refine ⟨fun ρ w hk ⟨c1, c2, c3⟩ => ?_, ?_⟩; (· obtain ⟨t1, t2, t3⟩ := T1.out w (FillE.kept hk); go_simp; exact rfl); dsimp only [putS, List.set_cons_succ, List.set_cons_zero])
      | fail)
    refine wpT_nil ?_
    intro wz kz
    simp only [Fits]
    rintro y9 hy9 y22 - y24 - y26 - y27 -
    obtain ⟨A9, c9, rfl, -, -, -⟩ := (show EV.Own wz u1.drew.heap.size y9 (l ++ [⟨vw, vr, vs⟩]) from hy9).slice
    have HR9 := Lib.hid (show EV.Own wz u1.drew.heap.size _ (l ++ [⟨vw, vr, vs⟩]) from hy9).reads
    have kz' : Kept u1 wz := (Kept.refl _).drew.trans (FillE.kept kz)
    have K9 := Lib.hid (K1.out.trans kz')
    have P9 := Lib.hid (P1.out.kept kz')
    have B9 := Lib.hid (B1.out.kept kz')
    rw [HLM.out]
    clear kz kz' hy9 T1 TR P1 B1
    refine wpList_end ?_
    go_wp2_with fail
    refine (H1.out _ _ _ HR9.out).mono ?_
    rintro e u2 ⟨rfl, k2⟩
    have KA : Hid (Kept u2 (u2.alloc (.cells #[.int .i64 yr, .int .i64 ys] 33))) := Lib.hid ((Kept.refl _).alloc _)
    have BX : Hid (Bx (u2.alloc (.cells #[.int .i64 yr, .int .i64 ys] 33)) u2.heap.size yr ys) := Lib.hid (push_new _ _)
    have K2 := Lib.hid ((K9.out.trans k2).trans KA.out)
    have P2 := Lib.hid ((P9.out.kept k2).kept KA.out)
    have B2 := Lib.hid ((B9.out.kept k2).kept KA.out)
    have HR2 := Lib.hid ((HR9.out.kept k2).kept KA.out)
    obtain ⟨p0, p1, p2⟩ := P2.out.cells
    simp only at p0 p1 p2
    clear k2 KA P9 B9 HR9
    go_upto_region 7 with fail
    generalize u2.alloc (.cells #[.int .i64 yr, .int .i64 ys] 33) = W2 at *
    generalize u2.heap.size = g2 at *
    have RA : Hid (EV.Reads (W2.alloc (.cells #[.int .i64 vw, .int .i64 vr, .int .i64 vs, .int .i64 vw, .int .i64 vr, .int .i64 vs, .int .i64 vw, .int .i64 vr, .int .i64 vs, .int .i64 vw, .int .i64 vr, .int .i64 vs] 60)) (some ⟨W2.heap.size, 0, none⟩) [⟨vw, vr, vs⟩, ⟨vw, vr, vs⟩, ⟨vw, vr, vs⟩, ⟨vw, vr, vs⟩]) := Lib.hid (EV.reads_row (push_new W2 _) rfl)
    have KB : Hid (Kept W2 (W2.alloc (.cells #[.int .i64 vw, .int .i64 vr, .int .i64 vs, .int .i64 vw, .int .i64 vr, .int .i64 vs, .int .i64 vw, .int .i64 vr, .int .i64 vs, .int .i64 vw, .int .i64 vr, .int .i64 vs] 60))) := Lib.hid ((Kept.refl _).alloc _)
    obtain ⟨q0, q1, q2⟩ := (P2.out.kept KB.out).cells
    simp only at q0 q1 q2
    go_wp2_with fail
    refine (H2.out _ _ RA.out).mono ?_
    rintro e u3 ⟨rfl, k3⟩
    have k3' := KB.out.trans k3
    have K3 := Lib.hid (K2.out.trans k3')
    have P3 := Lib.hid (P2.out.kept k3')
    have B3 := Lib.hid (B2.out.kept k3')
    have X3 := Lib.hid (BX.out.kept k3')
    have HR3 := Lib.hid (HR2.out.kept k3')
    obtain ⟨r0, r1, r2⟩ := P3.out.cells
    simp only at r0 r1 r2
    have x0 := X3.out.c0
    have x1 := X3.out.c1
    clear k3 k3' p0 p1 p2 q0 q1 q2 RA KB
    go_wp2_with fail
    refine (HC.out _).mono ?_
    rintro e u4 ⟨rfl, k4⟩
    have k4' : Kept u3 u4 := (Kept.refl _).call k4
    have K4 := Lib.hid (K3.out.trans k4')
    have B4 := Lib.hid (B3.out.kept k4')
    have HR4 := Lib.hid (HR3.out.kept k4')
    have b0 := B4.out.c0
    have b1 := B4.out.c1
    clear k4 k4' r0 r1 r2 x0 x1
    cases d with
    | false =>
      go_wp2_with fail
      refine (H3.out _ K4.out).mono ?_
      rintro e u5 ⟨rfl, k5⟩
      have K5 := Lib.hid (K4.out.trans k5)
      clear k5
      go_wp2
      go_ret
      exact ⟨by go_simp, K5.out.1⟩
    | true =>
      obtain rfl : d2 = true := HMD.out rfl
      go_wp2_with fail
      refine (H3.out _ K4.out).mono ?_
      rintro e u5 ⟨rfl, k5⟩
      have K5 := Lib.hid (K4.out.trans k5)
      have B5 := Lib.hid (B4.out.kept k5)
      have HR5 := Lib.hid (HR4.out.kept k5)
      have d0 := B5.out.c0
      have d1 := B5.out.c1
      clear k5 b0 b1
      go_wp2_with fail
      refine (H4.out _ _ _ HR5.out).mono ?_
      rintro e u6 ⟨rfl, k6⟩
      have K6 := Lib.hid (K5.out.trans k6)
      clear k6
      go_wp2
      go_ret
      exact ⟨by go_simp, K6.out.1⟩
  · have hs' : (100 : Int) < (len0 : Int) := by omega
    obtain ⟨vw, vr, vs⟩ := v
    go_enter Try.func8, Try.ntmps8
    go_wp2_with fail
    refine (prawake_any _).mono ?_
    rintro e u1 ⟨rfl, k1⟩
    have K1 := Lib.hid (KV.out.trans k1)
    clear k1 hl hR hW hv hnil
    go_wp2
    go_ret
    exact ⟨rfl, K1.out.1⟩
end Go.Proofs.Ytifenlopgpbpbaa
