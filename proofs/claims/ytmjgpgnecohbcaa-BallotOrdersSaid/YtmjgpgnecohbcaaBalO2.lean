/- The walk of BallotOrders. -/
import Derived.Test.YtmjgpgnecohbcaaBalL
import Derived.Test.YtmjgpgnecohbcaaTypedB
namespace Go.Proofs.Ytmjgpgnecohbcaa
open Go.RowKit

set_option maxRecDepth 100000 in
set_option maxHeartbeats 2000000 in
theorem BallotOrders_walk (a0 : List Value) (a1 : List Value) (a2 : Int) (w : World) (w0 : (fun w cs => cs.length = 2 ∧ IsStruct [(0, 1, (IsInt .i64)), (1, 1, (IsInt .i64))] w cs : World → List Value → Prop) w a0) (w1 : (fun w cs => cs.length = 2 ∧ IsStruct [(0, 1, (IsInt .i64)), (1, 1, (IsInt .i64))] w cs : World → List Value → Prop) w a1) (_ : (Lit.int .i64 a2).wf = true) :
    Calls Try.prog 3 #[.agg a0.toArray, .agg a1.toArray, .int .i64 a2] w fun e w' => e = .returned (.bool true) ∧ Below w.heap.size w w' := by
  obtain ⟨r0, s0, rfl, -, -⟩ := ballot_of w0
  obtain ⟨r1, s1, rfl, -, -⟩ := ballot_of w1
  clear w0 w1
  have h1 := Lib.hid (compare_any r0 s0 r1 s1)
  have h2 := Lib.hid (refcompare_any r0 s0 r1 s1)
  have h3 := Lib.hid (may_any r0 s0 a2)
  have h4 := Lib.hid (refmay8_any r0 s0 a2)
  have h5 := Lib.hid (next_any r0 s0 a2)
  have h6 := Lib.hid (refnext_any r0 s0 a2)
  generalize cmpB r0 s0 r1 s1 = x at *
  generalize mayB r0 s0 a2 = y at *
  generalize nextR r0 = z at *
  go_enter Try.func3, Try.ntmps3
  go_wp2_with fail
  refine (awake8_any _).mono ?_
  rintro e u1 ⟨rfl, b1⟩
  have k1 := (Kept.refl _).call b1
  have K1 := Lib.hid ((((Kept.refl w).alloc _).alloc _).call b1)
  have P0 := ((Bx.new w r0 s0).old (.cells #[.int .i64 r1, .int .i64 s1] 23)).kept k1
  have P1 := (Bx.new (w.alloc (.cells #[.int .i64 r0, .int .i64 s0] 23)) r1 s1).kept k1
  rw [World.size_alloc] at P1
  have T1 : Hid (∀ W, Kept u1.drew W → (W.cell? ⟨w.heap.size, 0, none⟩ = some (.int .i64 r0) ∧ W.cell? ⟨w.heap.size, 1, none⟩ = some (.int .i64 s0)) ∧ W.cell? ⟨w.heap.size + 1, 0, none⟩ = some (.int .i64 r1) ∧ W.cell? ⟨w.heap.size + 1, 1, none⟩ = some (.int .i64 s1)) :=
    Lib.hid (fun W k => by
      have k' : Kept u1 W := (Kept.refl u1).drew.trans k
      exact ⟨⟨(P0.kept k').c0, (P0.kept k').c1⟩, (P1.kept k').c0, (P1.kept k').c1⟩)
  clear b1 k1 P0 P1
  go_wp2_with fail
  refine wp_region_typed (N := 29) (fl := []) (by kernel_rfl) (by kernel_rfl) ?_
  simp only [List.take_succ_cons, List.take_zero, List.drop_succ_cons, List.drop_zero, List.map_cons, List.map_nil, zipF]
  repeat (first
    | (refine wpT_skip rfl ?_; dsimp only [putS, List.set_cons_succ, List.set_cons_zero])
    | (refine wpT_slot (S := .is _) _ (.inl rfl) rfl (Slot.mono_is _) rfl ?_; dsimp only [putS, List.set_cons_succ, List.set_cons_zero])
    | (refine wpT_slot (S := .is _) _ (.inr rfl) rfl (Slot.mono_is _) rfl ?_; dsimp only [putS, List.set_cons_succ, List.set_cons_zero])
    | (refine wpT_exact1 rfl rfl rfl ?_; apply Exists.intro; refine ⟨fun ρ w hk ⟨c1, c2, c3⟩ h1 => ?_, ?_⟩; (· have t1 := T1.out w hk; obtain ⟨⟨t1, t2⟩, t3, t4⟩ := t1; go_simp; exact rfl); dsimp only [putS, List.set_cons_succ, List.set_cons_zero])
    | (refine wpT_exact2 rfl rfl rfl rfl ?_; apply Exists.intro; refine ⟨fun ρ w hk ⟨c1, c2, c3⟩ h1 h2 => ?_, ?_⟩; (· have t1 := T1.out w hk; obtain ⟨⟨t1, t2⟩, t3, t4⟩ := t1; go_simp; exact rfl); dsimp only [putS, List.set_cons_succ, List.set_cons_zero])
    | (refine wpT_exact3 rfl rfl rfl rfl rfl ?_; apply Exists.intro; refine ⟨fun ρ w hk ⟨c1, c2, c3⟩ h1 h2 h3 => ?_, ?_⟩; (· have t1 := T1.out w hk; obtain ⟨⟨t1, t2⟩, t3, t4⟩ := t1; go_simp; exact rfl); dsimp only [putS, List.set_cons_succ, List.set_cons_zero])
    | (refine wpT_exact4 rfl rfl rfl rfl rfl rfl ?_; apply Exists.intro; refine ⟨fun ρ w hk ⟨c1, c2, c3⟩ h1 h2 h3 h4 => ?_, ?_⟩; (· have t1 := T1.out w hk; obtain ⟨⟨t1, t2⟩, t3, t4⟩ := t1; go_simp; exact rfl); dsimp only [putS, List.set_cons_succ, List.set_cons_zero])
    | (refine wpT_exact0 rfl ?_; apply Exists.intro; refine ⟨fun ρ w hk ⟨c1, c2, c3⟩ => ?_, ?_⟩; (· have t1 := T1.out w hk; obtain ⟨⟨t1, t2⟩, t3, t4⟩ := t1; go_simp; exact rfl); dsimp only [putS, List.set_cons_succ, List.set_cons_zero])
    | (refine wpT_is (.int .i64 x) rfl (fun ρ w hk ⟨c1, c2, c3⟩ ⟨h11, h12, _⟩ => ?_) ?_
       · have e1 : ρ (.tmp 11) = _ := h11
         have e2 : ρ (.tmp 12) = _ := h12
         refine upT_call 11 _ (by go_simp) ((h1.out w).mono ?_)
         rintro e u ⟨rfl, hb⟩
         exact ⟨_, rfl, (Kept.refl _).call hb, rfl⟩
       dsimp only [putS, List.set_cons_succ, List.set_cons_zero])
    | (refine wpT_is (.int .i64 x) rfl (fun ρ w hk ⟨c1, c2, c3⟩ ⟨h11, h12, _⟩ => ?_) ?_
       · have e1 : ρ (.tmp 14) = _ := h11
         have e2 : ρ (.tmp 15) = _ := h12
         refine upT_call 12 _ (by go_simp) ((h2.out w).mono ?_)
         rintro e u ⟨rfl, hb⟩
         exact ⟨_, rfl, (Kept.refl _).call hb, rfl⟩
       dsimp only [putS, List.set_cons_succ, List.set_cons_zero])
    | (refine wpT_is (.bool y) rfl (fun ρ w hk ⟨c1, c2, c3⟩ ⟨h11, h12, _⟩ => ?_) ?_
       · have e1 : ρ (.tmp 20) = _ := h11
         have e2 : ρ (.tmp 21) = _ := h12
         refine upT_call 13 _ (by go_simp) ((h3.out w).mono ?_)
         rintro e u ⟨rfl, hb⟩
         exact ⟨_, rfl, (Kept.refl _).call hb, rfl⟩
       dsimp only [putS, List.set_cons_succ, List.set_cons_zero])
    | (refine wpT_is (.bool y) rfl (fun ρ w hk ⟨c1, c2, c3⟩ ⟨h11, h12, _⟩ => ?_) ?_
       · have e1 : ρ (.tmp 23) = _ := h11
         have e2 : ρ (.tmp 24) = _ := h12
         refine upT_call 14 _ (by go_simp) ((h4.out w).mono ?_)
         rintro e u ⟨rfl, hb⟩
         exact ⟨_, rfl, (Kept.refl _).call hb, rfl⟩
       dsimp only [putS, List.set_cons_succ, List.set_cons_zero])
    | (refine wpT_is (.agg #[.int .i64 z, .int .i64 a2]) rfl (fun ρ w hk ⟨c1, c2, c3⟩ ⟨h11, h12, _⟩ => ?_) ?_
       · have e1 : ρ (.tmp 29) = _ := h11
         have e2 : ρ (.tmp 30) = _ := h12
         refine upT_call 15 _ (by go_simp) ((h5.out w).mono ?_)
         rintro e u ⟨rfl, hb⟩
         exact ⟨_, rfl, (Kept.refl _).call hb, rfl⟩
       dsimp only [putS, List.set_cons_succ, List.set_cons_zero])
    | (refine wpT_is (.agg #[.int .i64 z, .int .i64 a2]) rfl (fun ρ w hk ⟨c1, c2, c3⟩ ⟨h11, h12, _⟩ => ?_) ?_
       · have e1 : ρ (.tmp 32) = _ := h11
         have e2 : ρ (.tmp 33) = _ := h12
         refine upT_call 16 _ (by go_simp) ((h6.out w).mono ?_)
         rintro e u ⟨rfl, hb⟩
         exact ⟨_, rfl, (Kept.refl _).call hb, rfl⟩
       dsimp only [putS, List.set_cons_succ, List.set_cons_zero])
    | fail)
  refine wpT_nil ?_
  intro wz kz
  simp only [Fits]
  refine wpList_end ?_
  go_wp2
  go_ret
  exact ⟨by go_simp, (K1.out.trans ((Kept.refl u1).drew.trans kz)).1⟩
end Go.Proofs.Ytmjgpgnecohbcaa
