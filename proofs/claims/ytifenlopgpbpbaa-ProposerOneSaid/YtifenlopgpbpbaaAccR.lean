/- One acceptor of a slot: Prepare and Accept of the program, whole. -/
import Derived.Test.YtifenlopgpbpbaaAccQ
import Derived.Test.YtifenlopgpbpbaaTypedB
namespace Go.Proofs.Ytifenlopgpbpbaa
open Go.RowKit

/-- the function that turn tells -/
def FnT (r t : Int) (K : Value → Prop) (u : Value) (w : World) : Prop := ∃ g1 g2 fv, u = .func (.func 43) #[] #[.pointer (some ⟨g1, 0, none⟩), .pointer (some ⟨g2, 0, none⟩)] ∧ Bx w g1 r t ∧ w.heap[g2]? = some (.cells #[fv] 84 (0, 0)) ∧ K fv
theorem FnT.mono (r t : Int) (K : Value → Prop) : (Slot.has (FnT r t K)).Mono := fun _ _ _ hk ⟨g1, g2, fv, e, h1, h2, h3⟩ => ⟨g1, g2, fv, e, h1.kept hk, (hk.1.block g2 (heap_lt h2)).trans h2, h3⟩
theorem ToldT.mono (x : Ac) (b : Bool) : (Slot.has (ToldT x b)).Mono := fun _ _ _ hk h => h.kept hk
theorem AcT.mono (x : Ac) : (Slot.has (AcT x)).Mono := fun _ _ _ hk h => h.kept hk

set_option maxRecDepth 100000 in
set_option maxHeartbeats 2000000 in
theorem prepare_any {w : World} {x : Ac} {A : Option Addr} {c : Nat} (r t : Int) (h : Row w A x.val.length c x.val) :
    Calls Try.prog 31 #[acv x A x.val.length c, .agg #[.int .i64 r, .int .i64 t]] w fun e w' => ∃ v, e = .returned v ∧ Kept w w' ∧ ToldT (told x (prepA x r t)) (prepA x r t).isSome v w' := by
  obtain ⟨y, b, hyb⟩ : ∃ y b, told x (prepA x r t) = y ∧ (prepA x r t).isSome = b := ⟨_, _, rfl, rfl⟩
  rw [hyb.1, hyb.2]
  have HY : Hid ((r < 1 ∨ cmpB r t x.pr x.ps < 0) ∧ y = x ∧ b = false ∨ ¬ r < 1 ∧ ¬ cmpB r t x.pr x.ps < 0 ∧ y = ⟨r, t, x.so, x.ar, x.as_, x.val⟩ ∧ b = true) := Lib.hid (by
    obtain ⟨h1, h2⟩ := hyb
    unfold prepA at h1 h2
    by_cases hc : r < 1 ∨ cmpB r t x.pr x.ps < 0
    · rw [if_pos hc] at h1 h2
      exact .inl ⟨hc, h1.symm, h2.symm⟩
    · rw [if_neg hc] at h1 h2
      exact .inr ⟨fun h => hc (.inl h), fun h => hc (.inr h), h1.symm, h2.symm⟩)
  clear hyb
  obtain ⟨pr, ps, so, ar, as_, val⟩ := x
  simp only [acv] at *
  have K0 : Hid (Kept w (((w.alloc (.cells #[.int .i64 pr, .int .i64 ps, .bool so, .int .i64 ar, .int .i64 as_, .slice A val.length c] 45)).alloc (.cells #[.int .i64 r, .int .i64 t] 33)).alloc (.cells #[.int .i64 0, .int .i64 0, .bool false, .int .i64 0, .int .i64 0, .slice none 0 0] 45))) := Lib.hid ((((Kept.refl w).alloc _).alloc _).alloc _)
  have P1 : Hid (Hs (((w.alloc (.cells #[.int .i64 pr, .int .i64 ps, .bool so, .int .i64 ar, .int .i64 as_, .slice A val.length c] 45)).alloc (.cells #[.int .i64 r, .int .i64 t] 33)).alloc (.cells #[.int .i64 0, .int .i64 0, .bool false, .int .i64 0, .int .i64 0, .slice none 0 0] 45)) w.heap.size 45 ⟨pr, ps, so, ar, as_, val⟩ A val.length c) := Lib.hid ((push_old _ _ (by simp; omega)).trans (push_two_old w _ _))
  have B1 : Hid (Bx (((w.alloc (.cells #[.int .i64 pr, .int .i64 ps, .bool so, .int .i64 ar, .int .i64 as_, .slice A val.length c] 45)).alloc (.cells #[.int .i64 r, .int .i64 t] 33)).alloc (.cells #[.int .i64 0, .int .i64 0, .bool false, .int .i64 0, .int .i64 0, .slice none 0 0] 45)) (w.heap.size + 1) r t) := Lib.hid ((push_old _ _ (by simp)).trans (push_two_new w _ _))
  have P2 : Hid (Hs (((w.alloc (.cells #[.int .i64 pr, .int .i64 ps, .bool so, .int .i64 ar, .int .i64 as_, .slice A val.length c] 45)).alloc (.cells #[.int .i64 r, .int .i64 t] 33)).alloc (.cells #[.int .i64 0, .int .i64 0, .bool false, .int .i64 0, .int .i64 0, .slice none 0 0] 45)) (w.heap.size + 1 + 1) 45 Ac.zero none 0 0) := Lib.hid (by have := push_new ((w.alloc (.cells #[.int .i64 pr, .int .i64 ps, .bool so, .int .i64 ar, .int .i64 as_, .slice A val.length c] 45)).alloc (.cells #[.int .i64 r, .int .i64 t] 33)) (.cells #[.int .i64 0, .int .i64 0, .bool false, .int .i64 0, .int .i64 0, .slice none 0 0] 45); rwa [World.size_alloc, World.size_alloc] at this)
  have HR := Lib.hid h
  clear h
  by_cases hr1 : r < 1
  · have e : y = ⟨pr, ps, so, ar, as_, val⟩ ∧ b = false := by
      rcases HY.out with ⟨_, h1, h2⟩ | ⟨h1, _⟩
      · exact ⟨h1, h2⟩
      · exact absurd hr1 h1
    obtain ⟨rfl, rfl⟩ := e
    clear HY
    go_enter Try.func31, Try.ntmps31
    go_wp2_with fail
    refine (own_any (x := ⟨pr, ps, so, ar, as_, val⟩) (A := A) (c := c) (HR.out.below K0.out.1)).mono ?_
    rintro e u2 ⟨v, rfl, ⟨A', c', rfl, hr2⟩, k2⟩
    have KK := Lib.hid (K0.out.trans k2)
    have q2 := P2.out.kept k2
    have HR2 := Lib.hid hr2
    have hsz : w.heap.size + 3 ≤ u2.heap.size := by have := k2.2; simp at this; exact this
    obtain ⟨d0, d1, d2, d3, d4, d5⟩ := q2.cells
    obtain ⟨e0, e1, e2, e3, e4, e5⟩ := q2.free
    have Q2 := Lib.hid q2
    simp only [Ac.zero] at d0 d1 d2 d3 d4 d5
    clear k2 q2 hr2
    simp only [acv]
    go_wp2
    have H5 := Lib.hid (put6_new Q2.out ⟨pr, ps, so, ar, as_, val⟩ A' val.length c')
    refine bodyPost_ret (results_row_tmp (p := 4) (u := 5) (ty := 45) rfl _ _ _ (w.heap.size + 1 + 1) _ _ _ _ _ rfl rfl (by with_reducible exact H5.out) Try.underlying45 rfl (by kernel_rfl)) rfl ?_
    have hk := put6_kept (g := w.heap.size + 1 + 1) ⟨pr, ps, so, ar, as_, val⟩ A' val.length c' KK.out (by omega)
    have hr := HR2.out.put6 (x := ⟨pr, ps, so, ar, as_, val⟩) (B' := A') (m' := val.length) (d' := c') Q2.out
    refine ⟨_, rfl, ?_, A', c', rfl, ?_⟩
    · with_reducible exact hk
    · with_reducible exact hr
  · have HY2 : Hid (cmpB r t pr ps < 0 ∧ y = ⟨pr, ps, so, ar, as_, val⟩ ∧ b = false ∨ ¬ cmpB r t pr ps < 0 ∧ y = ⟨r, t, so, ar, as_, val⟩ ∧ b = true) := Lib.hid (by
      rcases HY.out with ⟨h0 | h0, h1, h2⟩ | ⟨_, h1, h2⟩
      · exact absurd h0 hr1
      · exact .inl ⟨h0, h1, h2⟩
      · exact .inr ⟨h1, h2⟩)
    clear HY
    have hd : decide (r < 1) = false := by simpa using hr1
    go_enter Try.func31, Try.ntmps31
    go_wp2_with fail
    have T1 : Hid (∀ W, Kept ((((w.alloc (.cells #[.int .i64 pr, .int .i64 ps, .bool so, .int .i64 ar, .int .i64 as_, .slice A val.length c] 45)).alloc (.cells #[.int .i64 r, .int .i64 t] 33)).alloc (.cells #[.int .i64 0, .int .i64 0, .bool false, .int .i64 0, .int .i64 0, .slice none 0 0] 45))).drew W → (W.cell? ⟨w.heap.size, 0, none⟩ = some (.int .i64 pr) ∧ W.cell? ⟨w.heap.size, 1, none⟩ = some (.int .i64 ps) ∧ W.cell? ⟨w.heap.size, 2, none⟩ = some (.bool so) ∧ W.cell? ⟨w.heap.size, 3, none⟩ = some (.int .i64 ar) ∧ W.cell? ⟨w.heap.size, 4, none⟩ = some (.int .i64 as_) ∧ W.cell? ⟨w.heap.size, 5, none⟩ = some (.slice A val.length c)) ∧ W.cell? ⟨w.heap.size + 1, 0, none⟩ = some (.int .i64 r) ∧ W.cell? ⟨w.heap.size + 1, 1, none⟩ = some (.int .i64 t) ∧ Row W A val.length c val) :=
      Lib.hid (fun W k => by
        have k' : Kept _ W := (Kept.refl _).drew.trans k
        exact ⟨(P1.out.kept k').cells, (B1.out.kept k').c0, (B1.out.kept k').c1, (HR.out.below K0.out.1).below k'.1⟩)
    refine wp_region_typed (N := 6) (fl := [false, false, false, false, false, true]) (by kernel_rfl) (by kernel_rfl) ?_
    simp only [List.take_succ_cons, List.take_zero, List.drop_succ_cons, List.drop_zero, List.map_cons, List.map_nil, zipF]
    repeat (first
      | (refine wpT_has (FnT.mono r t (· = .func (.func 40) #[] #[])) rfl (fun ρ w hk ⟨c1, c2, c3⟩ ⟨h1, _⟩ => ?_) ?_
         · have h1 : ρ (.tmp 11) = _ := h1
           refine upT_call 39 #[.agg #[.int .i64 r, .int .i64 t], .func (.func 40) #[] #[]] ?_ ((turn_fn r t _ ⟨_, _, rfl⟩ w).mono ?_)
           · go_simp
           rintro e u ⟨rfl, rfl⟩
           exact ⟨_, rfl, ((Kept.refl w).alloc _).alloc _, _, _, _, rfl, push_two_old w _ _, push_two_new w _ _, rfl⟩
         dsimp only [putS, List.set_cons_succ, List.set_cons_zero])
      | (refine wpT_has (ToldT.mono y b) rfl (fun ρ w hk ⟨c1, c2, c3⟩ ⟨h1, h2, _⟩ => ?_) ?_
         · obtain ⟨g1, g2, fv, h1, hb1, hb2, rfl⟩ := h1
           have h2 : ρ (.tmp 13) = _ := h2
           refine upT_call 43 #[.agg #[.int .i64 pr, .int .i64 ps, .bool so, .int .i64 ar, .int .i64 as_, .slice A val.length c], .pointer (some ⟨g1, 0, none⟩), .pointer (some ⟨g2, 0, none⟩)] ?_ (Calls.mono (R := fun e w' => ∃ v, e = .returned v ∧ Kept w w' ∧ ToldT y b v w') ?_ ?_)
           · go_simp
           · rcases HY2.out with ⟨h0, rfl, rfl⟩ | ⟨h0, rfl, rfl⟩
             · exact turned_not (x := ⟨pr, ps, so, ar, as_, val⟩) (T1.out w hk).2.2.2 hb1 hb2 h0
             · exact turned_idle (x := ⟨pr, ps, so, ar, as_, val⟩) (T1.out w hk).2.2.2 hb1 hb2 (by show ¬ cmpB r t pr ps < 0; omega)
           · rintro e u ⟨v, rfl, hk2, ht⟩
             exact ⟨_, rfl, hk2, ht⟩
         dsimp only [putS, List.set_cons_succ, List.set_cons_zero])
      | (refine wpT_has (AcT.mono y) rfl (fun ρ w hk ⟨c1, c2, c3⟩ ⟨h1, _⟩ => ?_) ?_
         · obtain ⟨A', c', h1, hr⟩ := h1
           refine upT_made (acv y A' y.val.length c') ?_ (Kept.refl _) ⟨A', c', rfl, hr⟩
           go_simp
         dsimp only [putS, List.set_cons_succ, List.set_cons_zero])
      | (refine wpT_late (v := .bool b) rfl (fun ρ w hk ⟨c1, c2, c3⟩ ⟨h1, _⟩ => ?_) ?_
         · obtain ⟨A', c', h1, hr⟩ := h1
           intro w'
           go_simp
         dsimp only [putS, List.set_cons_succ, List.set_cons_zero])
      | (refine wpT_skip rfl ?_; dsimp only [putS, List.set_cons_succ, List.set_cons_zero])
      | (refine wpT_slot (S := .is _) _ (.inl rfl) rfl (Slot.mono_is _) rfl ?_; dsimp only [putS, List.set_cons_succ, List.set_cons_zero])
      | (refine wpT_slot (S := .is _) _ (.inr rfl) rfl (Slot.mono_is _) rfl ?_; dsimp only [putS, List.set_cons_succ, List.set_cons_zero])
      | (refine wpT_exact1 rfl rfl rfl ?_; apply Exists.intro; refine ⟨fun ρ w hk ⟨c1, c2, c3⟩ h1 => ?_, ?_⟩; (· have t1 := T1.out w hk; obtain ⟨⟨t1, t2, t3, t4, t5, t6⟩, t7, t8, _⟩ := t1; go_simp; exact rfl); dsimp only [putS, List.set_cons_succ, List.set_cons_zero])
      | (refine wpT_exact2 rfl rfl rfl rfl ?_; apply Exists.intro; refine ⟨fun ρ w hk ⟨c1, c2, c3⟩ h1 h2 => ?_, ?_⟩; (· have t1 := T1.out w hk; obtain ⟨⟨t1, t2, t3, t4, t5, t6⟩, t7, t8, _⟩ := t1; go_simp; exact rfl); dsimp only [putS, List.set_cons_succ, List.set_cons_zero])
      | (refine wpT_exact3 rfl rfl rfl rfl rfl ?_; apply Exists.intro; refine ⟨fun ρ w hk ⟨c1, c2, c3⟩ h1 h2 h3 => ?_, ?_⟩; (· have t1 := T1.out w hk; obtain ⟨⟨t1, t2, t3, t4, t5, t6⟩, t7, t8, _⟩ := t1; go_simp; exact rfl); dsimp only [putS, List.set_cons_succ, List.set_cons_zero])
      | (refine wpT_exact4 rfl rfl rfl rfl rfl rfl ?_; apply Exists.intro; refine ⟨fun ρ w hk ⟨c1, c2, c3⟩ h1 h2 h3 h4 => ?_, ?_⟩; (· have t1 := T1.out w hk; obtain ⟨⟨t1, t2, t3, t4, t5, t6⟩, t7, t8, _⟩ := t1; go_simp; exact rfl); dsimp only [putS, List.set_cons_succ, List.set_cons_zero])
      | (refine wpT_exact0 rfl ?_; apply Exists.intro; refine ⟨fun ρ w hk ⟨c1, c2, c3⟩ => ?_, ?_⟩; (· have t1 := T1.out w hk; obtain ⟨⟨t1, t2, t3, t4, t5, t6⟩, t7, t8, _⟩ := t1; go_simp; exact rfl); dsimp only [putS, List.set_cons_succ, List.set_cons_zero])
      | fail)
    refine wpT_nil ?_
    intro wz kz
    simp only [Fits]
    rintro u12 - u14 - u15 ⟨A', c', rfl, hr2⟩
    have kz' := (Kept.refl _).drew.trans kz
    have KK := Lib.hid (K0.out.trans kz')
    have q2 := P2.out.kept kz'
    have HR2 := Lib.hid hr2
    have hsz : w.heap.size + 3 ≤ wz.heap.size := by have := kz'.2; simp at this; exact this
    obtain ⟨d0, d1, d2, d3, d4, d5⟩ := q2.cells
    obtain ⟨e0, e1, e2, e3, e4, e5⟩ := q2.free
    have Q2 := Lib.hid q2
    simp only [Ac.zero] at d0 d1 d2 d3 d4 d5
    clear kz kz' q2 hr2
    simp only [acv]
    obtain ⟨yr, yt, yo, za, zs, yv⟩ := y
    simp only
    go_wp2_with fail
    refine only_end ?_
    go_wp2
    have H5 := Lib.hid (put6_new Q2.out ⟨yr, yt, yo, za, zs, yv⟩ A' yv.length c')
    refine bodyPost_ret (results_row_tmp (p := 4) (u := 5) (ty := 45) rfl _ _ _ (w.heap.size + 1 + 1) _ _ _ _ _ rfl rfl (by with_reducible exact H5.out) Try.underlying45 rfl (by kernel_rfl)) rfl ?_
    have hk := put6_kept (g := w.heap.size + 1 + 1) ⟨yr, yt, yo, za, zs, yv⟩ A' yv.length c' KK.out (by omega)
    have hr := HR2.out.put6 (x := ⟨yr, yt, yo, za, zs, yv⟩) (B' := A') (m' := yv.length) (d' := c') Q2.out
    refine ⟨_, rfl, ?_, A', c', rfl, ?_⟩
    · with_reducible exact hk
    · with_reducible exact hr
end Go.Proofs.Ytifenlopgpbpbaa
