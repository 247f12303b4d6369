/- One acceptor of a slot: Accept of the program, whole. -/
import Derived.Test.YtifenlopgpbpbaaAccR
namespace Go.Proofs.Ytifenlopgpbpbaa
open Go.RowKit

set_option maxRecDepth 100000 in
set_option maxHeartbeats 2000000 in
theorem accept_any {w : World} {x : Ac} {A B : Option Addr} {c d : Nat} {vs : List Nat} (r t : Int) (h : Row w A x.val.length c x.val) (hv : Row w B vs.length d vs) :
    Calls Try.prog 32 #[acv x A x.val.length c, .agg #[.int .i64 r, .int .i64 t], .slice B vs.length d] w fun e w' => ∃ v, e = .returned v ∧ Kept w w' ∧ ToldT (told x (acceA x r t vs)) (acceA x r t vs).isSome v w' := by
  obtain ⟨y, b, hyb⟩ : ∃ y b, told x (acceA x r t vs) = y ∧ (acceA x r t vs).isSome = b := ⟨_, _, rfl, rfl⟩
  rw [hyb.1, hyb.2]
  have HY2 : Hid (cmpB r t x.pr x.ps < 0 ∧ y = x ∧ b = false ∨ ¬ cmpB r t x.pr x.ps < 0 ∧ y = ⟨r, t, true, r, t, vs⟩ ∧ b = true) := Lib.hid (by
    obtain ⟨h1, h2⟩ := hyb
    unfold acceA at h1 h2
    by_cases hc : cmpB r t x.pr x.ps < 0
    · rw [if_pos hc] at h1 h2
      exact .inl ⟨hc, h1.symm, h2.symm⟩
    · rw [if_neg hc] at h1 h2
      exact .inr ⟨hc, h1.symm, h2.symm⟩)
  clear hyb
  obtain ⟨pr, ps, so, ar, as_, val⟩ := x
  simp only [acv] at *
  have K0 : Hid (Kept w ((((w.alloc (.cells #[.int .i64 pr, .int .i64 ps, .bool so, .int .i64 ar, .int .i64 as_, .slice A val.length c] 45)).alloc (.cells #[.int .i64 r, .int .i64 t] 33)).alloc (.cells #[.slice B vs.length d] 24)).alloc (.cells #[.int .i64 0, .int .i64 0, .bool false, .int .i64 0, .int .i64 0, .slice none 0 0] 45))) := Lib.hid (((((Kept.refl w).alloc _).alloc _).alloc _).alloc _)
  have P1 : Hid (Hs ((((w.alloc (.cells #[.int .i64 pr, .int .i64 ps, .bool so, .int .i64 ar, .int .i64 as_, .slice A val.length c] 45)).alloc (.cells #[.int .i64 r, .int .i64 t] 33)).alloc (.cells #[.slice B vs.length d] 24)).alloc (.cells #[.int .i64 0, .int .i64 0, .bool false, .int .i64 0, .int .i64 0, .slice none 0 0] 45)) w.heap.size 45 ⟨pr, ps, so, ar, as_, val⟩ A val.length c) := Lib.hid ((push_old _ _ (by simp <;> omega)).trans ((push_old _ _ (by simp <;> omega)).trans (push_two_old w _ _)))
  have B1 : Hid (Bx ((((w.alloc (.cells #[.int .i64 pr, .int .i64 ps, .bool so, .int .i64 ar, .int .i64 as_, .slice A val.length c] 45)).alloc (.cells #[.int .i64 r, .int .i64 t] 33)).alloc (.cells #[.slice B vs.length d] 24)).alloc (.cells #[.int .i64 0, .int .i64 0, .bool false, .int .i64 0, .int .i64 0, .slice none 0 0] 45)) (w.heap.size + 1) r t) := Lib.hid ((push_old _ _ (by simp <;> omega)).trans ((push_old _ _ (by simp)).trans (push_two_new w _ _)))
  have V1 : Hid ((((((w.alloc (.cells #[.int .i64 pr, .int .i64 ps, .bool so, .int .i64 ar, .int .i64 as_, .slice A val.length c] 45)).alloc (.cells #[.int .i64 r, .int .i64 t] 33)).alloc (.cells #[.slice B vs.length d] 24)).alloc (.cells #[.int .i64 0, .int .i64 0, .bool false, .int .i64 0, .int .i64 0, .slice none 0 0] 45))).heap[w.heap.size + 1 + 1]? = some (.cells #[.slice B vs.length d] 24 (0, 0))) := Lib.hid ((push_old _ _ (by simp)).trans (by have := push_new ((w.alloc (.cells #[.int .i64 pr, .int .i64 ps, .bool so, .int .i64 ar, .int .i64 as_, .slice A val.length c] 45)).alloc (.cells #[.int .i64 r, .int .i64 t] 33)) (.cells #[.slice B vs.length d] 24); rwa [World.size_alloc, World.size_alloc] at this))
  have P2 : Hid (Hs ((((w.alloc (.cells #[.int .i64 pr, .int .i64 ps, .bool so, .int .i64 ar, .int .i64 as_, .slice A val.length c] 45)).alloc (.cells #[.int .i64 r, .int .i64 t] 33)).alloc (.cells #[.slice B vs.length d] 24)).alloc (.cells #[.int .i64 0, .int .i64 0, .bool false, .int .i64 0, .int .i64 0, .slice none 0 0] 45)) (w.heap.size + 1 + 1 + 1) 45 Ac.zero none 0 0) := Lib.hid (by have := push_new (((w.alloc (.cells #[.int .i64 pr, .int .i64 ps, .bool so, .int .i64 ar, .int .i64 as_, .slice A val.length c] 45)).alloc (.cells #[.int .i64 r, .int .i64 t] 33)).alloc (.cells #[.slice B vs.length d] 24)) (.cells #[.int .i64 0, .int .i64 0, .bool false, .int .i64 0, .int .i64 0, .slice none 0 0] 45); rwa [World.size_alloc, World.size_alloc, World.size_alloc] at this)
  have HR := Lib.hid h
  have HV := Lib.hid hv
  clear h hv
  go_enter Try.func32, Try.ntmps32
  go_wp2_with fail
  have T1 : Hid (∀ W, Kept (((((w.alloc (.cells #[.int .i64 pr, .int .i64 ps, .bool so, .int .i64 ar, .int .i64 as_, .slice A val.length c] 45)).alloc (.cells #[.int .i64 r, .int .i64 t] 33)).alloc (.cells #[.slice B vs.length d] 24)).alloc (.cells #[.int .i64 0, .int .i64 0, .bool false, .int .i64 0, .int .i64 0, .slice none 0 0] 45))).drew W → (W.cell? ⟨w.heap.size, 0, none⟩ = some (.int .i64 pr) ∧ W.cell? ⟨w.heap.size, 1, none⟩ = some (.int .i64 ps) ∧ W.cell? ⟨w.heap.size, 2, none⟩ = some (.bool so) ∧ W.cell? ⟨w.heap.size, 3, none⟩ = some (.int .i64 ar) ∧ W.cell? ⟨w.heap.size, 4, none⟩ = some (.int .i64 as_) ∧ W.cell? ⟨w.heap.size, 5, none⟩ = some (.slice A val.length c)) ∧ W.cell? ⟨w.heap.size + 1, 0, none⟩ = some (.int .i64 r) ∧ W.cell? ⟨w.heap.size + 1, 1, none⟩ = some (.int .i64 t) ∧ Row W A val.length c val ∧ Bx W (w.heap.size + 1) r t ∧ W.heap[w.heap.size + 1 + 1]? = some (.cells #[.slice B vs.length d] 24 (0, 0)) ∧ Row W B vs.length d vs) :=
    Lib.hid (fun W k => by
      have k' : Kept _ W := (Kept.refl _).drew.trans k
      exact ⟨(P1.out.kept k').cells, (B1.out.kept k').c0, (B1.out.kept k').c1, (HR.out.below K0.out.1).below k'.1, B1.out.kept k', (k'.1.block _ (heap_lt V1.out)).trans V1.out, (HV.out.below K0.out.1).below k'.1⟩)
  have hmf : ∀ (fn : Fn) (first cap : Array Value) (w : World), (Instr.makeFunc fn first cap).run Try.prog w = .ok (.func fn first cap) w := fun _ _ _ _ => rfl
  refine wp_region_typed (N := 7) (fl := [false, false, false, false, false, false, true]) (by kernel_rfl) (by kernel_rfl) ?_
  simp only [List.take_succ_cons, List.take_zero, List.drop_succ_cons, List.drop_zero, List.map_cons, List.map_nil, zipF]
  repeat (first
    | (refine wpT_has (FnT.mono r t (· = .func (.func 41) #[] #[.pointer (some ⟨w.heap.size + 1, 0, none⟩), .pointer (some ⟨w.heap.size + 1 + 1, 0, none⟩)])) rfl (fun ρ w2 hk ⟨c1, c2, c3⟩ ⟨h1, h2, _⟩ => ?_) ?_
       · have h1 : ρ (.tmp 8) = _ := h1
         have h2 : ρ (.tmp 9) = _ := h2
         refine upT_call 39 #[.agg #[.int .i64 r, .int .i64 t], .func (.func 41) #[] #[.pointer (some ⟨w.heap.size + 1, 0, none⟩), .pointer (some ⟨w.heap.size + 1 + 1, 0, none⟩)]] ?_ ((turn_fn r t _ ⟨_, _, rfl⟩ w2).mono ?_)
         · go_simp
         rintro e u ⟨rfl, rfl⟩
         exact ⟨_, rfl, ((Kept.refl w2).alloc _).alloc _, _, _, _, rfl, push_two_old w2 _ _, push_two_new w2 _ _, rfl⟩
       dsimp only [putS, List.set_cons_succ, List.set_cons_zero])
    | (refine wpT_has (ToldT.mono y b) rfl (fun ρ w2 hk ⟨c1, c2, c3⟩ ⟨h1, h2, _⟩ => ?_) ?_
       · obtain ⟨g1, g2, fv, h1, hb1, hb2, rfl⟩ := h1
         have h2 : ρ (.tmp 11) = _ := h2
         obtain ⟨t1, t2, t3, t4, t5, t6, t7⟩ := T1.out w2 hk
         refine upT_call 43 #[.agg #[.int .i64 pr, .int .i64 ps, .bool so, .int .i64 ar, .int .i64 as_, .slice A val.length c], .pointer (some ⟨g1, 0, none⟩), .pointer (some ⟨g2, 0, none⟩)] ?_ (Calls.mono (R := fun e w' => ∃ v, e = .returned v ∧ Kept w2 w' ∧ ToldT y b v w') ?_ ?_)
         · go_simp
         · rcases HY2.out with ⟨h0, rfl, rfl⟩ | ⟨h0, rfl, rfl⟩
           · exact turned_not (x := ⟨pr, ps, so, ar, as_, val⟩) t4 hb1 hb2 (by show cmpB r t pr ps < 0; omega)
           · exact turned_put (x := ⟨pr, ps, so, ar, as_, val⟩) t4 hb1 hb2 t5 t6 t7 (by show ¬ cmpB r t pr ps < 0; omega)
         · rintro e u ⟨v, rfl, hk2, ht⟩
           exact ⟨_, rfl, hk2, ht⟩
       dsimp only [putS, List.set_cons_succ, List.set_cons_zero])
    | (refine wpT_has (AcT.mono y) rfl (fun ρ w hk ⟨c1, c2, c3⟩ ⟨h1, _⟩ => ?_) ?_
       · obtain ⟨A', c', h1, hr⟩ := h1
         refine upT_made (acv y A' y.val.length c') ?_ (Kept.refl _) ⟨A', c', rfl, hr⟩
         go_simp
       dsimp only [putS, List.set_cons_succ, List.set_cons_zero])
    | (refine wpT_late (v := .bool b) rfl (fun ρ w hk ⟨c1, c2, c3⟩ ⟨h1, _⟩ => ?_) ?_
       · obtain ⟨A', c', h1, hr⟩ := h1
         intro w'
         go_simp
       dsimp only [putS, List.set_cons_succ, List.set_cons_zero])
    | (refine wpT_skip rfl ?_; dsimp only [putS, List.set_cons_succ, List.set_cons_zero])
    | (refine wpT_slot (S := .is _) _ (.inl rfl) rfl (Slot.mono_is _) rfl ?_; dsimp only [putS, List.set_cons_succ, List.set_cons_zero])
    | (refine wpT_slot (S := .is _) _ (.inr rfl) rfl (Slot.mono_is _) rfl ?_; dsimp only [putS, List.set_cons_succ, List.set_cons_zero])
    | (refine wpT_exact1 rfl rfl rfl ?_; apply Exists.intro; refine ⟨fun ρ w hk ⟨c1, c2, c3⟩ h1 => ?_, ?_⟩; (· have t1 := T1.out w hk; obtain ⟨⟨t1, t2, t3, t4, t5, t6⟩, t7, t8, _⟩ := t1; go_simp; exact rfl); dsimp only [putS, List.set_cons_succ, List.set_cons_zero])
    | (refine wpT_exact2 rfl rfl rfl rfl ?_; apply Exists.intro; refine ⟨fun ρ w hk ⟨c1, c2, c3⟩ h1 h2 => ?_, ?_⟩; (· have t1 := T1.out w hk; obtain ⟨⟨t1, t2, t3, t4, t5, t6⟩, t7, t8, _⟩ := t1; go_simp; exact rfl); dsimp only [putS, List.set_cons_succ, List.set_cons_zero])
    | (refine wpT_exact3 rfl rfl rfl rfl rfl ?_; apply Exists.intro; refine ⟨fun ρ w hk ⟨c1, c2, c3⟩ h1 h2 h3 => ?_, ?_⟩; (· have t1 := T1.out w hk; obtain ⟨⟨t1, t2, t3, t4, t5, t6⟩, t7, t8, _⟩ := t1; go_simp; exact rfl); dsimp only [putS, List.set_cons_succ, List.set_cons_zero])
    | (refine wpT_exact4 rfl rfl rfl rfl rfl rfl ?_; apply Exists.intro; refine ⟨fun ρ w hk ⟨c1, c2, c3⟩ h1 h2 h3 h4 => ?_, ?_⟩; (· have t1 := T1.out w hk; obtain ⟨⟨t1, t2, t3, t4, t5, t6⟩, t7, t8, _⟩ := t1; go_simp; exact rfl); dsimp only [putS, List.set_cons_succ, List.set_cons_zero])
    | (refine wpT_exact0 rfl ?_; apply Exists.intro; refine ⟨fun ρ w hk ⟨c1, c2, c3⟩ => ?_, ?_⟩; (· have t1 := T1.out w hk; obtain ⟨⟨t1, t2, t3, t4, t5, t6⟩, t7, t8, _⟩ := t1; go_simp; exact rfl); dsimp only [putS, List.set_cons_succ, List.set_cons_zero])
    | fail)
  refine wpT_nil ?_
  intro wz kz
  simp only [Fits]
  rintro u10 - u12 - u13 ⟨A', c', rfl, hr2⟩
  have kz' := (Kept.refl _).drew.trans kz
  have KK := Lib.hid (K0.out.trans kz')
  have q2 := P2.out.kept kz'
  have HR2 := Lib.hid hr2
  have hsz : w.heap.size + 4 ≤ wz.heap.size := by have := kz'.2; simp at this; exact this
  obtain ⟨d0, d1, d2, d3, d4, d5⟩ := q2.cells
  obtain ⟨e0, e1, e2, e3, e4, e5⟩ := q2.free
  have Q2 := Lib.hid q2
  simp only [Ac.zero] at d0 d1 d2 d3 d4 d5
  clear kz kz' q2 hr2 hmf
  simp only [acv]
  obtain ⟨yr, yt, yo, za, zs, yv⟩ := y
  simp only
  go_wp2_with fail
  refine only_end ?_
  go_wp2
  have H5 := Lib.hid (put6_new Q2.out ⟨yr, yt, yo, za, zs, yv⟩ A' yv.length c')
  refine bodyPost_ret (results_row_tmp (p := 6) (u := 7) (ty := 45) rfl _ _ _ (w.heap.size + 1 + 1 + 1) _ _ _ _ _ rfl rfl (by with_reducible exact H5.out) Try.underlying45 rfl (by kernel_rfl)) rfl ?_
  have hk := put6_kept (g := w.heap.size + 1 + 1 + 1) ⟨yr, yt, yo, za, zs, yv⟩ A' yv.length c' KK.out (by omega)
  have hr := HR2.out.put6 (x := ⟨yr, yt, yo, za, zs, yv⟩) (B' := A') (m' := yv.length) (d' := c') Q2.out
  refine ⟨_, rfl, ?_, A', c', rfl, ?_⟩
  · with_reducible exact hk
  · with_reducible exact hr
end Go.Proofs.Ytifenlopgpbpbaa
