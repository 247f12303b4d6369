/- The walk of ProposerCounts. -/
import Derived.Test.YtifenlopgpbpbaaPrqF
import Derived.Test.YtifenlopgpbpbaaPrqH
import Derived.Test.YtifenlopgpbpbaaPrqI
namespace Go.Proofs.Ytifenlopgpbpbaa
open Go.RowKit

/-- the document's votes -/
def VotT (l : List Vt) (u : Value) (w : World) : Prop := ∃ A c, u = .slice A l.length c ∧ EVr.Reads w A l
theorem VotT.mono (l : List Vt) : (Slot.has (VotT l)).Mono := fun _ _ _ hk ⟨A, c, e, h⟩ => ⟨A, c, e, h.kept hk⟩

set_option maxRecDepth 100000 in
set_option maxHeartbeats 4000000 in
theorem ProposerCounts_walk (a0 : Option Addr) (len0 cap0 : Nat) (a1 : List Value) (a2 : Int) (w : World) (w0 : SliceAt 3 24 (fun w cs => cs.length = 3 ∧ IsStruct [(0, 1, (IsInt .i64)), (1, 2, (fun w cs => cs.length = 2 ∧ IsStruct [(0, 1, (IsInt .i64)), (1, 1, (IsInt .i64))] w cs))] w cs) w a0 len0 cap0) (w1 : (fun w cs => cs.length = 2 ∧ IsStruct [(0, 1, (IsInt .i64)), (1, 1, (IsInt .i64))] w cs : World → List Value → Prop) w a1) (w2 : (Lit.int .i64 a2).wf = true) :
    Calls Try.prog 4 #[.slice a0 len0 cap0, .agg a1.toArray, .int .i64 a2] w fun e w' => e = .returned (.bool true) ∧ Below w.heap.size w w' := by
  obtain ⟨l, hl, hR, hW⟩ := vts_of w0
  obtain ⟨r, s, rfl, -, -⟩ := ballot_of w1
  have hn := in64 w2
  have KV := Lib.hid ((Kept.refl w).alloc (.cells #[.int .i64 r, .int .i64 s] 33))
  have PV : Hid (Bx (w.alloc (.cells #[.int .i64 r, .int .i64 s] 33)) w.heap.size r s) := Lib.hid (push_new w _)
  by_cases hs : len0 ≤ 200
  · have hs' : ¬ (200 : Int) < (len0 : Int) := by omega
    have H1 : Hid (∀ W, Kept w W → Calls Try.prog 13 #[.slice a0 len0 cap0] W fun e w' => ∃ y, y = (gV l).getD Vt.zero ∧ e = .returned (.tuple #[.agg #[.int .i64 y.r, .int .i64 y.s], .bool (decide (0 < len0))]) ∧ Kept W w') :=
      Lib.hid (fun W k => greatest_any hl (hR.kept k) (by omega))
    have H2 : Hid (∀ W, Kept w W → Calls Try.prog 15 #[.slice a0 len0 cap0] W fun e w' => ∃ v, e = .returned v ∧ EVr.Own w' W.heap.size v l ∧ Kept W w') :=
      Lib.hid (fun W k => votes_any hl (hR.kept k) (by omega))
    have H3 : Hid (∀ W A c, EVr.Reads W A l → Calls Try.prog 14 #[.slice A len0 c] W fun e w' => ∃ y, y = (gV l).getD Vt.zero ∧ e = .returned (.tuple #[.agg #[.int .i64 y.r, .int .i64 y.s], .bool (decide (0 < len0))]) ∧ Kept W w') :=
      Lib.hid (fun W A c hr => refgreatest_any hl hr (by omega))
    have H4 : Hid (∀ W, Kept w W → Calls Try.prog 16 #[.slice a0 len0 cap0, .agg #[.int .i64 r, .int .i64 s], .int .i64 a2] W fun e w' => e = .returned (.bool (decidedV l r s a2)) ∧ Kept W w') :=
      Lib.hid (fun W k => decided_any r s hl (hR.kept k) hW (by omega) hn.2)
    have H5 : Hid (∀ W A c, EVr.Reads W A l → Calls Try.prog 17 #[.slice A len0 c, .agg #[.int .i64 r, .int .i64 s], .int .i64 a2] W fun e w' => e = .returned (.bool (decidedV l r s a2)) ∧ Kept W w') :=
      Lib.hid (fun W A c hr => refdecided_any r s hl hr hW (by omega) hn.2)
    have HL := Lib.hid hl
    clear w0 w1 w2 hl hR hW hn
    generalize (gV l).getD Vt.zero = y at *
    generalize decide (0 < len0) = q at *
    generalize decidedV l r s a2 = d at *
    obtain ⟨yw, yr, ys⟩ := y
    go_enter Try.func4, Try.ntmps4
    go_wp2_with fail
    refine (prawake_any _).mono ?_
    rintro e u1 ⟨rfl, k1⟩
    have K1 := Lib.hid (KV.out.trans k1)
    have P1 := Lib.hid (PV.out.kept k1)
    clear k1
    go_wp2_with fail
    refine (H1.out _ K1.out).mono ?_
    rintro e u2 ⟨y, rfl, rfl, k2⟩
    simp only
    have KA : Hid (Kept u2 (u2.alloc (.cells #[.int .i64 yr, .int .i64 ys] 33))) := Lib.hid ((Kept.refl _).alloc _)
    have BA : Hid (Bx (u2.alloc (.cells #[.int .i64 yr, .int .i64 ys] 33)) u2.heap.size yr ys) := Lib.hid (push_new _ _)
    have K2 := Lib.hid ((K1.out.trans k2).trans KA.out)
    have P2 := Lib.hid ((P1.out.kept k2).kept KA.out)
    clear k2 KA
    go_wp2_with fail
    generalize u2.alloc (.cells #[.int .i64 yr, .int .i64 ys] 33) = W2 at *
    generalize u2.heap.size = g2 at *
    refine (H2.out _ K2.out).mono ?_
    rintro e u3 ⟨v3, rfl, own, k3⟩
    obtain ⟨A3, c3, rfl, -, -, -⟩ := own.slice
    have HR3 := Lib.hid own.reads
    have K3 := Lib.hid (K2.out.trans k3)
    have P3 := Lib.hid (P2.out.kept k3)
    have B3 := Lib.hid (BA.out.kept k3)
    rw [HL.out]
    clear k3 own
    go_wp2_with fail
    refine (H3.out _ _ _ HR3.out).mono ?_
    rintro e u4 ⟨y, rfl, rfl, k4⟩
    simp only
    have KA : Hid (Kept u4 (u4.alloc (.cells #[.int .i64 yr, .int .i64 ys] 33))) := Lib.hid ((Kept.refl _).alloc _)
    have BC : Hid (Bx (u4.alloc (.cells #[.int .i64 yr, .int .i64 ys] 33)) u4.heap.size yr ys) := Lib.hid (push_new _ _)
    have K4 := Lib.hid ((K3.out.trans k4).trans KA.out)
    have P4 := Lib.hid ((P3.out.kept k4).kept KA.out)
    have B4 := Lib.hid ((B3.out.kept k4).kept KA.out)
    clear k4 KA
    go_wp2_with fail
    generalize u4.alloc (.cells #[.int .i64 yr, .int .i64 ys] 33) = W4 at *
    generalize u4.heap.size = g4 at *
    have T1 : Hid (∀ W, Kept W4.drew W → W.cell? ⟨w.heap.size, 0, none⟩ = some (.int .i64 r) ∧ W.cell? ⟨w.heap.size, 1, none⟩ = some (.int .i64 s) ∧ W.cell? ⟨g2, 0, none⟩ = some (.int .i64 yr) ∧ W.cell? ⟨g2, 1, none⟩ = some (.int .i64 ys) ∧ W.cell? ⟨g4, 0, none⟩ = some (.int .i64 yr) ∧ W.cell? ⟨g4, 1, none⟩ = some (.int .i64 ys)) := Lib.hid (fun W hk => by
      have k' := (Kept.refl _).drew.trans hk
      exact ⟨(P4.out.kept k').c0, (P4.out.kept k').c1, (B4.out.kept k').c0, (B4.out.kept k').c1, (BC.out.kept k').c0, (BC.out.kept k').c1⟩)
    have TK : Hid (∀ W, Kept W4.drew W → Kept w W) := Lib.hid (fun W hk => K4.out.trans ((Kept.refl _).drew.trans hk))
    refine wp_region_typed (N := 24) (fl := []) (by kernel_rfl) (by kernel_rfl) ?_
    simp only [List.take_succ_cons, List.take_zero, List.drop_succ_cons, List.drop_zero, List.map_cons, List.map_nil, zipF]
    repeat (first
      | (refine wpT_is (.bool d) rfl (fun ρ w2 hk ⟨c1, c2, c3⟩ ⟨h1, h2, h3, _⟩ => ?_) ?_
         · have h1 : ρ (.tmp 30) = _ := h1
           have h2 : ρ (.tmp 31) = _ := h2
           have h3 : ρ (.tmp 32) = _ := h3
           refine upT_call 16 #[.slice a0 len0 cap0, .agg #[.int .i64 r, .int .i64 s], .int .i64 a2] ?_ ((H4.out w2 (TK.out w2 hk)).mono ?_)
           · go_simp
           rintro e u ⟨rfl, hk2⟩
           exact ⟨_, rfl, hk2, rfl⟩
         dsimp only [putS, List.set_cons_succ, List.set_cons_zero])
      | (refine wpT_has (VotT.mono l) rfl (fun ρ w2 hk ⟨c1, c2, c3⟩ ⟨h1, _⟩ => ?_) ?_
         · have h1 : ρ (.tmp 34) = _ := h1
           refine upT_call 15 #[.slice a0 len0 cap0] ?_ ((H2.out w2 (TK.out w2 hk)).mono ?_)
           · go_simp
           rintro e u ⟨v, rfl, own, hk2⟩
           obtain ⟨A, c, rfl, -, -, -⟩ := own.slice
           exact ⟨_, rfl, hk2, A, c, rfl, own.reads⟩
         dsimp only [putS, List.set_cons_succ, List.set_cons_zero])
      | (refine wpT_is (.bool d) rfl (fun ρ w2 hk ⟨c1, c2, c3⟩ ⟨h1, h2, h3, _⟩ => ?_) ?_
         · obtain ⟨A, c, h1, hr⟩ := h1
           rw [HL.out] at h1
           have h1 : ρ (.tmp 35) = _ := h1
           have h2 : ρ (.tmp 36) = _ := h2
           have h3 : ρ (.tmp 37) = _ := h3
           refine upT_call 17 #[.slice A len0 c, .agg #[.int .i64 r, .int .i64 s], .int .i64 a2] ?_ ((H5.out w2 A c hr).mono ?_)
           · go_simp
           rintro e u ⟨rfl, hk2⟩
           exact ⟨_, rfl, hk2, rfl⟩
         dsimp only [putS, List.set_cons_succ, List.set_cons_zero])
      | (refine wpT_skip rfl ?_; dsimp only [putS, List.set_cons_succ, List.set_cons_zero])
      | (refine wpT_slot (S := .is _) _ (.inl rfl) rfl (Slot.mono_is _) rfl ?_; dsimp only [putS, List.set_cons_succ, List.set_cons_zero])
      | (refine wpT_slot (S := .is _) _ (.inr rfl) rfl (Slot.mono_is _) rfl ?_; dsimp only [putS, List.set_cons_succ, List.set_cons_zero])
      | (refine wpT_exact1 rfl rfl rfl ?_; apply Exists.intro; refine ⟨fun ρ w hk ⟨c1, c2, c3⟩ h1 => ?_, ?_⟩; (· obtain ⟨t1, t2, t3, t4, t5, t6⟩ := T1.out w hk; go_simp; exact rfl); dsimp only [putS, List.set_cons_succ, List.set_cons_zero])
      | (refine wpT_exact2 rfl rfl rfl rfl ?_; apply Exists.intro; refine ⟨fun ρ w hk ⟨c1, c2, c3⟩ h1 h2 => ?_, ?_⟩; (· obtain ⟨t1, t2, t3, t4, t5, t6⟩ := T1.out w hk; go_simp; exact rfl); dsimp only [putS, List.set_cons_succ, List.set_cons_zero])
      | (refine wpT_exact3 rfl rfl rfl rfl rfl ?_; apply Exists.intro; refine ⟨fun ρ w hk ⟨c1, c2, c3⟩ h1 h2 h3 => ?_, ?_⟩; (· obtain ⟨t1, t2, t3, t4, t5, t6⟩ := T1.out w hk; go_simp; exact rfl); dsimp only [putS, List.set_cons_succ, List.set_cons_zero])
      | (refine wpT_exact4 rfl rfl rfl rfl rfl rfl ?_; apply Exists.intro; refine ⟨fun ρ w hk ⟨c1, c2, c3⟩ h1 h2 h3 h4 => ?_, ?_⟩; (· obtain ⟨t1, t2, t3, t4, t5, t6⟩ := T1.out w hk; go_simp; exact rfl); dsimp only [putS, List.set_cons_succ, List.set_cons_zero])
      | (refine wpT_exact0 rfl ?_; apply Exists.intro; refine ⟨fun ρ w hk ⟨c1, c2, c3⟩ => ?_, ?_⟩; (· obtain ⟨t1, t2, t3, t4, t5, t6⟩ := T1.out w hk; go_simp; exact rfl); dsimp only [putS, List.set_cons_succ, List.set_cons_zero])
      | fail)
    refine wpT_nil ?_
    intro wz kz
    simp only [Fits]
    intro y1 _
    refine wpList_end ?_
    go_wp2
    go_ret
    exact ⟨by go_simp, (TK.out wz kz).1⟩
  · have hs' : (200 : Int) < (len0 : Int) := by omega
    clear w0 w1 w2 hl hR hW hn
    go_enter Try.func4, Try.ntmps4
    go_wp2_with fail
    refine (prawake_any _).mono ?_
    rintro e u1 ⟨rfl, k1⟩
    have K1 := Lib.hid (KV.out.trans k1)
    clear k1
    go_wp2
    go_ret
    exact ⟨rfl, K1.out.1⟩
end Go.Proofs.Ytifenlopgpbpbaa
