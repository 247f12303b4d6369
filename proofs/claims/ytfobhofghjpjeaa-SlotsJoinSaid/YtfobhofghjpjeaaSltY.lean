/- The walk of SlotsJoin. -/
import Derived.Test.YtfobhofghjpjeaaSltT
import Derived.Test.YtfobhofghjpjeaaSltF
import Derived.Test.YtfobhofghjpjeaaFill
namespace Go.Proofs.Ytfobhofghjpjeaa
open Go.RowKit

set_option maxRecDepth 100000 in
set_option maxHeartbeats 4000000 in
theorem SlotsJoin_walk (a0 : List Value) (a1 : Int) (w : World) (w0 : (fun w cs => cs.length = 4 ∧ IsStruct [(0, 1, (IsInt .i64)), (1, 1, (IsInt .i64)), (2, 1, (IsInt .i64)), (3, 1, (IsInt .i64))] w cs : World → List Value → Prop) w a0) (_ : (Lit.int .i64 a1).wf = true) :
    Calls Try.prog 7 #[.agg a0.toArray, .int .i64 a1] w fun e w' => e = .returned (.bool true) ∧ Below w.heap.size w w' := by
  obtain ⟨s, lo, hi, n, rfl, -, -⟩ := four_of w0
  clear w0
  by_cases hlh : hi < lo
  · have h7 := Lib.hid (count_any s lo hi n)
    rw [own_none (by omega)] at h7
    obtain ⟨K, hK⟩ : ∃ K, K = max (min a1 hi) lo := ⟨_, rfl⟩
    have hK2 : K = lo := by omega
    go_enter Try.func7, Try.ntmps7
    go_wp2_with fail
    refine (awake_any _).mono ?_
    rintro e u1 ⟨rfl, b1⟩
    have k1 := (Kept.refl _).call b1
    have P1 : Hid (Fr u1 w.heap.size s lo hi n) := Lib.hid (Fr.kept (push_new w _) k1)
    have K1 := Lib.hid (((Kept.refl w).alloc _).call b1)
    obtain ⟨c0, c1, c2, c3⟩ := P1.out.cells
    clear b1 k1 hK hK2
    go_wp2_with fail
    all_goals
      refine (h7.out _).mono ?_
      rintro e u2 ⟨rfl, b2⟩
      have K2 := Lib.hid (K1.out.call b2)
      clear b2 c0 c1 c2 c3
      simp only [List.length_nil]
      go_wp2
      go_ret
      exact ⟨rfl, K2.out.1⟩
  · have hlo : lo ≤ hi := by omega
    obtain ⟨K, hK⟩ : ∃ K, K = max (min a1 hi) lo := ⟨_, rfl⟩
    have hK1 : lo ≤ K ∧ K ≤ hi := by omega
    have h5 := Lib.hid (own_any s lo K n)
    have h6 := Lib.hid (own_any s K hi n)
    have h7 := Lib.hid (own_any s lo hi n)
    rw [← own_join hK1.1 hK1.2] at h7
    have l1 := ownL_len s lo K n
    have l2 := ownL_len s K hi n
    generalize ownL s lo K n = La at *
    generalize ownL s K hi n = Lb at *
    have HA := Lib.hid l1
    have HB := Lib.hid l2
    obtain ⟨m, hm⟩ : ∃ m, (La ++ Lb).length = m := ⟨_, rfl⟩
    have HM := Lib.hid hm
    have hml : m ≤ 8192 := by rw [← hm, List.length_append]; omega
    clear hm l1 l2
    have ways : hi < a1 ∧ K = hi ∨ a1 ≤ hi ∧ (a1 < lo ∧ K = lo ∨ lo ≤ a1 ∧ K = a1) := by omega
    clear hK hK1
    rcases ways with ⟨q1, rfl⟩ | ⟨q1, ⟨q2, rfl⟩ | ⟨q2, rfl⟩⟩
    all_goals
      go_enter Try.func7, Try.ntmps7
      go_wp2_with fail
      refine (awake_any _).mono ?_
      rintro e u1 ⟨rfl, b1⟩
      have k1 := (Kept.refl _).call b1
      have P1 : Hid (Fr u1 w.heap.size s _ _ n) := Lib.hid (Fr.kept (push_new w _) k1)
      have K1 := Lib.hid (((Kept.refl w).alloc _).call b1)
      obtain ⟨c0, c1, c2, c3⟩ := P1.out.cells
      clear b1 k1
      go_wp2_with fail
      refine (h5.out _).mono ?_
      rintro e u2 ⟨va, rfl, owna, b2⟩
      have k2 := (Kept.refl _).call b2
      have P2 := Lib.hid (P1.out.kept k2)
      have K2 := Lib.hid (K1.out.call b2)
      obtain ⟨Aa, ca, rfl, -, -, nila, -⟩ := owna.slice
      have ZA := Lib.hid owna.zs
      obtain ⟨na, hna⟩ : ∃ na, La.length = na := ⟨_, rfl⟩
      rw [hna] at ZA ⊢
      obtain ⟨d0, d1, d2, d3⟩ := P2.out.cells
      have hna' : na ≤ 4096 := by rw [← hna]; exact HA.out
      have HNA := Lib.hid hna
      clear b2 k2 owna c0 c1 c2 c3 hna
      go_wp2_with fail
      refine (h6.out _).mono ?_
      rintro e u3 ⟨vb, rfl, ownb, b3⟩
      have k3 := (Kept.refl _).call b3
      have P3 := Lib.hid (P2.out.kept k3)
      have K3 := Lib.hid (K2.out.call b3)
      have ZA3 := Lib.hid (ZA.out.kept k3)
      obtain ⟨Ab, cb, rfl, -, -, nilb, -⟩ := ownb.slice
      have ZB := Lib.hid ownb.zs
      obtain ⟨nb, hnb⟩ : ∃ nb, Lb.length = nb := ⟨_, rfl⟩
      rw [hnb] at ZB ⊢
      have hnb' : nb ≤ 4096 := by rw [← hnb]; exact HB.out
      have HNB := Lib.hid hnb
      clear b3 k3 ownb d0 d1 d2 d3 hnb
      have T1 := Lib.hid (fun (W : World) (k : Kept u3.drew W) => (P3.out.kept ((Kept.refl u3).drew.trans k)).cells)
      have TA : Hid (∀ W, Kept u3.drew W → Zs W Aa na La) := Lib.hid (fun W k => ZA3.out.kept ((Kept.refl u3).drew.trans k))
      have TB : Hid (∀ W, Kept u3.drew W → Zs W Ab nb Lb) := Lib.hid (fun W k => ZB.out.kept ((Kept.refl u3).drew.trans k))
      have NA := Lib.hid nila
      have NB := Lib.hid nilb
      clear nila nilb
      go_wp2_with fail
      letI G : Grow := fillGrow u3.drew.heap.size (La.map fun n : Int => Value.int .i64 n) (Lb.map fun n : Int => Value.int .i64 n)
      refine wp_region_typed (N := 19) (fl := []) (by kernel_rfl) (by kernel_rfl) ?_
      simp only [List.take_succ_cons, List.take_zero, List.drop_succ_cons, List.drop_zero, List.map_cons, List.map_nil, zipF]
      repeat (first
        | (refine wpT_skip rfl ?_; dsimp only [putS, List.set_cons_succ, List.set_cons_zero])
        | (refine wpT_slot (S := .is _) _ (.inl rfl) rfl (Slot.mono_is _) rfl ?_; dsimp only [putS, List.set_cons_succ, List.set_cons_zero])
        | (refine wpT_slot (S := .is _) _ (.inr rfl) rfl (Slot.mono_is _) rfl ?_; dsimp only [putS, List.set_cons_succ, List.set_cons_zero])
        | (refine wpT_exact1 rfl rfl rfl ?_; apply Exists.intro; refine ⟨fun ρ w hk ⟨c1, c2, c3⟩ h1 => ?_, ?_⟩; (· obtain ⟨t1, t2, t3, t4⟩ := T1.out w (Fill.kept hk); go_simp; exact rfl); dsimp only [putS, List.set_cons_succ, List.set_cons_zero])
        | (refine wpT_exact2 rfl rfl rfl rfl ?_; apply Exists.intro; refine ⟨fun ρ w hk ⟨c1, c2, c3⟩ h1 h2 => ?_, ?_⟩; (· obtain ⟨t1, t2, t3, t4⟩ := T1.out w (Fill.kept hk); go_simp; exact rfl); dsimp only [putS, List.set_cons_succ, List.set_cons_zero])
        | (refine wpT_exact3 rfl rfl rfl rfl rfl ?_; apply Exists.intro; refine ⟨fun ρ w hk ⟨c1, c2, c3⟩ h1 h2 h3 => ?_, ?_⟩; (· obtain ⟨t1, t2, t3, t4⟩ := T1.out w (Fill.kept hk); go_simp; exact rfl); dsimp only [putS, List.set_cons_succ, List.set_cons_zero])
        | (refine wpT_exact4 rfl rfl rfl rfl rfl rfl ?_; apply Exists.intro; refine ⟨fun ρ w hk ⟨c1, c2, c3⟩ h1 h2 h3 h4 => ?_, ?_⟩; (· obtain ⟨t1, t2, t3, t4⟩ := T1.out w (Fill.kept hk); go_simp; exact rfl); dsimp only [putS, List.set_cons_succ, List.set_cons_zero])
        | (refine wpT_exact0 rfl ?_; apply Exists.intro; refine ⟨fun ρ w hk ⟨c1, c2, c3⟩ => ?_, ?_⟩; (· obtain ⟨t1, t2, t3, t4⟩ := T1.out w (Fill.kept hk); go_simp; exact rfl); dsimp only [putS, List.set_cons_succ, List.set_cons_zero])
        | (refine wpT_has (EmptyZ.mono u3.drew.heap.size _ _) rfl (fun ρ w hk ⟨c1, c2, c3⟩ _ => upT_made (.slice (some ⟨w.heap.size, 0, none⟩) 0 0) (w' := w.alloc (.cells #[] 3)) ?_ (((Kept.refl w).alloc _).fill) ⟨_, Fill.size hk, rfl, push_new w _⟩) ?_; (· go_simp); dsimp only [putS, List.set_cons_succ, List.set_cons_zero])
        | (refine wpT_has (OwnF.mono La (.inl (by simp))) rfl (fun ρ w hk ⟨c1, c2, c3⟩ ⟨h11, h12, _⟩ => ?_) ?_
           · obtain ⟨g, hg0, e1, hg⟩ : EmptyZ u3.drew.heap.size (ρ (.tmp 53)) w := h11
             have e2 : ρ (.tmp 54) = .slice Aa na ca := h12
             have own0 : OwnZ w u3.drew.heap.size (.slice (some ⟨g, 0, none⟩) 0 0) [] := ⟨rfl, .inr ⟨g, 0, #[], rfl, hg0, hg, Nat.le_refl _, by decide, rfl, rfl⟩⟩
             obtain ⟨v', w', hr, ho, hf⟩ := run_append_fill 25 own0 (TA.out w (Fill.kept hk)) NA.out (by simp; omega) (Fill.size hk)
             refine upT_made v' (exec_appendZ rfl e1 e2 hr) ?_ (by rw [List.nil_append] at ho; exact ho)
             rcases hf with hf | ⟨g', cap, cur, e, _, _, hn, hc, _⟩
             · exact hf.fill
             · injection e with _ _ e
               rw [← e, List.length_nil] at hc
               omega
           dsimp only [putS, List.set_cons_succ, List.set_cons_zero])
        | (refine wpT_has (OwnF.mono (La ++ Lb) (.inr (by simp))) rfl (fun ρ w hk ⟨c1, c2, c3⟩ ⟨h11, h12, _⟩ => ?_) ?_
           · have e1 : OwnZ w u3.drew.heap.size (ρ (.tmp 55)) La := h11
             have e2 : ρ (.tmp 56) = .slice Ab nb cb := h12
             obtain ⟨v', w', hr, ho, hf⟩ := run_append_fill 25 e1 (TB.out w (Fill.kept hk)) NB.out (by rw [HNA.out]; omega) (Fill.size hk)
             exact upT_made v' (exec_appendZ rfl rfl e2 hr) (fill_of HNB.out hf) ho
           dsimp only [putS, List.set_cons_succ, List.set_cons_zero])
        | (refine wpT_has (OwnF.mono (La ++ Lb) (.inr (by simp))) rfl (fun ρ w hk ⟨c1, c2, c3⟩ ⟨h11, h12, h13, h14, _⟩ => ?_) ?_
           · have e1 : ρ (.tmp 59) = _ := h11
             have e2 : ρ (.tmp 61) = _ := h12
             have e3 : ρ (.tmp 63) = _ := h13
             have e4 : ρ (.tmp 65) = _ := h14
             refine upT_call 16 _ (by go_simp) ((h7.out w).mono ?_)
             rintro e u ⟨y, rfl, own, hb⟩
             exact ⟨_, rfl, ((Kept.refl _).call hb).fill, own.base (Fill.size hk)⟩
           dsimp only [putS, List.set_cons_succ, List.set_cons_zero])
        | (refine wpT_is (.bool true) rfl (fun ρ w hk ⟨c1, c2, c3⟩ ⟨h11, h12, _⟩ => ?_) ?_
           · obtain ⟨A1, r1, e1, -, -, -, -⟩ := OwnZ.slice (show OwnZ w u3.drew.heap.size (ρ (.tmp 57)) (La ++ Lb) from h11)
             obtain ⟨A2, r2, e2, -, -, -, -⟩ := OwnZ.slice (show OwnZ w u3.drew.heap.size (ρ (.tmp 66)) (La ++ Lb) from h12)
             have z1 : OwnZ w u3.drew.heap.size (ρ (.tmp 57)) (La ++ Lb) := h11
             have z2 : OwnZ w u3.drew.heap.size (ρ (.tmp 66)) (La ++ Lb) := h12
             rw [e1] at z1
             rw [e2] at z2
             have y1 := z1.zs
             have y2 := z2.zs
             rw [HM.out] at e1 e2 y1 y2
             refine upT_call 15 _ (by go_simp) ((same_true (ca := r1) (cb := r2) y1 y2 (by omega)).mono ?_)
             rintro e u ⟨rfl, hb⟩
             exact ⟨_, rfl, ((Kept.refl _).call hb).fill, rfl⟩
           dsimp only [putS, List.set_cons_succ, List.set_cons_zero])
        | fail)
      refine wpT_nil ?_
      intro wz kz
      simp only [Fits]
      intro y1 _ y2 _ y3 _ y4 _
      refine wpList_end ?_
      go_wp2
      go_ret
      exact ⟨by go_simp, (K3.out.trans ((Kept.refl u3).drew.trans (Fill.kept kz))).1⟩
end Go.Proofs.Ytfobhofghjpjeaa
