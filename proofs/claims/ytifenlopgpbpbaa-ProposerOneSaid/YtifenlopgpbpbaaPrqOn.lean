/- The walk of ProposerOne. -/
import Derived.Test.YtifenlopgpbpbaaPrqOb
namespace Go.Proofs.Ytifenlopgpbpbaa
open Go.RowKit Go.Great

set_option maxRecDepth 100000 in
set_option maxHeartbeats 16000000 in
theorem ProposerOne_walk (a0 : List Value) (w : World) (w0 : (fun w cs => cs.length = 4 ∧ IsStruct [(0, 1, (IsInt .u8)), (1, 1, (IsInt .u8)), (2, 1, (IsSlice 1 1 (IsInt .u8))), (3, 1, (IsSlice 5 40 (fun w cs => cs.length = 5 ∧ IsStruct [(0, 1, (IsInt .i64)), (1, 1, (IsInt .i64)), (2, 1, (IsInt .i64)), (3, 1, (IsInt .i64)), (4, 1, IsBool)] w cs)))] w cs : World → List Value → Prop) w a0) :
    Calls Try.prog 5 #[.agg a0.toArray] w fun e w' => e = .returned (.bool true) ∧ Below w.heap.size w w' := by
  obtain ⟨N, ow, VA, vm, vc, v0, LA, ln, lc, l, rfl, hN, hO, hrow, hl, hR, hE⟩ := slotarg_of w0
  clear w0
  obtain ⟨m, hm1, hm2, hm3⟩ : ∃ m : Int, N % 7 = m ∧ N.tmod 7 = m ∧ 0 ≤ m ∧ m < 7 := ⟨N % 7, rfl, Int.tmod_eq_emod_of_nonneg hN.1, Int.emod_nonneg _ (by decide), Int.emod_lt_of_pos _ (by decide)⟩
  obtain ⟨K, hK, hK1⟩ : ∃ K : Int, 1 + m = K ∧ 1 ≤ K ∧ K ≤ 7 := ⟨1 + m, rfl, by omega, by omega⟩
  obtain ⟨r, hr1, hr2, hr3⟩ : ∃ r : Int, ow % K = r ∧ ow.tmod K = r ∧ 0 ≤ r ∧ r < K := ⟨ow % K, rfl, Int.tmod_eq_emod_of_nonneg hO.1, Int.emod_nonneg _ (by omega), Int.emod_lt_of_pos _ (by omega)⟩
  have hK0 : (K == 0) = false := by simp; omega
  have hK00 : ¬ K = 0 := by omega
  have hwm : IntKind.u8.wrap m = m := by simp [IntKind.wrap, IntKind.bits, IntKind.signed] <;> omega
  have hwm2 : IntKind.i64.wrap m = m := by rw [IntKind.wrap_i64]; omega
  have hwK : IntKind.i64.wrap K = K := by rw [IntKind.wrap_i64]; omega
  have hwr : IntKind.i64.wrap r = r := by rw [IntKind.wrap_i64]; omega
  have hwo : IntKind.i64.wrap ow = ow := by rw [IntKind.wrap_i64]; omega
  have HR := Lib.hid hR
  have HL := Lib.hid hl
  have HE := Lib.hid hE
  have HROW := Lib.hid hrow
  have KV : Hid (Kept w (w.alloc (.cells #[.int .u8 N, .int .u8 ow, .slice VA vm vc, .slice LA ln lc] 43))) := Lib.hid ((Kept.refl w).alloc _)
  have PV : Hid ((w.alloc (.cells #[.int .u8 N, .int .u8 ow, .slice VA vm vc, .slice LA ln lc] 43)).heap[w.heap.size]? = some (.cells #[.int .u8 N, .int .u8 ow, .slice VA vm vc, .slice LA ln lc] 43 (0, 0))) := Lib.hid (push_new w _)
  have HINV : Hid (Inv v0 ⟨K, List.replicate 7 Ac.zero, [⟨0, r, [], true, v0, []⟩]⟩) := Lib.hid (Inv.begun hK1.1 hK1.2 hr3.1)
  clear hR hl hE hrow
  go_enter Try.func5, Try.ntmps5
  go_wp2_with fail
  refine (prawake_any _).mono ?_
  rintro e v ⟨rfl, k1⟩
  have KV2 := Lib.hid (KV.out.trans k1)
  have PV2 := Lib.hid ((k1.1.block _ (heap_lt PV.out)).trans PV.out)
  have b0 := cell_of_heap PV2.out 0
  have b1 := cell_of_heap PV2.out 1
  have b2 := cell_of_heap PV2.out 2
  have b3 := cell_of_heap PV2.out 3
  simp only [List.getElem?_toArray, List.getElem?_cons_zero, List.getElem?_cons_succ] at b0 b1 b2 b3
  clear k1 KV PV
  go_wp2_with fail
  have T1 : Hid (∀ W', Kept v.drew W' → W'.cell? ⟨w.heap.size, 0, none⟩ = some (.int .u8 N) ∧ W'.cell? ⟨w.heap.size, 1, none⟩ = some (.int .u8 ow) ∧ W'.cell? ⟨w.heap.size, 2, none⟩ = some (.slice VA vm vc)) := Lib.hid (fun W' h => by
    have k' : Kept v W' := (Kept.refl _).drew.trans h
    have hp := (k'.1.block _ (heap_lt PV2.out)).trans PV2.out
    exact ⟨cell_of_heap hp 0, cell_of_heap hp 1, cell_of_heap hp 2⟩)
  have TC : Hid (∀ W', Kept v.drew W' → Calls Try.prog 18 #[.int .i64 K, .int .i64 r, .slice VA vm vc] W' fun e w' => ∃ u, e = .returned u ∧ Kept W' w' ∧ BegT v.heap.size K r v0 u w') := Lib.hid (fun W' h => by
    have k' : Kept w W' := KV2.out.trans ((Kept.refl _).drew.trans h)
    refine (begun_any K r (HROW.out.below k'.1)).mono ?_
    rintro e u ⟨u', rfl, hk2, b, VA', vn, vc', e1, h1, h2, h3⟩
    exact ⟨u', rfl, hk2, b, VA', vn, vc', e1, h1.base h.2, h2, h3⟩)
  refine wp_region_typed (N := 10) (fl := []) (by kernel_rfl) (by kernel_rfl) ?_
  simp only [List.take_succ_cons, List.take_zero, List.drop_succ_cons, List.drop_zero, List.map_cons, List.map_nil, zipF]
  repeat (first
    | (refine wpT_has (BegT.mono v.heap.size K r v0) rfl (fun ρ w hk ⟨c1, c2, c3⟩ ⟨h1, h2, h3, _⟩ => ?_) ?_
       · have h1 : ρ (.tmp 17) = _ := h1
         have h2 : ρ (.tmp 22) = _ := h2
         have h3 : ρ (.tmp 24) = _ := h3
         refine upT_call 18 #[.int .i64 K, .int .i64 r, .slice VA vm vc] ?_ ((TC.out w hk).mono ?_)
         · go_simp
         · rintro e u ⟨u', rfl, hk2, ht⟩
           exact ⟨_, rfl, hk2, ht⟩
       dsimp only [putS, List.set_cons_succ, List.set_cons_zero])
    | (refine wpT_skip rfl ?_; dsimp only [putS, List.set_cons_succ, List.set_cons_zero])
    | (refine wpT_slot (S := .is _) _ (.inl rfl) rfl (Slot.mono_is _) rfl ?_; dsimp only [putS, List.set_cons_succ, List.set_cons_zero])
    | (refine wpT_slot (S := .is _) _ (.inr rfl) rfl (Slot.mono_is _) rfl ?_; dsimp only [putS, List.set_cons_succ, List.set_cons_zero])
    | (refine wpT_exact1 rfl rfl rfl ?_; apply Exists.intro; refine ⟨fun ρ w hk ⟨c1, c2, c3⟩ h1 => ?_, ?_⟩; (· obtain ⟨t1, t2, t3⟩ := T1.out w hk; go_simp; exact rfl); dsimp only [putS, List.set_cons_succ, List.set_cons_zero])
    | (refine wpT_exact2 rfl rfl rfl rfl ?_; apply Exists.intro; refine ⟨fun ρ w hk ⟨c1, c2, c3⟩ h1 h2 => ?_, ?_⟩; (· obtain ⟨t1, t2, t3⟩ := T1.out w hk; go_simp; exact rfl); dsimp only [putS, List.set_cons_succ, List.set_cons_zero])
    | (refine wpT_exact3 rfl rfl rfl rfl rfl ?_; apply Exists.intro; refine ⟨fun ρ w hk ⟨c1, c2, c3⟩ h1 h2 h3 => ?_, ?_⟩; (· obtain ⟨t1, t2, t3⟩ := T1.out w hk; go_simp; exact rfl); dsimp only [putS, List.set_cons_succ, List.set_cons_zero])
    | (refine wpT_exact4 rfl rfl rfl rfl rfl rfl ?_; apply Exists.intro; refine ⟨fun ρ w hk ⟨c1, c2, c3⟩ h1 h2 h3 h4 => ?_, ?_⟩; (· obtain ⟨t1, t2, t3⟩ := T1.out w hk; go_simp; exact rfl); dsimp only [putS, List.set_cons_succ, List.set_cons_zero])
    | (refine wpT_exact0 rfl ?_; apply Exists.intro; refine ⟨fun ρ w hk ⟨c1, c2, c3⟩ => ?_, ?_⟩; (· obtain ⟨t1, t2, t3⟩ := T1.out w hk; go_simp; exact rfl); dsimp only [putS, List.set_cons_succ, List.set_cons_zero])
    | (refine wpT_has (PtrN.mono v.heap.size 49 (begA 0 none 0 0)) rfl (fun ρ w hk ⟨c1, c2, c3⟩ (_ : True) => upT_made (.pointer (some ⟨w.heap.size, 0, none⟩)) (w' := w.alloc (.cells (begA 0 none 0 0) 49)) ?_ ((Kept.refl w).alloc _) ⟨_, rfl, hk.2, push_new w _⟩) ?_; (· kernel_rfl); dsimp only [putS, List.set_cons_succ, List.set_cons_zero])
    | fail)
  refine wpT_nil ?_
  intro wz kz
  simp only [Fits]
  rintro u6 ⟨z, rfl, hz, hvz⟩ u25 ⟨b, VA', vn', vc', rfl, hown, hvn, hrow⟩
  have kz' : Kept v wz := (Kept.refl _).drew.trans kz
  refine wpList_store_rowTo rfl 49 _ _ rfl rfl z (begA K (some ⟨b, 0, none⟩) 1 1) (by kernel_rfl) (by kernel_rfl) 49 (begA 0 none 0 0) hvz (by kernel_rfl) (by kernel_rfl) (by kernel_rfl) ?_
  refine wpList_end ?_
  have S0 := Lib.hid (begun_slot (n := K) kz' hz hvz hown hvn hrow)
  clear kz kz' hvz hown hvn hrow T1 TC b0 b1 b2 b3
  generalize wz.setRow z (begA K (some ⟨b, 0, none⟩) 1 1) = W0 at *
  clear hm1 hm2 hK hr1 hr2 hK0 hK00 hwm hwm2 hwK hwr hwo
  go_wp2_with fail
  obtain ⟨s0, hs0⟩ : ∃ s0, s0 = (⟨K, List.replicate 7 Ac.zero, [⟨0, r, [], true, v0, []⟩]⟩ : Sl) := ⟨_, rfl⟩
  rw [← hs0] at S0 HINV
  have HF0 : Hid (Few 1 s0) := Lib.hid (by rw [hs0]; exact few_begun _ _ _)
  clear hs0
  go_loopw [7] (fun i wr => ∃ (k : Nat) (Wr : World), Wr = wr ∧ k ≤ ln ∧ k ≤ 200 ∧ i = .int .i64 k ∧ SlW v Wr z (runS s0 (l.take k))) (fun i _ => ln - (intOf i).toNat)
  case atStart => exact ⟨0, _, rfl, Nat.zero_le _, Nat.zero_le _, rfl, S0.out⟩
  case round =>
    obtain ⟨k, Wr, rfl, hk, hk2, rfl, hst⟩ := hrel
    have HST := Lib.hid hst
    have hkw : Kept v Wr := by obtain ⟨sl, rl, R, rc, M, H⟩ := hst; exact M.kept
    have HKW := Lib.hid hkw
    clear hst hkw
    by_cases hc : k < ln ∧ k < 200
    · obtain ⟨hlt, h200⟩ := hc
      have hkl : k < l.length := by rw [HL.out]; exact hlt
      obtain ⟨lb, lo, rfl, -, c0, c1, c2, c3, c4⟩ := EE_five (HR.out.kept (KV2.out.trans HKW.out)) hkl
      have HSN : Hid (runS s0 (l.take (k + 1)) = playS (runS s0 (l.take k)) l[k]) := Lib.hid (by rw [List.take_succ_eq_append_getElem hkl, runS_snoc])
      have HIK := Lib.hid (HINV.out.run (l.take k))
      have HFK : Hid (Few 1000 (runS s0 (l.take k))) := Lib.hid ((HF0.out.run (l.take k)).mono (by rw [List.length_take]; omega))
      have HFK1 : Hid (Few 1000 (runS s0 (l.take (k + 1)))) := Lib.hid ((HF0.out.run (l.take (k + 1))).mono (by rw [List.length_take]; omega))
      have HEK := Lib.hid (HE.out l[k] (List.getElem_mem hkl))
      generalize l[k] = ev at *
      have HP := Lib.hid (play_any HST.out HIK.out HFK.out ev HEK.out)
      have HI1 := Lib.hid (HIK.out.play ev)
      rw [HSN.out] at HFK1
      generalize runS s0 (l.take k) = sk at *
      obtain ⟨ki, p, kk, ai, lost⟩ := ev
      simp only at c0 c1 c2 c3 c4 HP
      go_wp2_with fail
      refine HP.out.mono ?_
      rintro e W1 ⟨rfl, hw1⟩
      have HW1 := Lib.hid hw1
      clear hw1 c0 c1 c2 c3 c4
      go_wp2_with fail
      refine (one_any HW1.out HI1.out HFK1.out).mono ?_
      rintro e W2 ⟨rfl, k2⟩
      have HW2 := Lib.hid (HW1.out.grow k2)
      clear k2
      go_wp2
      go_roundw
      case rel => exact ⟨k + 1, _, rfl, by omega, by omega, by go_num, by rw [HSN.out]; exact HW2.out⟩
      case measure => simp [intOf]; omega
    · have hex : k < ln ∧ ¬ k < 200 ∨ k = ln := by omega
      clear hc
      rcases hex with ⟨hlt, h200⟩ | rfl
      all_goals
        go_wp2
        go_ret
        exact ⟨rfl, (KV2.out.trans HKW.out).1⟩
end Go.Proofs.Ytifenlopgpbpbaa
