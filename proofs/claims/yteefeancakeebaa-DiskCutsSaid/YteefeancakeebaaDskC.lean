/- The walk of DiskCuts. -/
import Derived.Test.YteefeancakeebaaDskK
import Derived.Test.YteefeancakeebaaTypedB
namespace Go.Proofs.Yteefeancakeebaa
open Go.RowKit

set_option maxRecDepth 100000 in
set_option maxHeartbeats 4000000 in
theorem DiskCuts_walk (a0 : Option Addr) (len0 cap0 : Nat) (a1 : Int) (w : World) (w0 : SliceAt 1 1 (IsInt .u8) w a0 len0 cap0) (w1 : (Lit.int .u16 a1).wf = true) :
    Calls Try.prog 6 #[.slice a0 len0 cap0, .int .u16 a1] w fun e w' => e = .returned (.bool true) ∧ Below w.heap.size w w' := by
  obtain ⟨xs, r0⟩ := Row.of w0
  have hl0 : len0 ≤ 140737488351232 := by have := w0.2.2.1; omega
  have hb1 := bounds_u16 w1
  have R0 := Lib.hid r0
  clear r0 w0 w1
  go_enter Try.func6, Try.ntmps6
  go_wp2_with fail
  refine (awake_any _).mono ?_
  rintro e v ⟨rfl, h1⟩
  have k1 : Kept w v := (Kept.refl w).call h1
  have R0' := Lib.hid (R0.out.below h1)
  clear h1 R0
  go_wp2_with fail
  refine (new_any _).mono ?_
  rintro e u ⟨rfl, rfl⟩
  have d2 := Dk.new v v.heap.size (Nat.le_refl _)
  have k2 : Kept v _ := (Kept.refl v).alloc (.cells #[.slice none 0 0, .int .i64 0] 50)
  generalize v.alloc (.cells #[.slice none 0 0, .int .i64 0] 50) = u2 at *
  by_cases hbig : 100000 < len0
  · go_wp2
    go_ret
    exact ⟨rfl, (k1.trans k2).1⟩
  have hg1 : ¬ ((100000 : Int) < (len0 : Int)) := by omega
  obtain ⟨k, hk⟩ := Int.eq_ofNat_of_zero_le (Int.emod_nonneg a1 (show (len0 : Int) + 1 ≠ 0 by omega))
  have hkl : k ≤ len0 := by
    have := Int.emod_lt_of_pos a1 (show (0 : Int) < (len0 : Int) + 1 by omega)
    omega
  have HB := Lib.hid hbig
  have K1 := Lib.hid k1
  clear hbig k1
  go_wp2_with fail
  refine (append_ok d2 (R0'.out.below k2.1).bts R0'.out.nil (by have := HB.out; simp; omega)).mono ?_
  rintro e u3 ⟨rfl, h3⟩
  have k3 := h3.kept k2 (Nat.le_refl _)
  have d3 := h3.1
  rw [List.nil_append] at d3
  clear h3 k2 d2
  go_wp2_with fail
  refine (sync_any d3).mono ?_
  rintro e u4 ⟨rfl, h4⟩
  have k4 := h4.kept k3 (Nat.le_refl _)
  have d4 := h4.1
  clear h4 k3 d3
  go_wp2_with fail
  refine (cut_ok d4 k (by rw [R0'.out.len]; exact hkl)).mono ?_
  rintro e u5 ⟨rfl, h5⟩
  have k5 := h5.kept k4 (Nat.le_refl _)
  have d5 := h5.1
  rw [R0'.out.len, Nat.min_eq_right hkl] at d5
  clear h5 k4 d4
  go_wp2_with fail
  have htl : (xs.take k).length = k := by rw [List.length_take, R0'.out.len]; omega
  refine (bytes_any d5).mono ?_
  rintro e u6 ⟨y, rfl, own, h6⟩
  obtain ⟨A6, c6, rfl, r6⟩ := own.row (by rw [htl]; omega) (fun c hc => R0'.out.bts.2.2.1 c (List.mem_of_mem_take hc))
  have f6 := Far.new d5 h6 own.block_ge
  rw [htl] at r6 f6 ⊢
  have d6 := d5.below h6
  have k6 := k5.call h6
  clear own h6 d5 k5
  have D6 := Lib.hid d6
  go_wp2_with fail
  refine (synced_any D6.out).mono ?_
  rintro e u ⟨rfl, rfl⟩
  obtain ⟨AT, hat, rt⟩ := (R0'.out.below k6.1).tail hkl
  have HT := Lib.hid rt
  clear rt D6
  go_wp2_with fail
  refine (append_ok d6 HT.out.bts HT.out.nil (by rw [htl]; omega)).mono ?_
  rintro e u7 ⟨rfl, h7⟩
  have D7 := Lib.hid h7.1
  rw [List.take_append_drop] at D7
  have K7 := Lib.hid (h7.kept k6 (Nat.le_refl _))
  have R7 := Lib.hid (h7.row r6 f6).1
  clear h7 r6 f6 d6 k6 hat HT
  go_wp2_with fail
  refine (cut_bad D7.out _ (.inr (by rw [R0'.out.len]; omega))).mono ?_
  rintro e u ⟨rfl, rfl⟩
  have T1 := Lib.hid fun (W : World) (k : Kept u.drew W) => (R7.out.below ((Kept.refl u).drew.trans k).1).text
  have T2 := Lib.hid fun (W : World) (h : Kept u.drew W) => ((R0'.out.below K7.out.1).below ((Kept.refl u).drew.trans h).1).text
  have T3 := Lib.hid fun (W : World) (h : Kept u.drew W) => (((R0'.out.cut hkl).below K7.out.1).below ((Kept.refl u).drew.trans h).1).text
  have hs := fun W => run_head a0 len0 cap0 k (by have := R0'.out.room; omega) W
  have TB := Lib.hid fun (W : World) (k : Kept u.drew W) => bytes_any (D7.out.below ((Kept.refl u).drew.trans k).1)
  have TS := Lib.hid fun (W : World) (k : Kept u.drew W) => synced_any (D7.out.below ((Kept.refl u).drew.trans k).1)
  have HX := Lib.hid R0'.out.len
  have HBY := Lib.hid R0'.out.bts.2.2.1
  have hll : len0 ≤ 140737505132544 := by omega
  clear htl
  go_wp2_with fail
  refine wp_region_typed (N := 42) (fl := []) (by kernel_rfl) (by kernel_rfl) ?_
  simp only [List.take_succ_cons, List.take_zero, List.drop_succ_cons, List.drop_zero, List.map_cons, List.map_nil, zipF]
  repeat (first
    | (refine wpT_text rfl rfl rfl ?_; dsimp only [putS, List.set_cons_succ, List.set_cons_zero])
    | (refine wpT_len rfl rfl rfl ?_; dsimp only [putS, List.set_cons_succ, List.set_cons_zero])
    | (refine wpT_slot (S := .has _) _ (.inl rfl) rfl (RowT.mono _ _) rfl ?_; dsimp only [putS, List.set_cons_succ, List.set_cons_zero])
    | (refine wpT_skip rfl ?_; dsimp only [putS, List.set_cons_succ, List.set_cons_zero])
    | (refine wpT_slot (S := .is _) _ (.inl rfl) rfl (Slot.mono_is _) rfl ?_; dsimp only [putS, List.set_cons_succ, List.set_cons_zero])
    | (refine wpT_slot (S := .is _) _ (.inr rfl) rfl (Slot.mono_is _) rfl ?_; dsimp only [putS, List.set_cons_succ, List.set_cons_zero])
    | (refine wpT_exact1 rfl rfl rfl ?_; apply Exists.intro; refine ⟨fun ρ w hk ⟨c1, c2, c3⟩ h1 => ?_, ?_⟩; (· have t1 := T1.out w hk; have t2 := T2.out w hk; have t3 := T3.out w hk; go_simp; exact rfl); dsimp only [putS, List.set_cons_succ, List.set_cons_zero])
    | (refine wpT_exact2 rfl rfl rfl rfl ?_; apply Exists.intro; refine ⟨fun ρ w hk ⟨c1, c2, c3⟩ h1 h2 => ?_, ?_⟩; (· have t1 := T1.out w hk; have t2 := T2.out w hk; have t3 := T3.out w hk; go_simp; exact rfl); dsimp only [putS, List.set_cons_succ, List.set_cons_zero])
    | (refine wpT_exact3 rfl rfl rfl rfl rfl ?_; apply Exists.intro; refine ⟨fun ρ w hk ⟨c1, c2, c3⟩ h1 h2 h3 => ?_, ?_⟩; (· have t1 := T1.out w hk; have t2 := T2.out w hk; have t3 := T3.out w hk; go_simp; exact rfl); dsimp only [putS, List.set_cons_succ, List.set_cons_zero])
    | (refine wpT_exact0 rfl ?_; apply Exists.intro; refine ⟨fun ρ w hk ⟨c1, c2, c3⟩ => ?_, ?_⟩; (· have t1 := T1.out w hk; have t2 := T2.out w hk; have t3 := T3.out w hk; go_simp; exact rfl); dsimp only [putS, List.set_cons_succ, List.set_cons_zero])
    | (refine wpT_has (RowT.mono len0 xs) rfl (fun ρ w hk ⟨c1, c2, c3⟩ ⟨h1, _⟩ => ?_) ?_
       · have h1 : ρ (.tmp 83) = _ := h1
         refine upT_call 17 #[.pointer (some ⟨v.heap.size, 0, none⟩)] (by go_simp) ((TB.out w hk).mono ?_)
         rintro e u ⟨y, rfl, own, hb⟩
         exact ⟨_, rfl, ⟨hb, hb.size⟩, own.rowT HX.out hll HBY.out⟩
       dsimp only [putS, List.set_cons_succ, List.set_cons_zero])
    | (refine wpT_is (.int .i64 (k : Int)) rfl (fun ρ w hk ⟨c1, c2, c3⟩ ⟨h1, _⟩ => ?_) ?_
       · have h1 : ρ (.tmp 91) = _ := h1
         refine upT_call 18 #[.pointer (some ⟨v.heap.size, 0, none⟩)] (by go_simp) ((TS.out w hk).mono ?_)
         rintro e u ⟨rfl, rfl⟩
         exact ⟨_, rfl, Kept.refl _, rfl⟩
       dsimp only [putS, List.set_cons_succ, List.set_cons_zero]))
  refine wpT_nil ?_
  intro wz kz
  simp only [Fits]
  intro y _
  refine wpList_end ?_
  go_wp2
  go_ret
  exact ⟨rfl, ((K1.out.trans K7.out).drew.trans kz).1⟩
end Go.Proofs.Yteefeancakeebaa
