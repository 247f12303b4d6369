/- The walk of DiskLoses. -/
import Derived.Test.YteefeancakeebaaDskK
import Derived.Test.YteefeancakeebaaTypedB
import Derived.Deep.CutRange
import Derived.Deep.DeepCutAuto
namespace Go.Proofs.Yteefeancakeebaa
open Go.RowKit

theorem kept_le (keep : Int) (n : Nat) : kept keep n ≤ n := Nat.min_le_right _ _
theorem take_more {xs ys : List Nat} (m : Nat) : (xs ++ ys).take (xs.length + m) = xs ++ ys.take m := by rw [List.take_length_add_append]

set_option maxHeartbeats 4000000 in
theorem DiskLoses_walk (a0 : Option Addr) (len0 cap0 : Nat) (a1 : Option Addr) (len1 cap1 : Nat) (a2 : Int) (w : World) (w0 : SliceAt 1 1 (IsInt .u8) w a0 len0 cap0) (w1 : SliceAt 1 1 (IsInt .u8) w a1 len1 cap1) (_ : (Lit.int .i64 a2).wf = true) :
    Calls Try.prog 5 #[.slice a0 len0 cap0, .slice a1 len1 cap1, .int .i64 a2] w fun e w' => e = .returned (.bool true) ∧ Below w.heap.size w w' := by
  obtain ⟨xs, r0⟩ := Row.of w0
  obtain ⟨ys, r1⟩ := Row.of w1
  have hl0 : len0 ≤ 140737488351232 := by have := w0.2.2.1; omega
  have hl1 : len1 ≤ 140737488351232 := by have := w1.2.2.1; omega
  have R0 := Lib.hid r0
  have R1 := Lib.hid r1
  clear r0 r1 w0 w1
  go_enter Try.func5, Try.ntmps5
  go_wp2_with fail
  refine (awake_any _).mono ?_
  rintro e v ⟨rfl, h1⟩
  have k1 : Kept w v := (Kept.refl w).call h1
  have R0' := Lib.hid (R0.out.below h1)
  have R1' := Lib.hid (R1.out.below h1)
  clear h1 R0 R1
  go_wp2_with fail
  refine (new_any _).mono ?_
  rintro e u ⟨rfl, rfl⟩
  have d2 := Dk.new v v.heap.size (Nat.le_refl _)
  have k2 : Kept v _ := (Kept.refl v).alloc (.cells #[.slice none 0 0, .int .i64 0] 50)
  generalize v.alloc (.cells #[.slice none 0 0, .int .i64 0] 50) = u2 at *
  by_cases hbig : 100000 < len0 + len1
  · go_wp2
    go_ret
    exact ⟨rfl, (k1.trans k2).1⟩
  have hg1 : ¬ ((100000 : Int) < (len0 : Int) + (len1 : Int)) := by omega
  have HB := Lib.hid hbig
  clear hbig
  go_wp2_with fail
  refine (append_ok d2 (R0'.out.below k2.1).bts R0'.out.nil (by have := HB.out; simp; omega)).mono ?_
  rintro e u3 ⟨rfl, h3⟩
  have k3 := h3.kept k2 (Nat.le_refl _)
  have d3 := h3.1
  rw [List.nil_append] at d3
  clear h3 k2 d2
  go_wp2_with fail
  refine (sync_any d3).mono ?_
  rintro e u4 ⟨rfl, h4⟩
  have k4 := h4.kept k3 (Nat.le_refl _)
  have d4 := h4.1
  clear h4 k3 d3
  go_wp2_with fail
  refine (append_ok d4 (R1'.out.below k4.1).bts R1'.out.nil (by have := HB.out; rw [R0'.out.len]; omega)).mono ?_
  rintro e u5 ⟨rfl, h5⟩
  have k5 := h5.kept k4 (Nat.le_refl _)
  have d5 := h5.1
  clear h5 k4 d4
  go_wp2_with fail
  refine (crash_any d5 (by rw [List.length_append]; omega) a2).mono ?_
  rintro e u6 ⟨rfl, h6⟩
  have k6 := h6.kept k5 (Nat.le_refl _)
  have d6 := h6.1
  have e6 : (xs ++ ys).length - xs.length = len1 := by rw [List.length_append, R1'.out.len]; omega
  rw [e6, take_more] at d6
  have hm : kept a2 len1 ≤ len1 := kept_le _ _
  have HM : Hid (kept a2 len1 = min a2.toNat len1) := Lib.hid rfl
  generalize kept a2 len1 = m at *
  have hF : (xs ++ ys.take m).length = len0 + m := by rw [List.length_append, List.length_take, R0'.out.len, R1'.out.len]; omega
  have hX : xs.length + m = len0 + m := by rw [R0'.out.len]
  rw [hX] at d6
  have D6 := Lib.hid d6
  have HF := Lib.hid hF
  have K6 := Lib.hid k6
  have K1 := Lib.hid k1
  clear h6 k5 d5 d6 e6 hF hX k6 k1
  go_upto_region 9 with fail
  go_cut [9] (fun s wx => ∃ A c, s = .slice A (len0 + m) c ∧ Row wx A (len0 + m) c (xs ++ ys.take m) ∧ (∀ a, A = some a → 0 < len0 + m → u6.heap.size ≤ a.block) ∧ Kept u6 wx)
  case first =>
    have q0 := ((Kept.refl u6).alloc (.cells #[] 5)).drew
    have own0 : Own (u6.alloc (.cells #[] 5)).drew u6.heap.size (.slice (some ⟨u6.heap.size, 0, none⟩) 0 0) [] := Own.lit [] (Nat.le_refl _) (by simp)
    have S0 := Lib.hid (R0'.out.below K6.out.1)
    have S1 := Lib.hid (R1'.out.below K6.out.1)
    have hsl := fun W => run_head a1 len1 cap1 m (by have := R1'.out.room; omega) W
    have O0 := Lib.hid own0
    obtain ⟨M, hM⟩ : ∃ M : Int, (if a2 < 0 then 0 else a2) = M := ⟨_, rfl⟩
    have hm2 : (if (len1 : Int) < M then (len1 : Int) else M) = (m : Int) := by
      have h1 := HM.out
      rcases Int.lt_or_le a2 0 with h | h
      · rw [if_pos h] at hM; subst hM; rw [if_neg (by omega)]; omega
      · rw [if_neg (by omega)] at hM; subst hM; split <;> omega
    clear own0 O0
    refine wp_region_typed (N := 10) (fl := []) (by kernel_rfl) (by kernel_rfl) ?_
    simp only [List.take_succ_cons, List.take_zero, List.drop_succ_cons, List.drop_zero, List.map_cons, List.map_nil, zipF]
    repeat (first
      | (refine wpT_skip rfl ?_; dsimp only [putS, List.set_cons_succ, List.set_cons_zero])
      | (refine wpT_slot (S := .is _) _ (.inl rfl) rfl (Slot.mono_is _) rfl ?_; dsimp only [putS, List.set_cons_succ, List.set_cons_zero])
      | (refine wpT_slot (S := .is _) _ (.inr rfl) rfl (Slot.mono_is _) rfl ?_; dsimp only [putS, List.set_cons_succ, List.set_cons_zero])
      | (refine wpT_exact1 rfl rfl rfl ?_; apply Exists.intro; refine ⟨fun ρ w hk ⟨c1, c2, c3⟩ h1 => ?_, ?_⟩; (· go_simp; exact rfl); dsimp only [putS, List.set_cons_succ, List.set_cons_zero])
      | (refine wpT_exact2 rfl rfl rfl rfl ?_; apply Exists.intro; refine ⟨fun ρ w hk ⟨c1, c2, c3⟩ h1 h2 => ?_, ?_⟩; (· go_simp; exact rfl); dsimp only [putS, List.set_cons_succ, List.set_cons_zero])
      | (refine wpT_exact3 rfl rfl rfl rfl rfl ?_; apply Exists.intro; refine ⟨fun ρ w hk ⟨c1, c2, c3⟩ h1 h2 h3 => ?_, ?_⟩; (· go_simp; exact rfl); dsimp only [putS, List.set_cons_succ, List.set_cons_zero])
      | (refine wpT_exact0 rfl ?_; apply Exists.intro; refine ⟨fun ρ w hk ⟨c1, c2, c3⟩ => ?_, ?_⟩; (· go_simp; exact rfl); dsimp only [putS, List.set_cons_succ, List.set_cons_zero])
      | (refine wpT_has (EmptyT.mono u6.heap.size) rfl (fun ρ w hk ⟨c1, c2, c3⟩ _ => upT_made (.slice (some ⟨w.heap.size, 0, none⟩) 0 0) (w' := w.alloc (.cells #[] 5)) ?_ ((Kept.refl w).alloc _) ⟨_, hk.2, rfl, push_new w _⟩) ?_; (· go_simp); dsimp only [putS, List.set_cons_succ, List.set_cons_zero])
      | (refine wpT_has (OwnT.mono u6.heap.size xs) rfl (fun ρ w hk ⟨c1, c2, c3⟩ hl => ?_) ?_
         · obtain ⟨⟨g, hB, hg, hh⟩, h2, -⟩ := hl
           have h2 : ρ (.tmp 40) = _ := h2
           obtain ⟨v', w', h3, h4, h5⟩ := run_append_empty 26 hh hB (S0.out.bts.below ((Kept.refl u6).drew.trans hk).1) S0.out.nil
           exact upT_made v' (exec_append rfl hg h2 h3) h5 h4
         dsimp only [putS, List.set_cons_succ, List.set_cons_zero]))
    refine wpT_nil ?_
    intro wz kz
    simp only [Fits]
    rintro u39 - u41 own
    have own : Own wz u6.heap.size u41 xs := own
    obtain ⟨A3, n3, c3, rfl⟩ := own.slice
    have q3 : Kept u6 wz := ((Kept.refl u6).drew).trans kz
    have O3 := Lib.hid own
    clear own hM hm2
    go_wp2_with (first
      | (at_builtin
         refine wpList_append_bts rfl (.tmp 41) (.tmp 48) rfl (v := .slice A3 n3 c3) (base := u6.heap.size) (ds := xs) (bs := ys.take m) (n := m) rfl rfl O3.out ((S1.out.bts.below q3.1).head hm) S1.out.nil (by rw [S0.out.len]; omega) q3.2 ?_
         intro v4 w4 own4 gr4 at4
         have q4 := q3.append O3.out gr4
         obtain ⟨A, c, e4, hr⟩ := own4.row (by rw [HF.out]; omega) (by
           intro x hx
           rcases List.mem_append.1 hx with h | h
           · exact S0.out.bts.2.2.1 x (by simpa using h)
           · exact S1.out.bts.2.2.1 x (List.mem_of_mem_take h))
         rw [HF.out] at hr e4
         subst e4
         have hge := own4.block_ge
         clear own4 gr4 at4))
    refine only_end ?_
    go_wp2_with fail
    go_meet
    exact ⟨A, c, rfl, hr, hge, q4⟩
  case rest =>
    obtain ⟨A, c, rfl, hr, hge, kc⟩ := hcut
    have D7 := Lib.hid (D6.out.below kc.1)
    have K7 := Lib.hid (K6.out.trans kc)
    have R7 := Lib.hid hr
    have F7 := Lib.hid (Far.new D6.out kc.1 hge)
    clear hr kc D6 hge
    go_wp2_with fail
    refine (bytes_any D7.out).mono ?_
    rintro e u8 ⟨y, rfl, own, h8⟩
    obtain ⟨A8, c8, rfl, hr8⟩ := own.row (by have := HF.out; omega) R7.out.bts.2.2.1
    have G8 := Lib.hid (Far.new D7.out h8 own.block_ge)
    rw [HF.out] at hr8 G8 ⊢
    have F8 := Lib.hid (F7.out.below h8 D7.out.lt)
    have D8 := Lib.hid (D7.out.below h8)
    have K8 := Lib.hid (K7.out.call h8)
    have R8 := Lib.hid (R7.out.below h8)
    have Q8 := Lib.hid hr8
    clear own h8 hr8 D7 K7 R7 F7
    go_wp2_with fail
    refine (crash_any D8.out (by rw [HF.out]; exact Nat.le_refl _) _).mono ?_
    rintro e u9 ⟨rfl, h9⟩
    have ek : ∀ z, kept z 0 = 0 := fun z => Nat.min_eq_right (Nat.zero_le _)
    have h9' : Did v.heap.size v.heap.size (xs ++ ys.take m) (len0 + m) u8 u9 := by
      rw [HF.out, Nat.sub_self, ek, Nat.add_zero, List.take_of_length_le (by rw [HF.out]; exact Nat.le_refl _)] at h9
      exact h9
    have D9 := Lib.hid h9'.1
    have K9 := Lib.hid (h9'.kept K8.out (Nat.le_refl _))
    have R9 := Lib.hid (h9'.row R8.out F8.out).1
    have Q9 := Lib.hid (h9'.row Q8.out G8.out).1
    have hby := R9.out.bts.2.2.1
    have HBY := Lib.hid hby
    have T1 := Lib.hid fun (W : World) (k : Kept u9.drew W) => (R9.out.below ((Kept.refl u9).drew.trans k).1).text
    have T2 := Lib.hid fun (W : World) (k : Kept u9.drew W) => (Q9.out.below ((Kept.refl u9).drew.trans k).1).text
    have TB := Lib.hid fun (W : World) (k : Kept u9.drew W) => bytes_any (D9.out.below ((Kept.refl u9).drew.trans k).1)
    have TS := Lib.hid fun (W : World) (k : Kept u9.drew W) => synced_any (D9.out.below ((Kept.refl u9).drew.trans k).1)
    clear h9 h9' ek hby R8 Q8 G8 F8 D8
    generalize xs ++ ys.take m = full at *
    have hll : len0 + m ≤ 140737505132544 := by omega
    go_wp2_with fail
    refine wp_region_typed (N := 24) (fl := []) (by kernel_rfl) (by kernel_rfl) ?_
    simp only [List.take_succ_cons, List.take_zero, List.drop_succ_cons, List.drop_zero, List.map_cons, List.map_nil, zipF]
    repeat (first
      | (refine wpT_text rfl rfl rfl ?_; dsimp only [putS, List.set_cons_succ, List.set_cons_zero])
      | (refine wpT_len rfl rfl rfl ?_; dsimp only [putS, List.set_cons_succ, List.set_cons_zero])
      | (refine wpT_slot (S := .has _) _ (.inl rfl) rfl (RowT.mono _ _) rfl ?_; dsimp only [putS, List.set_cons_succ, List.set_cons_zero])
      | (refine wpT_skip rfl ?_; dsimp only [putS, List.set_cons_succ, List.set_cons_zero])
      | (refine wpT_slot (S := .is _) _ (.inl rfl) rfl (Slot.mono_is _) rfl ?_; dsimp only [putS, List.set_cons_succ, List.set_cons_zero])
      | (refine wpT_slot (S := .is _) _ (.inr rfl) rfl (Slot.mono_is _) rfl ?_; dsimp only [putS, List.set_cons_succ, List.set_cons_zero])
      | (refine wpT_exact1 rfl rfl rfl ?_; apply Exists.intro; refine ⟨fun ρ w hk ⟨c1, c2, c3⟩ h1 => ?_, ?_⟩; (· have t1 := T1.out w hk; have t2 := T2.out w hk; go_simp; exact rfl); dsimp only [putS, List.set_cons_succ, List.set_cons_zero])
      | (refine wpT_exact2 rfl rfl rfl rfl ?_; apply Exists.intro; refine ⟨fun ρ w hk ⟨c1, c2, c3⟩ h1 h2 => ?_, ?_⟩; (· have t1 := T1.out w hk; have t2 := T2.out w hk; go_simp; exact rfl); dsimp only [putS, List.set_cons_succ, List.set_cons_zero])
      | (refine wpT_exact3 rfl rfl rfl rfl rfl ?_; apply Exists.intro; refine ⟨fun ρ w hk ⟨c1, c2, c3⟩ h1 h2 h3 => ?_, ?_⟩; (· have t1 := T1.out w hk; have t2 := T2.out w hk; go_simp; exact rfl); dsimp only [putS, List.set_cons_succ, List.set_cons_zero])
      | (refine wpT_exact0 rfl ?_; apply Exists.intro; refine ⟨fun ρ w hk ⟨c1, c2, c3⟩ => ?_, ?_⟩; (· have t1 := T1.out w hk; have t2 := T2.out w hk; go_simp; exact rfl); dsimp only [putS, List.set_cons_succ, List.set_cons_zero])
      | (refine wpT_has (RowT.mono (len0 + m) full) rfl (fun ρ w hk ⟨c1, c2, c3⟩ ⟨h1, _⟩ => ?_) ?_
         · have h1 : ρ (.tmp 65) = _ := h1
           refine upT_call 17 #[.pointer (some ⟨v.heap.size, 0, none⟩)] (by go_simp) ((TB.out w hk).mono ?_)
           rintro e u ⟨y, rfl, own, hb⟩
           exact ⟨_, rfl, ⟨hb, hb.size⟩, own.rowT HF.out hll HBY.out⟩
         dsimp only [putS, List.set_cons_succ, List.set_cons_zero])
      | (refine wpT_is (.int .i64 ((len0 + m : Nat) : Int)) rfl (fun ρ w hk ⟨c1, c2, c3⟩ ⟨h1, _⟩ => ?_) ?_
         · have h1 : ρ (.tmp 73) = _ := h1
           refine upT_call 18 #[.pointer (some ⟨v.heap.size, 0, none⟩)] (by go_simp) ((TS.out w hk).mono ?_)
           rintro e u ⟨rfl, rfl⟩
           exact ⟨_, rfl, Kept.refl _, rfl⟩
         dsimp only [putS, List.set_cons_succ, List.set_cons_zero]))
    refine wpT_nil ?_
    intro wz kz
    simp only [Fits]
    intro y _
    refine wpList_end ?_
    go_wp2
    go_ret
    exact ⟨rfl, ((K1.out.trans K9.out).drew.trans kz).1⟩
end Go.Proofs.Yteefeancakeebaa
