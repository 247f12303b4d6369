/- AlogBack -/
import Derived.Test.YtnadfkcicppehaaAlgK
import Derived.Test.YtnadfkcicppehaaAlgC
import Derived.Test.YtnadfkcicppehaaAlgG
namespace Go.Proofs.Ytnadfkcicppehaa
open Go.RowKit

set_option maxRecDepth 100000 in
set_option maxHeartbeats 4000000 in
theorem AlogBack_walk (a0 : Option Addr) (len0 cap0 : Nat) (w : World) (w0 : SliceAt 5 56 (fun w cs => cs.length = 5 ∧ IsStruct [(0, 1, (IsInt .i64)), (1, 1, (IsInt .i64)), (2, 2, (fun w cs => cs.length = 2 ∧ IsStruct [(0, 1, (IsInt .i64)), (1, 1, (IsInt .i64))] w cs)), (4, 1, (IsSlice 1 1 (IsInt .u8)))] w cs) w a0 len0 cap0) :
    Calls Try.prog 4 #[.slice a0 len0 cap0] w fun e w' => e = .returned (.bool true) ∧ Below w.heap.size w w' := by
  obtain ⟨l0, hl0, hR0⟩ := rcs_of w0
  have hlen : len0 ≤ 1099511627776000 := by have := w0.2.2.1; omega
  have HR0 := Lib.hid hR0
  have HL0 := Lib.hid hl0
  clear w0 hR0 hl0
  go_enter Try.func4, Try.ntmps4
  go_wp2_with fail
  refine (awake_any _).mono ?_
  rintro e v1 ⟨rfl, h1⟩
  have k1 : Kept w v1 := (Kept.refl w).call h1
  clear h1
  go_wp2_with fail
  refine (lawmay_any HL0.out (HR0.out.kept k1) hlen).mono ?_
  rintro e v2 ⟨lv, its, rfl, own, h40, hok, h2⟩
  have k2 := k1.call h2
  obtain ⟨A2, c2, rfl, -, -, -⟩ := own.slice
  have hrc := own.rcs (fun x hx => Rc.wf_may (hok x hx).1)
  have hm : ∀ r ∈ its.map It.r, r.may ∧ r.byte := by
    intro r hr
    obtain ⟨x, hx, rfl⟩ := List.mem_map.1 hr
    exact hok x hx
  have HM := Lib.hid hm
  have HRC := Lib.hid hrc
  have HLL : Hid ((its.map It.r).length = its.length) := Lib.hid (by simp)
  clear h2 hm own hrc hok HR0 HL0
  generalize its.map It.r = l at *
  generalize its.length = m at *
  clear its
  go_wp2_with fail
  refine (lay_any HLL.out HRC.out (by omega)).mono ?_
  rintro e v3 ⟨h3, ⟨-, v, rfl, o3⟩ | ⟨hno, -⟩⟩
  case inr => exact absurd (fun r hr => (HM.out r hr).1) hno
  have k3 := k2.call h3
  have hll := laidAll_len (fun r hr => (HM.out r hr).1)
  rw [HLL.out] at hll
  have hlb := laidAll_byte fun r hr => (HM.out r hr).2
  obtain ⟨A3, c3, rfl, q3⟩ := o3.row (by omega) hlb
  have HQ3 := Lib.hid q3
  have HLB := Lib.hid hlb
  have HRC3 := Lib.hid (HRC.out.kept ((Kept.refl v2).call h3))
  have HRL := Lib.hid (reads_laid (fun r hr => (HM.out r hr).1))
  clear q3 o3 h3 hlb
  generalize hLA : laidAll l = LA at *
  generalize hfl : LA.length = fl at *
  have HFL := Lib.hid hfl
  clear hfl hLA
  go_wp2_with fail
  refine (aread_any HQ3.out (by omega)).mono ?_
  rintro e v4 ⟨lv4, its4, n4, rfl, own4, hrd4, h4⟩
  obtain ⟨e4, e5⟩ := reads_one HLB.out hrd4 HRL.out
  subst e5
  have k4 := k3.call h4
  obtain ⟨A4, c4, rfl, -, -, -⟩ := own4.slice
  have hrc4 := own4.rcs (fun x hx => Rc.wf_may (HM.out _ (by rw [← e4]; exact List.mem_map_of_mem hx)).1)
  rw [e4] at hrc4
  have HRC4 := Lib.hid (HRC3.out.kept ((Kept.refl v3).call h4))
  have HRD4 := Lib.hid hrc4
  have hl4 : its4.length = m := by rw [← HLL.out, ← e4]; simp
  rw [hl4]
  clear own4 hrd4 h4 hrc4 e4 hl4 HRL HQ3 HLB
  go_wp2_with fail
  refine (real_any HLL.out HRC4.out (by omega)).mono ?_
  rintro e v5 ⟨lv5, its5, rfl, own5, e5, h5⟩
  have k5 := k4.call h5
  obtain ⟨A5, c5, rfl, -, -, -⟩ := own5.slice
  have hrc5 := own5.rcs (fun x hx => Rc.wf_may (HM.out _ (by rw [← e5]; exact List.mem_map_of_mem hx)).1)
  rw [e5] at hrc5
  have hl5 : its5.length = m := by rw [← HLL.out, ← e5]; simp
  rw [hl5]
  have HRC5 := Lib.hid (HRC4.out.kept ((Kept.refl v4).call h5))
  have HRD5 := Lib.hid (HRD4.out.kept ((Kept.refl v4).call h5))
  have HRE5 := Lib.hid hrc5
  clear own5 h5 hrc5 e5 hl5 HRC4 HRD4
  go_wp2_with fail
  refine (same_any HLL.out HRD5.out HRE5.out (by omega)).mono ?_
  rintro e v6 ⟨rfl, h6⟩
  have k6 := k5.call h6
  have HRC6 := Lib.hid (HRC5.out.kept ((Kept.refl v5).call h6))
  have HK6 := Lib.hid k6
  clear h6 HRC5 HRD5 HRE5 k1 k2 k3 k4 k5 k6 HRC HRC3
  go_wp2
  go_loopw [9] (fun i wr => ∃ k : Nat, k ≤ m ∧ i = .int .i64 k ∧ Kept v6 wr) (fun i _ => m - (intOf i).toNat)
  case atStart => exact ⟨0, Nat.zero_le _, rfl, Kept.refl _⟩
  case round =>
    obtain ⟨k, hk, rfl, kk⟩ := hrel
    rename_i wr
    have HKK := Lib.hid kk
    clear kk
    by_cases hlt : k < m
    · have hki : k < l.length := by rw [HLL.out]; exact hlt
      obtain ⟨b, off, A6, e6, rfl, hb, a0, a1, a2, a3, a4, ar⟩ := HRC6.out.cells_at hki
      have hmay := HM.out _ (List.getElem_mem hki)
      generalize l[k] = r at *
      have c0 := (HKK.out.cell (p := ⟨b, off + k * 5, none⟩) hb).trans a0
      have c1 := (HKK.out.cell (p := ⟨b, off + k * 5 + 1, none⟩) hb).trans a1
      have c2 := (HKK.out.cell (p := ⟨b, off + k * 5 + 2, none⟩) hb).trans a2
      have c3 := (HKK.out.cell (p := ⟨b, off + k * 5 + 3, none⟩) hb).trans a3
      have c4 := (HKK.out.cell (p := ⟨b, off + k * 5 + 4, none⟩) hb).trans a4
      have HE := Lib.hid (encode_ok hmay.1 (ar.below HKK.out.1))
      have HDE := Lib.hid (dec_enc hmay.1)
      have hel := enc_len hmay.1
      have HEB := Lib.hid (enc_byte hmay.2)
      have HAR := Lib.hid ar
      have HA0 := Lib.hid a0
      have HA1 := Lib.hid a1
      have HA2 := Lib.hid a2
      have HA3 := Lib.hid a3
      have HA4 := Lib.hid a4
      have HBB := Lib.hid hb
      clear a0 a1 a2 a3 a4 ar hmay hb
      generalize hEn : r.enc = En at *
      clear hEn
      simp only [rcv] at HE
      go_wp2_with fail
      refine HE.out.mono ?_
      rintro e w1 ⟨v, rfl, o1, h1⟩
      have k1 := HKK.out.call h1
      obtain ⟨A7, c7, rfl, q7⟩ := o1.row (by omega) HEB.out
      have HQ7 := Lib.hid q7
      clear o1 h1 q7 c0 c1 c2 c3 c4 HE
      generalize En.length = el at *
      go_wp2_with fail
      refine (decode_any HQ7.out).mono ?_
      rintro e w2 ⟨h2, ⟨hdn, -⟩ | ⟨r', A8, c8, hdr, rfl, own8⟩⟩
      · rw [HDE.out] at hdn; cases hdn
      rw [HDE.out] at hdr
      injection hdr with hdr
      subst hdr
      have k2 := k1.call h2
      have h8 := hel
      have hr8 : Row w2 A8 r.val.length c8 r.val := by
        obtain ⟨A', c', e', hrow⟩ := own8.row (by have := HAR.out.bts.2.1; rw [HAR.out.len] at *; omega) HAR.out.bts.2.2.1
        rw [Value.slice.injEq] at e'
        obtain ⟨rfl, -, rfl⟩ := e'
        exact hrow
      have HR8 := Lib.hid hr8
      have HK2 := Lib.hid k2
      clear own8 h2 hr8 HDE HQ7 HEB h8
      simp only [rcv]
      go_wp2_with fail
      have hx4 := push_new w2 (.cells #[.int .i64 r.kind, .int .i64 r.slot, .int .i64 r.round, .int .i64 r.site, .slice A8 r.val.length c8] 41)
      have hk4 : Kept w2 (w2.alloc (.cells #[.int .i64 r.kind, .int .i64 r.slot, .int .i64 r.round, .int .i64 r.site, .slice A8 r.val.length c8] 41)) := (Kept.refl w2).alloc _
      generalize w2.alloc (.cells #[.int .i64 r.kind, .int .i64 r.slot, .int .i64 r.round, .int .i64 r.site, .slice A8 r.val.length c8] 41) = w4 at *
      have KW : ∀ W, Kept w4.drew W → Kept w4 W := fun W h => (Kept.refl w4).drew.trans h
      have KV : ∀ W, Kept w4.drew W → Kept v6 W := fun W h => (HK2.out.trans hk4).trans (KW W h)
      have hb := HBB.out
      have hb4 := heap_lt hx4
      have b0 := cell_of_heap hx4 0; have b1 := cell_of_heap hx4 1; have b2 := cell_of_heap hx4 2; have b3 := cell_of_heap hx4 3; have b4 := cell_of_heap hx4 4
      simp only [List.getElem?_toArray, List.getElem?_cons_zero, List.getElem?_cons_succ] at b0 b1 b2 b3 b4
      have T1 := Lib.hid fun (W : World) (h : Kept w4.drew W) => And.intro (((KV W h).cell (p := ⟨b, off + k * 5, none⟩) hb).trans HA0.out) (And.intro (((KV W h).cell (p := ⟨b, off + k * 5 + 1, none⟩) hb).trans HA1.out) (And.intro (((KV W h).cell (p := ⟨b, off + k * 5 + 2, none⟩) hb).trans HA2.out) (And.intro (((KV W h).cell (p := ⟨b, off + k * 5 + 3, none⟩) hb).trans HA3.out) (((KV W h).cell (p := ⟨b, off + k * 5 + 4, none⟩) hb).trans HA4.out))))
      have T2 := Lib.hid fun (W : World) (h : Kept w4.drew W) => And.intro (((KW W h).cell (p := ⟨w2.heap.size, 0, none⟩) hb4).trans b0) (And.intro (((KW W h).cell (p := ⟨w2.heap.size, 1, none⟩) hb4).trans b1) (And.intro (((KW W h).cell (p := ⟨w2.heap.size, 2, none⟩) hb4).trans b2) (And.intro (((KW W h).cell (p := ⟨w2.heap.size, 3, none⟩) hb4).trans b3) (((KW W h).cell (p := ⟨w2.heap.size, 4, none⟩) hb4).trans b4))))
      have TO := Lib.hid fun (W : World) (h : Kept w4.drew W) => one_any (r := r) (A := A8) (ca := c8) (B := A6) (cb := e6) (HR8.out.below (hk4.trans (KW W h)).1) (HAR.out.below (KV W h).1)
      simp only [rcv] at TO
      have HK4 := Lib.hid (HK6.out.trans (HK2.out.trans hk4))
      have HKV := Lib.hid (HK2.out.trans hk4)
      clear b0 b1 b2 b3 b4 hx4 hk4 KW KV hb hb4 HA0 HA1 HA2 HA3 HA4 HR8 HAR HBB
      go_wp2_with fail
      refine wp_region_typed (N := 15) (fl := []) (by kernel_rfl) (by kernel_rfl) ?_
      simp only [List.take_succ_cons, List.take_zero, List.drop_succ_cons, List.drop_zero, List.map_cons, List.map_nil, zipF]
      repeat (first
        | (refine wpT_skip rfl ?_; dsimp only [putS, List.set_cons_succ, List.set_cons_zero])
        | (refine wpT_slot (S := .is _) _ (.inl rfl) rfl (Slot.mono_is _) rfl ?_; dsimp only [putS, List.set_cons_succ, List.set_cons_zero])
        | (refine wpT_slot (S := .is _) _ (.inr rfl) rfl (Slot.mono_is _) rfl ?_; dsimp only [putS, List.set_cons_succ, List.set_cons_zero])
        | (refine wpT_exact1 rfl rfl rfl ?_; apply Exists.intro; refine ⟨fun ρ w hk ⟨c1, c2, c3⟩ h1 => ?_, ?_⟩; (· obtain ⟨t1, t2, t3, t4, t5⟩ := T1.out w hk; obtain ⟨s1, s2, s3, s4, s5⟩ := T2.out w hk; go_simp; exact rfl); dsimp only [putS, List.set_cons_succ, List.set_cons_zero])
        | (refine wpT_exact2 rfl rfl rfl rfl ?_; apply Exists.intro; refine ⟨fun ρ w hk ⟨c1, c2, c3⟩ h1 h2 => ?_, ?_⟩; (· obtain ⟨t1, t2, t3, t4, t5⟩ := T1.out w hk; obtain ⟨s1, s2, s3, s4, s5⟩ := T2.out w hk; go_simp; exact rfl); dsimp only [putS, List.set_cons_succ, List.set_cons_zero])
        | (refine wpT_exact3 rfl rfl rfl rfl rfl ?_; apply Exists.intro; refine ⟨fun ρ w hk ⟨c1, c2, c3⟩ h1 h2 h3 => ?_, ?_⟩; (· obtain ⟨t1, t2, t3, t4, t5⟩ := T1.out w hk; obtain ⟨s1, s2, s3, s4, s5⟩ := T2.out w hk; go_simp; exact rfl); dsimp only [putS, List.set_cons_succ, List.set_cons_zero])
        | (refine wpT_exact4 rfl rfl rfl rfl rfl rfl ?_; apply Exists.intro; refine ⟨fun ρ w hk ⟨c1, c2, c3⟩ h1 h2 h3 h4 => ?_, ?_⟩; (· obtain ⟨t1, t2, t3, t4, t5⟩ := T1.out w hk; obtain ⟨s1, s2, s3, s4, s5⟩ := T2.out w hk; go_simp; exact rfl); dsimp only [putS, List.set_cons_succ, List.set_cons_zero])
        | (refine wpT_exact0 rfl ?_; apply Exists.intro; refine ⟨fun ρ w hk ⟨c1, c2, c3⟩ => ?_, ?_⟩; (· obtain ⟨t1, t2, t3, t4, t5⟩ := T1.out w hk; obtain ⟨s1, s2, s3, s4, s5⟩ := T2.out w hk; go_simp; exact rfl); dsimp only [putS, List.set_cons_succ, List.set_cons_zero])
        | (refine wpT_is (.bool true) rfl (fun ρ w hk ⟨c1, c2, c3⟩ ⟨h1, h2, _⟩ => ?_) ?_
           · have h1 : ρ (.tmp 68) = _ := h1
             have h2 : ρ (.tmp 72) = _ := h2
             refine upT_call 23 #[.agg #[.int .i64 r.kind, .int .i64 r.slot, .int .i64 r.round, .int .i64 r.site, .slice A8 r.val.length c8], .agg #[.int .i64 r.kind, .int .i64 r.slot, .int .i64 r.round, .int .i64 r.site, .slice A6 r.val.length e6]] ?_ ((TO.out w hk).mono ?_)
             · go_simp
             rintro e u ⟨rfl, hb⟩
             exact ⟨_, rfl, ⟨hb, hb.size⟩, rfl⟩
           dsimp only [putS, List.set_cons_succ, List.set_cons_zero]))
      refine wpT_nil ?_
      intro wz kz
      simp only [Fits]
      refine wpList_end ?_
      have hkz := HKV.out.trans ((Kept.refl w4).drew.trans kz)
      have HKZ := Lib.hid hkz
      clear hkz kz
      go_wp2
      go_roundw
      case rel => exact ⟨k + 1, by omega, by go_num, HKZ.out⟩
      case measure => simp [intOf]; omega
    · go_wp2
      go_ret
      exact ⟨rfl, (HK6.out.trans HKK.out).1⟩
end Go.Proofs.Ytnadfkcicppehaa
