/- AlogTorn, of bulk at most 1048576 -/
import Derived.Test.YtnadfkcicppehaaAlgK
import Derived.Test.YtnadfkcicppehaaAlgC
import Derived.Test.YtnadfkcicppehaaAlgG
import Derived.Test.YtnadfkcicppehaaAlgH
import Derived.Test.YtnadfkcicppehaaBulk
import Derived.Test.YtnadfkcicppehaaBare
namespace Go.Proofs.Ytnadfkcicppehaa
open Go.RowKit

set_option maxRecDepth 100000 in
set_option maxHeartbeats 4000000 in
theorem AlogTorn_walk (a0 : Option Addr) (len0 cap0 : Nat) (a1 : Int) (a2 : Option Addr) (len2 cap2 : Nat) (b0 : Nat) (b2 : Nat) (w : World) (_ : Laid w) (w0 : SliceAt 5 56 (fun w cs => cs.length = 5 ∧ IsStruct [(0, 1, (IsInt .i64)), (1, 1, (IsInt .i64)), (2, 2, (fun w cs => cs.length = 2 ∧ IsStruct [(0, 1, (IsInt .i64)), (1, 1, (IsInt .i64))] w cs)), (4, 1, (IsSlice 1 1 (IsInt .u8)))] w cs) w a0 len0 cap0) (w1 : (Lit.int .u16 a1).wf = true) (w2 : SliceAt 1 1 (IsInt .u8) w a2 len2 cap2) (_ : SSlice 5 (SStruct [(0, 1, SOne), (1, 1, SOne), (2, 2, (SStruct [(0, 1, SOne), (1, 1, SOne)])), (4, 1, (SSlice 1 SOne))]) w [.slice a0 len0 cap0] b0) (u2 : SSlice 1 SOne w [.slice a2 len2 cap2] b2) (hk : b0 + b2 ≤ 1048576) :
    Calls Try.prog 5 #[.slice a0 len0 cap0, .int .u16 a1, .slice a2 len2 cap2] w fun e w' => e = .returned (.bool true) ∧ Below w.heap.size w w' := by
  obtain ⟨l0, hl0, hR0⟩ := rcs_of w0
  have hlen : len0 ≤ 1099511627776000 := by have := w0.2.2.1; omega
  obtain ⟨more, hmb⟩ := bts_of w2
  have HMO := Lib.hid (show Row w a2 len2 cap2 more from ⟨hmb, w2.2.2.2.1, w2.1, w2.2.1⟩)
  have hml := bulk_len w2 u2
  have hb1 := bounds_u16 w1
  have HR0 := Lib.hid hR0
  have HL0 := Lib.hid hl0
  clear w0 hR0 hl0 hmb w2 u2 w1
  go_enter Try.func5, Try.ntmps5
  go_wp2_with fail
  refine (awake_any _).mono ?_
  rintro e v1 ⟨rfl, h1⟩
  have k1 : Kept w v1 := (Kept.refl w).call h1
  clear h1
  go_wp2_with fail
  refine (lawmay_any HL0.out (HR0.out.kept k1) hlen).mono ?_
  rintro e v2 ⟨lv, its, rfl, own, h40, hok, h2⟩
  have k2 := k1.call h2
  have hm : ∀ r ∈ its.map It.r, r.may ∧ r.byte := by
    intro r hr
    obtain ⟨x, hx, rfl⟩ := List.mem_map.1 hr
    exact hok x hx
  have hm40 : (its.map It.r).length ≤ 40 := by simpa using h40
  obtain ⟨A2, c2, rfl, hrc, hc2, -, -⟩ := own.told rfl (fun r hr => Rc.wf_may (hm r hr).1)
  generalize its.map It.r = l at *
  have HM := Lib.hid hm
  have HRC := Lib.hid hrc
  clear h2 hm own hrc hok HR0 HL0 h40 its
  generalize hmm : l.length = m at *
  have HLL := Lib.hid hmm
  clear hmm
  go_wp2_with fail
  refine (lay_any HLL.out HRC.out (by omega)).mono ?_
  rintro e v3 ⟨h3, ⟨-, v, rfl, o3⟩ | ⟨hno, -⟩⟩
  case inr => exact absurd (fun r hr => (HM.out r hr).1) hno
  have k3 := k2.call h3
  have hll := laidAll_len (fun r hr => (HM.out r hr).1)
  rw [HLL.out] at hll
  have hlb := laidAll_byte fun r hr => (HM.out r hr).2
  obtain ⟨A3, c3, rfl, q3⟩ := o3.row (by omega) hlb
  have HQ3 := Lib.hid q3
  have hc3 := q3.room
  have HLB := Lib.hid hlb
  have HRC3 := Lib.hid (HRC.out.kept ((Kept.refl v2).call h3))
  have HTORN := Lib.hid fun k => reads_torn (fun r hr => (HM.out r hr).1) k
  clear q3 o3 h3 hlb HRC
  generalize hLA : laidAll l = LA at *
  have HLA := Lib.hid hLA
  generalize hfl : LA.length = fl at *
  have HFL := Lib.hid hfl
  clear hfl hLA
  obtain ⟨k, hk⟩ := Int.eq_ofNat_of_zero_le (Int.emod_nonneg a1 (show (fl : Int) + 1 ≠ 0 by omega))
  have hkf : k ≤ fl := by
    have := Int.emod_lt_of_pos a1 (show (0 : Int) < (fl : Int) + 1 by omega)
    omega
  have hsl := fun W => run_headK .i64 A3 fl c3 k (by omega) W
  go_wp2_with fail
  refine (aread_any (A := A3) (n := k) (cap := c3) (bs := LA.take k) ⟨HQ3.out.bts.head hkf, HQ3.out.nil, by omega, HQ3.out.most⟩ (by omega)).mono ?_
  rintro e v4 ⟨lv4, its4, n4, rfl, own4, hrd4, h4⟩
  obtain ⟨q, hq1, hq2, hq3, hq4⟩ := HTORN.out k
  obtain ⟨e4, e5⟩ := reads_one (fun c hc => HLB.out c (List.mem_of_mem_take hc)) hrd4 hq3
  rw [← e5] at hq2 hq4
  rw [HLL.out] at hq1
  have htl : (l.take q).length = q := by rw [List.length_take, HLL.out]; omega
  obtain ⟨A4, c4, rfl, hrc4, -, -, -⟩ := own4.told e4 (fun r hr => Rc.wf_may (HM.out r (List.mem_of_mem_take hr)).1)
  rw [htl]
  have k4 := k3.call h4
  have HTL := Lib.hid htl
  have HRX4 := Lib.hid hrc4
  have HRC4 := Lib.hid (HRC3.out.kept ((Kept.refl v3).call h4))
  have HQ4 := Lib.hid (HQ3.out.below h4)
  have HN4 := Lib.hid e5
  have HQ4' := Lib.hid hq4
  have hs6 := fun W => run_headC .i64 A2 m c2 q (by omega) W
  clear h4 own4 hrd4 hq3 e4 e5 hrc4 htl hq4 hsl HQ3 HRC3
  go_wp2_with fail
  refine (real_any HTL.out (HRC4.out.take q) (by omega)).mono ?_
  rintro e v5 ⟨lv5, its5, rfl, own5, e5, h5⟩
  obtain ⟨A5, c5, rfl, hrc5, -, -, -⟩ := own5.told e5 (fun r hr => Rc.wf_may (HM.out r (List.mem_of_mem_take hr)).1)
  rw [HTL.out]
  have k5 := k4.call h5
  have HRX5 := Lib.hid (HRX4.out.kept ((Kept.refl v4).call h5))
  have HRC5 := Lib.hid (HRC4.out.kept ((Kept.refl v4).call h5))
  have HQ5 := Lib.hid (HQ4.out.below h5)
  have HRE5 := Lib.hid hrc5
  clear h5 own5 e5 hrc5 HRX4 HRC4 HQ4 hs6
  go_wp2_with fail
  refine (same_any HTL.out HRX5.out HRE5.out (by omega)).mono ?_
  rintro e v6 ⟨rfl, h6⟩
  have k6 := k5.call h6
  have HRC6 := Lib.hid (HRC5.out.kept ((Kept.refl v5).call h6))
  have HQ6 := Lib.hid (HQ5.out.below h6)
  clear h6 HRX5 HRC5 HQ5 HRE5 HTORN
  have HK6 := Lib.hid k6
  clear k1 k2 k3 k4 k5 k6
  by_cases hqm : q < m
  · have hql : q < l.length := by rw [HLL.out]; exact hqm
    have hs9 := fun W => run_midC .i64 .i64 A2 m c2 q (q + 1) (q : Int) ((q : Int) + 1) rfl (by omega) (by omega) (by omega) W
    rw [if_neg (show ¬ c2 = q by omega), show q + 1 - q = 1 by omega] at hs9
    have hone := HRC6.out.one hql
    have hfq := HQ4'.out hql
    have hmq := HM.out _ (List.getElem_mem hql)
    generalize A2.map (fun x => x.add (q * 5)) = A6 at *
    generalize l[q] = rq at *
    have HONE := Lib.hid hone
    have HMQ := Lib.hid hmq
    clear hone hmq HQ4'
    go_wp2_with fail
    refine (lay_any (l := [rq]) (len := 1) rfl HONE.out (by decide)).mono ?_
    rintro e v7 ⟨h7, ⟨-, v, rfl, o7⟩ | ⟨hno, -⟩⟩
    case inr => exact absurd (fun r hr => by simp only [List.mem_singleton] at hr; subst hr; exact HMQ.out.1) hno
    have e7 : laidAll [rq] = frm rq.enc := by simp [laidAll, flat]
    rw [e7] at o7
    have hel := enc_len HMQ.out.1
    have hfl7 := frm_len rq.enc
    obtain ⟨A7, c7, rfl, -⟩ := o7.row (by omega) (frm_byte (enc_byte HMQ.out.2))
    have HK7 := Lib.hid (HK6.out.call h7)
    have HQ7 := Lib.hid (HQ6.out.below h7)
    have HRC7 := Lib.hid (HRC6.out.kept ((Kept.refl v6).call h7))
    have hfq2 : (frm rq.enc).length ≤ 2108 := by omega
    clear h7 o7 e7 HQ6 HRC6 HK6 hs9 HONE HMQ
    generalize (frm rq.enc).length = fq at *
    clear hfl7 hel
    have q0 : Kept v7 (v7.alloc (.cells #[] 5)) := (Kept.refl v7).alloc _
    have own0 : Own (v7.alloc (.cells #[] 5)) v7.heap.size (.slice (some ⟨v7.heap.size, 0, none⟩) 0 0) [] := Own.lit [] (Nat.le_refl _) (by simp)
    have HM7 := Lib.hid (HMO.out.below HK7.out.1)
    go_wp2_with (first
      | (at_builtin
         refine wpList_append_bts rfl (.tmp 82) (.tmp 83) rfl (v := .slice (some ⟨v7.heap.size, 0, none⟩) 0 0) (base := v7.heap.size) (ds := []) (bs := LA) (n := fl) rfl rfl own0 (HQ7.out.bts.below q0.1) HQ7.out.nil (by simp; omega) q0.2 ?_
         intro v8 w8 own8 gr8 at8
         have q8 := q0.append own0 gr8
         have O8 := Lib.hid own8
         clear own8 gr8 at8)
      | (at_builtin
         refine wpList_append_bts rfl (.tmp 84) (.tmp 85) rfl (v := v8) (base := v7.heap.size) (ds := [] ++ LA) (bs := more) (n := len2) rfl rfl O8.out (HM7.out.bts.below q8.1) HM7.out.nil (by rw [List.nil_append, HFL.out]; omega) q8.2 ?_
         intro v9 w9 own9 gr9 at9
         have q9 := q8.append O8.out gr9
         have O9 := Lib.hid own9
         clear own9 gr9 at9)
      | fail)
    have hcat : (LA ++ more).length = fl + len2 := by rw [List.length_append, HFL.out, HMO.out.len]
    have hcb : ∀ c ∈ LA ++ more, c < 256 := fun c hc => by
      rcases List.mem_append.1 hc with h | h
      · exact HLB.out c h
      · exact HMO.out.bts.2.2.1 c h
    have hO9 := O9.out
    rw [List.nil_append] at hO9
    obtain ⟨A9, c9, rfl, r9⟩ := hO9.row (by rw [hcat]; omega) hcb
    refine (aread_any r9 (by rw [hcat]; omega)).mono ?_
    rintro e v10 ⟨lv10, its10, n10, rfl, own10, hrd10, h10⟩
    rw [← HLA.out] at hrd10 hcb
    obtain ⟨l', n', e10, e11, -⟩ := reads_more (fun r hr => (HM.out r hr).1) hcb hrd10
    have hmay10 : ∀ r ∈ its10.map It.r, r.may := fun r hr => ((reads_again hcb hrd10).1 r hr).1
    obtain ⟨A10, c10, rfl, hrc10, hc10, -, -⟩ := own10.told rfl (fun r hr => Rc.wf_may (hmay10 r hr))
    have hnx : m ≤ (its10.map It.r).length := by rw [e10, List.length_append, HLL.out]; omega
    have hsz : fl ≤ n10 := by rw [e11, HLA.out, HFL.out]; omega
    have htk : (its10.map It.r).take m = l := by rw [e10, ← HLL.out, List.take_left]
    have hrx := hrc10.take m
    rw [htk] at hrx
    have k10 : Kept v7 v10 := q9.call h10
    have HK10 := Lib.hid (HK7.out.trans k10)
    have HRX := Lib.hid hrx
    have HRL := Lib.hid (HRC7.out.kept k10)
    clear hrd10 hcb e10 e11 hmay10 hrc10 htk hrx own10 h10 r9 hO9 hcat q0 own0 q8 q9 k10 O8 O9 HM7 HQ7 HRC7 HK7
    generalize (its10.map It.r).length = nx at *
    have hs13 := fun W => run_headC .i64 A10 nx c10 m (by omega) W
    have KW : ∀ W, Kept v10.drew W → Kept v10 W := fun W h => (Kept.refl v10).drew.trans h
    have TR : Hid (∀ W, Kept v10.drew W → Calls Try.prog 11 #[.slice A2 m c2] W fun e u => ∃ A c, e = .returned (.slice A m c) ∧ Rcs u A l ∧ Below W.heap.size W u) := Lib.hid fun W h => (real_any HLL.out (HRL.out.kept (KW W h)) (by omega)).mono (by
      rintro e u ⟨v, its, rfl, own, e1, hb⟩
      obtain ⟨A, c, rfl, hr, -, -, -⟩ := own.told e1 (fun r hr => Rc.wf_may (HM.out r hr).1)
      exact ⟨A, c, by rw [HLL.out], hr, hb⟩)
    have TS : Hid (∀ W A c, Kept v10.drew W → Rcs W A l → Calls Try.prog 16 #[.slice A10 m c10, .slice A m c] W fun e u => e = .returned (.bool true) ∧ Below W.heap.size W u) := Lib.hid fun W A c h hr => same_any HLL.out (HRX.out.kept (KW W h)) hr (by omega)
    clear KW
    go_wp2_with fail
    refine wp_region_typed (N := 24) (fl := []) (by kernel_rfl) (by kernel_rfl) ?_
    simp only [List.take_succ_cons, List.take_zero, List.drop_succ_cons, List.drop_zero, List.map_cons, List.map_nil, zipF]
    repeat (first
      | (refine wpT_skip rfl ?_; dsimp only [putS, List.set_cons_succ, List.set_cons_zero])
      | (refine wpT_slot (S := .is _) _ (.inl rfl) rfl (Slot.mono_is _) rfl ?_; dsimp only [putS, List.set_cons_succ, List.set_cons_zero])
      | (refine wpT_slot (S := .is _) _ (.inr rfl) rfl (Slot.mono_is _) rfl ?_; dsimp only [putS, List.set_cons_succ, List.set_cons_zero])
      | (refine wpT_exact1 rfl rfl rfl ?_; apply Exists.intro; refine ⟨fun ρ w hk ⟨c1, c2, c3⟩ h1 => ?_, ?_⟩; (· have t1 := hsz; have t2 := hnx; go_simp; exact rfl); dsimp only [putS, List.set_cons_succ, List.set_cons_zero])
      | (refine wpT_exact2 rfl rfl rfl rfl ?_; apply Exists.intro; refine ⟨fun ρ w hk ⟨c1, c2, c3⟩ h1 h2 => ?_, ?_⟩; (· have t1 := hsz; have t2 := hnx; go_simp; exact rfl); dsimp only [putS, List.set_cons_succ, List.set_cons_zero])
      | (refine wpT_exact3 rfl rfl rfl rfl rfl ?_; apply Exists.intro; refine ⟨fun ρ w hk ⟨c1, c2, c3⟩ h1 h2 h3 => ?_, ?_⟩; (· have t1 := hsz; have t2 := hnx; go_simp; exact rfl); dsimp only [putS, List.set_cons_succ, List.set_cons_zero])
      | (refine wpT_exact4 rfl rfl rfl rfl rfl rfl ?_; apply Exists.intro; refine ⟨fun ρ w hk ⟨c1, c2, c3⟩ h1 h2 h3 h4 => ?_, ?_⟩; (· have t1 := hsz; have t2 := hnx; go_simp; exact rfl); dsimp only [putS, List.set_cons_succ, List.set_cons_zero])
      | (refine wpT_exact0 rfl ?_; apply Exists.intro; refine ⟨fun ρ w hk ⟨c1, c2, c3⟩ => ?_, ?_⟩; (· have t1 := hsz; have t2 := hnx; go_simp; exact rfl); dsimp only [putS, List.set_cons_succ, List.set_cons_zero])
      | (refine wpT_has (RecT.mono m l) rfl (fun ρ w hk ⟨c1, c2', c3⟩ ⟨h1, _⟩ => ?_) ?_
         · have h1 : ρ (.tmp 109) = _ := h1
           refine upT_call 11 #[.slice A2 m c2] ?_ ((TR.out w hk).mono ?_)
           · go_simp
           rintro e u ⟨A, c, rfl, hr, hb⟩
           exact ⟨_, rfl, ⟨hb, hb.size⟩, ⟨A, c, rfl, hr⟩⟩
         dsimp only [putS, List.set_cons_succ, List.set_cons_zero])
      | (refine wpT_is (.bool true) rfl (fun ρ w hk ⟨c1, c2', c3⟩ ⟨h1, h2, _⟩ => ?_) ?_
         · have h1 : ρ (.tmp 108) = _ := h1
           obtain ⟨AA, cc, h2, hr⟩ := h2
           have h2 : ρ (.tmp 110) = _ := h2
           refine upT_call 16 #[.slice A10 m c10, .slice AA m cc] ?_ ((TS.out w AA cc hk hr).mono ?_)
           · go_simp
           rintro e u ⟨rfl, hb⟩
           exact ⟨_, rfl, ⟨hb, hb.size⟩, rfl⟩
         dsimp only [putS, List.set_cons_succ, List.set_cons_zero]))
    refine wpT_nil ?_
    intro wz kz
    simp only [Fits]
    intro y _
    refine wpList_end ?_
    have hkz := HK10.out.trans ((Kept.refl v10).drew.trans kz)
    go_wp2
    go_ret
    exact ⟨rfl, hkz.1⟩
  · have HK7 := Lib.hid HK6.out
    have HQ7 := Lib.hid HQ6.out
    have HRC7 := Lib.hid HRC6.out
    have hqd : decide (q < m) = false := by simp; omega
    clear HQ6 HRC6 HK6 HQ4'
    have q0 : Kept v6 (v6.alloc (.cells #[] 5)) := (Kept.refl v6).alloc _
    have own0 : Own (v6.alloc (.cells #[] 5)) v6.heap.size (.slice (some ⟨v6.heap.size, 0, none⟩) 0 0) [] := Own.lit [] (Nat.le_refl _) (by simp)
    have HM7 := Lib.hid (HMO.out.below HK7.out.1)
    go_wp2_with (first
      | (at_builtin
         refine wpList_append_bts rfl (.tmp 82) (.tmp 83) rfl (v := .slice (some ⟨v6.heap.size, 0, none⟩) 0 0) (base := v6.heap.size) (ds := []) (bs := LA) (n := fl) rfl rfl own0 (HQ7.out.bts.below q0.1) HQ7.out.nil (by simp; omega) q0.2 ?_
         intro v8 w8 own8 gr8 at8
         have q8 := q0.append own0 gr8
         have O8 := Lib.hid own8
         clear own8 gr8 at8)
      | (at_builtin
         refine wpList_append_bts rfl (.tmp 84) (.tmp 85) rfl (v := v8) (base := v6.heap.size) (ds := [] ++ LA) (bs := more) (n := len2) rfl rfl O8.out (HM7.out.bts.below q8.1) HM7.out.nil (by rw [List.nil_append, HFL.out]; omega) q8.2 ?_
         intro v9 w9 own9 gr9 at9
         have q9 := q8.append O8.out gr9
         have O9 := Lib.hid own9
         clear own9 gr9 at9)
      | fail)
    have hcat : (LA ++ more).length = fl + len2 := by rw [List.length_append, HFL.out, HMO.out.len]
    have hcb : ∀ c ∈ LA ++ more, c < 256 := fun c hc => by
      rcases List.mem_append.1 hc with h | h
      · exact HLB.out c h
      · exact HMO.out.bts.2.2.1 c h
    have hO9 := O9.out
    rw [List.nil_append] at hO9
    obtain ⟨A9, c9, rfl, r9⟩ := hO9.row (by rw [hcat]; omega) hcb
    refine (aread_any r9 (by rw [hcat]; omega)).mono ?_
    rintro e v10 ⟨lv10, its10, n10, rfl, own10, hrd10, h10⟩
    rw [← HLA.out] at hrd10 hcb
    obtain ⟨l', n', e10, e11, -⟩ := reads_more (fun r hr => (HM.out r hr).1) hcb hrd10
    have hmay10 : ∀ r ∈ its10.map It.r, r.may := fun r hr => ((reads_again hcb hrd10).1 r hr).1
    obtain ⟨A10, c10, rfl, hrc10, hc10, -, -⟩ := own10.told rfl (fun r hr => Rc.wf_may (hmay10 r hr))
    have hnx : m ≤ (its10.map It.r).length := by rw [e10, List.length_append, HLL.out]; omega
    have hsz : fl ≤ n10 := by rw [e11, HLA.out, HFL.out]; omega
    have htk : (its10.map It.r).take m = l := by rw [e10, ← HLL.out, List.take_left]
    have hrx := hrc10.take m
    rw [htk] at hrx
    have k10 : Kept v6 v10 := q9.call h10
    have HK10 := Lib.hid (HK7.out.trans k10)
    have HRX := Lib.hid hrx
    have HRL := Lib.hid (HRC7.out.kept k10)
    clear hrd10 hcb e10 e11 hmay10 hrc10 htk hrx own10 h10 r9 hO9 hcat q0 own0 q8 q9 k10 O8 O9 HM7 HQ7 HRC7 HK7
    generalize (its10.map It.r).length = nx at *
    have hs13 := fun W => run_headC .i64 A10 nx c10 m (by omega) W
    have KW : ∀ W, Kept v10.drew W → Kept v10 W := fun W h => (Kept.refl v10).drew.trans h
    have TR : Hid (∀ W, Kept v10.drew W → Calls Try.prog 11 #[.slice A2 m c2] W fun e u => ∃ A c, e = .returned (.slice A m c) ∧ Rcs u A l ∧ Below W.heap.size W u) := Lib.hid fun W h => (real_any HLL.out (HRL.out.kept (KW W h)) (by omega)).mono (by
      rintro e u ⟨v, its, rfl, own, e1, hb⟩
      obtain ⟨A, c, rfl, hr, -, -, -⟩ := own.told e1 (fun r hr => Rc.wf_may (HM.out r hr).1)
      exact ⟨A, c, by rw [HLL.out], hr, hb⟩)
    have TS : Hid (∀ W A c, Kept v10.drew W → Rcs W A l → Calls Try.prog 16 #[.slice A10 m c10, .slice A m c] W fun e u => e = .returned (.bool true) ∧ Below W.heap.size W u) := Lib.hid fun W A c h hr => same_any HLL.out (HRX.out.kept (KW W h)) hr (by omega)
    clear KW
    go_wp2_with fail
    refine wp_region_typed (N := 24) (fl := []) (by kernel_rfl) (by kernel_rfl) ?_
    simp only [List.take_succ_cons, List.take_zero, List.drop_succ_cons, List.drop_zero, List.map_cons, List.map_nil, zipF]
    repeat (first
      | (refine wpT_skip rfl ?_; dsimp only [putS, List.set_cons_succ, List.set_cons_zero])
      | (refine wpT_slot (S := .is _) _ (.inl rfl) rfl (Slot.mono_is _) rfl ?_; dsimp only [putS, List.set_cons_succ, List.set_cons_zero])
      | (refine wpT_slot (S := .is _) _ (.inr rfl) rfl (Slot.mono_is _) rfl ?_; dsimp only [putS, List.set_cons_succ, List.set_cons_zero])
      | (refine wpT_exact1 rfl rfl rfl ?_; apply Exists.intro; refine ⟨fun ρ w hk ⟨c1, c2, c3⟩ h1 => ?_, ?_⟩; (· have t1 := hsz; have t2 := hnx; go_simp; exact rfl); dsimp only [putS, List.set_cons_succ, List.set_cons_zero])
      | (refine wpT_exact2 rfl rfl rfl rfl ?_; apply Exists.intro; refine ⟨fun ρ w hk ⟨c1, c2, c3⟩ h1 h2 => ?_, ?_⟩; (· have t1 := hsz; have t2 := hnx; go_simp; exact rfl); dsimp only [putS, List.set_cons_succ, List.set_cons_zero])
      | (refine wpT_exact3 rfl rfl rfl rfl rfl ?_; apply Exists.intro; refine ⟨fun ρ w hk ⟨c1, c2, c3⟩ h1 h2 h3 => ?_, ?_⟩; (· have t1 := hsz; have t2 := hnx; go_simp; exact rfl); dsimp only [putS, List.set_cons_succ, List.set_cons_zero])
      | (refine wpT_exact4 rfl rfl rfl rfl rfl rfl ?_; apply Exists.intro; refine ⟨fun ρ w hk ⟨c1, c2, c3⟩ h1 h2 h3 h4 => ?_, ?_⟩; (· have t1 := hsz; have t2 := hnx; go_simp; exact rfl); dsimp only [putS, List.set_cons_succ, List.set_cons_zero])
      | (refine wpT_exact0 rfl ?_; apply Exists.intro; refine ⟨fun ρ w hk ⟨c1, c2, c3⟩ => ?_, ?_⟩; (· have t1 := hsz; have t2 := hnx; go_simp; exact rfl); dsimp only [putS, List.set_cons_succ, List.set_cons_zero])
      | (refine wpT_has (RecT.mono m l) rfl (fun ρ w hk ⟨c1, c2', c3⟩ ⟨h1, _⟩ => ?_) ?_
         · have h1 : ρ (.tmp 109) = _ := h1
           refine upT_call 11 #[.slice A2 m c2] ?_ ((TR.out w hk).mono ?_)
           · go_simp
           rintro e u ⟨A, c, rfl, hr, hb⟩
           exact ⟨_, rfl, ⟨hb, hb.size⟩, ⟨A, c, rfl, hr⟩⟩
         dsimp only [putS, List.set_cons_succ, List.set_cons_zero])
      | (refine wpT_is (.bool true) rfl (fun ρ w hk ⟨c1, c2', c3⟩ ⟨h1, h2, _⟩ => ?_) ?_
         · have h1 : ρ (.tmp 108) = _ := h1
           obtain ⟨AA, cc, h2, hr⟩ := h2
           have h2 : ρ (.tmp 110) = _ := h2
           refine upT_call 16 #[.slice A10 m c10, .slice AA m cc] ?_ ((TS.out w AA cc hk hr).mono ?_)
           · go_simp
           rintro e u ⟨rfl, hb⟩
           exact ⟨_, rfl, ⟨hb, hb.size⟩, rfl⟩
         dsimp only [putS, List.set_cons_succ, List.set_cons_zero]))
    refine wpT_nil ?_
    intro wz kz
    simp only [Fits]
    intro y _
    refine wpList_end ?_
    have hkz := HK10.out.trans ((Kept.refl v10).drew.trans kz)
    go_wp2
    go_ret
    exact ⟨rfl, hkz.1⟩
end Go.Proofs.Ytnadfkcicppehaa
