/- AlogLast -/
import Derived.Test.YtnadfkcicppehaaAlgV
import Derived.Test.YtnadfkcicppehaaTypedB
namespace Go.Proofs.Ytnadfkcicppehaa
open Go.RowKit

set_option maxRecDepth 100000 in
set_option maxHeartbeats 4000000 in
theorem AlogLast_walk (a0 : Option Addr) (len0 cap0 : Nat) (a1 : List Value) (a2 : Int) (w : World) (w0 : SliceAt 5 56 (fun w cs => cs.length = 5 ∧ IsStruct [(0, 1, (IsInt .i64)), (1, 1, (IsInt .i64)), (2, 2, (fun w cs => cs.length = 2 ∧ IsStruct [(0, 1, (IsInt .i64)), (1, 1, (IsInt .i64))] w cs)), (4, 1, (IsSlice 1 1 (IsInt .u8)))] w cs) w a0 len0 cap0) (w1 : (fun w cs => cs.length = 5 ∧ IsStruct [(0, 1, (IsInt .i64)), (1, 1, (IsInt .i64)), (2, 2, (fun w cs => cs.length = 2 ∧ IsStruct [(0, 1, (IsInt .i64)), (1, 1, (IsInt .i64))] w cs)), (4, 1, (IsSlice 1 1 (IsInt .u8)))] w cs : World → List Value → Prop) w a1) (_ : (Lit.int .i64 a2).wf = true) :
    Calls Try.prog 7 #[.slice a0 len0 cap0, .agg a1.toArray, .int .i64 a2] w fun e w' => e = .returned (.bool true) ∧ Below w.heap.size w w' := by
  obtain ⟨l0, hl0, hR0⟩ := rcs_of w0
  have hnil : a0 = none → len0 = 0 ∧ cap0 = 0 := by
    intro h
    exact slice_none w0 h
  obtain ⟨r, A1, c1, rfl, hrw, hr1⟩ := rec_of w1
  have HR0 := Lib.hid hR0
  have HL0 := Lib.hid hl0
  have HR1 := Lib.hid hr1
  have HRW := Lib.hid hrw
  have HNIL := Lib.hid hnil
  clear w0 w1 hR0 hl0 hr1 hrw hnil
  go_enter Try.func7, Try.ntmps7
  go_wp2_with fail
  refine (awake_any _).mono ?_
  rintro e v1 ⟨rfl, h1⟩
  have hx1 : v1.heap[w.heap.size]? = some (.cells #[.int .i64 r.kind, .int .i64 r.slot, .int .i64 r.round, .int .i64 r.site, .slice A1 r.val.length c1] 41 (0, 0)) := (h1.block w.heap.size (by simp)).trans (push_new w _)
  have k1 : Kept w v1 := ((Kept.refl w).alloc _).call h1
  clear h1
  by_cases h100 : 100 < len0
  · go_wp2
    go_ret
    exact ⟨rfl, k1.1⟩
  · have hlen : len0 ≤ 100 := by omega
    clear h100
    obtain ⟨its, hits, hok, hat⟩ := (HR0.out.kept k1).its
    have hil : its.length = len0 := by rw [← HL0.out, ← hits]; simp
    have HX1 := Lib.hid hx1
    have HK1 := Lib.hid k1
    have HIT := Lib.hid hits
    have HOK := Lib.hid hok
    have HAT := Lib.hid hat
    have HIL := Lib.hid hil
    have b0 := cell_of_heap hx1 0; have b1 := cell_of_heap hx1 1; have b2 := cell_of_heap hx1 2; have b3 := cell_of_heap hx1 3; have b4 := cell_of_heap hx1 4
    simp only [List.getElem?_toArray, List.getElem?_cons_zero, List.getElem?_cons_succ] at b0 b1 b2 b3 b4
    have hb1 := heap_lt hx1
    have KW : ∀ W, Kept v1.drew W → Kept v1 W := fun W h => (Kept.refl v1).drew.trans h
    have T1 := Lib.hid fun (W : World) (h : Kept v1.drew W) => And.intro (((KW W h).cell (p := ⟨w.heap.size, 0, none⟩) hb1).trans b0) (And.intro (((KW W h).cell (p := ⟨w.heap.size, 1, none⟩) hb1).trans b1) (And.intro (((KW W h).cell (p := ⟨w.heap.size, 2, none⟩) hb1).trans b2) (And.intro (((KW W h).cell (p := ⟨w.heap.size, 3, none⟩) hb1).trans b3) (((KW W h).cell (p := ⟨w.heap.size, 4, none⟩) hb1).trans b4))))
    have T2 := Lib.hid fun (W : World) (h : Kept v1.drew W) (g : Nat) (hB : v1.heap.size ≤ g) (hg : W.heap[g]? = some (.cells #[] 41 (0, 0))) (ty : TypeId) =>
      run_copy_recs (B := v1.heap.size) (A := a0) (c := cap0) ty hg hB hil (fun x hx => ⟨(hok x hx).kept (KW W h), fun a ha hn e => by
        have := Row.block_lt (hok x hx) ha hn
        injection e with e
        omega⟩) (fun i hi => by
        obtain ⟨b, off, e, hb, hc⟩ := hat i hi
        exact ⟨b, off, e, Nat.lt_of_lt_of_le hb (KW W h).2, fun j hj => ((KW W h).cell (p := ⟨b, off + i * 5 + j, none⟩) hb).trans (hc j hj)⟩) hlen HNIL.out
    have T3 := Lib.hid fun (W : World) (h : Kept v1.drew W) => (KW W h).2
    clear b0 b1 b2 b3 b4 hb1 KW hits hok hat hil hx1 k1
    go_wp2_with fail
    refine wp_region_typed (N := 5) (fl := []) (by kernel_rfl) (by kernel_rfl) ?_
    simp only [List.take_succ_cons, List.take_zero, List.drop_succ_cons, List.drop_zero, List.map_cons, List.map_nil, zipF]
    repeat (first
      | (refine wpT_skip rfl ?_; dsimp only [putS, List.set_cons_succ, List.set_cons_zero])
      | (refine wpT_slot (S := .is _) _ (.inl rfl) rfl (Slot.mono_is _) rfl ?_; dsimp only [putS, List.set_cons_succ, List.set_cons_zero])
      | (refine wpT_slot (S := .is _) _ (.inr rfl) rfl (Slot.mono_is _) rfl ?_; dsimp only [putS, List.set_cons_succ, List.set_cons_zero])
      | (refine wpT_exact1 rfl rfl rfl ?_; apply Exists.intro; refine ⟨fun ρ w hk ⟨c1, c2, c3⟩ h1 => ?_, ?_⟩; (· obtain ⟨t1, t2, t3, t4, t5⟩ := T1.out w hk; go_simp; exact rfl); dsimp only [putS, List.set_cons_succ, List.set_cons_zero])
      | (refine wpT_exact2 rfl rfl rfl rfl ?_; apply Exists.intro; refine ⟨fun ρ w hk ⟨c1, c2, c3⟩ h1 h2 => ?_, ?_⟩; (· obtain ⟨t1, t2, t3, t4, t5⟩ := T1.out w hk; go_simp; exact rfl); dsimp only [putS, List.set_cons_succ, List.set_cons_zero])
      | (refine wpT_exact3 rfl rfl rfl rfl rfl ?_; apply Exists.intro; refine ⟨fun ρ w hk ⟨c1, c2, c3⟩ h1 h2 h3 => ?_, ?_⟩; (· obtain ⟨t1, t2, t3, t4, t5⟩ := T1.out w hk; go_simp; exact rfl); dsimp only [putS, List.set_cons_succ, List.set_cons_zero])
      | (refine wpT_exact4 rfl rfl rfl rfl rfl rfl ?_; apply Exists.intro; refine ⟨fun ρ w hk ⟨c1, c2, c3⟩ h1 h2 h3 h4 => ?_, ?_⟩; (· obtain ⟨t1, t2, t3, t4, t5⟩ := T1.out w hk; go_simp; exact rfl); dsimp only [putS, List.set_cons_succ, List.set_cons_zero])
      | (refine wpT_exact0 rfl ?_; apply Exists.intro; refine ⟨fun ρ w hk ⟨c1, c2, c3⟩ => ?_, ?_⟩; (· obtain ⟨t1, t2, t3, t4, t5⟩ := T1.out w hk; go_simp; exact rfl); dsimp only [putS, List.set_cons_succ, List.set_cons_zero])
      | (refine wpT_has (Empty.mono v1.heap.size) rfl (fun ρ w hk ⟨c1, c2, c3⟩ _ => ?_) ?_
         · refine upT_made (w' := w.alloc (.cells #[] 41)) (.slice (some ⟨w.heap.size, 0, none⟩) 0 0) ?_ ((Kept.refl _).alloc _) ⟨w.heap.size, rfl, T3.out w hk, push_new _ _⟩
           go_simp
         dsimp only [putS, List.set_cons_succ, List.set_cons_zero])
      | (refine wpT_has (RowI.mono v1.heap.size its) rfl (fun ρ w hk ⟨c1, c2, c3⟩ ⟨h1, h2, _⟩ => ?_) ?_
         · obtain ⟨g, e1, hB, hg⟩ := h1
           have h2 : ρ (.tmp 21) = _ := h2
           obtain ⟨v, w', hr, hk', hrow⟩ := T2.out w hk g hB hg 22
           refine upT_made v ?_ hk' hrow
           unfold execOp
           simp only [resolve, invoke, builtin, Sem.run_bind, Sem.run_pure, Result.andThen_ok, List.map_toArray, List.map_cons, List.map_nil, e1, h2, hr]
         dsimp only [putS, List.set_cons_succ, List.set_cons_zero])
      | (refine wpT_has (OneI.mono v1.heap.size r A1 c1) rfl (fun ρ w hk ⟨d1, d2, d3⟩ ⟨h1, _⟩ => ?_) ?_
         · have h1 : ρ (.tmp 23) = _ := h1
           refine upT_made (w' := w.alloc (.cells #[.int .i64 r.kind, .int .i64 r.slot, .int .i64 r.round, .int .i64 r.site, .slice A1 r.val.length c1] 41)) (.slice (some ⟨w.heap.size, 0, none⟩) 1 1) ?_ ((Kept.refl _).alloc _) ⟨w.heap.size, rfl, T3.out w hk, push_new _ _⟩
           go_simp
         dsimp only [putS, List.set_cons_succ, List.set_cons_zero]))
    refine wpT_nil ?_
    intro wz kz
    simp only [Fits]
    intro y20 _ y22 h22 y24 ⟨g, e24, hg24, hc24⟩
    subst e24
    have k2 := (Kept.refl v1).drew.trans kz
    have hrz := HR1.out.below (HK1.out.trans k2).1
    have HK2 := Lib.hid k2
    clear k2 kz
    refine wpList_append_rec rfl (.tmp 22) (.tmp 24) rfl (base := v1.heap.size) (v := y22) (l := its) (m := [⟨r, A1, c1⟩]) (ad := ⟨g, 0, none⟩) (k := 1) (c := 1) rfl rfl rfl h22 (fun x hx => by
      obtain rfl := List.mem_singleton.1 hx
      refine ⟨hrz, fun a ha hn e => ?_⟩
      have h1 := Row.block_lt HR1.out ha hn
      have h2 := (World.ownsRow.lt h22.row _ e).1
      have h3 := HK1.out.2
      omega) (fun j u hu => by
      have e : (⟨g, 0, none⟩ : Addr).add j = ⟨g, j, none⟩ := by
        unfold Addr.add; by_cases h : j = 0 <;> simp [h]
      rw [e, cell_of_heap hc24 j]
      simpa [flatI, It.cells] using hu) (by rw [HIL.out]; omega) HK2.out.2 ?_
    intro v8 w8 own8 gr8 _
    have hb8 := HK2.out.1.grown gr8 HK2.out.2 (fun j hj => (World.ownsRow.lt h22.row j hj).1)
    have k8 : Kept v1 w8 := ⟨hb8, hb8.size⟩
    obtain ⟨A8, c8, rfl, -, -, -⟩ := own8.slice
    have hrc8 := own8.rcs (fun x hx => by
      rcases List.mem_append.1 hx with hx | hx
      · exact HR0.out.1 _ (by rw [← HIT.out]; exact List.mem_map_of_mem hx)
      · obtain rfl := List.mem_singleton.1 hx
        exact HRW.out)
    have hlm : (its ++ [(⟨r, A1, c1⟩ : It)]).map It.r = l0 ++ [r] := by rw [List.map_append, HIT.out]; rfl
    have hle : (its ++ [(⟨r, A1, c1⟩ : It)]).length = len0 + 1 := by rw [List.length_append, HIL.out]; rfl
    rw [hlm] at hrc8
    rw [hle]
    have hk8 := HK1.out.trans k8
    have HC8 := Lib.hid hrc8
    have HL8 : Hid ((l0 ++ [r]).length = len0 + 1) := Lib.hid (by rw [List.length_append, HL0.out]; rfl)
    have HR8 := Lib.hid (HR0.out.kept hk8)
    have h4 : HoldsR w8 w.heap.size r A1 c1 := ⟨(k8.1.block w.heap.size (heap_lt HX1.out)).trans HX1.out, HR1.out.below hk8.1⟩
    have H4 := Lib.hid h4
    have HK8 := Lib.hid hk8
    obtain ⟨b0, b1, b2, b3, b4⟩ := five h4.1
    have hbw : w.heap.size < w8.heap.size := heap_lt h4.1
    clear h4 hk8 hrc8 hlm hle k8 hb8 own8 gr8 h22 hc24 hg24 hrz HIT HOK HIL T1 T2 T3 HK1 HX1 HR0 HNIL HK2
    go_wp2_with fail
    refine only_end ?_
    go_wp2_with fail
    refine (last_said _ _ HL8.out HC8.out (by omega)).mono ?_
    rintro e w9 ⟨h9, o1, r1, A9, c9, hs9, rfl, hr9⟩
    obtain ⟨rfl, e1⟩ := hs9.hit (x := r) (by rw [lastOf_snoc, if_pos ⟨rfl, rfl⟩])
    subst r1
    have k9 : Kept w8 w9 := ⟨h9, h9.size⟩
    have HP9 := Lib.hid (HoldsR.new hr9)
    have HKA := Lib.hid (k9.alloc (.cells #[.int .i64 r.kind, .int .i64 r.slot, .int .i64 r.round, .int .i64 r.site, .slice A9 r.val.length c9] 41))
    clear b0 b1 b2 b3 b4 h9 hs9 hr9 k9
    simp only [rcv]
    go_wp2_with fail
    generalize w9.alloc (.cells #[.int .i64 r.kind, .int .i64 r.slot, .int .i64 r.round, .int .i64 r.site, .slice A9 r.val.length c9] 41) = wA at *
    generalize w9.heap.size = p9 at *
    refine (last_said _ _ HL0.out (HR8.out.kept HKA.out) (by omega)).mono ?_
    rintro e w10 ⟨h10, o2, r2, A10, c10, hs10, rfl, hr10⟩
    have k10 : Kept wA w10 := ⟨h10, h10.size⟩
    have HP10 := Lib.hid (HoldsR.new hr10)
    have HKB := Lib.hid (k10.alloc (.cells #[.int .i64 r2.kind, .int .i64 r2.slot, .int .i64 r2.round, .int .i64 r2.site, .slice A10 r2.val.length c10] 41))
    have HS10 := Lib.hid hs10
    clear h10 hs10 hr10 k10
    simp only [rcv]
    go_wp2_with fail
    generalize w10.alloc (.cells #[.int .i64 r2.kind, .int .i64 r2.slot, .int .i64 r2.round, .int .i64 r2.site, .slice A10 r2.val.length c10] 41) = wB at *
    generalize w10.heap.size = p10 at *
    refine (last_said _ _ HL8.out (HC8.out.kept (HKA.out.trans HKB.out)) (by omega)).mono ?_
    rintro e w11 ⟨h11, o3, r3, A11, c11, hs11, rfl, hr11⟩
    have k11 : Kept wB w11 := ⟨h11, h11.size⟩
    have kb := HKA.out.trans (HKB.out.trans k11)
    have f4 := H4.out.kept kb
    have f9 := HP9.out.kept (HKB.out.trans k11)
    have f10 := HP10.out.kept k11
    have HF4 := Lib.hid f4
    have HF9 := Lib.hid f9
    have HF10 := Lib.hid f10
    have HKC := Lib.hid (HK8.out.trans kb)
    have HLR := Lib.hid (And.intro (HR8.out.kept kb) (HC8.out.kept kb))
    have HS11 := Lib.hid hs11
    have HROW := Lib.hid hr11
    obtain ⟨b0, b1, b2, b3, b4⟩ := five f4.1
    obtain ⟨d0, d1, d2, d3, d4⟩ := five f9.1
    obtain ⟨g0, g1, g2, g3, g4⟩ := five f10.1
    have lt4 := heap_lt f4.1
    have lt9 := heap_lt f9.1
    have lt10 := heap_lt f10.1
    clear h11 hs11 hr11 k11 f4 f9 f10 kb HKA HKB HP9 HP10 H4 HR8 HC8 HK8 hbw
    simp only [rcv]
    by_cases hm1 : r.kind = 1
    · have t1 : (r.kind == 1) = true := by simpa using hm1
      by_cases hm2 : r.slot = a2
      · have t2 : (r.slot == a2) = true := by simpa using hm2
        obtain ⟨rfl, e3⟩ := HS11.out.hit (x := r) (by rw [lastOf_snoc, if_pos ⟨hm1, hm2⟩])
        subst r3
        clear HS11
        clear hm1 hm2
        go_wp2_with fail
        have kz := (Kept.refl w11).alloc (.cells #[.int .i64 r.kind, .int .i64 r.slot, .int .i64 r.round, .int .i64 r.site, .slice A11 r.val.length c11] 41)
        have F4 := Lib.hid (HF4.out.kept kz)
        have F9 := Lib.hid (HF9.out.kept kz)
        have F10 := Lib.hid (HF10.out.kept kz)
        have F11 := Lib.hid (HoldsR.new HROW.out)
        have KZ := Lib.hid (HKC.out.trans kz)
        have LR := Lib.hid (And.intro (HLR.out.1.kept kz) (HLR.out.2.kept kz))
        clear b0 b1 b2 b3 b4 d0 d1 d2 d3 d4 g0 g1 g2 g3 g4 lt4 lt9 lt10 HF4 HF9 HF10 HROW HKC HLR kz
        generalize w11.alloc (.cells #[.int .i64 r.kind, .int .i64 r.slot, .int .i64 r.round, .int .i64 r.site, .slice A11 r.val.length c11] 41) = wC at *
        generalize w11.heap.size = p11 at *
        refine (one_any F9.out.2 F4.out.2).mono ?_
        rintro e z1 ⟨rfl, hb1⟩
        have kz1 : Kept wC z1 := ⟨hb1, hb1.size⟩
        have KZ1 := Lib.hid kz1
        have G4 := Lib.hid (F4.out.kept kz1)
        have G11 := Lib.hid (F11.out.kept kz1)
        obtain ⟨b0, b1, b2, b3, b4⟩ := five G4.out.1
        obtain ⟨d0, d1, d2, d3, d4⟩ := five G11.out.1
        clear hb1 kz1
        go_wp2_with fail
        refine (one_any G11.out.2 G4.out.2).mono ?_
        rintro e z2 ⟨rfl, hb2⟩
        go_wp2
        go_ret
        exact ⟨rfl, ((KZ.out.trans KZ1.out).call hb2).1⟩
      · have t2 : (r.slot == a2) = false := by simpa using hm2
        obtain ⟨rfl, rfl⟩ := HS10.out.eq HS11.out (by rw [lastOf_snoc, if_neg (fun h => hm2 h.2)])
        clear HS10 HS11
        clear hm1 hm2
        go_wp2_with fail
        have kz := (Kept.refl w11).alloc (.cells #[.int .i64 r2.kind, .int .i64 r2.slot, .int .i64 r2.round, .int .i64 r2.site, .slice A11 r2.val.length c11] 41)
        have F4 := Lib.hid (HF4.out.kept kz)
        have F9 := Lib.hid (HF9.out.kept kz)
        have F10 := Lib.hid (HF10.out.kept kz)
        have F11 := Lib.hid (HoldsR.new HROW.out)
        have KZ := Lib.hid (HKC.out.trans kz)
        have LR := Lib.hid (And.intro (HLR.out.1.kept kz) (HLR.out.2.kept kz))
        clear b0 b1 b2 b3 b4 d0 d1 d2 d3 d4 g0 g1 g2 g3 g4 lt4 lt9 lt10 HF4 HF9 HF10 HROW HKC HLR kz
        generalize w11.alloc (.cells #[.int .i64 r2.kind, .int .i64 r2.slot, .int .i64 r2.round, .int .i64 r2.site, .slice A11 r2.val.length c11] 41) = wC at *
        generalize w11.heap.size = p11 at *
        refine (one_any F9.out.2 F4.out.2).mono ?_
        rintro e z1 ⟨rfl, hb1⟩
        have kz1 : Kept wC z1 := ⟨hb1, hb1.size⟩
        have KZ1 := Lib.hid kz1
        have G10 := Lib.hid (F10.out.kept kz1)
        have G11 := Lib.hid (F11.out.kept kz1)
        obtain ⟨b0, b1, b2, b3, b4⟩ := five G10.out.1
        obtain ⟨d0, d1, d2, d3, d4⟩ := five G11.out.1
        clear hb1 kz1
        go_wp2_with fail
        refine (one_any G10.out.2 G11.out.2).mono ?_
        rintro e z2 ⟨rfl, hb2⟩
        have K2 := Lib.hid (KZ1.out.call hb2)
        clear hb2 b0 b1 b2 b3 b4 d0 d1 d2 d3 d4
        go_wp2_with fail
        refine (slots_said HL8.out (LR.out.2.kept K2.out) (by omega)).mono ?_
        rintro e z3 ⟨hb3, A12, c12, rfl⟩
        have K3 := Lib.hid (K2.out.call hb3)
        clear hb3
        go_wp2_with fail
        refine (slots_said HL0.out (LR.out.1.kept K3.out) (by omega)).mono ?_
        rintro e z4 ⟨hb4, A13, c13, rfl⟩
        have K4 := Lib.hid (K3.out.call hb4)
        have hge : Maps.size (SD l0 len0) ≤ Maps.size (SD (l0 ++ [r]) (len0 + 1)) := by have := SD_size l0 r; rw [HL0.out] at this; exact this
        clear hb4
        generalize Maps.size (SD l0 len0) = m1 at *
        generalize Maps.size (SD (l0 ++ [r]) (len0 + 1)) = m2 at *
        go_wp2
        go_ret
        exact ⟨by simp [hge], (KZ.out.trans K4.out).1⟩
    · have t1 : (r.kind == 1) = false := by simpa using hm1
      have hm2 : True := trivial
      obtain ⟨rfl, rfl⟩ := HS10.out.eq HS11.out (by rw [lastOf_snoc, if_neg (fun h => hm1 h.1)])
      clear HS10 HS11
      clear hm1 hm2
      go_wp2_with fail
      have kz := (Kept.refl w11).alloc (.cells #[.int .i64 r2.kind, .int .i64 r2.slot, .int .i64 r2.round, .int .i64 r2.site, .slice A11 r2.val.length c11] 41)
      have F4 := Lib.hid (HF4.out.kept kz)
      have F9 := Lib.hid (HF9.out.kept kz)
      have F10 := Lib.hid (HF10.out.kept kz)
      have F11 := Lib.hid (HoldsR.new HROW.out)
      have KZ := Lib.hid (HKC.out.trans kz)
      have LR := Lib.hid (And.intro (HLR.out.1.kept kz) (HLR.out.2.kept kz))
      clear b0 b1 b2 b3 b4 d0 d1 d2 d3 d4 g0 g1 g2 g3 g4 lt4 lt9 lt10 HF4 HF9 HF10 HROW HKC HLR kz
      generalize w11.alloc (.cells #[.int .i64 r2.kind, .int .i64 r2.slot, .int .i64 r2.round, .int .i64 r2.site, .slice A11 r2.val.length c11] 41) = wC at *
      generalize w11.heap.size = p11 at *
      refine (one_any F9.out.2 F4.out.2).mono ?_
      rintro e z1 ⟨rfl, hb1⟩
      have kz1 : Kept wC z1 := ⟨hb1, hb1.size⟩
      have KZ1 := Lib.hid kz1
      have G10 := Lib.hid (F10.out.kept kz1)
      have G11 := Lib.hid (F11.out.kept kz1)
      obtain ⟨b0, b1, b2, b3, b4⟩ := five G10.out.1
      obtain ⟨d0, d1, d2, d3, d4⟩ := five G11.out.1
      clear hb1 kz1
      go_wp2_with fail
      refine (one_any G10.out.2 G11.out.2).mono ?_
      rintro e z2 ⟨rfl, hb2⟩
      have K2 := Lib.hid (KZ1.out.call hb2)
      clear hb2 b0 b1 b2 b3 b4 d0 d1 d2 d3 d4
      go_wp2_with fail
      refine (slots_said HL8.out (LR.out.2.kept K2.out) (by omega)).mono ?_
      rintro e z3 ⟨hb3, A12, c12, rfl⟩
      have K3 := Lib.hid (K2.out.call hb3)
      clear hb3
      go_wp2_with fail
      refine (slots_said HL0.out (LR.out.1.kept K3.out) (by omega)).mono ?_
      rintro e z4 ⟨hb4, A13, c13, rfl⟩
      have K4 := Lib.hid (K3.out.call hb4)
      have hge : Maps.size (SD l0 len0) ≤ Maps.size (SD (l0 ++ [r]) (len0 + 1)) := by have := SD_size l0 r; rw [HL0.out] at this; exact this
      clear hb4
      generalize Maps.size (SD l0 len0) = m1 at *
      generalize Maps.size (SD (l0 ++ [r]) (len0 + 1)) = m2 at *
      go_wp2
      go_ret
      exact ⟨by simp [hge], (KZ.out.trans K4.out).1⟩
end Go.Proofs.Ytnadfkcicppehaa
