/- Of the document: Decode. -/
import Derived.Test.YtmjgpgnecohbcaaAlgZf
import Derived.Test.YtmjgpgnecohbcaaAlgZc
namespace Go.Proofs.Ytmjgpgnecohbcaa
open Go.RowKit Go.Great

theorem own_base2 {w : World} {b b' : Nat} {v : Value} {bs : List Nat} (h : Own w b v bs) (hb : b' ≤ b) : Own w b' v bs := own_base h hb

set_option maxRecDepth 100000 in
set_option maxHeartbeats 4000000 in
theorem refdecode_any {w : World} {A : Option Addr} {n cap : Nat} {bs : List Nat} (hb : Row w A n cap bs) :
    Calls Try.prog 44 #[.slice A n cap] w fun e w' => Below w.heap.size w w' ∧
      ((dec bs = none ∧ e = .returned (.tuple #[rcv Rc.zero none 0 0, .int .i64 2])) ∨ ∃ r A' c, dec bs = some r ∧ e = .returned (.tuple #[rcv r A' r.val.length c, .int .i64 0]) ∧ Own w' w.heap.size (.slice A' r.val.length c) r.val) := by
  have HB := Lib.hid hb
  have hmax := hb.bts.2.1
  have HLEN := Lib.hid hb.len
  have HBY : Hid (∀ p, ∀ c ∈ bs.drop p, c < 256) := Lib.hid (fun p c hc => hb.bts.2.2.1 c (List.mem_of_mem_drop hc))
  clear hb
  obtain ⟨R0, hR0⟩ : ∃ R, rdN bs 4 0 = R := ⟨_, rfl⟩
  have HR00 := Lib.hid hR0
  clear hR0
  have ha1 := push_two_old w (.cells zrec 55) (.cells (arr4 []) 111)
  have ha2 := push_two_new w (.cells zrec 55) (.cells (arr4 []) 111)
  have hk0 : Kept w ((w.alloc (.cells zrec 55)).alloc (.cells (arr4 []) 111)) := ((Kept.refl _).alloc _).alloc _
  have HA1 := Lib.hid ha1
  have HA2 := Lib.hid ha2
  have HK0 := Lib.hid hk0
  clear ha1 ha2 hk0
  go_enter Try.func44, Try.ntmps44
  go_wp2_with fail
  go_loopw [5, 6] (fun at_ i wr => ∃ (ns : List Nat) (p : Nat), ns.length ≤ 4 ∧ i = .int .i64 (ns.length : Nat) ∧ at_ = .int .i64 (p : Nat) ∧ p ≤ n ∧ Rest R0 bs ns p ∧ Kept w wr ∧
    wr.heap[w.heap.size]? = some (.cells zrec 55 (0, 0)) ∧ wr.heap[w.heap.size + 1]? = some (.cells (arr4 ns) 111 (0, 0))) (fun _ i _ => 4 - (intOf i).toNat)
  case atStart => exact ⟨[], 0, by simp, rfl, rfl, Nat.zero_le _, by unfold Rest; rw [← HR00.out]; show rdN bs 4 0 = (rdN bs 4 0).map _; cases rdN bs 4 0 <;> rfl, HK0.out, HA1.out, HA2.out⟩
  case round =>
    obtain ⟨ns, p, hns, rfl, rfl, hp, hrest, kk, h1, h2⟩ := hrel
    rename_i wr
    have HRT := Lib.hid hrest
    have HKK := Lib.hid kk
    have H1 := Lib.hid h1
    have H2 := Lib.hid h2
    clear hrest kk h1 h2
    generalize hk : ns.length = k at *
    have HVK := Lib.hid hk
    clear hk
    by_cases hk : k < 4
    · have hsm := refsmall_any (w := wr) (cap := cap) (M := 1099511627776) (HB.out.below HKK.out.1).bts hp (by omega)
      have hroom := sml_room (D := bs.drop p) (M := 1099511627776) (HBY.out p)
      rw [List.length_drop, HLEN.out] at hroom
      have hrest := HRT.out
      unfold Rest at hrest
      obtain ⟨m, hm⟩ : ∃ m, 4 - k = m + 1 := ⟨4 - k - 1, by omega⟩
      rw [HVK.out, hm, rdN] at hrest
      have HM := Lib.hid hm
      clear HRT hm
      have e0 : ((1099511627776 : Nat) : Int) = 1099511627776 := rfl
      rw [e0] at hsm
      generalize sml (bs.drop p) 1099511627776 = S at *
      obtain ⟨x, sz, c⟩ := S
      simp only at hsm hrest hroom
      have HRT := Lib.hid hrest
      have HNX := Lib.hid hsm
      have hszr := hroom.1
      clear hrest hsm hroom e0
      by_cases hc : c = 0
      · subst hc
        have hcl := (cell_of_heap H2.out k)
        obtain ⟨z, hz⟩ := arr4_cell (vs := ns) (j := k) (by have := HVK.out; omega) hk
        rw [hz] at hcl
        have hfr := frozen_of_heap H2.out k
        have e1 : IntKind.i64.wrap ((p : Int) + (sz : Int)) = ((p + sz : Nat) : Int) := by rw [IntKind.wrap_i64]; omega
        obtain ⟨q, hq, hqn⟩ : ∃ q, p + sz = q ∧ q ≤ n := ⟨_, rfl, by omega⟩
        rw [hq] at e1
        have HQ := Lib.hid hq
        clear hz hq
        go_wp2_with fail
        refine HNX.out.mono ?_
        rintro e w2 ⟨rfl, rfl⟩
        go_wp2
        have hrn2 := HRT.out
        simp only [ne_eq, not_true_eq_false, if_false] at hrn2
        refine ⟨⟨ns ++ [x], q, by rw [List.length_append, HVK.out]; simp; omega, by rw [List.length_append, HVK.out]; simp, rfl, hqn, ?_, HKK.out.setCell (by simp) _, ?_, ?_⟩, by simp [intOf]; omega⟩
        · unfold Rest
          rw [hrn2, HQ.out, show 4 - (ns ++ [x]).length = m by rw [List.length_append, HVK.out]; have := HM.out; simp; omega, Option.map_map]
          congr 1
          funext y
          simp
        · exact (Below.heap_setCell w2 ⟨w.heap.size + 1, k, none⟩ _ w.heap.size (by simp)).trans H1.out
        · rw [heap_setCell_same H2.out, arr4_set HVK.out hk]
      · have hdn : dec bs = none := by
          unfold dec
          rw [HR00.out, HRT.out, if_pos hc]
          rfl
        have HDN := Lib.hid hdn
        have hc' : ¬ (c : Int) = 0 := by omega
        clear hdn HRT
        go_upto_region 8 with (first
          | (go_at_call 65; refine HNX.out.mono ?_; rintro e w2 ⟨rfl, rfl⟩)
          | fail)
        apply wp_region_lit
        refine wpList_buildTo rfl 55 _ rfl (some 27) rfl zrec (by kernel_rfl) ?_
        refine wpList_store_rowTo rfl 55 _ _ rfl rfl w.heap.size zrec rfl rfl 55 zrec H1.out (by kernel_rfl) rfl (by kernel_rfl) ?_
        rw [setRow_self _ _ _ _ _ H1.out]
        refine wpList_runTo rfl (some 3) rfl (.int .i64 2) w2 (by kernel_rfl) ?_
        apply wpList_nil
        go_wp2
        refine bodyPost_ret (results_row_tmp (p := 2) (u := 3) (ty := 55) rfl _ _ _ w.heap.size _ zrec _ _ _ rfl rfl H1.out Try.underlying55 rfl (by kernel_rfl)) rfl ?_
        exact ⟨HKK.out.1, .inl ⟨HDN.out, rfl⟩⟩
    · have hk' : k = 4 := by omega
      subst hk'
      have hrest := HRT.out
      unfold Rest at hrest
      rw [HVK.out, show 4 - 4 = 0 from rfl, rdN] at hrest
      simp only [Option.map_some, List.append_nil] at hrest
      have hby := reftake_any (w := wr) (M := 2048) (HB.out.below HKK.out.1) hp (by omega)
      have hdec : dec bs = rdV bs ns p := by
        unfold dec
        rw [HR00.out, hrest]
      unfold rdV at hdec
      have hrb : ∀ v k, tak (bs.drop p) 2048 = (v, k, 0) → v.length ≤ 2048 ∧ k ≤ n - p ∧ ∀ c ∈ v, c < 256 := fun v k h => (fun h => ⟨h.2.1, by have := h.2.2.1; rwa [List.length_drop, HLEN.out] at this, h.2.2.2⟩) (tak_back (HBY.out p) h)
      have e0 : ((2048 : Nat) : Int) = 2048 := rfl
      rw [e0] at hby
      rw [HLEN.out] at hdec
      generalize tak (bs.drop p) 2048 = S at *
      obtain ⟨val, sz, c⟩ := S
      simp only at hby hdec
      have HDEC := Lib.hid hdec
      have HRB := Lib.hid hrb
      have HNX := Lib.hid hby
      have hgs : w.heap.size + 1 < wr.heap.size := heap_lt H2.out
      clear hdec hrest HRT hrb hby e0
      by_cases hc : c = 0
      · subst hc
        obtain ⟨hval, hszn, hvb⟩ := HRB.out val sz rfl
        have HVB := Lib.hid hvb
        obtain ⟨a0, b0, c0, d0, hvs⟩ := quatre HVK.out
        have hrc : rcOf ns val = ⟨a0, b0, c0, d0, val⟩ := by rw [hvs]; rfl
        have HRC := Lib.hid hrc
        have e1 : IntKind.i64.wrap ((p : Int) + (sz : Int)) = ((p + sz : Nat) : Int) := by rw [IntKind.wrap_i64]; omega
        obtain ⟨q, hq⟩ : ∃ q, p + sz = q := ⟨_, rfl⟩
        rw [hq] at e1
        have HQ := Lib.hid hq
        clear HRB hvb hrc hq
        by_cases hqn : q = n
        · have hd : dec bs = if (Rc.mk a0 b0 c0 d0 val).may then some ⟨a0, b0, c0, d0, val⟩ else none := by rw [HDEC.out, if_neg (by simp), if_neg (by rw [HQ.out]; simp [hqn]), HRC.out]
          subst hqn
          have HMY := Lib.hid fun A2 c2 w => refmay_any ⟨a0, b0, c0, d0, val⟩ A2 val.length c2 rfl w
          unfold rcv at HMY
          simp only at HMY
          by_cases hm : (Rc.mk a0 b0 c0 d0 val).may
          · rw [if_pos hm] at hd
            rw [Rc.mayB_yes hm] at HMY
            have HD := Lib.hid hd
            clear hd HDEC hm
            go_wp2_with (first
              | (go_at_call 66; refine HNX.out.mono ?_; rintro e w2 ⟨v, rfl, own, hb2⟩
                 have hx1 := (hb2.block _ (heap_lt H1.out)).trans H1.out
                 have hx2 := (hb2.block _ (heap_lt H2.out)).trans H2.out
                 have hs1 : w.heap.size < w2.heap.size := heap_lt hx1
                 have HX1 := Lib.hid hx1
                 have K2 := Lib.hid (HKK.out.call hb2)
                 rw [hvs] at hx2
                 obtain ⟨q0, q1, q2, q3⟩ := arr4_cells hx2
                 obtain ⟨A2, c2, rfl, -⟩ := own.row (by omega) HVB.out
                 have HOWN := Lib.hid own
                 clear hx1 hx2 own hb2)
              | fail)
            refine (HMY.out _ _ _).mono ?_
            rintro e w3 ⟨rfl, hb3⟩
            have hs3 : w2.heap.size < w3.heap.size := by have := hb3.size; simp only [World.size_alloc] at this; omega
            have hv3 := (hb3.block w2.heap.size (by simp)).trans (push_new w2 _)
            have hz3 := (hb3.block w.heap.size (by simp; omega)).trans ((push_old w2 _ hs1).trans HX1.out)
            have HZ3 := Lib.hid hz3
            have HK3 := Lib.hid ((K2.out.alloc _).call hb3)
            have HOWN3 := Lib.hid (((HOWN.out.below ((Below.refl _ _).alloc (Nat.le_refl _) _)).below hb3))
            have y0 := cell_of_heap hv3 0; have y1 := cell_of_heap hv3 1; have y2 := cell_of_heap hv3 2; have y3 := cell_of_heap hv3 3; have y4 := cell_of_heap hv3 4
            simp only [List.getElem?_toArray, List.getElem?_cons_zero, List.getElem?_cons_succ] at y0 y1 y2 y3 y4
            have zz0 := cell_of_heap hz3 0; have zz1 := cell_of_heap hz3 1; have zz2 := cell_of_heap hz3 2; have zz3 := cell_of_heap hz3 3; have zz4 := cell_of_heap hz3 4
            have ff0 := frozen_of_heap hz3 0; have ff1 := frozen_of_heap hz3 1; have ff2 := frozen_of_heap hz3 2; have ff3 := frozen_of_heap hz3 3; have ff4 := frozen_of_heap hz3 4
            simp only [zrec, List.getElem?_toArray, List.getElem?_cons_zero, List.getElem?_cons_succ] at zz0 zz1 zz2 zz3 zz4
            clear hb3 hv3 hz3 q0 q1 q2 q3 HOWN K2 HMY
            go_wp2
            refine bodyPost_ret (results_row_tmp (p := 2) (u := 3) (ty := 55) rfl _ _ _ w.heap.size 55 #[.int .i64 (a0 : Int), .int .i64 (b0 : Int), .int .i64 (c0 : Int), .int .i64 (d0 : Int), .slice A2 val.length c2] (0, 0) _ (.int .i64 0) rfl rfl ?_ Try.underlying55 rfl (by kernel_rfl)) rfl ?_
            · refine Eq.trans (by with_reducible exact (heap_setCell_same (heap_setCell_same (heap_setCell_same (heap_setCell_same (heap_setCell_same HZ3.out _) _) _) _) _)) ?_
              kernel_rfl
            · have hfar : (Value.slice A2 val.length c2).ownBlock ≠ some w.heap.size := fun h => by
                have := (World.ownsRow.lt HOWN3.out _ h).1
                omega
              refine ⟨(((((HK3.out.setCell (p := ⟨w.heap.size, 0, none⟩) (Nat.le_refl _) _).setCell (p := ⟨w.heap.size, 1, none⟩) (Nat.le_refl _) _).setCell (p := ⟨w.heap.size, 2, none⟩) (Nat.le_refl _) _).setCell (p := ⟨w.heap.size, 3, none⟩) (Nat.le_refl _) _).setCell (p := ⟨w.heap.size, 4, none⟩) (Nat.le_refl _) _).1, .inr ⟨⟨a0, b0, c0, d0, val⟩, A2, c2, HD.out, rfl, ?_⟩⟩
              exact (((((own_base HOWN3.out (by omega)).far hfar _).far hfar _).far hfar _).far hfar _).far hfar _
          · rw [if_neg hm] at hd
            rw [Rc.mayB_no hm] at HMY
            have HDN := Lib.hid hd
            clear hd HDEC hm
            go_upto_region 16 with (first
              | (go_at_call 66; refine HNX.out.mono ?_; rintro e w2 ⟨v, rfl, own, hb2⟩
                 have hx1 := (hb2.block _ (heap_lt H1.out)).trans H1.out
                 have hx2 := (hb2.block _ (heap_lt H2.out)).trans H2.out
                 have hs1 : w.heap.size < w2.heap.size := heap_lt hx1
                 have HX1 := Lib.hid hx1
                 have K2 := Lib.hid (HKK.out.call hb2)
                 rw [hvs] at hx2
                 obtain ⟨q0, q1, q2, q3⟩ := arr4_cells hx2
                 obtain ⟨A2, c2, rfl, -⟩ := own.row (by omega) HVB.out
                 have HOWN := Lib.hid own
                 clear hx1 hx2 own hb2)
              | (go_at_call 55; refine (HMY.out _ _ _).mono ?_; rintro e W3 ⟨rfl, hb3⟩
                 have hz3 := (hb3.block w.heap.size (by simp; omega)).trans ((push_old w2 _ hs1).trans HX1.out)
                 have HX3 := Lib.hid hz3
                 have HK3 := Lib.hid ((K2.out.alloc _).call hb3)
                 clear hb3 hz3)
              | fail)
            apply wp_region_lit
            refine wpList_buildTo rfl 55 _ rfl (some 66) rfl zrec (by kernel_rfl) ?_
            refine wpList_store_rowTo rfl 55 _ _ rfl rfl w.heap.size zrec rfl rfl 55 zrec HX3.out (by kernel_rfl) rfl (by kernel_rfl) ?_
            rw [setRow_self _ _ _ _ _ HX3.out]
            refine wpList_runTo rfl (some 3) rfl (.int .i64 2) W3 (by kernel_rfl) ?_
            apply wpList_nil
            go_wp2
            refine bodyPost_ret (results_row_tmp (p := 2) (u := 3) (ty := 55) rfl _ _ _ w.heap.size _ zrec _ _ _ rfl rfl HX3.out Try.underlying55 rfl (by kernel_rfl)) rfl ?_
            exact ⟨HK3.out.1, .inl ⟨HDN.out, rfl⟩⟩
        · have HDN : Hid (dec bs = none) := Lib.hid (by rw [HDEC.out, if_neg (by simp), if_pos (by rw [HQ.out]; exact hqn)])
          have hqn' : ¬ (q : Int) = n := by omega
          have hqn2 : ((q : Int) != (n : Int)) = true := by simp; omega
          clear HDEC
          go_upto_region 13 with (first
            | (go_at_call 66; refine HNX.out.mono ?_; rintro e w2 ⟨v, rfl, own, hb2⟩
               have hx1 := (hb2.block _ (heap_lt H1.out)).trans H1.out
               have HX1 := Lib.hid hx1
               have K2 := Lib.hid (HKK.out.call hb2)
               obtain ⟨A2, n2, c2, rfl⟩ := own.slice
               clear hx1 own hb2)
            | fail)
          apply wp_region_lit
          refine wpList_buildTo rfl 55 _ rfl (some 51) rfl zrec (by kernel_rfl) ?_
          refine wpList_store_rowTo rfl 55 _ _ rfl rfl w.heap.size zrec rfl rfl 55 zrec HX1.out (by kernel_rfl) rfl (by kernel_rfl) ?_
          rw [setRow_self _ _ _ _ _ HX1.out]
          refine wpList_runTo rfl (some 3) rfl (.int .i64 2) w2 (by kernel_rfl) ?_
          apply wpList_nil
          go_wp2
          refine bodyPost_ret (results_row_tmp (p := 2) (u := 3) (ty := 55) rfl _ _ _ w.heap.size _ zrec _ _ _ rfl rfl HX1.out Try.underlying55 rfl (by kernel_rfl)) rfl ?_
          exact ⟨K2.out.1, .inl ⟨HDN.out, rfl⟩⟩
      · have HDN : Hid (dec bs = none) := Lib.hid (by rw [HDEC.out, if_pos hc])
        have hc' : ¬ (c : Int) = 0 := by omega
        have hc2 : ((c : Int) != 0) = true := by simpa using hc
        clear HDEC HRB
        go_upto_region 13 with (first
          | (go_at_call 66; refine HNX.out.mono ?_; rintro e w2 ⟨v, rfl, own, hb2⟩
             have hx1 := (hb2.block _ (heap_lt H1.out)).trans H1.out
             have HX1 := Lib.hid hx1
             have K2 := Lib.hid (HKK.out.call hb2)
             obtain ⟨A2, n2, c2, rfl⟩ := own.slice
             clear hx1 own hb2)
          | fail)
        apply wp_region_lit
        refine wpList_buildTo rfl 55 _ rfl (some 51) rfl zrec (by kernel_rfl) ?_
        refine wpList_store_rowTo rfl 55 _ _ rfl rfl w.heap.size zrec rfl rfl 55 zrec HX1.out (by kernel_rfl) rfl (by kernel_rfl) ?_
        rw [setRow_self _ _ _ _ _ HX1.out]
        refine wpList_runTo rfl (some 3) rfl (.int .i64 2) w2 (by kernel_rfl) ?_
        apply wpList_nil
        go_wp2
        refine bodyPost_ret (results_row_tmp (p := 2) (u := 3) (ty := 55) rfl _ _ _ w.heap.size _ zrec _ _ _ rfl rfl HX1.out Try.underlying55 rfl (by kernel_rfl)) rfl ?_
        exact ⟨K2.out.1, .inl ⟨HDN.out, rfl⟩⟩
end Go.Proofs.Ytmjgpgnecohbcaa
