/- The program's records: Decode. -/
import Derived.Test.YtmjgpgnecohbcaaAlgD
namespace Go.Proofs.Ytmjgpgnecohbcaa
open Go.RowKit Go.Great

/-- what Decode tells of bytes that have no record -/
def Dnone (e : Ending) : Prop := e = .returned (.tuple #[rcv Rc.zero none 0 0, afault])
set_option maxRecDepth 100000 in
set_option maxHeartbeats 2000000 in
theorem decode_any {w : World} {A : Option Addr} {n cap : Nat} {bs : List Nat} (hb : Row w A n cap bs) :
    Calls Try.prog 63 #[.slice A n cap] w fun e w' => Below w.heap.size w w' ∧
      ((dec bs = none ∧ Dnone e) ∨ ∃ r A' c, dec bs = some r ∧ e = .returned (.tuple #[rcv r A' r.val.length c, .nilIface]) ∧ Own w' w.heap.size (.slice A' r.val.length c) r.val) := by
  have HB := Lib.hid hb
  clear hb
  have HZ := Lib.hid (push_new w (.cells zrec 52))
  have k0 : Kept w (w.alloc (.cells zrec 52)) := (Kept.refl w).alloc _
  have HF := Lib.hid (from_any A n cap bs _ (HB.out.below k0.1))
  have hz0 : w.heap.size < (w.alloc (.cells zrec 52)).heap.size := by simp
  have HK0 := Lib.hid k0
  clear k0
  go_enter Try.func63, Try.ntmps63
  go_wp2_with fail
  refine HF.out.mono ?_
  rintro e w1 ⟨g, rfl, hr1, hg1, hb1⟩
  have hz1 := (hb1.block _ hz0).trans HZ.out
  have k1 := HK0.out.call hb1
  go_wp2_with fail
  refine (read_any g bs w1 hr1).mono ?_
  rintro e w2 ⟨rv, er, rfl, ⟨r, A', n', c', rfl⟩, hrt, ho⟩
  have hz2 := (ho.rest _ (heap_lt hz1) (by simp at hg1; omega)).trans hz1
  have hsz : w.heap.size < w2.heap.size := heap_lt hz2
  have k2 : Kept w w2 := ⟨k1.1.trans (ho.below (by simp at hg1; omega) k1.2), Nat.le_trans k1.2 ho.size⟩
  have hgw : w.heap.size ≤ w1.heap.size := k1.2
  have hgw1 : w.heap.size < w1.heap.size := heap_lt hz1
  have hzz := hz2
  have z0 := cell_of_heap hz2 0; have z1 := cell_of_heap hz2 1; have z2 := cell_of_heap hz2 2; have z3 := cell_of_heap hz2 3; have z4 := cell_of_heap hz2 4
  have f0 := frozen_of_heap hz2 0; have f1 := frozen_of_heap hz2 1; have f2 := frozen_of_heap hz2 2; have f3 := frozen_of_heap hz2 3; have f4 := frozen_of_heap hz2 4
  simp only [zrec, List.getElem?_toArray, List.getElem?_cons_zero, List.getElem?_cons_succ] at z0 z1 z2 z3 z4
  have HZ2 := Lib.hid hzz
  have HK2 := Lib.hid k2
  clear hz1 hz2 k1 hr1 hb1 ho HF HZ HB HK0 hzz k2
  rcases hrt with ⟨⟨c, p, rfl⟩, hdn⟩ | ⟨rfl, r', A2, c2, hrv, hown, hby, hvl, hd⟩
  · have HDN := Lib.hid hdn
    clear hdn
    unfold fault rcv
    go_upto_region 3 with fail
    generalize hW3 : w2.alloc (.cells #[.int .i64 r.kind, .int .i64 r.slot, .int .i64 r.round, .int .i64 r.site, .slice A' n' c'] 52) = W3
    have HX3 : Hid (W3.heap[w.heap.size]? = some (.cells zrec 52 (0, 0))) := Lib.hid (by rw [← hW3]; exact (push_old w2 _ hsz).trans HZ2.out)
    have HK3 : Hid (Kept w W3) := Lib.hid (by rw [← hW3]; exact HK2.out.alloc _)
    clear hW3
    apply wp_region_lit
    refine wpList_buildTo rfl 52 _ rfl (some 19) rfl zrec (by kernel_rfl) ?_
    refine wpList_buildTo rfl 129 _ rfl (some 20) rfl #[.int .i64 2] (by kernel_rfl) ?_
    refine wpList_runTo rfl (some 21) rfl afault W3 (by kernel_rfl) ?_
    refine wpList_store_rowTo rfl 52 _ _ rfl rfl w.heap.size zrec rfl rfl 52 zrec HX3.out (by kernel_rfl) rfl (by kernel_rfl) ?_
    rw [setRow_self _ _ _ _ _ HX3.out]
    refine wpList_runTo rfl (some 3) rfl afault W3 (by kernel_rfl) ?_
    apply wpList_nil
    go_wp2
    refine bodyPost_ret (results_row_tmp (p := 2) (u := 3) (ty := 52) rfl _ _ _ w.heap.size _ zrec _ _ _ rfl rfl HX3.out Try.underlying52 rfl (by kernel_rfl)) rfl ?_
    exact ⟨HK3.out.1, .inl ⟨HDN.out, rfl⟩⟩
  · rw [hrv]
    clear hrv
    have HMY := Lib.hid fun w => amay_any r' A2 r'.val.length c2 rfl w
    by_cases hm : r'.may
    · rw [if_pos hm] at hd
      rw [Rc.mayB_yes hm] at HMY
      have HD := Lib.hid hd
      have HOWN := Lib.hid hown
      clear hd hown hm
      unfold rcv at *
      go_wp2_with fail
      refine (HMY.out _).mono ?_
      rintro e w3 ⟨rfl, hb3⟩
      have hs3 : w2.heap.size < w3.heap.size := by have := hb3.size; simp only [World.size_alloc] at this; omega
      have hv3 := (hb3.block w2.heap.size (by simp)).trans (push_new w2 _)
      have hz3 := (hb3.block w.heap.size (by simp; omega)).trans ((push_old w2 _ hsz).trans HZ2.out)
      have HZ3 := Lib.hid hz3
      have HK3 := Lib.hid ((HK2.out.alloc _).call hb3)
      have HOWN3 := Lib.hid (((HOWN.out.below ((Below.refl _ _).alloc (Nat.le_refl _) _)).below hb3))
      have y0 := cell_of_heap hv3 0; have y1 := cell_of_heap hv3 1; have y2 := cell_of_heap hv3 2; have y3 := cell_of_heap hv3 3; have y4 := cell_of_heap hv3 4
      simp only [List.getElem?_toArray, List.getElem?_cons_zero, List.getElem?_cons_succ] at y0 y1 y2 y3 y4
      have zz0 := cell_of_heap hz3 0; have zz1 := cell_of_heap hz3 1; have zz2 := cell_of_heap hz3 2; have zz3 := cell_of_heap hz3 3; have zz4 := cell_of_heap hz3 4
      have ff0 := frozen_of_heap hz3 0; have ff1 := frozen_of_heap hz3 1; have ff2 := frozen_of_heap hz3 2; have ff3 := frozen_of_heap hz3 3; have ff4 := frozen_of_heap hz3 4
      simp only [zrec, List.getElem?_toArray, List.getElem?_cons_zero, List.getElem?_cons_succ] at zz0 zz1 zz2 zz3 zz4
      clear hb3 hv3 hz3 z0 z1 z2 z3 z4 f0 f1 f2 f3 f4 HOWN HK2 HMY
      go_wp2
      refine bodyPost_ret (results_row_tmp (p := 2) (u := 3) (ty := 52) rfl _ _ _ w.heap.size 52 #[.int .i64 r'.kind, .int .i64 r'.slot, .int .i64 r'.round, .int .i64 r'.site, .slice A2 r'.val.length c2] (0, 0) _ .nilIface rfl rfl ?_ Try.underlying52 rfl (by kernel_rfl)) rfl ?_
      · refine Eq.trans (by with_reducible exact (heap_setCell_same (heap_setCell_same (heap_setCell_same (heap_setCell_same (heap_setCell_same HZ3.out _) _) _) _) _)) ?_
        kernel_rfl
      · have hfar : (Value.slice A2 r'.val.length c2).ownBlock ≠ some w.heap.size := fun h => by
          have := (World.ownsRow.lt HOWN3.out _ h).1
          omega
        refine ⟨(((((HK3.out.setCell (p := ⟨w.heap.size, 0, none⟩) (Nat.le_refl _) _).setCell (p := ⟨w.heap.size, 1, none⟩) (Nat.le_refl _) _).setCell (p := ⟨w.heap.size, 2, none⟩) (Nat.le_refl _) _).setCell (p := ⟨w.heap.size, 3, none⟩) (Nat.le_refl _) _).setCell (p := ⟨w.heap.size, 4, none⟩) (Nat.le_refl _) _).1, .inr ⟨r', A2, c2, HD.out, rfl, ?_⟩⟩
        exact (((((own_base HOWN3.out hgw).far hfar _).far hfar _).far hfar _).far hfar _).far hfar _
    · rw [if_neg hm] at hd
      rw [Rc.mayB_no hm] at HMY
      have HDN := Lib.hid hd
      clear hd hown hm
      unfold rcv at *
      go_upto_region 3 with (first
        | (go_at_call 50; refine (HMY.out _).mono ?_; rintro e W3 ⟨rfl, hb3⟩
           have hz3 := (hb3.block w.heap.size (by simp; omega)).trans ((push_old w2 _ hsz).trans HZ2.out)
           have HX3 := Lib.hid hz3
           have HK3 := Lib.hid ((HK2.out.alloc _).call hb3)
           clear hb3 hz3)
        | fail)
      apply wp_region_lit
      refine wpList_buildTo rfl 52 _ rfl (some 19) rfl zrec (by kernel_rfl) ?_
      refine wpList_buildTo rfl 129 _ rfl (some 20) rfl #[.int .i64 2] (by kernel_rfl) ?_
      refine wpList_runTo rfl (some 21) rfl afault W3 (by kernel_rfl) ?_
      refine wpList_store_rowTo rfl 52 _ _ rfl rfl w.heap.size zrec rfl rfl 52 zrec HX3.out (by kernel_rfl) rfl (by kernel_rfl) ?_
      rw [setRow_self _ _ _ _ _ HX3.out]
      refine wpList_runTo rfl (some 3) rfl afault W3 (by kernel_rfl) ?_
      apply wpList_nil
      go_wp2
      refine bodyPost_ret (results_row_tmp (p := 2) (u := 3) (ty := 52) rfl _ _ _ w.heap.size _ zrec _ _ _ rfl rfl HX3.out Try.underlying52 rfl (by kernel_rfl)) rfl ?_
      exact ⟨HK3.out.1, .inl ⟨HDN.out, rfl⟩⟩
end Go.Proofs.Ytmjgpgnecohbcaa
