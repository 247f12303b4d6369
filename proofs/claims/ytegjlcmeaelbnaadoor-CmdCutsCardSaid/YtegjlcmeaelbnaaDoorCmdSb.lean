/- Spans, further kinds. -/
import Derived.Test.YtegjlcmeaelbnaaDoorCmdS
namespace Go.Proofs.YtegjlcmeaelbnaaDoor
open Go.RowKit Go.Great

set_option maxRecDepth 100000 in
set_option maxHeartbeats 2000000 in
theorem spans_3 (w : World) :
    Calls Tryd.prog 36 #[.int .i64 3] w fun e w' => e = .returned (spanV 3) ∧ Below w.heap.size w w' := by
  have hV : spanV 3 = .agg #[.int .i64 0, .int .i64 11, .int .i64 1, .int .i64 64, .int .i64 1, .int .i64 1099511627776, .int .i64 0, .int .i64 1099511627776, .int .i64 1, .int .i64 2, .int .i64 0, .int .i64 0, .int .i64 1, .int .i64 1073741824, .int .i64 1, .int .i64 1073741824, .int .i64 0, .int .i64 0] := by kernel_rfl
  rw [hV]
  clear hV
  go_enter Tryd.func36, Tryd.ntmps36
  go_upto_region 1 with fail
  apply wp_region_lit
  refine wpList_buildTo rfl 80 _ rfl (some 9) rfl #[.int .i64 0, .int .i64 11] (by kernel_rfl) ?_
  refine wpList_buildTo rfl 80 _ rfl (some 10) rfl #[.int .i64 1, .int .i64 64] (by kernel_rfl) ?_
  refine wpList_buildTo rfl 80 _ rfl (some 11) rfl #[.int .i64 1, .int .i64 1099511627776] (by kernel_rfl) ?_
  refine wpList_buildTo rfl 80 _ rfl (some 12) rfl #[.int .i64 0, .int .i64 1099511627776] (by kernel_rfl) ?_
  refine wpList_buildTo rfl 81 _ rfl (some 13) rfl fourSpans (by kernel_rfl) ?_
  have hz := push_new w (.cells noSpans 81)
  have b0 : Below w.heap.size w (w.alloc (.cells noSpans 81)) := (Below.refl _ _).alloc (Nat.le_refl _) _
  change wpList _ _ _ _ _ (w.alloc (.cells noSpans 81))
  generalize w.alloc (.cells noSpans 81) = W0 at *
  refine wpList_allocTo rfl (some 3) rfl (.pointer (some ⟨W0.heap.size, 0, none⟩)) (.cells noSpans 81) (by kernel_rfl) ?_
  refine wpList_store_rowTo rfl 81 _ _ rfl rfl W0.heap.size fourSpans rfl rfl 81 noSpans (push_new _ _) (by kernel_rfl) rfl (by kernel_rfl) ?_
  rw [World.setRow_alloc_new]
  apply wpList_nil
  have hz1 := heap_keep hz (.cells fourSpans 81)
  have hb1 := push_new W0 (.cells fourSpans 81)
  have b1 : Below w.heap.size w (W0.alloc (.cells fourSpans 81)) := b0.alloc b0.size _
  have hlt := heap_lt hz
  generalize W0.alloc (.cells fourSpans 81) = W1 at *
  generalize W0.heap.size = g1 at *
  clear hz b0 W0
  have l1 := heap_lt hb1
  generalize hg0 : w.heap.size = g0 at *
  go_upto_region 4 with fail
  rw [show (((((W1.alloc (.cells #[.int .i64 1, .int .i64 2] 80)).alloc (.cells #[.int .i64 0, .int .i64 1] 80)).alloc (.cells #[.int .i64 1, .int .i64 1073741824] 80)).alloc
    (.cells #[.int .i64 1, .int .i64 1073741824] 80)).alloc (.cells #[.int .i64 1, .int .i64 1099511627776] 80) : World) = five W1 from rfl]
  obtain ⟨s4, s5, s6, s7, s8, hk, hb⟩ := five_facts W1
  have hz2 := hk _ _ hz1
  have hb2 := hk _ _ hb1
  have bb := hb _ _ b1 (by omega)
  generalize five W1 = W2 at *
  clear hk hb hz1 hb1 b1
  have m4 : ¬ W1.heap.size = g1 := by omega
  have m5 : ¬ W1.heap.size + 1 = g1 := by omega
  have m6 : ¬ W1.heap.size + 1 + 1 = g1 := by omega
  have m7 : ¬ W1.heap.size + 1 + 1 + 1 = g1 := by omega
  have m8 : ¬ W1.heap.size + 1 + 1 + 1 + 1 = g1 := by omega
  have hne : g0 ≠ g1 := by omega
  generalize W1.heap.size + 1 + 1 + 1 + 1 = h8 at *
  generalize W1.heap.size + 1 + 1 + 1 = h7 at *
  generalize W1.heap.size + 1 + 1 = h6 at *
  generalize W1.heap.size + 1 = h5 at *
  generalize W1.heap.size = h4 at *
  have d40 := cell_of_heap s4 0
  have d41 := cell_of_heap s4 1
  have d50 := cell_of_heap s5 0
  have d51 := cell_of_heap s5 1
  have d60 := cell_of_heap s6 0
  have d61 := cell_of_heap s6 1
  have d70 := cell_of_heap s7 0
  have d71 := cell_of_heap s7 1
  have d80 := cell_of_heap s8 0
  have d81 := cell_of_heap s8 1
  have c8 := cell_of_heap hb2 8
  have c9 := cell_of_heap hb2 9
  have c10 := cell_of_heap hb2 10
  have c11 := cell_of_heap hb2 11
  have c12 := cell_of_heap hb2 12
  have c13 := cell_of_heap hb2 13
  have c14 := cell_of_heap hb2 14
  have c15 := cell_of_heap hb2 15
  have c16 := cell_of_heap hb2 16
  have c17 := cell_of_heap hb2 17
  have f8 := frozen_of_heap hb2 8
  have f9 := frozen_of_heap hb2 9
  have f10 := frozen_of_heap hb2 10
  have f11 := frozen_of_heap hb2 11
  have f12 := frozen_of_heap hb2 12
  have f13 := frozen_of_heap hb2 13
  have f14 := frozen_of_heap hb2 14
  have f15 := frozen_of_heap hb2 15
  have f16 := frozen_of_heap hb2 16
  have f17 := frozen_of_heap hb2 17
  simp only [fourSpans, List.getElem?_toArray, List.getElem?_cons_zero, List.getElem?_cons_succ] at d40 d41 d50 d51 d60 d61 d70 d71 d80 d81 c8 c9 c10 c11 c12 c13 c14 c15 c16 c17
  have HZ := Lib.hid hz2
  have HB := Lib.hid hb2
  have HL := Lib.hid bb
  have HG := Lib.hid hlt
  clear hz2 hb2 bb s4 s5 s6 s7 s8 hlt l1 W1
  go_upto_region 9 with fail
  go_region
  all_goals go_upto_region 23 with fail
  all_goals
    apply wp_region_lit
    refine wpList_load_row rfl 81 _ rfl g1 rfl 81 #[.int .i64 0, .int .i64 11, .int .i64 1, .int .i64 64, .int .i64 1, .int .i64 1099511627776, .int .i64 0, .int .i64 1099511627776, .int .i64 1, .int .i64 2, .int .i64 0, .int .i64 0, .int .i64 1, .int .i64 1073741824, .int .i64 1, .int .i64 1073741824, .int .i64 0, .int .i64 0] (0, 0) _ ?hb Tryd.underlying81 rfl (by kernel_rfl) ?_
    · (try simp only [heap_drew])
      first
        | with_reducible exact HB.out
        | (refine Eq.trans (by with_reducible exact heap_setCell_same (heap_setCell_same HB.out _) _) ?_; kernel_rfl)
        | (refine Eq.trans (by with_reducible exact heap_setCell_same (heap_setCell_same (heap_setCell_same (heap_setCell_same HB.out _) _) _) _) ?_; kernel_rfl)
        | (refine Eq.trans (by with_reducible exact heap_setCell_same (heap_setCell_same (heap_setCell_same (heap_setCell_same (heap_setCell_same (heap_setCell_same HB.out _) _) _) _) _) _) ?_; kernel_rfl)
    refine wpList_store_rowTo rfl 81 _ _ rfl rfl g0 #[.int .i64 0, .int .i64 11, .int .i64 1, .int .i64 64, .int .i64 1, .int .i64 1099511627776, .int .i64 0, .int .i64 1099511627776, .int .i64 1, .int .i64 2, .int .i64 0, .int .i64 0, .int .i64 1, .int .i64 1073741824, .int .i64 1, .int .i64 1073741824, .int .i64 0, .int .i64 0] rfl rfl 81 noSpans ?hz (by kernel_rfl) rfl (by kernel_rfl) ?_
    · (try simp only [heap_drew])
      repeat (first | with_reducible exact HZ.out | with_reducible refine Eq.trans (Below.heap_setCell _ ⟨g1, _, none⟩ _ g0 hne) ?_)
    apply wpList_nil
    go_wp2
    refine bodyPost_ret (results_cell_row (p := 2) (ty := 81) rfl _ _ g0 81 _ (0, 0) _ rfl (setRow_heap _ g0 noSpans _ 81 (0, 0) ?hz2) Tryd.underlying81 rfl (by kernel_rfl)) rfl ?_
    · (try simp only [heap_drew])
      repeat (first | with_reducible exact HZ.out | with_reducible refine Eq.trans (Below.heap_setCell _ ⟨g1, _, none⟩ _ g0 hne) ?_)
    refine ⟨rfl, ?_⟩
    rw [hg0]
    refine below_setRow ?_ (Nat.le_refl _) _
    have hle : g0 ≤ g1 := by have := HG.out; omega
    repeat (first | with_reducible exact HL.out | with_reducible refine Below.drew ?_ | with_reducible refine Below.setCell (p := ⟨g1, _, none⟩) ?_ hle _)

set_option maxRecDepth 100000 in
set_option maxHeartbeats 2000000 in
theorem spans_4 (w : World) :
    Calls Tryd.prog 36 #[.int .i64 4] w fun e w' => e = .returned (spanV 4) ∧ Below w.heap.size w w' := by
  have hV : spanV 4 = .agg #[.int .i64 0, .int .i64 11, .int .i64 1, .int .i64 64, .int .i64 1, .int .i64 1099511627776, .int .i64 0, .int .i64 1099511627776, .int .i64 1, .int .i64 2, .int .i64 0, .int .i64 0, .int .i64 1, .int .i64 1073741824, .int .i64 1, .int .i64 1073741824, .int .i64 0, .int .i64 0] := by kernel_rfl
  rw [hV]
  clear hV
  go_enter Tryd.func36, Tryd.ntmps36
  go_upto_region 1 with fail
  apply wp_region_lit
  refine wpList_buildTo rfl 80 _ rfl (some 9) rfl #[.int .i64 0, .int .i64 11] (by kernel_rfl) ?_
  refine wpList_buildTo rfl 80 _ rfl (some 10) rfl #[.int .i64 1, .int .i64 64] (by kernel_rfl) ?_
  refine wpList_buildTo rfl 80 _ rfl (some 11) rfl #[.int .i64 1, .int .i64 1099511627776] (by kernel_rfl) ?_
  refine wpList_buildTo rfl 80 _ rfl (some 12) rfl #[.int .i64 0, .int .i64 1099511627776] (by kernel_rfl) ?_
  refine wpList_buildTo rfl 81 _ rfl (some 13) rfl fourSpans (by kernel_rfl) ?_
  have hz := push_new w (.cells noSpans 81)
  have b0 : Below w.heap.size w (w.alloc (.cells noSpans 81)) := (Below.refl _ _).alloc (Nat.le_refl _) _
  change wpList _ _ _ _ _ (w.alloc (.cells noSpans 81))
  generalize w.alloc (.cells noSpans 81) = W0 at *
  refine wpList_allocTo rfl (some 3) rfl (.pointer (some ⟨W0.heap.size, 0, none⟩)) (.cells noSpans 81) (by kernel_rfl) ?_
  refine wpList_store_rowTo rfl 81 _ _ rfl rfl W0.heap.size fourSpans rfl rfl 81 noSpans (push_new _ _) (by kernel_rfl) rfl (by kernel_rfl) ?_
  rw [World.setRow_alloc_new]
  apply wpList_nil
  have hz1 := heap_keep hz (.cells fourSpans 81)
  have hb1 := push_new W0 (.cells fourSpans 81)
  have b1 : Below w.heap.size w (W0.alloc (.cells fourSpans 81)) := b0.alloc b0.size _
  have hlt := heap_lt hz
  generalize W0.alloc (.cells fourSpans 81) = W1 at *
  generalize W0.heap.size = g1 at *
  clear hz b0 W0
  have l1 := heap_lt hb1
  generalize hg0 : w.heap.size = g0 at *
  go_upto_region 4 with fail
  rw [show (((((W1.alloc (.cells #[.int .i64 1, .int .i64 2] 80)).alloc (.cells #[.int .i64 0, .int .i64 1] 80)).alloc (.cells #[.int .i64 1, .int .i64 1073741824] 80)).alloc
    (.cells #[.int .i64 1, .int .i64 1073741824] 80)).alloc (.cells #[.int .i64 1, .int .i64 1099511627776] 80) : World) = five W1 from rfl]
  obtain ⟨s4, s5, s6, s7, s8, hk, hb⟩ := five_facts W1
  have hz2 := hk _ _ hz1
  have hb2 := hk _ _ hb1
  have bb := hb _ _ b1 (by omega)
  generalize five W1 = W2 at *
  clear hk hb hz1 hb1 b1
  have m4 : ¬ W1.heap.size = g1 := by omega
  have m5 : ¬ W1.heap.size + 1 = g1 := by omega
  have m6 : ¬ W1.heap.size + 1 + 1 = g1 := by omega
  have m7 : ¬ W1.heap.size + 1 + 1 + 1 = g1 := by omega
  have m8 : ¬ W1.heap.size + 1 + 1 + 1 + 1 = g1 := by omega
  have hne : g0 ≠ g1 := by omega
  generalize W1.heap.size + 1 + 1 + 1 + 1 = h8 at *
  generalize W1.heap.size + 1 + 1 + 1 = h7 at *
  generalize W1.heap.size + 1 + 1 = h6 at *
  generalize W1.heap.size + 1 = h5 at *
  generalize W1.heap.size = h4 at *
  have d40 := cell_of_heap s4 0
  have d41 := cell_of_heap s4 1
  have d50 := cell_of_heap s5 0
  have d51 := cell_of_heap s5 1
  have d60 := cell_of_heap s6 0
  have d61 := cell_of_heap s6 1
  have d70 := cell_of_heap s7 0
  have d71 := cell_of_heap s7 1
  have d80 := cell_of_heap s8 0
  have d81 := cell_of_heap s8 1
  have c8 := cell_of_heap hb2 8
  have c9 := cell_of_heap hb2 9
  have c10 := cell_of_heap hb2 10
  have c11 := cell_of_heap hb2 11
  have c12 := cell_of_heap hb2 12
  have c13 := cell_of_heap hb2 13
  have c14 := cell_of_heap hb2 14
  have c15 := cell_of_heap hb2 15
  have c16 := cell_of_heap hb2 16
  have c17 := cell_of_heap hb2 17
  have f8 := frozen_of_heap hb2 8
  have f9 := frozen_of_heap hb2 9
  have f10 := frozen_of_heap hb2 10
  have f11 := frozen_of_heap hb2 11
  have f12 := frozen_of_heap hb2 12
  have f13 := frozen_of_heap hb2 13
  have f14 := frozen_of_heap hb2 14
  have f15 := frozen_of_heap hb2 15
  have f16 := frozen_of_heap hb2 16
  have f17 := frozen_of_heap hb2 17
  simp only [fourSpans, List.getElem?_toArray, List.getElem?_cons_zero, List.getElem?_cons_succ] at d40 d41 d50 d51 d60 d61 d70 d71 d80 d81 c8 c9 c10 c11 c12 c13 c14 c15 c16 c17
  have HZ := Lib.hid hz2
  have HB := Lib.hid hb2
  have HL := Lib.hid bb
  have HG := Lib.hid hlt
  clear hz2 hb2 bb s4 s5 s6 s7 s8 hlt l1 W1
  go_upto_region 9 with fail
  go_region
  all_goals go_upto_region 23 with fail
  all_goals
    apply wp_region_lit
    refine wpList_load_row rfl 81 _ rfl g1 rfl 81 #[.int .i64 0, .int .i64 11, .int .i64 1, .int .i64 64, .int .i64 1, .int .i64 1099511627776, .int .i64 0, .int .i64 1099511627776, .int .i64 1, .int .i64 2, .int .i64 0, .int .i64 0, .int .i64 1, .int .i64 1073741824, .int .i64 1, .int .i64 1073741824, .int .i64 0, .int .i64 0] (0, 0) _ ?hb Tryd.underlying81 rfl (by kernel_rfl) ?_
    · (try simp only [heap_drew])
      first
        | with_reducible exact HB.out
        | (refine Eq.trans (by with_reducible exact heap_setCell_same (heap_setCell_same HB.out _) _) ?_; kernel_rfl)
        | (refine Eq.trans (by with_reducible exact heap_setCell_same (heap_setCell_same (heap_setCell_same (heap_setCell_same HB.out _) _) _) _) ?_; kernel_rfl)
        | (refine Eq.trans (by with_reducible exact heap_setCell_same (heap_setCell_same (heap_setCell_same (heap_setCell_same (heap_setCell_same (heap_setCell_same HB.out _) _) _) _) _) _) ?_; kernel_rfl)
    refine wpList_store_rowTo rfl 81 _ _ rfl rfl g0 #[.int .i64 0, .int .i64 11, .int .i64 1, .int .i64 64, .int .i64 1, .int .i64 1099511627776, .int .i64 0, .int .i64 1099511627776, .int .i64 1, .int .i64 2, .int .i64 0, .int .i64 0, .int .i64 1, .int .i64 1073741824, .int .i64 1, .int .i64 1073741824, .int .i64 0, .int .i64 0] rfl rfl 81 noSpans ?hz (by kernel_rfl) rfl (by kernel_rfl) ?_
    · (try simp only [heap_drew])
      repeat (first | with_reducible exact HZ.out | with_reducible refine Eq.trans (Below.heap_setCell _ ⟨g1, _, none⟩ _ g0 hne) ?_)
    apply wpList_nil
    go_wp2
    refine bodyPost_ret (results_cell_row (p := 2) (ty := 81) rfl _ _ g0 81 _ (0, 0) _ rfl (setRow_heap _ g0 noSpans _ 81 (0, 0) ?hz2) Tryd.underlying81 rfl (by kernel_rfl)) rfl ?_
    · (try simp only [heap_drew])
      repeat (first | with_reducible exact HZ.out | with_reducible refine Eq.trans (Below.heap_setCell _ ⟨g1, _, none⟩ _ g0 hne) ?_)
    refine ⟨rfl, ?_⟩
    rw [hg0]
    refine below_setRow ?_ (Nat.le_refl _) _
    have hle : g0 ≤ g1 := by have := HG.out; omega
    repeat (first | with_reducible exact HL.out | with_reducible refine Below.drew ?_ | with_reducible refine Below.setCell (p := ⟨g1, _, none⟩) ?_ hle _)

set_option maxRecDepth 100000 in
set_option maxHeartbeats 2000000 in
theorem spans_5 (w : World) :
    Calls Tryd.prog 36 #[.int .i64 5] w fun e w' => e = .returned (spanV 5) ∧ Below w.heap.size w w' := by
  have hV : spanV 5 = .agg #[.int .i64 0, .int .i64 11, .int .i64 1, .int .i64 64, .int .i64 1, .int .i64 1099511627776, .int .i64 0, .int .i64 1099511627776, .int .i64 1, .int .i64 2, .int .i64 0, .int .i64 0, .int .i64 1, .int .i64 1073741824, .int .i64 1, .int .i64 1073741824, .int .i64 0, .int .i64 0] := by kernel_rfl
  rw [hV]
  clear hV
  go_enter Tryd.func36, Tryd.ntmps36
  go_upto_region 1 with fail
  apply wp_region_lit
  refine wpList_buildTo rfl 80 _ rfl (some 9) rfl #[.int .i64 0, .int .i64 11] (by kernel_rfl) ?_
  refine wpList_buildTo rfl 80 _ rfl (some 10) rfl #[.int .i64 1, .int .i64 64] (by kernel_rfl) ?_
  refine wpList_buildTo rfl 80 _ rfl (some 11) rfl #[.int .i64 1, .int .i64 1099511627776] (by kernel_rfl) ?_
  refine wpList_buildTo rfl 80 _ rfl (some 12) rfl #[.int .i64 0, .int .i64 1099511627776] (by kernel_rfl) ?_
  refine wpList_buildTo rfl 81 _ rfl (some 13) rfl fourSpans (by kernel_rfl) ?_
  have hz := push_new w (.cells noSpans 81)
  have b0 : Below w.heap.size w (w.alloc (.cells noSpans 81)) := (Below.refl _ _).alloc (Nat.le_refl _) _
  change wpList _ _ _ _ _ (w.alloc (.cells noSpans 81))
  generalize w.alloc (.cells noSpans 81) = W0 at *
  refine wpList_allocTo rfl (some 3) rfl (.pointer (some ⟨W0.heap.size, 0, none⟩)) (.cells noSpans 81) (by kernel_rfl) ?_
  refine wpList_store_rowTo rfl 81 _ _ rfl rfl W0.heap.size fourSpans rfl rfl 81 noSpans (push_new _ _) (by kernel_rfl) rfl (by kernel_rfl) ?_
  rw [World.setRow_alloc_new]
  apply wpList_nil
  have hz1 := heap_keep hz (.cells fourSpans 81)
  have hb1 := push_new W0 (.cells fourSpans 81)
  have b1 : Below w.heap.size w (W0.alloc (.cells fourSpans 81)) := b0.alloc b0.size _
  have hlt := heap_lt hz
  generalize W0.alloc (.cells fourSpans 81) = W1 at *
  generalize W0.heap.size = g1 at *
  clear hz b0 W0
  have l1 := heap_lt hb1
  generalize hg0 : w.heap.size = g0 at *
  go_upto_region 4 with fail
  rw [show (((((W1.alloc (.cells #[.int .i64 1, .int .i64 2] 80)).alloc (.cells #[.int .i64 0, .int .i64 1] 80)).alloc (.cells #[.int .i64 1, .int .i64 1073741824] 80)).alloc
    (.cells #[.int .i64 1, .int .i64 1073741824] 80)).alloc (.cells #[.int .i64 1, .int .i64 1099511627776] 80) : World) = five W1 from rfl]
  obtain ⟨s4, s5, s6, s7, s8, hk, hb⟩ := five_facts W1
  have hz2 := hk _ _ hz1
  have hb2 := hk _ _ hb1
  have bb := hb _ _ b1 (by omega)
  generalize five W1 = W2 at *
  clear hk hb hz1 hb1 b1
  have m4 : ¬ W1.heap.size = g1 := by omega
  have m5 : ¬ W1.heap.size + 1 = g1 := by omega
  have m6 : ¬ W1.heap.size + 1 + 1 = g1 := by omega
  have m7 : ¬ W1.heap.size + 1 + 1 + 1 = g1 := by omega
  have m8 : ¬ W1.heap.size + 1 + 1 + 1 + 1 = g1 := by omega
  have hne : g0 ≠ g1 := by omega
  generalize W1.heap.size + 1 + 1 + 1 + 1 = h8 at *
  generalize W1.heap.size + 1 + 1 + 1 = h7 at *
  generalize W1.heap.size + 1 + 1 = h6 at *
  generalize W1.heap.size + 1 = h5 at *
  generalize W1.heap.size = h4 at *
  have d40 := cell_of_heap s4 0
  have d41 := cell_of_heap s4 1
  have d50 := cell_of_heap s5 0
  have d51 := cell_of_heap s5 1
  have d60 := cell_of_heap s6 0
  have d61 := cell_of_heap s6 1
  have d70 := cell_of_heap s7 0
  have d71 := cell_of_heap s7 1
  have d80 := cell_of_heap s8 0
  have d81 := cell_of_heap s8 1
  have c8 := cell_of_heap hb2 8
  have c9 := cell_of_heap hb2 9
  have c10 := cell_of_heap hb2 10
  have c11 := cell_of_heap hb2 11
  have c12 := cell_of_heap hb2 12
  have c13 := cell_of_heap hb2 13
  have c14 := cell_of_heap hb2 14
  have c15 := cell_of_heap hb2 15
  have c16 := cell_of_heap hb2 16
  have c17 := cell_of_heap hb2 17
  have f8 := frozen_of_heap hb2 8
  have f9 := frozen_of_heap hb2 9
  have f10 := frozen_of_heap hb2 10
  have f11 := frozen_of_heap hb2 11
  have f12 := frozen_of_heap hb2 12
  have f13 := frozen_of_heap hb2 13
  have f14 := frozen_of_heap hb2 14
  have f15 := frozen_of_heap hb2 15
  have f16 := frozen_of_heap hb2 16
  have f17 := frozen_of_heap hb2 17
  simp only [fourSpans, List.getElem?_toArray, List.getElem?_cons_zero, List.getElem?_cons_succ] at d40 d41 d50 d51 d60 d61 d70 d71 d80 d81 c8 c9 c10 c11 c12 c13 c14 c15 c16 c17
  have HZ := Lib.hid hz2
  have HB := Lib.hid hb2
  have HL := Lib.hid bb
  have HG := Lib.hid hlt
  clear hz2 hb2 bb s4 s5 s6 s7 s8 hlt l1 W1
  go_upto_region 9 with fail
  go_region
  all_goals go_upto_region 23 with fail
  all_goals
    apply wp_region_lit
    refine wpList_load_row rfl 81 _ rfl g1 rfl 81 #[.int .i64 0, .int .i64 11, .int .i64 1, .int .i64 64, .int .i64 1, .int .i64 1099511627776, .int .i64 0, .int .i64 1099511627776, .int .i64 1, .int .i64 2, .int .i64 0, .int .i64 0, .int .i64 1, .int .i64 1073741824, .int .i64 1, .int .i64 1073741824, .int .i64 0, .int .i64 0] (0, 0) _ ?hb Tryd.underlying81 rfl (by kernel_rfl) ?_
    · (try simp only [heap_drew])
      first
        | with_reducible exact HB.out
        | (refine Eq.trans (by with_reducible exact heap_setCell_same (heap_setCell_same HB.out _) _) ?_; kernel_rfl)
        | (refine Eq.trans (by with_reducible exact heap_setCell_same (heap_setCell_same (heap_setCell_same (heap_setCell_same HB.out _) _) _) _) ?_; kernel_rfl)
        | (refine Eq.trans (by with_reducible exact heap_setCell_same (heap_setCell_same (heap_setCell_same (heap_setCell_same (heap_setCell_same (heap_setCell_same HB.out _) _) _) _) _) _) ?_; kernel_rfl)
    refine wpList_store_rowTo rfl 81 _ _ rfl rfl g0 #[.int .i64 0, .int .i64 11, .int .i64 1, .int .i64 64, .int .i64 1, .int .i64 1099511627776, .int .i64 0, .int .i64 1099511627776, .int .i64 1, .int .i64 2, .int .i64 0, .int .i64 0, .int .i64 1, .int .i64 1073741824, .int .i64 1, .int .i64 1073741824, .int .i64 0, .int .i64 0] rfl rfl 81 noSpans ?hz (by kernel_rfl) rfl (by kernel_rfl) ?_
    · (try simp only [heap_drew])
      repeat (first | with_reducible exact HZ.out | with_reducible refine Eq.trans (Below.heap_setCell _ ⟨g1, _, none⟩ _ g0 hne) ?_)
    apply wpList_nil
    go_wp2
    refine bodyPost_ret (results_cell_row (p := 2) (ty := 81) rfl _ _ g0 81 _ (0, 0) _ rfl (setRow_heap _ g0 noSpans _ 81 (0, 0) ?hz2) Tryd.underlying81 rfl (by kernel_rfl)) rfl ?_
    · (try simp only [heap_drew])
      repeat (first | with_reducible exact HZ.out | with_reducible refine Eq.trans (Below.heap_setCell _ ⟨g1, _, none⟩ _ g0 hne) ?_)
    refine ⟨rfl, ?_⟩
    rw [hg0]
    refine below_setRow ?_ (Nat.le_refl _) _
    have hle : g0 ≤ g1 := by have := HG.out; omega
    repeat (first | with_reducible exact HL.out | with_reducible refine Below.drew ?_ | with_reducible refine Below.setCell (p := ⟨g1, _, none⟩) ?_ hle _)
end Go.Proofs.YtegjlcmeaelbnaaDoor
