/- Slots: Own, Count, Next of the program. -/
import Derived.Test.YtfobhofghjpjeaaSltR
namespace Go.Proofs.Ytfobhofghjpjeaa
open Go.RowKit Go.Shelf
attribute [local go_sem] Oper.semAt_some

/-- the boxes that the function slots makes -/
theorem boxes_at {w5 : World} {w1 : World} {B : Nat} {s lo hi n : Int} (hB : w1.heap.size = B + 1) (h : w5 = (((w1.alloc (.cells #[.int .i64 s] 3)).alloc (.cells #[.int .i64 lo] 3)).alloc (.cells #[.int .i64 hi] 3)).alloc (.cells #[.int .i64 n] 3)) :
    w5.heap.size = B + 5 ∧ Kept w1 w5 ∧ w5.heap[B + 1]? = some (.cells #[.int .i64 s] 3 (0, 0)) ∧ w5.heap[B + 2]? = some (.cells #[.int .i64 lo] 3 (0, 0)) ∧ w5.heap[B + 3]? = some (.cells #[.int .i64 hi] 3 (0, 0)) ∧ w5.heap[B + 4]? = some (.cells #[.int .i64 n] 3 (0, 0)) := by
  subst h
  refine ⟨by simp [hB], ((((Kept.refl w1).alloc _).alloc _).alloc _).alloc _, ?_, ?_, ?_, ?_⟩
  · rw [push_old _ _ (by simp; omega), push_old _ _ (by simp; omega)]
    have := push_two_old w1 (.cells #[.int .i64 s] 3) (.cells #[.int .i64 lo] 3)
    rwa [hB] at this
  · rw [push_old _ _ (by simp; omega), push_old _ _ (by simp; omega)]
    have := push_two_new w1 (.cells #[.int .i64 s] 3) (.cells #[.int .i64 lo] 3)
    rwa [hB] at this
  · have := push_two_old ((w1.alloc (.cells #[.int .i64 s] 3)).alloc (.cells #[.int .i64 lo] 3)) (.cells #[.int .i64 hi] 3) (.cells #[.int .i64 n] 3)
    simp only [World.size_alloc, hB] at this
    exact this
  · have := push_two_new ((w1.alloc (.cells #[.int .i64 s] 3)).alloc (.cells #[.int .i64 lo] 3)) (.cells #[.int .i64 hi] 3) (.cells #[.int .i64 n] 3)
    simp only [World.size_alloc, hB] at this
    exact this

set_option maxRecDepth 100000 in
set_option maxHeartbeats 4000000 in
theorem own_any (s lo hi n : Int) (w : World) : Calls Try.prog 16 #[.int .i64 s, .int .i64 lo, .int .i64 hi, .int .i64 n] w fun e w' => ∃ v, e = .returned v ∧ OwnZ w' w.heap.size v (ownL s lo hi n) ∧ Below w.heap.size w w' := by
  refine (callsIn_wide (n := 2)).1 ?_
  refine callsIn_of_wp_marks Try.func16 rfl trivial ?_
  simp only [Try.ntmps16, List.size_toArray, List.length_cons, List.length_nil, Nat.reduceAdd, Nat.reduceSub, Array.replicate_succ, Array.replicate_zero, List.push_toArray, List.append_toArray, List.nil_append, List.cons_append]
  gi_wp2_with fail
  refine ⟨trivial, ?_⟩
  refine (callsIn_wide.2 (slots_fn _ _ _ _ _)).mono ?_
  rintro e w5 ⟨rfl, hw5⟩
  have hk1 : Kept w (w.alloc (.cells #[.slice none 0 0] 25)) := (Kept.refl w).alloc _
  obtain ⟨hs5, hk5, h1, h2, h3, h4⟩ := boxes_at (B := w.heap.size) (by simp) hw5
  have hb0 : w5.heap[w.heap.size]? = some (.cells #[.slice none 0 0] 25 (0, 0)) := (hk5.1.block w.heap.size (by simp)).trans (push_new w _)
  have HB0 := Lib.hid hb0
  have HS5 := Lib.hid hs5
  have HK5 := Lib.hid (hk1.trans hk5)
  have H1 := Lib.hid h1
  have H2 := Lib.hid h2
  have H3 := Lib.hid h3
  have H4 := Lib.hid h4
  simp only [World.size_alloc] at *
  clear hb0 hs5 hk5 hk1 h1 h2 h3 h4 hw5
  gi_wp2_with fail
  have hl6 : w5.heap.size + 1 = w.heap.size + 6 := by rw [HS5.out]
  refine wp_range2 (m := 0) (gf := 19) (lb := #[.pointer (some ⟨w.heap.size + 1, 0, none⟩), .pointer (some ⟨w.heap.size + 4, 0, none⟩), .pointer (some ⟨w.heap.size + 3, 0, none⟩), .pointer (some ⟨w.heap.size + 2, 0, none⟩)]) Sl.args (Sl.Pre (IOwn w.heap.size) w5 (ownL s lo hi n)) (Sl.Post (IOwn w.heap.size) (fun _ _ => False))
    (fun W => ∃ W2, Kept w5 W2 ∧ W2.heap[w.heap.size + 5]? = some (.deferred (some [])) ∧ IOwn w.heap.size W2 (ownL s lo hi n) W) (fun _ => False)
    rfl (enters_of Try.func19 (by kernel_rfl) rfl) (fun _ => rfl) ?round ?iter ?done ?ret
  case iter =>
    intro rec hY
    rw [hl6] at hY ⊢
    refine (callsIn_wide.1 (slots_it HS5.out H1.out H2.out H3.out H4.out (IOwn w.heap.size) (fun _ _ => False) (fun _ _ _ h => h.1) (fun W2 hk hB => ⟨SI.start hB, _, (hk.1.block w.heap.size (by have := HS5.out; omega)).trans HB0.out, OwnZ.nil _ _⟩) rec hY)).mono ?_
    rintro e W ⟨hv, h | ⟨_, _, _, _, h⟩⟩
    · exact ⟨hv, .inl h⟩
    · exact h.elim
  case ret => exact fun _ _ _ _ h => h.elim
  case round =>
    rw [hl6]
    rintro rec - ⟨L, x, W2⟩ W ⟨⟨hI, v, hv, own⟩, hpf, -⟩ hl
    simp only at hI hv own hpf
    have hlen : L.length ≤ 4096 := by
      have := hpf.length_le
      have := ownL_len s lo hi n
      simp at *; omega
    have hl2 := (hI.old (w.heap.size + 6) (by have := hI.hB; omega) (by omega)).symm.trans hl
    have hsz := hI.size
    have hBs := hI.hB
    have HI := Lib.hid hI
    have HV := Lib.hid hv
    have HOWN := Lib.hid own
    have HL := Lib.hid hl
    have HL2 := Lib.hid hl2
    clear hI hv own hpf hl hl2
    simp only [Sl.args]
    gi_wp2
    refine ⟨HL.out, ?_⟩
    have hbl : (W.putObj (w.heap.size + 6) (.loop (rec .busy none))).cell? ⟨w.heap.size, 0, none⟩ = some v := (World.cell?_of_block (World.putObj_heap_other (by simp only; omega))).trans (cell_of_heap HV.out 0)
    have HOB : Hid (OwnZ ((W.putObj (w.heap.size + 6) (.loop (rec .busy none))).alloc (.cells #[.int .i64 x] 3)) W2.heap.size v L) := Lib.hid (HOWN.out.moved (fun g hg => by
      have := World.ownsRow.lt HOWN.out g hg
      rw [push_old _ _ (by simp; omega)]
      exact World.putObj_heap_other (by omega)))
    have hsb : (W.putObj (w.heap.size + 6) (.loop (rec .busy none))).heap.size = W.heap.size := by simp
    gi_wp2_with (first
      | (gi_at_builtin
         refine wpListIn_append_one rfl (.tmp 17) (.tmp 19) rfl (v := v) (base := W2.heap.size) (ds := L) (k := x) (g := W.heap.size) rfl rfl HOB.out ?_ (by omega) (by rw [World.size_alloc]; omega) ?_
         · rw [← hsb, World.cell?_alloc_at _ _ _ _ rfl]; rfl
         intro v' W5 own5 gr5 at5
         obtain ⟨⟨q1, q2⟩, q4⟩ := IOwn.step HI.out HL2.out HV.out HOWN.out gr5 own5
         have d1 := cell_of_heap q1 0
         have g1 := frozen_of_heap q1 0
         simp only [List.getElem?_toArray, List.getElem?_cons_zero] at d1
         have e5 : (L ++ [x]).length = L.length + 1 := by simp
         obtain ⟨A5, c5, rfl, -⟩ := own5.slice
         rw [e5] at q4
         have Q2 := Lib.hid q2
         have Q4 := Lib.hid q4
         clear own5 gr5 at5 q1 q2 q4 e5)
      | fail)
    exact ⟨(Below.heap_setCell _ ⟨w.heap.size, 0, none⟩ _ _ (by simp)).trans Q2.out, .inl ⟨rfl, Q4.out⟩⟩
  case done =>
    rw [hl6]
    rintro W r r' hl ⟨W2, hk, hm, hI, v, hv, own⟩
    have hs5 := HS5.out
    have hBs := hI.hB
    have hsz := hI.size
    have c1 : (W.putObj (w.heap.size + 6) (.loop r')).cell? ⟨w.heap.size, 0, none⟩ = some v := putObj_cell _ hl rfl (cell_of_heap hv 0)
    have hm' : (W.putObj (w.heap.size + 6) (.loop r')).heap[w.heap.size + 5]? = some (.deferred (some [])) := (World.putObj_heap_other (by omega)).trans ((hI.old (w.heap.size + 5) (by omega) (by omega)).trans hm)
    have HM := Lib.hid hm'
    have HI := Lib.hid hI
    have HOWN := Lib.hid own
    have HK := Lib.hid hk
    have HP : Hid (∀ b, b ≠ w.heap.size + 6 → (W.putObj (w.heap.size + 6) (.loop r')).heap[b]? = W.heap[b]?) := Lib.hid fun b hb => World.putObj_heap_other hb
    have HPS : Hid ((W.putObj (w.heap.size + 6) (.loop r')).heap.size = W.heap.size) := Lib.hid (by simp)
    have HPO : Hid ((W.putObj (w.heap.size + 6) (.loop r')).os = W.os ∧ (W.putObj (w.heap.size + 6) (.loop r')).tape = W.tape ∧ (W.putObj (w.heap.size + 6) (.loop r')).output = W.output) := Lib.hid ⟨rfl, rfl, rfl⟩
    clear hI own hk hm hm' hv hl
    generalize W.putObj (w.heap.size + 6) (.loop r') = W' at *
    gi_wp2
    refine ⟨by simp, .inl ⟨_, _, rfl, run_takeDeferred HM.out, ?_⟩⟩
    have hF : ∀ b, b ≠ w.heap.size + 5 → b ≠ w.heap.size + 6 → (W'.putObj (w.heap.size + 5) (.deferred none)).heap[b]? = W.heap[b]? := fun b h1 h2 => (World.putObj_heap_other h1).trans (HP.out b h2)
    have hFS : (W'.putObj (w.heap.size + 5) (.deferred none)).heap.size = W.heap.size := by rw [World.putObj_size]; exact HPS.out
    have k5 := HK5.out.trans HK.out
    refine ⟨_, results_tmp rfl _ _ _, _, rfl, ?_, ?_⟩
    · refine (HOWN.out.moved (fun g hg => ?_)).base (by omega)
      have := (World.ownsRow.lt HOWN.out g hg).1
      exact hF g (by omega) (by omega)
    · refine ⟨(HPO.out.1.trans HI.out.os).trans k5.1.os, (HPO.out.2.1.trans HI.out.tape).trans k5.1.tape, (HPO.out.2.2.trans HI.out.output).trans k5.1.output, by rw [hFS]; have := k5.2; omega, fun b hb => ?_⟩
      rw [hF b (by omega) (by omega), HI.out.old b (by omega) (by omega)]
      exact k5.1.block b hb

set_option maxRecDepth 100000 in
set_option maxHeartbeats 4000000 in
theorem count_any (s lo hi n : Int) (w : World) : Calls Try.prog 17 #[.int .i64 s, .int .i64 lo, .int .i64 hi, .int .i64 n] w fun e w' => e = .returned (.int .i64 ((ownL s lo hi n).length : Nat)) ∧ Below w.heap.size w w' := by
  refine (callsIn_wide (n := 2)).1 ?_
  refine callsIn_of_wp_marks Try.func17 rfl trivial ?_
  simp only [Try.ntmps17, List.size_toArray, List.length_cons, List.length_nil, Nat.reduceAdd, Nat.reduceSub, Array.replicate_succ, Array.replicate_zero, List.push_toArray, List.append_toArray, List.nil_append, List.cons_append]
  gi_wp2_with fail
  refine ⟨trivial, ?_⟩
  refine (callsIn_wide.2 (slots_fn _ _ _ _ _)).mono ?_
  rintro e w5 ⟨rfl, hw5⟩
  have hk1 : Kept w (w.alloc (.cells #[.int .i64 0] 3)) := (Kept.refl w).alloc _
  obtain ⟨hs5, hk5, h1, h2, h3, h4⟩ := boxes_at (B := w.heap.size) (by simp) hw5
  have hb0 : w5.heap[w.heap.size]? = some (.cells #[.int .i64 0] 3 (0, 0)) := (hk5.1.block w.heap.size (by simp)).trans (push_new w _)
  have HB0 := Lib.hid hb0
  have HS5 := Lib.hid hs5
  have HK5 := Lib.hid (hk1.trans hk5)
  have H1 := Lib.hid h1
  have H2 := Lib.hid h2
  have H3 := Lib.hid h3
  have H4 := Lib.hid h4
  simp only [World.size_alloc] at *
  clear hb0 hs5 hk5 hk1 h1 h2 h3 h4 hw5
  gi_wp2_with fail
  have hl6 : w5.heap.size + 1 = w.heap.size + 6 := by rw [HS5.out]
  refine wp_range2 (m := 0) (gf := 19) (lb := #[.pointer (some ⟨w.heap.size + 1, 0, none⟩), .pointer (some ⟨w.heap.size + 4, 0, none⟩), .pointer (some ⟨w.heap.size + 3, 0, none⟩), .pointer (some ⟨w.heap.size + 2, 0, none⟩)]) Sl.args (Sl.Pre (ICnt w.heap.size) w5 (ownL s lo hi n)) (Sl.Post (ICnt w.heap.size) (fun _ _ => False))
    (fun W => ∃ W2, Kept w5 W2 ∧ W2.heap[w.heap.size + 5]? = some (.deferred (some [])) ∧ ICnt w.heap.size W2 (ownL s lo hi n) W) (fun _ => False)
    rfl (enters_of Try.func19 (by kernel_rfl) rfl) (fun _ => rfl) ?round ?iter ?done ?ret
  case iter =>
    intro rec hY
    rw [hl6] at hY ⊢
    refine (callsIn_wide.1 (slots_it HS5.out H1.out H2.out H3.out H4.out (ICnt w.heap.size) (fun _ _ => False) (fun _ _ _ h => h.1) (fun W2 hk hB => ⟨SI.start hB, (hk.1.block w.heap.size (by have := HS5.out; omega)).trans HB0.out⟩) rec hY)).mono ?_
    rintro e W ⟨hv, h | ⟨_, _, _, _, h⟩⟩
    · exact ⟨hv, .inl h⟩
    · exact h.elim
  case ret => exact fun _ _ _ _ h => h.elim
  case round =>
    rw [hl6]
    rintro rec - ⟨L, x, W2⟩ W ⟨⟨hI, hv⟩, hpf, -⟩ hl
    simp only at hI hv hpf
    have hlen : L.length ≤ 4096 := by
      have := hpf.length_le
      have := ownL_len s lo hi n
      simp at *; omega
    have hl2 := (hI.old (w.heap.size + 6) (by have := hI.hB; omega) (by omega)).symm.trans hl
    obtain ⟨⟨q1, q2⟩, q4⟩ := ICnt.step (x := x) (r1 := rec .busy none) ⟨hI, hv⟩ hl2
    have hw : IntKind.i64.wrap ((L.length : Int) + 1) = (L.length : Int) + 1 := by rw [IntKind.wrap_i64]; omega
    have d1 := cell_of_heap q1 0
    have g1 := frozen_of_heap q1 0
    simp only [List.getElem?_toArray, List.getElem?_cons_zero] at d1
    have HL := Lib.hid hl
    have Q2 := Lib.hid q2
    have Q4 := Lib.hid q4
    clear hI hv hpf hl hl2 q1 q2 q4
    simp only [Sl.args]
    gi_wp2
    refine ⟨HL.out, ?_⟩
    gi_wp2
    exact ⟨Q2.out, .inl ⟨rfl, Q4.out⟩⟩
  case done =>
    rw [hl6]
    rintro W r r' hl ⟨W2, hk, hm, hI, hv⟩
    have hs5 := HS5.out
    have hBs := hI.hB
    have hsz := hI.size
    have c1 : (W.putObj (w.heap.size + 6) (.loop r')).cell? ⟨w.heap.size, 0, none⟩ = some (.int .i64 ((ownL s lo hi n).length : Nat)) := putObj_cell _ hl rfl (cell_of_heap hv 0)
    have hm' : (W.putObj (w.heap.size + 6) (.loop r')).heap[w.heap.size + 5]? = some (.deferred (some [])) := (World.putObj_heap_other (by omega)).trans ((hI.old (w.heap.size + 5) (by omega) (by omega)).trans hm)
    have HM := Lib.hid hm'
    have HI := Lib.hid hI
    have HK := Lib.hid hk
    have HP : Hid (∀ b, b ≠ w.heap.size + 6 → (W.putObj (w.heap.size + 6) (.loop r')).heap[b]? = W.heap[b]?) := Lib.hid fun b hb => World.putObj_heap_other hb
    have HPS : Hid ((W.putObj (w.heap.size + 6) (.loop r')).heap.size = W.heap.size) := Lib.hid (by simp)
    have HPO : Hid ((W.putObj (w.heap.size + 6) (.loop r')).os = W.os ∧ (W.putObj (w.heap.size + 6) (.loop r')).tape = W.tape ∧ (W.putObj (w.heap.size + 6) (.loop r')).output = W.output) := Lib.hid ⟨rfl, rfl, rfl⟩
    clear hI hk hm hm' hv hl
    generalize W.putObj (w.heap.size + 6) (.loop r') = W' at *
    gi_wp2
    refine ⟨by simp, .inl ⟨_, _, rfl, run_takeDeferred HM.out, ?_⟩⟩
    have hF : ∀ b, b ≠ w.heap.size + 5 → b ≠ w.heap.size + 6 → (W'.putObj (w.heap.size + 5) (.deferred none)).heap[b]? = W.heap[b]? := fun b h1 h2 => (World.putObj_heap_other h1).trans (HP.out b h2)
    have hFS : (W'.putObj (w.heap.size + 5) (.deferred none)).heap.size = W.heap.size := by rw [World.putObj_size]; exact HPS.out
    have k5 := HK5.out.trans HK.out
    refine ⟨_, results_tmp rfl _ _ _, rfl, ?_⟩
    · refine ⟨(HPO.out.1.trans HI.out.os).trans k5.1.os, (HPO.out.2.1.trans HI.out.tape).trans k5.1.tape, (HPO.out.2.2.trans HI.out.output).trans k5.1.output, by rw [hFS]; have := k5.2; omega, fun b hb => ?_⟩
      rw [hF b (by omega) (by omega), HI.out.old b (by omega) (by omega)]
      exact k5.1.block b hb

set_option maxRecDepth 100000 in
set_option maxHeartbeats 4000000 in
theorem next_any (s lo n : Int) (w : World) : Calls Try.prog 13 #[.int .i64 s, .int .i64 lo, .int .i64 n] w fun e w' => e = .returned (.int .i64 (nextI s lo n)) ∧ Below w.heap.size w w' := by
  refine (callsIn_wide (n := 2)).1 ?_
  refine callsIn_of_wp_marks Try.func13 rfl trivial ?_
  simp only [Try.ntmps13, List.size_toArray, List.length_cons, List.length_nil, Nat.reduceAdd, Nat.reduceSub, Array.replicate_succ, Array.replicate_zero, List.push_toArray, List.append_toArray, List.nil_append, List.cons_append]
  gi_wp2_with fail
  refine ⟨trivial, ?_⟩
  refine (callsIn_wide.2 (slots_fn _ _ _ _ _)).mono ?_
  rintro e w5 ⟨rfl, hw5⟩
  have hk1 : Kept w (w.alloc (.cells #[.int .i64 0] 3)) := (Kept.refl w).alloc _
  obtain ⟨hs5, hk5, h1, h2, h3, h4⟩ := boxes_at (B := w.heap.size) (by simp) hw5
  have hb0 : w5.heap[w.heap.size]? = some (.cells #[.int .i64 0] 3 (0, 0)) := (hk5.1.block w.heap.size (by simp)).trans (push_new w _)
  have HB0 := Lib.hid hb0
  have HS5 := Lib.hid hs5
  have HK5 := Lib.hid (hk1.trans hk5)
  have H1 := Lib.hid h1
  have H2 := Lib.hid h2
  have H3 := Lib.hid h3
  have H4 := Lib.hid h4
  simp only [World.size_alloc] at *
  clear hb0 hs5 hk5 hk1 h1 h2 h3 h4 hw5
  gi_wp2_with fail
  have hl6 : w5.heap.size + 1 = w.heap.size + 6 := by rw [HS5.out]
  refine wp_range2 (m := 0) (gf := 19) (lb := #[.pointer (some ⟨w.heap.size + 1, 0, none⟩), .pointer (some ⟨w.heap.size + 4, 0, none⟩), .pointer (some ⟨w.heap.size + 3, 0, none⟩), .pointer (some ⟨w.heap.size + 2, 0, none⟩)]) Sl.args (Sl.Pre (INxt w.heap.size) w5 (ownL s lo 4096 n)) (Sl.Post (INxt w.heap.size) (NHit w.heap.size))
    (fun W => ∃ W2, Kept w5 W2 ∧ W2.heap[w.heap.size + 5]? = some (.deferred (some [])) ∧ INxt w.heap.size W2 (ownL s lo 4096 n) W) (fun W => ∃ y : Sl, y.L ++ [y.x] <+: ownL s lo 4096 n ∧ Kept w5 y.W2 ∧ y.W2.heap[w.heap.size + 5]? = some (.deferred (some [])) ∧ NHit w.heap.size y W)
    rfl (enters_of Try.func19 (by kernel_rfl) rfl) (fun _ => rfl) ?round ?iter ?done ?ret
  case iter =>
    intro rec hY
    rw [hl6] at hY ⊢
    refine (callsIn_wide.1 (slots_it HS5.out H1.out H2.out H3.out H4.out (INxt w.heap.size) (NHit w.heap.size) (fun _ _ _ h => h.1.1) (fun W2 hk hB => ⟨⟨SI.start hB, rfl⟩, (hk.1.block w.heap.size (by have := HS5.out; omega)).trans HB0.out⟩) rec hY)).mono ?_
    rintro e W ⟨hv, h | h⟩
    · exact ⟨hv, .inl h⟩
    · obtain ⟨y, g1, g2, g3, g4⟩ := h
      exact ⟨hv, .inr ⟨g4.done, y, g1, g2, g3, g4⟩⟩
  case ret =>
    rw [hl6]
    rintro W r r' hl ⟨⟨L, x, W2⟩, hpf, hk, hm, hh⟩
    have hB := hh.hB
    have hone := hh.one
    simp only at hpf hk hm hB hone
    subst hone
    have hx : nextI s lo n = x := by
      obtain ⟨M, hM⟩ := hpf
      exact (own_head hM.symm).1
    have hm' : (W.putObj (w.heap.size + 6) (.loop r')).heap[w.heap.size + 5]? = some (.deferred (some [])) := (World.putObj_heap_other (by omega)).trans ((hh.old (w.heap.size + 5) (by simp only; omega) (by omega) (by omega)).trans hm)
    refine ⟨by simp, .inl ⟨_, _, rfl, run_takeDeferred (by rw [HS5.out]; exact hm'), ?_⟩⟩
    rw [HS5.out]
    have k5 := HK5.out.trans hk
    have hF : ∀ b, b ≠ w.heap.size + 5 → b ≠ w.heap.size + 6 → ((W.putObj (w.heap.size + 6) (.loop r')).putObj (w.heap.size + 5) (.deferred none)).heap[b]? = W.heap[b]? := fun b h1 h2 => (World.putObj_heap_other h1).trans (World.putObj_heap_other h2)
    have q3 := cell_of_heap ((hF w.heap.size (by omega) (by omega)).trans hh.res) 0
    simp only [List.getElem?_toArray, List.getElem?_cons_zero] at q3
    have hsz := hh.size
    simp only at hsz
    refine ⟨_, results_cell_one rfl _ _ _ _ _ rfl (load_int q3), by rw [hx], ?_⟩
    refine ⟨hh.os.trans k5.1.os, hh.tape.trans k5.1.tape, hh.output.trans k5.1.output, by simp only [World.putObj_size]; have := k5.2; omega, fun b hb => ?_⟩
    rw [hF b (by omega) (by omega), hh.old b (by simp only; omega) (by omega) (by omega)]
    exact k5.1.block b hb
  case round =>
    rw [hl6]
    rintro rec hrec ⟨L, x, W2⟩ W ⟨hI, hpf, -⟩ hl
    obtain ⟨⟨q1, q2⟩, q4⟩ := INxt.step (y := ⟨L, x, W2⟩) (r1 := rec .busy none) (r2 := rec .done (some .ret)) hI (hrec _ _)
    have d1 := cell_of_heap q1 0
    have g1 := frozen_of_heap q1 0
    simp only [List.getElem?_toArray, List.getElem?_cons_zero] at d1
    have HL := Lib.hid hl
    have Q2 := Lib.hid q2
    have Q4 := Lib.hid q4
    clear hI hpf hl q1 q2 q4 hrec
    simp only [Sl.args]
    gi_wp2
    refine ⟨HL.out, ?_⟩
    gi_wp2
    exact ⟨Q2.out, .inr ⟨rfl, Q4.out⟩⟩
  case done =>
    rw [hl6]
    rintro W r r' hl ⟨W2, hk, hm, ⟨hI, hL⟩, hv⟩
    have hs5 := HS5.out
    have hBs := hI.hB
    have hsz := hI.size
    have hx : nextI s lo n = -1 := by unfold nextI; rw [hL]; rfl
    have hv' : (W.putObj (w.heap.size + 6) (.loop r')).heap[w.heap.size]? = some (.cells #[.int .i64 0] 3 (0, 0)) := (World.putObj_heap_other (by omega)).trans hv
    have c1 := cell_of_heap hv' 0
    have g1 := frozen_of_heap hv' 0
    simp only [List.getElem?_toArray, List.getElem?_cons_zero] at c1
    have hm' : (W.putObj (w.heap.size + 6) (.loop r')).heap[w.heap.size + 5]? = some (.deferred (some [])) := (World.putObj_heap_other (by omega)).trans ((hI.old (w.heap.size + 5) (by omega) (by omega)).trans hm)
    have HM := Lib.hid hm'
    have HV := Lib.hid hv'
    have HI := Lib.hid hI
    have HK := Lib.hid hk
    have HX := Lib.hid hx
    have HP : Hid (∀ b, b ≠ w.heap.size + 6 → (W.putObj (w.heap.size + 6) (.loop r')).heap[b]? = W.heap[b]?) := Lib.hid fun b hb => World.putObj_heap_other hb
    have HPS : Hid ((W.putObj (w.heap.size + 6) (.loop r')).heap.size = W.heap.size) := Lib.hid (by simp)
    have HPO : Hid ((W.putObj (w.heap.size + 6) (.loop r')).os = W.os ∧ (W.putObj (w.heap.size + 6) (.loop r')).tape = W.tape ∧ (W.putObj (w.heap.size + 6) (.loop r')).output = W.output) := Lib.hid ⟨rfl, rfl, rfl⟩
    clear hI hk hm hm' hv hv' hl hx hL
    generalize W.putObj (w.heap.size + 6) (.loop r') = W' at *
    gi_wp2
    have hB5 : (W'.setCell ⟨w.heap.size, 0, none⟩ (.int .i64 (-1))).heap[w.heap.size]? = some (.cells #[.int .i64 (-1)] 3 (0, 0)) := by rw [heap_setCell_same HV.out]; rfl
    have hm5 : (W'.setCell ⟨w.heap.size, 0, none⟩ (.int .i64 (-1))).heap[w.heap.size + 5]? = some (.deferred (some [])) := (Below.heap_setCell _ ⟨w.heap.size, 0, none⟩ _ _ (by simp)).trans HM.out
    refine ⟨by simp, .inl ⟨_, _, rfl, run_takeDeferred hm5, ?_⟩⟩
    have hF : ∀ b, b ≠ w.heap.size → b ≠ w.heap.size + 5 → b ≠ w.heap.size + 6 → ((W'.setCell ⟨w.heap.size, 0, none⟩ (.int .i64 (-1))).putObj (w.heap.size + 5) (.deferred none)).heap[b]? = W.heap[b]? := fun b h0 h1 h2 => ((World.putObj_heap_other h1).trans (Below.heap_setCell _ ⟨w.heap.size, 0, none⟩ _ _ h0)).trans (HP.out b h2)
    have q3 := cell_of_heap ((World.putObj_heap_other (r := w.heap.size + 5) (o := .deferred none) (by omega)).trans hB5) 0
    simp only [List.getElem?_toArray, List.getElem?_cons_zero] at q3
    have k5 := HK5.out.trans HK.out
    have hps := HPS.out
    refine ⟨_, results_cell_one rfl _ _ _ _ _ rfl (load_int q3), by rw [HX.out], ?_⟩
    refine ⟨(HPO.out.1.trans HI.out.os).trans k5.1.os, (HPO.out.2.1.trans HI.out.tape).trans k5.1.tape, (HPO.out.2.2.trans HI.out.output).trans k5.1.output, by have := k5.2; simp [World.setCell]; omega, fun b hb => ?_⟩
    rw [hF b (by omega) (by omega) (by omega), HI.out.old b (by omega) (by omega)]
    exact k5.1.block b hb
end Go.Proofs.Ytfobhofghjpjeaa
