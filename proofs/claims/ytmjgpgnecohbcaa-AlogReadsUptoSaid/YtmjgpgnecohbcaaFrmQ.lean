/- The program's frame: slices.Grow and slices.Concat of three rows of bytes, Put. -/
import Derived.Test.YtmjgpgnecohbcaaFrmP
import Derived.Lib.AppendZeros
namespace Go.Proofs.Ytmjgpgnecohbcaa
open Go.RowKit CrcM CrcW

theorem run_grow_zeros (w : World) (n : Nat) (h0 : 0 < n) (hn : n ≤ 140737505132544) (ty : TypeId) :
    ∃ cap w', (Builtin.append_ #[37, 3] ty #[.slice none 0 0, .int .i64 n]).run Try.prog w = .ok (.slice (some ⟨w.heap.size, 0, none⟩) n cap) w' ∧
      Own w' w.heap.size (.slice (some ⟨w.heap.size, 0, none⟩) 0 cap) [] ∧ Below w.heap.size w w' := by
  obtain ⟨i0, hi, hz0, hz1, hz2⟩ := info_parts u8_info
  have h := Lib.run_append_nil_zeros (P := Try.prog) w 37 3 ty 5 i0 (.int .u8 0) .i64 .i64 Try.underlying37 Try.underlying3 hi hz0 n h0 (by omega) (by omega) (by rw [hz2]; omega)
  refine ⟨_, _, h, ?_, ((Below.refl _ _).drew).alloc (Nat.le_refl _) _⟩
  have hge := grownCap_ge w n 0 5
  have := World.ownsRow_made (base := w.heap.size) (e := 5) (size := 1) w.drew (Builtin.zeroCells (Value.int .u8 0).cells n ++ Builtin.zeroCells (Value.int .u8 0).cells (grownCap w n 0 5 - n)) (grownCap w n 0 5) (Nat.le_refl _)
    (grownCap_le_maxLen w n 0 _ (by simp only [maxLen]; omega)) (by simp [size_zeroCells, Value.cells]; omega)
  exact this

theorem wpList_grow_zeros {w : World} {ops : Array Oper} {rest : List Oper} {o : Oper} {a : Act} {Q : Exit → Act → World → Prop} (hgd : o.guard = none) (s x : Operand)
    (ho : o.op = .call { callee := .builtin .append, args := #[s, x], argTypes := #[37, 3] }) (n : Nat) (h0 : 0 < n) (hn : n ≤ 140737505132544) (hs : a.eval s = .slice none 0 0) (hx : a.eval x = .int .i64 n)
    (h : ∀ cap w', Own w' w.heap.size (.slice (some ⟨w.heap.size, 0, none⟩) 0 cap) [] → Below w.heap.size w w' → wpList Try.prog ops Q rest (a.put o.dst (.slice (some ⟨w.heap.size, 0, none⟩) n cap)) w') : wpList Try.prog ops Q (o :: rest) a w := by
  refine wpList_plain hgd fun K hK => ?_
  obtain ⟨cap, w', hrun, h2, h3⟩ := run_grow_zeros w n h0 hn o.type
  unfold Oper.wp
  simp [execOp, ho, resolve, invoke, builtin, hs, hx, hrun, Result.andThen]
  exact hK _ _ (h cap w' h2 h3)

set_option maxHeartbeats 400000 in
theorem grow_nil (n : Nat) (h0 : 0 < n) (hn : n ≤ 140737505132544) (w : World) :
    Calls Try.prog 88 #[.slice none 0 0, .int .i64 n] w fun e w' => ∃ v, e = .returned v ∧ Own w' w.heap.size v [] ∧ Below w.heap.size w w' := by
  go_enter Try.func88, Try.ntmps88
  go_wp2_with (first
    | (at_builtin
       refine wpList_grow_zeros rfl (.tmp 20) (.tmp 21) rfl n h0 hn rfl rfl ?_
       intro cap w1 own hb
       have HO := Lib.hid own
       have HB := Lib.hid hb
       clear own hb)
    | fail)
  go_ret
  exact ⟨_, rfl, HO.out, HB.out⟩

/-- three rows of bytes, one behind the other -/
theorem concat_three {w : World} {g : Nat} {A0 A1 A2 : Option Addr} {n0 n1 n2 c0 c1 c2 : Nat} {x0 x1 x2 : List Nat} (h0 : Bts w w.heap.size A0 n0 x0) (h1 : Bts w w.heap.size A1 n1 x1) (h2 : Bts w w.heap.size A2 n2 x2) (hn2 : A2 = none → c2 = 0)
    (hA0 : A0 ≠ none) (hA1 : A1 ≠ none) (hpos : 0 < n0) (hmax : n0 + n1 + n2 ≤ 140737505132544)
    (hg : w.heap[g]? = some (.cells #[.slice A0 n0 c0, .slice A1 n1 c1, .slice A2 n2 c2] 37 (0, 0))) :
    Calls Try.prog 75 #[.slice (some ⟨g, 0, none⟩) 3 3] w fun e w' => ∃ v, e = .returned v ∧ Own w' w.heap.size v (x0 ++ x1 ++ x2) ∧ Below w.heap.size w w' := by
  have z0 := cell_of_heap hg 0
  have z1 := cell_of_heap hg 1
  have z2 := cell_of_heap hg 2
  simp only [List.getElem?_toArray, List.getElem?_cons_zero, List.getElem?_cons_succ] at z0 z1 z2
  have H0 := Lib.hid h0
  have H1 := Lib.hid h1
  have H2 := Lib.hid h2
  have HG := Lib.hid hg
  have l0 := h0.1
  have l1 := h1.1
  have l2 := h2.1
  clear h0 h1 h2 hg
  go_enter Try.func75, Try.ntmps75
  go_wp2
  refine wp_loop_rounds 4 ?_
  rw [rounds_succ]
  go_wp2
  rw [rounds_succ]
  go_wp2
  rw [rounds_succ]
  go_wp2
  rw [rounds_succ]
  go_wp2_with fail
  rw [show ((n0 : Int) + n1 + n2) = ((n0 + n1 + n2 : Nat) : Int) by omega]
  refine (grow_nil (n0 + n1 + n2) (by omega) hmax _).mono ?_
  rintro e w1 ⟨v1, rfl, own1, hb1⟩
  have k1 : Kept w w1 := (Kept.refl w).call hb1
  have hgl := heap_lt HG.out
  have y0 := (k1.cell (p := ⟨g, 0, none⟩) hgl).trans z0
  have y1 := (k1.cell (p := ⟨g, 1, none⟩) hgl).trans z1
  have y2 := (k1.cell (p := ⟨g, 2, none⟩) hgl).trans z2
  clear hb1
  have hle : n0 + (n1 + n2) ≤ 140737505132544 := by omega
  generalize n0 + n1 + n2 = nn at *
  go_wp2
  refine wp_loop_rounds 4 ?_
  rw [rounds_succ]
  go_wp2_with (first
    | (at_builtin
       refine wpList_append_bts rfl (.tmp 31) (.tmp 32) rfl (v := v1) (base := w.heap.size) (ds := []) rfl rfl own1 (H0.out.below k1.1) (fun h => absurd h hA0) (by simp; omega) k1.2 ?_
       intro v2 w2 own2 gr at2
       have k2 := k1.append own1 gr
       clear gr at2)
    | fail)
  have y10 := (k2.cell (p := ⟨g, 1, none⟩) hgl).trans z1
  have y20 := (k2.cell (p := ⟨g, 2, none⟩) hgl).trans z2
  rw [rounds_succ]
  go_wp2_with (first
    | (at_builtin
       refine wpList_append_bts rfl (.tmp 31) (.tmp 32) rfl (v := v2) (base := w.heap.size) (ds := [] ++ x0) rfl rfl own2 (H1.out.below k2.1) (fun h => absurd h hA1) (by simp; omega) k2.2 ?_
       intro v3 w3 own3 gr at3
       have k3 := k2.append own2 gr
       clear gr at3)
    | fail)
  have y21 := (k3.cell (p := ⟨g, 2, none⟩) hgl).trans z2
  rw [rounds_succ]
  go_wp2_with (first
    | (at_builtin
       refine wpList_append_bts rfl (.tmp 31) (.tmp 32) rfl (v := v3) (base := w.heap.size) (ds := [] ++ x0 ++ x1) rfl rfl own3 (H2.out.below k3.1) hn2 (by simp; omega) k3.2 ?_
       intro v4 w4 own4 gr at4
       have k4 := k3.append own3 gr
       clear gr at4)
    | fail)
  rw [rounds_succ]
  go_wp2
  go_ret
  exact ⟨_, rfl, by simpa using own4, k4.1⟩
end Go.Proofs.Ytmjgpgnecohbcaa
