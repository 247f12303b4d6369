/- errors.as at what joins a text and a fault; Code and At of it; Code of a text. -/
import Derived.Test.YtmmmajlfndibnaaDoorErrK
import Derived.Test.YtmmmajlfndibnaaDoorWireE
namespace Go.Proofs.YtmmmajlfndibnaaDoor
open Go.RowKit Go.Extern.Stop Go.Stop Go.Extern

set_option maxRecDepth 100000 in
set_option maxHeartbeats 2000000 in
theorem asE_J (j : Nat) (x : Addr) (c p : Int) (a : Addr) (b : Nat) (old : Value) (w : World) (hj : Joined w j (estr x) (fault c p)) (ha : w.cell? a = some (.pointer (some ⟨b, 0, none⟩))) (hb : w.heap[b]? = some (.cells #[old] 60 (0, 0))) :
    Calls Tryd.prog 52 #[ejoin ⟨j, 0, none⟩, .iface 100 (.pointer (some ⟨b, 0, none⟩)), vE a, rty 60] w
      fun e w' => e = .returned (.bool true) ∧ Hit w w' b #[.int .i64 c] 60 := by
  have hO := @run_callFunc_extern Tryd.prog 42 _ ReflectliteType.typeOf Tryd.func42 (by kernel_rfl) (by kernel_rfl) (by kernel_rfl) (by kernel_rfl)
  have hA := @run_callFunc_extern Tryd.prog 79 _ (ReflectliteType.relation "AssignableTo" ReflectliteType.assignableTo) Tryd.func79 (by kernel_rfl) (by kernel_rfl) (by kernel_rfl) (by kernel_rfl)
  have mA := mAssignableTo
  have tJ := typeOf_J
  have aJ := asg_JE
  have n1 := noAs_J
  have n2 := noUn_J
  have n3 := hasUns_J
  have mU := mUnwrap_J
  have hN1 := run_eql_held_nil (P := Tryd.prog) (w.alloc (.cells #[hnd 100, .pointer (some a), .int .u64 150] 115)) 43 89 (.pointer (some x)) (by kernel_rfl)
  have hN2 := fun w => run_eql_held_nil (P := Tryd.prog) w 43 97 (.agg #[.int .i64 c, .int .i64 p]) (by kernel_rfl)
  have hal := cell_lt ha
  have hlt := heap_lt hb
  have b1 : Below w.heap.size w (w.alloc (.cells #[hnd 100, .pointer (some a), .int .u64 150] 115)) := (Below.refl _ _).alloc (Nat.le_refl _) _
  have b2 : Below w.heap.size w ((w.alloc (.cells #[hnd 100, .pointer (some a), .int .u64 150] 115)).alloc (.cells #[hnd 100, .pointer (some a), .int .u64 150] 115)) := b1.alloc (by simp) _
  have hc1 := asE_S_not x (.iface 100 (.pointer (some ⟨b, 0, none⟩))) a (w.alloc (.cells #[hnd 100, .pointer (some a), .int .u64 150] 115))
  have hc2 := asE_F c p a b old ((w.alloc (.cells #[hnd 100, .pointer (some a), .int .u64 150] 115)).alloc (.cells #[hnd 100, .pointer (some a), .int .u64 150] 115)) ((b2.cell hal).trans ha) ((b2.block b hlt).trans hb)
  obtain ⟨m, cap, j1, j2, j3⟩ := hj
  have g1 := (b1.cell (p := ⟨j, 0, none⟩) (cell_lt j1)).trans j1
  have g2 := (b1.cell (p := ⟨m, 0, none⟩) (cell_lt j2)).trans j2
  have g3 := (b2.cell (p := ⟨m, 1, none⟩) (cell_lt j3)).trans j3
  have HB := Lib.hid b2
  clear j1 j2 j3 ha hb b1 b2 hal hlt
  unfold ejoin estr fault vE at *
  unfold rty at *
  unfold hnd at *
  go_enter Tryd.func52, Tryd.ntmps52
  go_wp2_with (first
    | (go_at_call 52; fail)
    | go_in)
  refine wp_loop_rounds 1 ?_
  rw [rounds_succ]
  go_wp2_with (first
    | (go_at_call 52; fail)
    | go_in)
  refine wp_loop_rounds 2 ?_
  rw [rounds_succ]
  go_wp2_with (first
    | (go_at_call 52; refine hc1.mono ?_; rintro e w' ⟨rfl, rfl⟩)
    | go_in)
  rw [rounds_succ]
  go_wp2_with (first
    | (go_at_call 52; refine hc2.mono ?_; rintro e w' ⟨rfl, hit⟩)
    | go_in)
  go_ret
  exact ⟨rfl, Hit.of_below HB.out hit⟩

set_option maxRecDepth 100000 in
set_option maxHeartbeats 2000000 in
theorem asF_J (j : Nat) (x : Addr) (c p : Int) (a : Addr) (b : Nat) (old1 old2 : Value) (w : World) (hj : Joined w j (estr x) (fault c p)) (ha : w.cell? a = some (.pointer (some ⟨b, 0, none⟩))) (hb : w.heap[b]? = some (.cells #[old1, old2] 97 (0, 0))) :
    Calls Tryd.prog 52 #[ejoin ⟨j, 0, none⟩, .iface 99 (.pointer (some ⟨b, 0, none⟩)), vF a, rty 97] w
      fun e w' => e = .returned (.bool true) ∧ Hit w w' b #[.int .i64 c, .int .i64 p] 97 := by
  have hO := @run_callFunc_extern Tryd.prog 42 _ ReflectliteType.typeOf Tryd.func42 (by kernel_rfl) (by kernel_rfl) (by kernel_rfl) (by kernel_rfl)
  have hA := @run_callFunc_extern Tryd.prog 79 _ (ReflectliteType.relation "AssignableTo" ReflectliteType.assignableTo) Tryd.func79 (by kernel_rfl) (by kernel_rfl) (by kernel_rfl) (by kernel_rfl)
  have mA := mAssignableTo
  have tJ := typeOf_J
  have aJ := asg_JF
  have n1 := noAs_J
  have n2 := noUn_J
  have n3 := hasUns_J
  have mU := mUnwrap_J
  have hN1 := run_eql_held_nil (P := Tryd.prog) (w.alloc (.cells #[hnd 99, .pointer (some a), .int .u64 150] 115)) 43 89 (.pointer (some x)) (by kernel_rfl)
  have hN2 := fun w => run_eql_held_nil (P := Tryd.prog) w 43 97 (.agg #[.int .i64 c, .int .i64 p]) (by kernel_rfl)
  have hal := cell_lt ha
  have hlt := heap_lt hb
  have b1 : Below w.heap.size w (w.alloc (.cells #[hnd 99, .pointer (some a), .int .u64 150] 115)) := (Below.refl _ _).alloc (Nat.le_refl _) _
  have b2 : Below w.heap.size w ((w.alloc (.cells #[hnd 99, .pointer (some a), .int .u64 150] 115)).alloc (.cells #[hnd 99, .pointer (some a), .int .u64 150] 115)) := b1.alloc (by simp) _
  have hc1 := asF_S_not x (.iface 99 (.pointer (some ⟨b, 0, none⟩))) a (w.alloc (.cells #[hnd 99, .pointer (some a), .int .u64 150] 115))
  have hc2 := asF_F c p a b old1 old2 ((w.alloc (.cells #[hnd 99, .pointer (some a), .int .u64 150] 115)).alloc (.cells #[hnd 99, .pointer (some a), .int .u64 150] 115)) ((b2.cell hal).trans ha) ((b2.block b hlt).trans hb)
  obtain ⟨m, cap, j1, j2, j3⟩ := hj
  have g1 := (b1.cell (p := ⟨j, 0, none⟩) (cell_lt j1)).trans j1
  have g2 := (b1.cell (p := ⟨m, 0, none⟩) (cell_lt j2)).trans j2
  have g3 := (b2.cell (p := ⟨m, 1, none⟩) (cell_lt j3)).trans j3
  have HB := Lib.hid b2
  clear j1 j2 j3 ha hb b1 b2 hal hlt
  unfold ejoin estr fault vF at *
  unfold rty at *
  unfold hnd at *
  go_enter Tryd.func52, Tryd.ntmps52
  go_wp2_with (first
    | (go_at_call 52; fail)
    | go_in)
  refine wp_loop_rounds 1 ?_
  rw [rounds_succ]
  go_wp2_with (first
    | (go_at_call 52; fail)
    | go_in)
  refine wp_loop_rounds 2 ?_
  rw [rounds_succ]
  go_wp2_with (first
    | (go_at_call 52; refine hc1.mono ?_; rintro e w' ⟨rfl, rfl⟩)
    | go_in)
  rw [rounds_succ]
  go_wp2_with (first
    | (go_at_call 52; refine hc2.mono ?_; rintro e w' ⟨rfl, hit⟩)
    | go_in)
  go_ret
  exact ⟨rfl, Hit.of_below HB.out hit⟩

theorem kept_joined {w0 w : World} {j : Nat} {e1 e2 : Value} (h : Joined w0 j e1 e2) (hk : Kept w0 w) : Joined w j e1 e2 := h.below hk.1
theorem code_join (j : Nat) (x : Addr) (c p : Int) (w : World) (hg : Laid w) (hj : Joined w j (estr x) (fault c p)) :
    Calls Tryd.prog 27 #[ejoin ⟨j, 0, none⟩] w fun e w' => e = .returned (.int .i64 c) ∧ Below w.heap.size w w' :=
  code_hit _ _ c w hg (fun b => fun a w1 hk h1 h2 => asE_J j x c p a b _ w1 (kept_joined hj hk) h1 h2)
theorem at_join (j : Nat) (x : Addr) (c p : Int) (w : World) (hg : Laid w) (hj : Joined w j (estr x) (fault c p)) :
    Calls Tryd.prog 26 #[ejoin ⟨j, 0, none⟩] w fun e w' => e = .returned (.int .i64 p) ∧ Below w.heap.size w w' :=
  at_hit _ _ c p w hg (fun b => fun a w1 hk h1 h2 => asF_J j x c p a b _ _ w1 (kept_joined hj hk) h1 h2)
/-- an error that wraps no Errno -/
theorem code_text (x : Addr) (w : World) (hg : Laid w) : Calls Tryd.prog 27 #[estr x] w fun e w' => e = .returned (.int .i64 1) ∧ Below w.heap.size w w' :=
  code_miss _ _ w hg (fun _ _ => fun a w1 _ _ _ => (asE_S_not x _ a w1).mono fun _ _ ⟨h1, h2⟩ => ⟨h1, h2 ▸ (Below.refl _ _).alloc (Nat.le_refl _) _⟩)
end Go.Proofs.YtmmmajlfndibnaaDoor
