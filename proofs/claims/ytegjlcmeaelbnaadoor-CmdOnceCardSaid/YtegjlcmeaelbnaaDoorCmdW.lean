/- The program's commands as numbers, and back; what each number may be; signed. -/
import Derived.Test.YtegjlcmeaelbnaaDoorCmdM
import Derived.Test.YtegjlcmeaelbnaaDoorWireE
import Derived.Laws.ResultCell
import Derived.Laws.Rows
namespace Go.Proofs.YtegjlcmeaelbnaaDoor
open Go.RowKit

/-- numbers, or a command's fields, in their order -/
def nums (ns : List Int) : Value := .agg (ns.map fun n => Value.int .i64 n).toArray

theorem signed_cmd (i : Int) (w : World) :
    Calls Tryd.prog 37 #[.int .i64 i] w fun e w' => e = .returned (.bool (decide (1 < i))) ∧ w' = w := by
  go_enter Tryd.func37, Tryd.ntmps37
  go_wp2
  go_ret
  exact ⟨rfl, rfl⟩

set_option maxRecDepth 100000 in
set_option maxHeartbeats 2000000 in
theorem fields9 (n0 n1 n2 n3 n4 n5 n6 n7 n8 : Int) (w : World) :
    Calls Tryd.prog 19 #[nums [n0, n1, n2, n3, n4, n5, n6, n7, n8]] w fun e w' => e = .returned (nums [n0, n1, n2, n3, n4, n5, n6, n7, n8]) ∧ Below w.heap.size w w' := by
  unfold nums
  simp only [List.map_cons, List.map_nil]
  go_enter Tryd.func19, Tryd.ntmps19
  go_wp2
  refine bodyPost_ret (results_cell_row (p := 2) (ty := 50) rfl _ _ (w.heap.size + 1) _ _ _ _ rfl (push_two_new w _ _) Tryd.underlying50 rfl (by kernel_rfl)) rfl ?_
  exact ⟨rfl, ((Below.refl _ _).alloc (Nat.le_refl _) _).alloc (by simp) _⟩

set_option maxRecDepth 100000 in
set_option maxHeartbeats 2000000 in
theorem command9 (n0 n1 n2 n3 n4 n5 n6 n7 n8 : Int) (w : World) :
    Calls Tryd.prog 27 #[nums [n0, n1, n2, n3, n4, n5, n6, n7, n8]] w fun e w' => e = .returned (nums [n0, n1, n2, n3, n4, n5, n6, n7, n8]) ∧ Below w.heap.size w w' := by
  unfold nums
  simp only [List.map_cons, List.map_nil]
  go_enter Tryd.func27, Tryd.ntmps27
  go_wp2
  refine bodyPost_ret (results_cell_row (p := 2) (ty := 23) rfl _ _ (w.heap.size + 1) _ _ _ _ rfl (push_two_new w _ _) Tryd.underlying23 rfl (by kernel_rfl)) rfl ?_
  exact ⟨rfl, ((Below.refl _ _).alloc (Nat.le_refl _) _).alloc (by simp) _⟩

/-- the spans as the program has them -/
def spanV (k : Int) : Value := .agg ((spansOf k).flatMap fun p => [Value.int .i64 p.1, Value.int .i64 p.2]).toArray
end Go.Proofs.YtegjlcmeaelbnaaDoor
