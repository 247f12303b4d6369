/- Plain facts on the order of ballots; a ballot among the arguments; a ballot in a block of its own. -/
import Derived.Test.YtifenlopgpbpbaaBalP
namespace Go.Proofs.Ytifenlopgpbpbaa
open Go.RowKit

theorem ballot_of {w : World} {cs : List Value} (h : cs.length = 2 ∧ IsStruct [(0, 1, (IsInt .i64)), (1, 1, (IsInt .i64))] w cs) : ∃ r s : Int, cs = [.int .i64 r, .int .i64 s] ∧ (-9223372036854775808 ≤ r ∧ r ≤ 9223372036854775807) ∧ (-9223372036854775808 ≤ s ∧ s ≤ 9223372036854775807) := by
  obtain ⟨hl, h0, h1, -⟩ := h
  match cs, hl with
  | [v0, v1], _ =>
    obtain ⟨n0, e0, f0⟩ := h0
    obtain ⟨n1, e1, f1⟩ := h1
    simp only [List.drop_zero, List.take_succ_cons, List.take_zero, List.drop_succ_cons, List.cons.injEq, and_true] at e0 e1
    subst e0 e1
    exact ⟨n0, n1, rfl, in64 f0, in64 f1⟩

theorem cmp_range (r s r' s' : Int) : cmpB r s r' s' = -1 ∨ cmpB r s r' s' = 0 ∨ cmpB r s r' s' = 1 := by unfold cmpB; repeat' split <;> omega
theorem cmp_back (r s r' s' : Int) : cmpB r' s' r s = -(cmpB r s r' s') := by unfold cmpB; repeat' split <;> first | rfl | omega
theorem cmp_zero (r s r' s' : Int) : cmpB r s r' s' = 0 ↔ r = r' ∧ s = s' := by
  unfold cmpB
  constructor
  · intro h
    by_cases h1 : r = r' ∧ s = s'
    · exact h1
    · rw [if_neg h1] at h
      split at h <;> omega
  · intro h
    rw [if_neg (by omega), if_pos h]
theorem cmp_trans (r s r' s' r'' s'' : Int) : (cmpB r s r' s' ≤ 0 → cmpB r' s' r'' s'' ≤ 0 → cmpB r s r'' s'' ≤ 0) ∧ (cmpB r s r' s' < 0 → cmpB r' s' r'' s'' < 0 → cmpB r s r'' s'' < 0) := by
  unfold cmpB
  constructor <;> intro h1 h2 <;> (repeat' split at h1) <;> (repeat' split at h2) <;> (repeat' split) <;> omega

/-- a ballot in a block of its own -/
def Bx (W : World) (g : Nat) (r s : Int) : Prop := W.heap[g]? = some (.cells #[.int .i64 r, .int .i64 s] 33 (0, 0))
theorem Bx.kept {W W' : World} {g : Nat} {r s : Int} (h : Bx W g r s) (k : Kept W W') : Bx W' g r s := (k.1.block g (heap_lt h)).trans h
theorem Bx.c0 {W : World} {g : Nat} {r s : Int} (h : Bx W g r s) : W.cell? ⟨g, 0, none⟩ = some (.int .i64 r) := cell_of_heap h 0
theorem Bx.c1 {W : World} {g : Nat} {r s : Int} (h : Bx W g r s) : W.cell? ⟨g, 1, none⟩ = some (.int .i64 s) := cell_of_heap h 1
theorem Bx.new (W : World) (r s : Int) : Bx (W.alloc (.cells #[.int .i64 r, .int .i64 s] 33)) W.heap.size r s := push_new W _
theorem Bx.old {W : World} {g : Nat} {r s : Int} (h : Bx W g r s) (o : Obj) : Bx (W.alloc o) g r s := (push_old W o (heap_lt h)).trans h
end Go.Proofs.Ytifenlopgpbpbaa
