/- The four numbers that some statements on slots are handed. -/
import Derived.Test.YtfobhofghjpjeaaZs
import Derived.Test.YtfobhofghjpjeaaIn64
import Derived.Test.YtfobhofghjpjeaaTypedS
namespace Go.Proofs.Ytfobhofghjpjeaa
open Go.RowKit

theorem four_of {w : World} {cs : List Value} (h : cs.length = 4 ∧ IsStruct [(0, 1, (IsInt .i64)), (1, 1, (IsInt .i64)), (2, 1, (IsInt .i64)), (3, 1, (IsInt .i64))] w cs) : ∃ s lo hi n : Int, cs = [.int .i64 s, .int .i64 lo, .int .i64 hi, .int .i64 n] ∧ (-9223372036854775808 ≤ lo ∧ lo ≤ 9223372036854775807) ∧ (-9223372036854775808 ≤ hi ∧ hi ≤ 9223372036854775807) := by
  obtain ⟨hl, h0, h1, h2, h3, -⟩ := h
  match cs, hl with
  | [v0, v1, v2, v3], _ =>
    obtain ⟨n0, e0, f0⟩ := h0
    obtain ⟨n1, e1, f1⟩ := h1
    obtain ⟨n2, e2, f2⟩ := h2
    obtain ⟨n3, e3, f3⟩ := h3
    simp only [List.drop_zero, List.take_succ_cons, List.take_zero, List.drop_succ_cons, List.cons.injEq, and_true] at e0 e1 e2 e3
    subst e0 e1 e2 e3
    exact ⟨n0, n1, n2, n3, rfl, in64 f1, in64 f2⟩
/-- the four numbers in a block of their own -/
def Fr (W : World) (p : Nat) (s lo hi n : Int) : Prop := W.heap[p]? = some (.cells #[.int .i64 s, .int .i64 lo, .int .i64 hi, .int .i64 n] 23 (0, 0))
theorem Fr.kept {W W' : World} {p : Nat} {s lo hi n : Int} (h : Fr W p s lo hi n) (k : Kept W W') : Fr W' p s lo hi n := (k.1.block p (heap_lt h)).trans h
theorem Fr.cells {W : World} {p : Nat} {s lo hi n : Int} (h : Fr W p s lo hi n) : W.cell? ⟨p, 0, none⟩ = some (.int .i64 s) ∧ W.cell? ⟨p, 1, none⟩ = some (.int .i64 lo) ∧ W.cell? ⟨p, 2, none⟩ = some (.int .i64 hi) ∧ W.cell? ⟨p, 3, none⟩ = some (.int .i64 n) :=
  ⟨cell_of_heap h 0, cell_of_heap h 1, cell_of_heap h 2, cell_of_heap h 3⟩
/-- a slice that reads as these numbers -/
def ZT (m : Nat) (L : List Int) : Value → World → Prop := fun v w => ∃ A c, v = .slice A m c ∧ Zs w A m L
theorem ZT.mono (m : Nat) (L : List Int) : (Slot.has (ZT m L)).Mono := fun _ _ _ k ⟨A, c, e, z⟩ => ⟨A, c, e, z.kept k⟩
theorem OwnZ.zt {w : World} {base : Nat} {v : Value} {L : List Int} (h : OwnZ w base v L) : ZT L.length L v w := by
  obtain ⟨A, c, rfl, -⟩ := h.slice
  exact ⟨A, c, rfl, h.zs⟩
end Go.Proofs.Ytfobhofghjpjeaa
