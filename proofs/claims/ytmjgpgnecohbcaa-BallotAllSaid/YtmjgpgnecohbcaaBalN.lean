/- Ballots: Next, Major, of the program and of the document. -/
import Derived.Test.YtmjgpgnecohbcaaBalP
namespace Go.Proofs.Ytmjgpgnecohbcaa
open Go.RowKit

theorem next_any (r s t : Int) (w : World) : Calls Try.prog 15 #[.agg #[.int .i64 r, .int .i64 s], .int .i64 t] w fun e w' => e = .returned (.agg #[.int .i64 (nextR r), .int .i64 t]) ∧ Below w.heap.size w w' := by
  rcases Int.lt_or_le r 0 with h | h
  · have e : nextR r = 1 := if_pos h
    rw [e]
    clear e
    go_enter Try.func15, Try.ntmps15
    go_wp2
    refine bodyPost_ret (results_cell_row (p := 4) (ty := 23) rfl _ _ (w.heap.size + 1) _ _ _ _ rfl (push_two_new w _ _) Try.underlying23 rfl (by kernel_rfl)) rfl ?_
    exact ⟨rfl, (((Kept.refl w).alloc _).alloc _).1⟩
  · rcases Int.lt_or_le r 1099511627776 with h1 | h1
    · have e : nextR r = r + 1 := by unfold nextR; rw [if_neg (by omega), if_neg (by omega)]
      rw [e]
      clear e
      go_enter Try.func15, Try.ntmps15
      go_wp2
      refine bodyPost_ret (results_cell_row (p := 4) (ty := 23) rfl _ _ (w.heap.size + 1) _ _ _ _ rfl (push_two_new w _ _) Try.underlying23 rfl (by kernel_rfl)) rfl ?_
      exact ⟨rfl, (((Kept.refl w).alloc _).alloc _).1⟩
    · have e : nextR r = 1099511627776 := by unfold nextR; rw [if_neg (by omega), if_pos h1]
      rw [e]
      clear e
      go_enter Try.func15, Try.ntmps15
      go_wp2
      refine bodyPost_ret (results_cell_row (p := 4) (ty := 23) rfl _ _ (w.heap.size + 1) _ _ _ _ rfl (push_two_new w _ _) Try.underlying23 rfl (by kernel_rfl)) rfl ?_
      exact ⟨rfl, (((Kept.refl w).alloc _).alloc _).1⟩
theorem refnext_any (r s t : Int) (w : World) : Calls Try.prog 16 #[.agg #[.int .i64 r, .int .i64 s], .int .i64 t] w fun e w' => e = .returned (.agg #[.int .i64 (nextR r), .int .i64 t]) ∧ Below w.heap.size w w' := by
  rcases Int.lt_or_le r 0 with h | h
  · have e : nextR r = 1 := if_pos h
    rw [e]
    clear e
    go_enter Try.func16, Try.ntmps16
    go_wp2
    refine bodyPost_ret (results_cell_row (p := 4) (ty := 23) rfl _ _ (w.heap.size + 1) _ _ _ _ rfl (push_two_new w _ _) Try.underlying23 rfl (by kernel_rfl)) rfl ?_
    exact ⟨rfl, (((Kept.refl w).alloc _).alloc _).1⟩
  · rcases Int.lt_or_le r 1099511627776 with h1 | h1
    · have e : nextR r = r + 1 := by unfold nextR; rw [if_neg (by omega), if_neg (by omega)]
      rw [e]
      clear e
      go_enter Try.func16, Try.ntmps16
      go_wp2
      refine bodyPost_ret (results_cell_row (p := 4) (ty := 23) rfl _ _ (w.heap.size + 1) _ _ _ _ rfl (push_two_new w _ _) Try.underlying23 rfl (by kernel_rfl)) rfl ?_
      exact ⟨rfl, (((Kept.refl w).alloc _).alloc _).1⟩
    · have e : nextR r = 1099511627776 := by unfold nextR; rw [if_neg (by omega), if_pos h1]
      rw [e]
      clear e
      go_enter Try.func16, Try.ntmps16
      go_wp2
      refine bodyPost_ret (results_cell_row (p := 4) (ty := 23) rfl _ _ (w.heap.size + 1) _ _ _ _ rfl (push_two_new w _ _) Try.underlying23 rfl (by kernel_rfl)) rfl ?_
      exact ⟨rfl, (((Kept.refl w).alloc _).alloc _).1⟩
theorem major_any (n : Int) (hn : n ≤ 9223372036854775807) (w : World) : Calls Try.prog 17 #[.int .i64 n] w fun e w' => e = .returned (.int .i64 (majorI n)) ∧ w' = w := by
  rcases Int.lt_or_le n 1 with h | h
  · have e : majorI n = 0 := if_pos h
    rw [e]
    clear e
    go_enter Try.func17, Try.ntmps17
    go_wp2
    go_ret
    exact ⟨rfl, rfl⟩
  · have e : majorI n = n / 2 + 1 := if_neg (by omega)
    rw [e]
    clear e
    have h1 : n.tdiv 2 = n / 2 := Int.tdiv_eq_ediv_of_nonneg (by omega)
    have h2 : wrap64 (n / 2 + 1) = n / 2 + 1 := IntWalk.wrap64_in _ (by omega)
    have h3 : wrap64 (n / 2) = n / 2 := IntWalk.wrap64_in _ (by omega)
    go_enter Try.func17, Try.ntmps17
    go_wp2
    go_ret
    exact ⟨rfl, rfl⟩
theorem refmajor_any (n : Int) (hn : n ≤ 9223372036854775807) (w : World) : Calls Try.prog 18 #[.int .i64 n] w fun e w' => e = .returned (.int .i64 (majorI n)) ∧ w' = w := by
  rcases Int.lt_or_le n 1 with h | h
  · have e : majorI n = 0 := if_pos h
    rw [e]
    clear e
    go_enter Try.func18, Try.ntmps18
    go_wp2
    go_ret
    exact ⟨rfl, rfl⟩
  · have e : majorI n = n / 2 + 1 := if_neg (by omega)
    rw [e]
    clear e
    have h1 : n.tdiv 2 = n / 2 := Int.tdiv_eq_ediv_of_nonneg (by omega)
    have h2 : wrap64 (n / 2 + 1) = n / 2 + 1 := IntWalk.wrap64_in _ (by omega)
    have h3 : wrap64 (n / 2) = n / 2 := IntWalk.wrap64_in _ (by omega)
    go_enter Try.func18, Try.ntmps18
    go_wp2
    go_ret
    exact ⟨rfl, rfl⟩
end Go.Proofs.Ytmjgpgnecohbcaa
