/- Ballots: Next, Major, of the program and of the document. -/
import Derived.Test.YtifenlopgpbpbaaBalP
namespace Go.Proofs.Ytifenlopgpbpbaa
open Go.RowKit



theorem major_any (n : Int) (hn : n ≤ 9223372036854775807) (w : World) : Calls Try.prog 34 #[.int .i64 n] w fun e w' => e = .returned (.int .i64 (majorI n)) ∧ w' = w := by
  rcases Int.lt_or_le n 1 with h | h
  · have e : majorI n = 0 := if_pos h
    rw [e]
    clear e
    go_enter Try.func34, Try.ntmps34
    go_wp2
    go_ret
    exact ⟨rfl, rfl⟩
  · have e : majorI n = n / 2 + 1 := if_neg (by omega)
    rw [e]
    clear e
    have h1 : n.tdiv 2 = n / 2 := Int.tdiv_eq_ediv_of_nonneg (by omega)
    have h2 : wrap64 (n / 2 + 1) = n / 2 + 1 := IntWalk.wrap64_in _ (by omega)
    have h3 : wrap64 (n / 2) = n / 2 := IntWalk.wrap64_in _ (by omega)
    go_enter Try.func34, Try.ntmps34
    go_wp2
    go_ret
    exact ⟨rfl, rfl⟩
theorem refmajor_any (n : Int) (hn : n ≤ 9223372036854775807) (w : World) : Calls Try.prog 37 #[.int .i64 n] w fun e w' => e = .returned (.int .i64 (majorI n)) ∧ w' = w := by
  rcases Int.lt_or_le n 1 with h | h
  · have e : majorI n = 0 := if_pos h
    rw [e]
    clear e
    go_enter Try.func37, Try.ntmps37
    go_wp2
    go_ret
    exact ⟨rfl, rfl⟩
  · have e : majorI n = n / 2 + 1 := if_neg (by omega)
    rw [e]
    clear e
    have h1 : n.tdiv 2 = n / 2 := Int.tdiv_eq_ediv_of_nonneg (by omega)
    have h2 : wrap64 (n / 2 + 1) = n / 2 + 1 := IntWalk.wrap64_in _ (by omega)
    have h3 : wrap64 (n / 2) = n / 2 := IntWalk.wrap64_in _ (by omega)
    go_enter Try.func37, Try.ntmps37
    go_wp2
    go_ret
    exact ⟨rfl, rfl⟩
end Go.Proofs.Ytifenlopgpbpbaa
