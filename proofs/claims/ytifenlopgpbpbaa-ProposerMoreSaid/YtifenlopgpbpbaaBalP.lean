/- Ballots: Compare, May, Next, Major, of the program and of the document. -/
import Derived.Test.YtifenlopgpbpbaaRows
import Derived.Test.YtifenlopgpbpbaaOpen
import Derived.Test.YtifenlopgpbpbaaQuiet
import Derived.Test.YtifenlopgpbpbaaIn64
import Derived.Lib.Hide
import Derived.WalkKit
import Derived.Below
import Derived.Laws.Rows
namespace Go.Proofs.Ytifenlopgpbpbaa
open Go.RowKit

/-- the lesser ballot -/
def cmpB (r s r' s' : Int) : Int := if r < r' ∨ r = r' ∧ s < s' then -1 else if r = r' ∧ s = s' then 0 else 1
def isSiteB (s n : Int) : Bool := decide (0 ≤ s ∧ s < n)
def mayB (r s n : Int) : Bool := decide (0 ≤ r ∧ r ≤ 1099511627776 ∧ 0 ≤ s ∧ s < n)
def nextR (r : Int) : Int := if r < 0 then 1 else if 1099511627776 ≤ r then 1099511627776 else r + 1
def majorI (n : Int) : Int := if n < 1 then 0 else n / 2 + 1

theorem nan_any (x : Int) (w : World) : Calls Try.prog 44 #[.int .i64 x] w fun e w' => e = .returned (.bool false) ∧ w' = w := by
  go_enter Try.func44, Try.ntmps44
  go_wp2
  go_ret
  exact ⟨rfl, rfl⟩
theorem cmpint_any (x y : Int) (w : World) : Calls Try.prog 42 #[.int .i64 x, .int .i64 y] w fun e w' => e = .returned (.int .i64 (if x < y then -1 else if x = y then 0 else 1)) ∧ w' = w := by
  have hx := Lib.hid (nan_any x)
  have hy := Lib.hid (nan_any y)
  rcases Int.lt_trichotomy x y with h | h | h
  · rw [if_pos h]
    go_enter Try.func42, Try.ntmps42
    go_wp2_with fail
    refine (hx.out _).mono ?_
    rintro e u ⟨rfl, rfl⟩
    go_wp2_with fail
    refine (hy.out _).mono ?_
    rintro e u ⟨rfl, rfl⟩
    go_wp2
    go_ret
    exact ⟨rfl, rfl⟩
  · rw [if_neg (by omega), if_pos h]
    subst h
    go_enter Try.func42, Try.ntmps42
    go_wp2_with fail
    refine (hx.out _).mono ?_
    rintro e u ⟨rfl, rfl⟩
    go_wp2_with fail
    refine (hy.out _).mono ?_
    rintro e u ⟨rfl, rfl⟩
    go_wp2
    go_ret
    exact ⟨rfl, rfl⟩
  · rw [if_neg (by omega), if_neg (by omega)]
    go_enter Try.func42, Try.ntmps42
    go_wp2_with fail
    refine (hx.out _).mono ?_
    rintro e u ⟨rfl, rfl⟩
    go_wp2_with fail
    refine (hy.out _).mono ?_
    rintro e u ⟨rfl, rfl⟩
    go_wp2
    go_ret
    exact ⟨rfl, rfl⟩

theorem compare_any (r s r' s' : Int) (w : World) : Calls Try.prog 35 #[.agg #[.int .i64 r, .int .i64 s], .agg #[.int .i64 r', .int .i64 s']] w fun e w' => e = .returned (.int .i64 (cmpB r s r' s')) ∧ Below w.heap.size w w' := by
  by_cases h : r = r'
  · subst h
    have e : cmpB r s r s' = if s < s' then -1 else if s = s' then 0 else 1 := by unfold cmpB; repeat' split <;> first | rfl | omega
    have hc := Lib.hid (cmpint_any s s')
    rw [← e] at hc
    generalize cmpB r s r s' = z at *
    clear e
    go_enter Try.func35, Try.ntmps35
    go_wp2_with fail
    refine (hc.out _).mono ?_
    rintro e u ⟨rfl, rfl⟩
    go_wp2
    go_ret
    exact ⟨rfl, (((Kept.refl w).alloc _).alloc _).1⟩
  · have e : cmpB r s r' s' = if r < r' then -1 else if r = r' then 0 else 1 := by unfold cmpB; repeat' split <;> first | rfl | omega
    have hc := Lib.hid (cmpint_any r r')
    rw [← e] at hc
    generalize cmpB r s r' s' = z at *
    clear e
    go_enter Try.func35, Try.ntmps35
    go_wp2_with fail
    refine (hc.out _).mono ?_
    rintro e u ⟨rfl, rfl⟩
    go_wp2
    go_ret
    exact ⟨rfl, (((Kept.refl w).alloc _).alloc _).1⟩

theorem refcompare_any (r s r' s' : Int) (w : World) : Calls Try.prog 21 #[.agg #[.int .i64 r, .int .i64 s], .agg #[.int .i64 r', .int .i64 s']] w fun e w' => e = .returned (.int .i64 (cmpB r s r' s')) ∧ Below w.heap.size w w' := by
  by_cases h1 : r < r'
  · have e : cmpB r s r' s' = -1 := by unfold cmpB; rw [if_pos (.inl h1)]
    rw [e]
    go_enter Try.func21, Try.ntmps21
    go_wp2
    go_ret
    exact ⟨rfl, (((Kept.refl w).alloc _).alloc _).1⟩
  by_cases h2 : r = r'
  · subst h2
    rcases Int.lt_trichotomy s s' with h | h | h
    · have e : cmpB r s r s' = -1 := by unfold cmpB; rw [if_pos (.inr ⟨rfl, h⟩)]
      rw [e]
      go_enter Try.func21, Try.ntmps21
      go_wp2
      go_ret
      exact ⟨rfl, (((Kept.refl w).alloc _).alloc _).1⟩
    · subst h
      have e : cmpB r s r s = 0 := by unfold cmpB; rw [if_neg (by omega), if_pos ⟨rfl, rfl⟩]
      rw [e]
      go_enter Try.func21, Try.ntmps21
      go_wp2
      go_ret
      exact ⟨rfl, (((Kept.refl w).alloc _).alloc _).1⟩
    · have e : cmpB r s r s' = 1 := by unfold cmpB; rw [if_neg (by omega), if_neg (by omega)]
      rw [e]
      have hne : s ≠ s' := by omega
      go_enter Try.func21, Try.ntmps21
      go_wp2
      go_ret
      exact ⟨rfl, (((Kept.refl w).alloc _).alloc _).1⟩
  · have e : cmpB r s r' s' = 1 := by unfold cmpB; rw [if_neg (by omega), if_neg (by omega)]
    rw [e]
    go_enter Try.func21, Try.ntmps21
    go_wp2
    go_ret
    exact ⟨rfl, (((Kept.refl w).alloc _).alloc _).1⟩

theorem issite_any (s n : Int) (w : World) : Calls Try.prog 33 #[.int .i64 s, .int .i64 n] w fun e w' => e = .returned (.bool (isSiteB s n)) ∧ w' = w := by
  by_cases h : 0 ≤ s
  · have e : isSiteB s n = decide (s < n) := by unfold isSiteB; simp [h]
    rw [e]
    go_enter Try.func33, Try.ntmps33
    go_wp2
    go_ret
    exact ⟨rfl, rfl⟩
  · have e : isSiteB s n = false := decide_eq_false (by omega)
    rw [e]
    go_enter Try.func33, Try.ntmps33
    go_wp2
    go_ret
    exact ⟨rfl, rfl⟩
theorem refsite_any (s n : Int) (w : World) : Calls Try.prog 26 #[.int .i64 s, .int .i64 n] w fun e w' => e = .returned (.bool (isSiteB s n)) ∧ w' = w := by
  by_cases h : 0 ≤ s
  · have e : isSiteB s n = decide (s < n) := by unfold isSiteB; simp [h]
    rw [e]
    go_enter Try.func26, Try.ntmps26
    go_wp2
    go_ret
    exact ⟨rfl, rfl⟩
  · have e : isSiteB s n = false := decide_eq_false (by omega)
    rw [e]
    go_enter Try.func26, Try.ntmps26
    go_wp2
    go_ret
    exact ⟨rfl, rfl⟩


end Go.Proofs.Ytifenlopgpbpbaa
