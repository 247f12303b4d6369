/- The program's sums and parts. -/
import Derived.Test.YtmlpgdhdndmlaaaNumP
namespace Go.Proofs.Ytmlpgdhdndmlaaa
open Go.RowKit

theorem ret_told {a b : Int} {x y : Bool} (h : a = b) (k : x = y) : Ending.returned (.tuple #[.int .i64 a, .bool x]) = .returned (.tuple #[.int .i64 b, .bool y]) := by rw [h, k]

/-- what fits -/
def told (n : Int) : Int := if -9223372036854775808 ≤ n ∧ n ≤ 9223372036854775807 then n else 0
def isIn (n : Int) : Bool := decide (-9223372036854775808 ≤ n ∧ n ≤ 9223372036854775807)
theorem told_in {n : Int} (h : -9223372036854775808 ≤ n ∧ n ≤ 9223372036854775807) : told n = n ∧ isIn n = true := ⟨if_pos h, decide_eq_true h⟩
theorem told_out {n : Int} (h : ¬ (-9223372036854775808 ≤ n ∧ n ≤ 9223372036854775807)) : told n = 0 ∧ isIn n = false := ⟨if_neg h, decide_eq_false h⟩
theorem round_case {n : Int} (hn : -18446744073709551616 ≤ n ∧ n ≤ 18446744073709551615) : ∃ s, wrap64 n = s ∧ (s = n ∧ told n = n ∧ isIn n = true ∨ (s = n + 18446744073709551616 ∧ n < -9223372036854775808 ∨ s = n - 18446744073709551616 ∧ 9223372036854775807 < n) ∧ told n = 0 ∧ isIn n = false) := by
  by_cases h : -9223372036854775808 ≤ n ∧ n ≤ 9223372036854775807
  · exact ⟨_, rfl, .inl ⟨IntWalk.wrap64_in n h, (told_in h).1, (told_in h).2⟩⟩
  · refine ⟨_, rfl, .inr ⟨?_, (told_out h).1, (told_out h).2⟩⟩
    unfold wrap64
    omega

theorem add_any (a b : Int) (ha : -9223372036854775808 ≤ a ∧ a ≤ 9223372036854775807) (hb : -9223372036854775808 ≤ b ∧ b ≤ 9223372036854775807) (w : World) :
    Calls Try.prog 10 #[.int .i64 a, .int .i64 b] w fun e w' => e = .returned (.tuple #[.int .i64 (told (a + b)), .bool (isIn (a + b))]) ∧ w' = w := by
  obtain ⟨s, hs, hc⟩ := round_case (n := a + b) (by omega)
  generalize told (a + b) = t at *
  generalize isIn (a + b) = is at *
  by_cases h1 : a < s <;> by_cases h2 : 0 < b
  · obtain ⟨rfl, rfl⟩ : t = s ∧ is = true := by rcases hc with ⟨h, h', h''⟩ | ⟨h, h', h''⟩ <;> constructor <;> first | omega | exact h''
    clear hc ha hb
    go_enter Try.func10, Try.ntmps10
    go_wp2
    go_ret2
    first | exact ⟨rfl, rfl⟩ | exact ⟨ret_told hs rfl, rfl⟩
  · obtain ⟨rfl, rfl⟩ : t = 0 ∧ is = false := by rcases hc with ⟨h, h', h''⟩ | ⟨h, h', h''⟩ <;> constructor <;> first | omega | exact h''
    clear hc ha hb
    go_enter Try.func10, Try.ntmps10
    go_wp2
    go_ret2
    first | exact ⟨rfl, rfl⟩ | exact ⟨ret_told hs rfl, rfl⟩
  · obtain ⟨rfl, rfl⟩ : t = 0 ∧ is = false := by rcases hc with ⟨h, h', h''⟩ | ⟨h, h', h''⟩ <;> constructor <;> first | omega | exact h''
    clear hc ha hb
    go_enter Try.func10, Try.ntmps10
    go_wp2
    go_ret2
    first | exact ⟨rfl, rfl⟩ | exact ⟨ret_told hs rfl, rfl⟩
  · obtain ⟨rfl, rfl⟩ : t = s ∧ is = true := by rcases hc with ⟨h, h', h''⟩ | ⟨h, h', h''⟩ <;> constructor <;> first | omega | exact h''
    clear hc ha hb
    go_enter Try.func10, Try.ntmps10
    go_wp2
    go_ret2
    first | exact ⟨rfl, rfl⟩ | exact ⟨ret_told hs rfl, rfl⟩

theorem sub_any (a b : Int) (ha : -9223372036854775808 ≤ a ∧ a ≤ 9223372036854775807) (hb : -9223372036854775808 ≤ b ∧ b ≤ 9223372036854775807) (w : World) :
    Calls Try.prog 11 #[.int .i64 a, .int .i64 b] w fun e w' => e = .returned (.tuple #[.int .i64 (told (a - b)), .bool (isIn (a - b))]) ∧ w' = w := by
  obtain ⟨s, hs, hc⟩ := round_case (n := a - b) (by omega)
  generalize told (a - b) = t at *
  generalize isIn (a - b) = is at *
  by_cases h1 : s < a <;> by_cases h2 : 0 < b
  · obtain ⟨rfl, rfl⟩ : t = s ∧ is = true := by rcases hc with ⟨h, h', h''⟩ | ⟨h, h', h''⟩ <;> constructor <;> first | omega | exact h''
    clear hc ha hb
    go_enter Try.func11, Try.ntmps11
    go_wp2
    go_ret2
    first | exact ⟨rfl, rfl⟩ | exact ⟨ret_told hs rfl, rfl⟩
  · obtain ⟨rfl, rfl⟩ : t = 0 ∧ is = false := by rcases hc with ⟨h, h', h''⟩ | ⟨h, h', h''⟩ <;> constructor <;> first | omega | exact h''
    clear hc ha hb
    go_enter Try.func11, Try.ntmps11
    go_wp2
    go_ret2
    first | exact ⟨rfl, rfl⟩ | exact ⟨ret_told hs rfl, rfl⟩
  · obtain ⟨rfl, rfl⟩ : t = 0 ∧ is = false := by rcases hc with ⟨h, h', h''⟩ | ⟨h, h', h''⟩ <;> constructor <;> first | omega | exact h''
    clear hc ha hb
    go_enter Try.func11, Try.ntmps11
    go_wp2
    go_ret2
    first | exact ⟨rfl, rfl⟩ | exact ⟨ret_told hs rfl, rfl⟩
  · obtain ⟨rfl, rfl⟩ : t = s ∧ is = true := by rcases hc with ⟨h, h', h''⟩ | ⟨h, h', h''⟩ <;> constructor <;> first | omega | exact h''
    clear hc ha hb
    go_enter Try.func11, Try.ntmps11
    go_wp2
    go_ret2
    first | exact ⟨rfl, rfl⟩ | exact ⟨ret_told hs rfl, rfl⟩

/-- an amount's parts -/
theorem divided_any (n k : Nat) (hn : n ≤ 1152921504606846976) (hk : k ≤ 10000) (w : World) :
    Calls Try.prog 23 #[.int .i64 n, .int .i64 k] w fun e w' => e = .returned (.tuple #[.int .i64 ((n * k / 10000 : Nat) : Int), .int .u64 ((n * k % 10000 : Nat) : Int)]) ∧ Below w.heap.size w w' := by
  have hP := Lib.hid (product_any n k (by omega) (by omega))
  have hb : n * k ≤ 1152921504606846976 * 10000 := Nat.mul_le_mul hn hk
  obtain ⟨hi, hhi⟩ : ∃ hi, hi = n * k / 18446744073709551616 := ⟨_, rfl⟩
  obtain ⟨lo, hlo⟩ : ∃ lo, lo = n * k % 18446744073709551616 := ⟨_, rfl⟩
  have e1 : highOf (n : Int) (k : Int) = (hi : Int) := by unfold highOf; rw [← Int.natCast_mul]; omega
  have e2 : lowOf (n : Int) (k : Int) = (lo : Int) := by unfold lowOf; rw [← Int.natCast_mul]; omega
  rw [e1, e2] at hP
  have hD := div64_any hi lo (by omega) (by omega)
  have e3 : hi * 18446744073709551616 + lo = n * k := by omega
  rw [e3] at hD
  have hq : n * k / 10000 ≤ 1152921504606846976 := by omega
  have HD := Lib.hid hD
  have ew : IntKind.i64.wrap ((n * k / 10000 : Nat) : Int) = ((n * k / 10000 : Nat) : Int) := by rw [IntKind.wrap_i64]; omega
  have ew' : wrap64 ((n * k / 10000 : Nat) : Int) = ((n * k / 10000 : Nat) : Int) := by rw [← IntWalk.i64_left]; exact ew
  generalize n * k / 10000 = d at *
  generalize n * k % 10000 = r at *
  clear e1 e2 hD hhi hlo e3 hb hn hk
  go_enter Try.func23, Try.ntmps23
  go_wp2_with fail
  refine (hP.out _).mono ?_
  rintro e u ⟨rfl, h1⟩
  have k1 := ((Kept.refl w).call h1).alloc (.cells #[.int .u64 hi, .int .u64 lo] 36)
  go_wp2_with fail
  refine (HD.out _).mono ?_
  rintro e u2 ⟨rfl, h2⟩
  have k2 := k1.call h2
  clear h1 h2 k1
  go_wp2
  go_ret2
  exact ⟨rfl, k2.1⟩

/-- rounded down, and up -/
def dnTold (n k : Int) : Int := if mayB n k then n * k / 10000 else 0
def upTold (n k : Int) : Int := if mayB n k then (n * k + 9999) / 10000 else 0
theorem may_nat {n k : Int} (h : mayB n k = true) : ∃ x y : Nat, n = x ∧ k = y ∧ x ≤ 1152921504606846976 ∧ y ≤ 10000 := by
  have := of_decide_eq_true h
  exact ⟨n.toNat, k.toNat, by omega, by omega, by omega, by omega⟩

theorem down_any (n k : Int) (w : World) :
    Calls Try.prog 17 #[.int .i64 n, .int .i64 k] w fun e w' => e = .returned (.tuple #[.int .i64 (dnTold n k), .bool (mayB n k)]) ∧ Below w.heap.size w w' := by
  have hM := Lib.hid (may_any n k)
  cases hm : mayB n k
  · rw [hm] at hM
    have e : dnTold n k = 0 := by unfold dnTold; rw [hm]; rfl
    rw [e]
    clear e hm
    go_enter Try.func17, Try.ntmps17
    go_wp2_with fail
    refine (hM.out _).mono ?_
    rintro e u ⟨rfl, rfl⟩
    go_wp2
    go_ret2
    exact ⟨rfl, Below.refl _ _⟩
  · rw [hm] at hM
    obtain ⟨x, y, rfl, rfl, hx, hy⟩ := may_nat hm
    have HD := Lib.hid (divided_any x y hx hy)
    have e : dnTold (x : Int) (y : Int) = ((x * y / 10000 : Nat) : Int) := by unfold dnTold; rw [hm, ← Int.natCast_mul]; simp
    rw [e]
    generalize x * y / 10000 = d at *
    generalize x * y % 10000 = r at *
    clear e hm hx hy
    go_enter Try.func17, Try.ntmps17
    go_wp2_with fail
    refine (hM.out _).mono ?_
    rintro e u ⟨rfl, rfl⟩
    go_wp2_with fail
    refine (HD.out _).mono ?_
    rintro e u ⟨rfl, h1⟩
    go_wp2
    go_ret2
    exact ⟨rfl, h1⟩

theorem up_any (n k : Int) (w : World) :
    Calls Try.prog 16 #[.int .i64 n, .int .i64 k] w fun e w' => e = .returned (.tuple #[.int .i64 (upTold n k), .bool (mayB n k)]) ∧ Below w.heap.size w w' := by
  have hM := Lib.hid (may_any n k)
  cases hm : mayB n k
  · rw [hm] at hM
    have e : upTold n k = 0 := by unfold upTold; rw [hm]; rfl
    rw [e]
    clear e hm
    go_enter Try.func16, Try.ntmps16
    go_wp2_with fail
    refine (hM.out _).mono ?_
    rintro e u ⟨rfl, rfl⟩
    go_wp2
    go_ret2
    exact ⟨rfl, Below.refl _ _⟩
  · rw [hm] at hM
    obtain ⟨x, y, rfl, rfl, hx, hy⟩ := may_nat hm
    have HD := Lib.hid (divided_any x y hx hy)
    have hb : x * y ≤ 1152921504606846976 * 10000 := Nat.mul_le_mul hx hy
    have e : upTold (x : Int) (y : Int) = (((x * y + 9999) / 10000 : Nat) : Int) := by unfold upTold; rw [hm, ← Int.natCast_mul]; simp
    rw [e]
    have hu : (x * y + 9999) / 10000 = if 0 < x * y % 10000 then x * y / 10000 + 1 else x * y / 10000 := by split <;> omega
    rw [hu]
    have hd : x * y / 10000 ≤ 1152921504606846976 := by omega
    clear hu hb
    generalize x * y / 10000 = d at *
    generalize x * y % 10000 = r at *
    clear e hm hx hy
    by_cases hr : 0 < r
    · rw [if_pos hr]
      go_enter Try.func16, Try.ntmps16
      go_wp2_with fail
      refine (hM.out _).mono ?_
      rintro e u ⟨rfl, rfl⟩
      go_wp2_with fail
      refine (HD.out _).mono ?_
      rintro e u ⟨rfl, h1⟩
      go_wp2
      go_ret2
      exact ⟨ret_told (by omega) rfl, h1⟩
    · rw [if_neg hr]
      obtain rfl : r = 0 := by omega
      go_enter Try.func16, Try.ntmps16
      go_wp2_with fail
      refine (hM.out _).mono ?_
      rintro e u ⟨rfl, rfl⟩
      go_wp2_with fail
      refine (HD.out _).mono ?_
      rintro e u ⟨rfl, h1⟩
      go_wp2
      go_ret2
      exact ⟨rfl, h1⟩
end Go.Proofs.Ytmlpgdhdndmlaaa
