/- The reference's sums and parts, and what every statement of layer 4 asks first. -/
import Derived.Test.YtmlpgdhdndmlaaaNumQ
namespace Go.Proofs.Ytmlpgdhdndmlaaa
open Go.RowKit

theorem refadd_any (a b : Int) (ha : -9223372036854775808 ≤ a ∧ a ≤ 9223372036854775807) (hb : -9223372036854775808 ≤ b ∧ b ≤ 9223372036854775807) (w : World) :
    Calls Try.prog 13 #[.int .i64 a, .int .i64 b] w fun e w' => e = .returned (.tuple #[.int .i64 (told (a + b)), .bool (isIn (a + b))]) ∧ w' = w := by
  by_cases hin : -9223372036854775808 ≤ a + b ∧ a + b ≤ 9223372036854775807
  · rw [(told_in hin).1, (told_in hin).2]
    rcases Int.lt_trichotomy b 0 with h | rfl | h
    · have h1 : ¬ a < -9223372036854775808 - b := by omega
      go_enter Try.func13, Try.ntmps13
      go_wp2
      go_ret2
      exact ⟨rfl, rfl⟩
    · go_enter Try.func13, Try.ntmps13
      go_wp2
      go_ret2
      first | exact ⟨rfl, rfl⟩ | exact ⟨ret_told (by omega) rfl, rfl⟩
    · have h1 : ¬ 9223372036854775807 - b < a := by omega
      go_enter Try.func13, Try.ntmps13
      go_wp2
      go_ret2
      exact ⟨rfl, rfl⟩
  · rw [(told_out hin).1, (told_out hin).2]
    rcases Int.lt_trichotomy b 0 with h | rfl | h
    · have h1 : a < -9223372036854775808 - b := by omega
      clear hin
      go_enter Try.func13, Try.ntmps13
      go_wp2
      go_ret2
      exact ⟨rfl, rfl⟩
    · omega
    · have h1 : 9223372036854775807 - b < a := by omega
      clear hin
      go_enter Try.func13, Try.ntmps13
      go_wp2
      go_ret2
      exact ⟨rfl, rfl⟩

theorem refsub_any (a b : Int) (ha : -9223372036854775808 ≤ a ∧ a ≤ 9223372036854775807) (hb : -9223372036854775808 ≤ b ∧ b ≤ 9223372036854775807) (w : World) :
    Calls Try.prog 14 #[.int .i64 a, .int .i64 b] w fun e w' => e = .returned (.tuple #[.int .i64 (told (a - b)), .bool (isIn (a - b))]) ∧ w' = w := by
  by_cases hin : -9223372036854775808 ≤ a - b ∧ a - b ≤ 9223372036854775807
  · rw [(told_in hin).1, (told_in hin).2]
    rcases Int.lt_trichotomy b 0 with h | rfl | h
    · have h1 : ¬ 9223372036854775807 + b < a := by omega
      go_enter Try.func14, Try.ntmps14
      go_wp2
      go_ret2
      exact ⟨rfl, rfl⟩
    · go_enter Try.func14, Try.ntmps14
      go_wp2
      go_ret2
      first | exact ⟨rfl, rfl⟩ | exact ⟨ret_told (by omega) rfl, rfl⟩
    · have h1 : ¬ a < -9223372036854775808 + b := by omega
      go_enter Try.func14, Try.ntmps14
      go_wp2
      go_ret2
      exact ⟨rfl, rfl⟩
  · rw [(told_out hin).1, (told_out hin).2]
    rcases Int.lt_trichotomy b 0 with h | rfl | h
    · have h1 : 9223372036854775807 + b < a := by omega
      clear hin
      go_enter Try.func14, Try.ntmps14
      go_wp2
      go_ret2
      exact ⟨rfl, rfl⟩
    · omega
    · have h1 : a < -9223372036854775808 + b := by omega
      clear hin
      go_enter Try.func14, Try.ntmps14
      go_wp2
      go_ret2
      exact ⟨rfl, rfl⟩

theorem mulTold_eq (a b : Int) : mulTold a b = told (a * b) := rfl
theorem mulIs_eq (a b : Int) : mulIs a b = isIn (a * b) := rfl
/-- a product that came round does not divide back -/
theorem divides {a b c : Int} (ha : -9223372036854775808 ≤ a ∧ a ≤ 9223372036854775807) (hb : -9223372036854775808 ≤ b ∧ b ≤ 9223372036854775807) (b0 : b ≠ 0) (hl : ¬ (a = -9223372036854775808 ∧ b = -1)) (hc : c = wrap64 (a * b)) :
    ∃ q, wrap64 (c.tdiv b) = q ∧ ((q = a ∧ c = a * b ∧ -9223372036854775808 ≤ a * b ∧ a * b ≤ 9223372036854775807) ∨ (q ≠ a ∧ ¬ (-9223372036854775808 ≤ a * b ∧ a * b ≤ 9223372036854775807))) := by
  by_cases hin : -9223372036854775808 ≤ a * b ∧ a * b ≤ 9223372036854775807
  · have e : c = a * b := by rw [hc, IntWalk.wrap64_in _ hin]
    refine ⟨a, ?_, .inl ⟨rfl, e, hin⟩⟩
    rw [e, Int.mul_tdiv_cancel a b0, IntWalk.wrap64_in a ha]
  · refine ⟨_, rfl, .inr ⟨fun h => ?_, hin⟩⟩
    have h1 := Int.mul_tdiv_add_tmod c b
    have h2 : (c.tmod b).natAbs = c.natAbs % b.natAbs := Int.natAbs_tmod c b
    have h3 : c.natAbs % b.natAbs < b.natAbs := Nat.mod_lt _ (by omega)
    have hcr : -9223372036854775808 ≤ c ∧ c ≤ 9223372036854775807 := by rw [hc]; unfold wrap64; omega
    have h4 : (c.tdiv b).natAbs ≤ c.natAbs := by rw [Int.natAbs_tdiv]; exact Nat.div_le_self _ _
    have hd : c.tdiv b = a ∨ c.tdiv b = 9223372036854775808 ∧ a = -9223372036854775808 := by
      unfold wrap64 at h; omega
    rcases hd with hd | ⟨hd, hd'⟩
    · rw [hd, Int.mul_comm] at h1
      unfold wrap64 at hc
      omega
    · have hb1 : b = -1 := by
        have hcc : c = -9223372036854775808 := by omega
        rw [hd] at h1
        omega
      exact hl ⟨hd', hb1⟩

set_option maxHeartbeats 1000000 in
theorem refmul_any (a b : Int) (ha : -9223372036854775808 ≤ a ∧ a ≤ 9223372036854775807) (hb : -9223372036854775808 ≤ b ∧ b ≤ 9223372036854775807) (w : World) :
    Calls Try.prog 15 #[.int .i64 a, .int .i64 b] w fun e w' => e = .returned (.tuple #[.int .i64 (told (a * b)), .bool (isIn (a * b))]) ∧ w' = w := by
  by_cases a0 : a = 0
  · subst a0
    rw [Int.zero_mul, (told_in (by decide)).1, (told_in (by decide)).2]
    go_enter Try.func15, Try.ntmps15
    go_wp2
    go_ret2
    exact ⟨rfl, rfl⟩
  by_cases b0 : b = 0
  · subst b0
    rw [Int.mul_zero, (told_in (by decide)).1, (told_in (by decide)).2]
    go_enter Try.func15, Try.ntmps15
    go_wp2
    go_ret2
    exact ⟨rfl, rfl⟩
  by_cases c1 : a = -1 ∧ b = -9223372036854775808
  · obtain ⟨rfl, rfl⟩ := c1
    rw [(told_out (by decide)).1, (told_out (by decide)).2]
    go_enter Try.func15, Try.ntmps15
    go_wp2
    go_ret2
    exact ⟨rfl, rfl⟩
  by_cases c2 : a = -9223372036854775808 ∧ b = -1
  · obtain ⟨rfl, rfl⟩ := c2
    rw [(told_out (by decide)).1, (told_out (by decide)).2]
    go_enter Try.func15, Try.ntmps15
    go_wp2
    go_ret2
    exact ⟨rfl, rfl⟩
  obtain ⟨c, hc⟩ : ∃ c, c = wrap64 (a * b) := ⟨_, rfl⟩
  obtain ⟨q, hq, h⟩ := divides ha hb b0 c2 hc
  have x1 : (a == 0) = false := by simpa using a0
  have x2 : (b == 0) = false := by simpa using b0
  have x3 : (a == -1 && b == -9223372036854775808) = false := by
    rw [Bool.eq_false_iff]; intro h; simp at h; exact c1 h
  have x4 : (b == -1 && a == -9223372036854775808) = false := by
    rw [Bool.eq_false_iff]; intro h; simp at h; exact c2 ⟨h.2, h.1⟩
  have hc' : wrap64 (a * b) = c := hc.symm
  have HB0 : b ≠ 0 := b0
  obtain ⟨t, ht⟩ : ∃ t, t = told (a * b) := ⟨_, rfl⟩
  obtain ⟨is, his⟩ : ∃ is, is = isIn (a * b) := ⟨_, rfl⟩
  rw [← ht, ← his]
  have x5 : (q != a) = !is ∧ t = (if is then c else 0) := by
    rcases h with ⟨h1, h2, hin⟩ | ⟨hne, hin⟩
    · rw [ht, his, (told_in hin).1, (told_in hin).2, h1, h2]; simp
    · rw [ht, his, (told_out hin).1, (told_out hin).2]; simpa using hne
  obtain ⟨x5, rfl⟩ := x5
  clear ht his h hc x3 x4
  cases is
  · simp only [Bool.not_false] at x5
    simp only [Bool.false_eq_true, if_false]
    by_cases a1 : a = -1
    · have x6 : (a == -1) = true := by simpa using a1
      have x7 : (b == -9223372036854775808) = false := by simp; exact fun h => c1 ⟨a1, h⟩
      clear a1 c1 c2
      by_cases b1 : b = -1
      · have x8 : (b == -1) = true := by simpa using b1
        have x9 : (a == -9223372036854775808) = false := by have := eq_of_beq x6; simp; omega
        clear b1
        go_enter Try.func15, Try.ntmps15
        go_wp2
        go_ret2
        first | exact ⟨rfl, rfl⟩ | exact ⟨ret_told hc' rfl, rfl⟩
      · have x8 : (b == -1) = false := by simpa using b1
        clear b1
        go_enter Try.func15, Try.ntmps15
        go_wp2
        go_ret2
        first | exact ⟨rfl, rfl⟩ | exact ⟨ret_told hc' rfl, rfl⟩
    · have x6 : (a == -1) = false := by simpa using a1
      clear a1
      by_cases b1 : b = -1
      · have x8 : (b == -1) = true := by simpa using b1
        have x9 : (a == -9223372036854775808) = false := by simp; exact fun h => c2 ⟨h, b1⟩
        clear b1 c1 c2
        go_enter Try.func15, Try.ntmps15
        go_wp2
        go_ret2
        first | exact ⟨rfl, rfl⟩ | exact ⟨ret_told hc' rfl, rfl⟩
      · have x8 : (b == -1) = false := by simpa using b1
        clear b1 c1 c2
        go_enter Try.func15, Try.ntmps15
        go_wp2
        go_ret2
        first | exact ⟨rfl, rfl⟩ | exact ⟨ret_told hc' rfl, rfl⟩
  · simp only [Bool.not_true] at x5
    simp only [if_true]
    by_cases a1 : a = -1
    · have x6 : (a == -1) = true := by simpa using a1
      have x7 : (b == -9223372036854775808) = false := by simp; exact fun h => c1 ⟨a1, h⟩
      clear a1 c1 c2
      by_cases b1 : b = -1
      · have x8 : (b == -1) = true := by simpa using b1
        have x9 : (a == -9223372036854775808) = false := by have := eq_of_beq x6; simp; omega
        clear b1
        go_enter Try.func15, Try.ntmps15
        go_wp2
        go_ret2
        first | exact ⟨rfl, rfl⟩ | exact ⟨ret_told hc' rfl, rfl⟩
      · have x8 : (b == -1) = false := by simpa using b1
        clear b1
        go_enter Try.func15, Try.ntmps15
        go_wp2
        go_ret2
        first | exact ⟨rfl, rfl⟩ | exact ⟨ret_told hc' rfl, rfl⟩
    · have x6 : (a == -1) = false := by simpa using a1
      clear a1
      by_cases b1 : b = -1
      · have x8 : (b == -1) = true := by simpa using b1
        have x9 : (a == -9223372036854775808) = false := by simp; exact fun h => c2 ⟨h, b1⟩
        clear b1 c1 c2
        go_enter Try.func15, Try.ntmps15
        go_wp2
        go_ret2
        first | exact ⟨rfl, rfl⟩ | exact ⟨ret_told hc' rfl, rfl⟩
      · have x8 : (b == -1) = false := by simpa using b1
        clear b1 c1 c2
        go_enter Try.func15, Try.ntmps15
        go_wp2
        go_ret2
        first | exact ⟨rfl, rfl⟩ | exact ⟨ret_told hc' rfl, rfl⟩

/-- amounts and rates that may not be, one by one -/
theorem may_not {n k : Int} (h : mayB n k = false) : n < 0 ∨ (0 ≤ n ∧ 1152921504606846976 < n) ∨ (0 ≤ n ∧ n ≤ 1152921504606846976 ∧ k < 0) ∨ (0 ≤ n ∧ n ≤ 1152921504606846976 ∧ 0 ≤ k ∧ 10000 < k) := by
  have := of_decide_eq_false h
  omega
theorem parts_of (x y : Nat) : x / 10000 * y + x % 10000 * y / 10000 = x * y / 10000 ∧ x % 10000 * y % 10000 = x * y % 10000 := by
  have e : x * y = 10000 * (x / 10000 * y) + x % 10000 * y := by
    rw [← Nat.mul_assoc, ← Nat.add_mul]; congr 1; omega
  rw [e]
  generalize x / 10000 * y = p
  generalize x % 10000 * y = q
  omega

set_option maxHeartbeats 1000000 in
theorem refdown_any (n k : Int) (w : World) :
    Calls Try.prog 19 #[.int .i64 n, .int .i64 k] w fun e w' => e = .returned (.tuple #[.int .i64 (dnTold n k), .bool (mayB n k)]) ∧ w' = w := by
  cases hm : mayB n k
  · have e : dnTold n k = 0 := by unfold dnTold; rw [hm]; rfl
    rw [e]
    rcases may_not hm with h | ⟨h1, h2⟩ | ⟨h1, h2, h3⟩ | ⟨h1, h2, h3, h4⟩
    all_goals
      clear e hm
      go_enter Try.func19, Try.ntmps19
      go_wp2
      go_ret2
      exact ⟨rfl, rfl⟩
  · obtain ⟨x, y, rfl, rfl, hx, hy⟩ := may_nat hm
    have e : dnTold (x : Int) (y : Int) = ((x * y / 10000 : Nat) : Int) := by unfold dnTold; rw [hm, ← Int.natCast_mul]; simp
    obtain ⟨f1, f2⟩ := parts_of x y
    have b1 : x / 10000 * y ≤ 115292150460684 * 10000 := Nat.mul_le_mul (by omega) hy
    have b2 : x % 10000 * y ≤ 9999 * 10000 := Nat.mul_le_mul (by omega) hy
    rw [e, ← f1]
    have m1 : (x : Int) / 10000 * (y : Int) = ((x / 10000 * y : Nat) : Int) := by rw [Int.natCast_mul]; rfl
    have m2 : (x : Int) % 10000 * (y : Int) = ((x % 10000 * y : Nat) : Int) := by rw [Int.natCast_mul]; rfl
    generalize x / 10000 * y = p at *
    generalize x % 10000 * y = r at *
    clear e hm f1 f2
    go_enter Try.func19, Try.ntmps19
    go_wp2
    go_ret2
    exact ⟨ret_told (by omega) rfl, rfl⟩

set_option maxHeartbeats 1000000 in
theorem refup_any (n k : Int) (w : World) :
    Calls Try.prog 18 #[.int .i64 n, .int .i64 k] w fun e w' => e = .returned (.tuple #[.int .i64 (upTold n k), .bool (mayB n k)]) ∧ w' = w := by
  have hD := Lib.hid (refdown_any n k)
  cases hm : mayB n k
  · have e : upTold n k = 0 := by unfold upTold; rw [hm]; rfl
    have e' : dnTold n k = 0 := by unfold dnTold; rw [hm]; rfl
    rw [hm, e'] at hD
    rw [e]
    clear e e' hm
    go_enter Try.func18, Try.ntmps18
    go_wp2_with fail
    refine (hD.out _).mono ?_
    rintro e u ⟨rfl, rfl⟩
    go_wp2
    go_ret2
    exact ⟨rfl, rfl⟩
  · rw [hm] at hD
    obtain ⟨x, y, rfl, rfl, hx, hy⟩ := may_nat hm
    have e : upTold (x : Int) (y : Int) = (((x * y + 9999) / 10000 : Nat) : Int) := by unfold upTold; rw [hm, ← Int.natCast_mul]; simp
    have e' : dnTold (x : Int) (y : Int) = ((x * y / 10000 : Nat) : Int) := by unfold dnTold; rw [hm, ← Int.natCast_mul]; simp
    rw [e'] at hD
    have hb : x * y ≤ 1152921504606846976 * 10000 := Nat.mul_le_mul hx hy
    have b2 : x % 10000 * y ≤ 9999 * 10000 := Nat.mul_le_mul (by omega) hy
    have hu : (x * y + 9999) / 10000 = if x * y % 10000 = 0 then x * y / 10000 else x * y / 10000 + 1 := by split <;> omega
    obtain ⟨f1, f2⟩ := parts_of x y
    rw [e, hu, ← f2]
    have hd : x * y / 10000 ≤ 1152921504606846976 := by omega
    have m2 : (x : Int) % 10000 * (y : Int) = ((x % 10000 * y : Nat) : Int) := by rw [Int.natCast_mul]; rfl
    clear e e' hm hu f1 f2 hb
    generalize x * y / 10000 = d at *
    generalize x % 10000 * y = r at *
    by_cases hr : r % 10000 = 0
    · rw [if_pos hr]
      have hr' : ((r : Int) % 10000 == 0) = true := by simp; omega
      clear hr
      go_enter Try.func18, Try.ntmps18
      go_wp2_with fail
      refine (hD.out _).mono ?_
      rintro e u ⟨rfl, rfl⟩
      go_wp2
      go_ret2
      exact ⟨rfl, rfl⟩
    · rw [if_neg hr]
      have hr' : ((r : Int) % 10000 == 0) = false := by simp; omega
      clear hr
      go_enter Try.func18, Try.ntmps18
      go_wp2_with fail
      refine (hD.out _).mono ?_
      rintro e u ⟨rfl, rfl⟩
      go_wp2
      go_ret2
      exact ⟨ret_told (by omega) rfl, rfl⟩

theorem awake_any (w : World) : Calls Try.prog 9 #[] w fun e w' => e = .returned (.bool true) ∧ Below w.heap.size w w' := by
  have h1 := Lib.hid (up_any 10001 1)
  have h2 := Lib.hid (down_any 10001 1)
  have h3 := Lib.hid (mul_any 4294967296 2147483648 (by decide) (by decide))
  rw [show upTold 10001 1 = 2 by decide, show mayB 10001 1 = true by decide] at h1
  rw [show dnTold 10001 1 = 1 by decide, show mayB 10001 1 = true by decide] at h2
  rw [show mulTold 4294967296 2147483648 = 0 by decide, show mulIs 4294967296 2147483648 = false by decide] at h3
  go_enter Try.func9, Try.ntmps9
  go_wp2_with fail
  refine (h1.out _).mono ?_
  rintro e u1 ⟨rfl, b1⟩
  have k1 := (Kept.refl w).call b1
  go_wp2_with fail
  refine (h2.out _).mono ?_
  rintro e u2 ⟨rfl, b2⟩
  have k2 := k1.call b2
  go_wp2_with fail
  refine (h3.out _).mono ?_
  rintro e u3 ⟨rfl, b3⟩
  have k3 := k2.call b3
  go_wp2
  go_ret
  exact ⟨rfl, k3.1⟩
end Go.Proofs.Ytmlpgdhdndmlaaa
