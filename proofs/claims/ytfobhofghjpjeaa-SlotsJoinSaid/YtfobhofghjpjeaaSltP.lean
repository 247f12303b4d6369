/- Slots: Owner, of the program and of the document; isSite, first; the function slots. -/
import Derived.Test.YtfobhofghjpjeaaRows
import Derived.Test.YtfobhofghjpjeaaOpen
import Derived.Test.YtfobhofghjpjeaaQuiet
import Derived.Test.YtfobhofghjpjeaaSltM
import Derived.Lib.Hide
import Derived.WalkKit
import Derived.Below
import Derived.Laws.Rows
namespace Go.Proofs.Ytfobhofghjpjeaa
open Go.RowKit

def isSlS (s n : Int) : Bool := decide (n ≤ 64 ∧ 0 ≤ s ∧ s < n)
theorem own_nosite {s lo hi n : Int} (h : isSlS s n = false) : ownL s lo hi n = [] := by
  cases hL : ownL s lo hi n with
  | nil => rfl
  | cons y M =>
    have hy : y ∈ ownL s lo hi n := by rw [hL]; simp
    have hm := ownL_mem.1 hy
    have := owner_range (s := y) (n := n) (by omega)
    simp only [isSlS, decide_eq_false_iff_not] at h
    omega

theorem owner_any (s n : Int) (w : World) : Calls Try.prog 11 #[.int .i64 s, .int .i64 n] w fun e w' => e = .returned (.int .i64 (ownerI s n)) ∧ w' = w := by
  by_cases h : 0 ≤ s ∧ s ≤ 4095 ∧ 1 ≤ n ∧ n ≤ 64
  · rw [owner_in h.1 h.2.1 h.2.2.1 h.2.2.2]
    obtain ⟨h1, h2, h3, h4⟩ := h
    have m1 := Int.emod_nonneg s (show n ≠ 0 by omega)
    have m2 := Int.emod_lt_of_pos s (show 0 < n by omega)
    have t1 : s.tmod n = s % n := Int.tmod_eq_emod_of_nonneg h1
    generalize s % n = r at *
    have hn0 : n ≠ 0 := by omega
    have hw : IntKind.i64.wrap r = r := by rw [IntKind.wrap_i64]; omega
    go_enter Try.func11, Try.ntmps11
    go_wp2
    go_ret
    exact ⟨rfl, rfl⟩
  · rw [owner_out h]
    have h' : s < 0 ∨ 0 ≤ s ∧ 4096 ≤ s ∨ 0 ≤ s ∧ s < 4096 ∧ n < 1 ∨ 0 ≤ s ∧ s < 4096 ∧ 1 ≤ n ∧ 64 < n := by omega
    clear h
    rcases h' with h | ⟨h, h1⟩ | ⟨h, h1, h2⟩ | ⟨h, h1, h2, h3⟩
    all_goals
      go_enter Try.func11, Try.ntmps11
      go_wp2
      go_ret
      exact ⟨rfl, rfl⟩
theorem refowner_any (s n : Int) (w : World) : Calls Try.prog 12 #[.int .i64 s, .int .i64 n] w fun e w' => e = .returned (.int .i64 (ownerI s n)) ∧ w' = w := by
  by_cases h : 0 ≤ s ∧ s ≤ 4095 ∧ 1 ≤ n ∧ n ≤ 64
  · rw [owner_in h.1 h.2.1 h.2.2.1 h.2.2.2]
    obtain ⟨h1, h2, h3, h4⟩ := h
    have m1 := Int.emod_nonneg s (show n ≠ 0 by omega)
    have m2 := Int.emod_lt_of_pos s (show 0 < n by omega)
    have t1 : s.tmod n = s % n := Int.tmod_eq_emod_of_nonneg h1
    generalize s % n = r at *
    have hn0 : n ≠ 0 := by omega
    have hw : IntKind.i64.wrap r = r := by rw [IntKind.wrap_i64]; omega
    go_enter Try.func12, Try.ntmps12
    go_wp2
    go_ret
    exact ⟨rfl, rfl⟩
  · rw [owner_out h]
    have h' : s < 0 ∨ 0 ≤ s ∧ 4096 ≤ s ∨ 0 ≤ s ∧ s < 4096 ∧ n < 1 ∨ 0 ≤ s ∧ s < 4096 ∧ 1 ≤ n ∧ 64 < n := by omega
    clear h
    rcases h' with h | ⟨h, h1⟩ | ⟨h, h1, h2⟩ | ⟨h, h1, h2, h3⟩
    all_goals
      go_enter Try.func12, Try.ntmps12
      go_wp2
      go_ret
      exact ⟨rfl, rfl⟩
theorem issite_any (s n : Int) (w : World) : Calls Try.prog 20 #[.int .i64 s, .int .i64 n] w fun e w' => e = .returned (.bool (isSlS s n)) ∧ w' = w := by
  unfold isSlS
  by_cases h1 : n ≤ 64
  · by_cases h2 : 0 ≤ s
    · by_cases h3 : s < n
      · rw [decide_eq_true ⟨h1, h2, h3⟩]
        go_enter Try.func20, Try.ntmps20
        go_wp2
        go_ret
        exact ⟨rfl, rfl⟩
      · rw [decide_eq_false (by omega)]
        go_enter Try.func20, Try.ntmps20
        go_wp2
        go_ret
        exact ⟨rfl, rfl⟩
    · rw [decide_eq_false (by omega)]
      go_enter Try.func20, Try.ntmps20
      go_wp2
      go_ret
      exact ⟨rfl, rfl⟩
  · rw [decide_eq_false (by omega)]
    go_enter Try.func20, Try.ntmps20
    go_wp2
    go_ret
    exact ⟨rfl, rfl⟩

/-- the first slot of a site, be it one or beyond all -/
def nearI (s lo : Int) : Int := min (max lo s) 4096
def firstI (s lo n : Int) : Int := if 0 < (nearI s lo - s) % n then nearI s lo + n - (nearI s lo - s) % n else nearI s lo
theorem first_is {s lo n : Int} (h : isSlS s n = true) : 0 ≤ firstI s lo n ∧ firstI s lo n < 4096 + n ∧ firstI s lo n % n = s ∧ (firstI s lo n < 4096 → lo ≤ firstI s lo n) ∧ ownL s lo (firstI s lo n) n = [] := by
  have hs : n ≤ 64 ∧ 0 ≤ s ∧ s < n := by simpa [isSlS] using h
  obtain ⟨h1, h2, h3⟩ := hs
  obtain ⟨f, hf⟩ : ∃ f, f = nearI s lo := ⟨_, rfl⟩
  have hf1 : f = min (max lo s) 4096 := hf
  have hf2 : s ≤ f ∧ f ≤ 4096 ∧ (f < 4096 → lo ≤ f) := by omega
  have g1 := Int.emod_nonneg (f - s) (show n ≠ 0 by omega)
  have g2 := Int.emod_lt_of_pos (f - s) (show 0 < n by omega)
  obtain ⟨r, hr⟩ : ∃ r, r = firstI s lo n := ⟨_, rfl⟩
  have hr1 : r = if 0 < (f - s) % n then f + n - (f - s) % n else f := by rw [hr, hf]; rfl
  have hr2 : f ≤ r ∧ r < f + n ∧ r % n = s := by
    have hself : ((f - s) - (f - s) % n) % n = 0 := by
      rw [Int.sub_emod, Int.emod_emod_of_dvd _ (Int.dvd_refl n)]; simp
    split at hr1
    · refine ⟨by omega, by omega, ?_⟩
      rw [hr1, show f + n - (f - s) % n = s + ((f - s) - (f - s) % n) + n by omega, Int.add_emod_right, Int.add_emod, hself, Int.add_zero, Int.emod_emod_of_dvd _ (Int.dvd_refl n)]
      exact Int.emod_eq_of_lt h2 h3
    · refine ⟨by omega, by omega, ?_⟩
      have h0 : (f - s) % n = 0 := by omega
      rw [h0, Int.sub_zero] at hself
      rw [hr1, show f = s + (f - s) by omega, Int.add_emod, hself, Int.add_zero, Int.emod_emod_of_dvd _ (Int.dvd_refl n)]
      exact Int.emod_eq_of_lt h2 h3
  rw [← hr]
  clear hr hr1
  refine ⟨by omega, by omega, hr2.2.2, by omega, ?_⟩
  cases hL : ownL s lo r n with
  | nil => rfl
  | cons y M =>
    have hy : y ∈ ownL s lo r n := by rw [hL]; simp
    have hm := ownL_mem.1 hy
    have ho := owner_range (s := y) (n := n) (by omega)
    have hys : y % n = s := by rw [← ho.2.2.2.2.2]; exact hm.2.2.2
    have hys2 : s ≤ y := by
      have h9 := Int.emod_add_mul_ediv y n
      have h8 : 0 ≤ n * (y / n) := Int.mul_nonneg (by omega) (Int.ediv_nonneg (by omega) (by omega))
      omega
    have hd : (r - y) % n = 0 := by rw [Int.sub_emod, hr2.2.2, hys]; simp
    have := Int.emod_eq_of_lt (show 0 ≤ r - y by omega) (show r - y < n by omega)
    omega
theorem first_any {s lo n : Int} (h : isSlS s n = true) (w : World) : Calls Try.prog 21 #[.int .i64 s, .int .i64 lo, .int .i64 n] w fun e w' => e = .returned (.int .i64 (firstI s lo n)) ∧ w' = w := by
  have hs : n ≤ 64 ∧ 0 ≤ s ∧ s < n := by simpa [isSlS] using h
  obtain ⟨h1, h2, h3⟩ := hs
  unfold firstI
  obtain ⟨f, hf⟩ : ∃ f, f = nearI s lo := ⟨_, rfl⟩
  have hf1 : f = min (max lo s) 4096 := hf
  have hf2 : s ≤ f ∧ f ≤ 4096 := by omega
  rw [← hf]
  clear hf h
  have m1 := Int.emod_nonneg (f - s) (show n ≠ 0 by omega)
  have m2 := Int.emod_lt_of_pos (f - s) (show 0 < n by omega)
  have t1 : (f - s).tmod n = (f - s) % n := Int.tmod_eq_emod_of_nonneg (by omega)
  have hzero : f = s → (f - s) % n = 0 := fun e => by rw [e, Int.sub_self, Int.zero_emod]
  obtain ⟨r, hre⟩ : ∃ r, (f - s) % n = r := ⟨_, rfl⟩
  rw [hre] at m1 m2 t1 hzero ⊢
  have hn0 : n ≠ 0 := by omega
  have hw : IntKind.i64.wrap r = r := by rw [IntKind.wrap_i64]; omega
  have hw1 : IntKind.i64.wrap (f - s) = f - s := by rw [IntKind.wrap_i64]; omega
  have hw2 : IntKind.i64.wrap (f + n) = f + n := by rw [IntKind.wrap_i64]; omega
  have hw3 : IntKind.i64.wrap (f + n - r) = f + n - r := by rw [IntKind.wrap_i64]; omega
  by_cases hr : 0 < r
  · rw [if_pos hr]
    rcases Int.lt_or_le lo s with hm | hm
    · exact absurd (hzero (by omega)) (by omega)
    · rcases Int.lt_or_le 4096 lo with hl | hl
      · have e1 : f = 4096 := by omega
        subst e1
        have hw4 : wrap64 (4096 + n - r) = 4096 + n - r := by unfold wrap64; omega
        clear hf1 hzero
        go_enter Try.func21, Try.ntmps21
        go_wp2
        go_ret
        exact ⟨rfl, rfl⟩
      · have e1 : f = lo := by omega
        subst e1
        clear hf1 hzero
        go_enter Try.func21, Try.ntmps21
        go_wp2
        go_ret
        exact ⟨rfl, rfl⟩
  · rw [if_neg hr]
    obtain rfl : r = 0 := by omega
    rcases Int.lt_or_le lo s with hm | hm
    · have e1 : f = s := by omega
      subst e1
      clear hf1 hzero
      go_enter Try.func21, Try.ntmps21
      go_wp2
      go_ret
      exact ⟨rfl, rfl⟩
    · rcases Int.lt_or_le 4096 lo with hl | hl
      · have e1 : f = 4096 := by omega
        subst e1
        clear hf1 hzero
        go_enter Try.func21, Try.ntmps21
        go_wp2
        go_ret
        exact ⟨rfl, rfl⟩
      · have e1 : f = lo := by omega
        subst e1
        clear hf1 hzero
        go_enter Try.func21, Try.ntmps21
        go_wp2
        go_ret
        exact ⟨rfl, rfl⟩
theorem slots_fn (s lo hi n : Int) (w : World) : Calls Try.prog 18 #[.int .i64 s, .int .i64 lo, .int .i64 hi, .int .i64 n] w fun e w' =>
    e = .returned (.func (.func 19) #[] #[.pointer (some ⟨w.heap.size, 0, none⟩), .pointer (some ⟨w.heap.size + 3, 0, none⟩), .pointer (some ⟨w.heap.size + 2, 0, none⟩), .pointer (some ⟨w.heap.size + 1, 0, none⟩)]) ∧
    w' = (((w.alloc (.cells #[.int .i64 s] 3)).alloc (.cells #[.int .i64 lo] 3)).alloc (.cells #[.int .i64 hi] 3)).alloc (.cells #[.int .i64 n] 3) := by
  go_enter Try.func18, Try.ntmps18
  go_wp2
  go_ret
  exact ⟨by simp, rfl⟩
end Go.Proofs.Ytfobhofghjpjeaa
