/- The walks of SlotsNone, SlotsAll, SlotsApart. -/
import Derived.Test.YtfobhofghjpjeaaSltT
import Derived.Test.YtfobhofghjpjeaaIn64
namespace Go.Proofs.Ytfobhofghjpjeaa
open Go.RowKit

theorem count_pos {s n : Int} : (0 < ((ownL s 0 4096 n).length : Int)) ↔ isSlS s n = true := by
  constructor
  · intro h
    cases hL : ownL s 0 4096 n with
    | nil => rw [hL] at h; simp at h
    | cons y M =>
      have hy : y ∈ ownL s 0 4096 n := by rw [hL]; simp
      have hm := ownL_mem.1 hy
      have := owner_range (s := y) (n := n) (by omega)
      simp only [isSlS, decide_eq_true_eq]
      omega
  · intro h
    have hs : n ≤ 64 ∧ 0 ≤ s ∧ s < n := by simpa [isSlS] using h
    have : s ∈ ownL s 0 4096 n := ownL_mem.2 ⟨by omega, by omega, by omega, by rw [owner_in (by omega) (by omega) (by omega) (by omega)]; exact Int.emod_eq_of_lt (by omega) (by omega)⟩
    have := List.length_pos_of_mem this
    omega
theorem next_pos {s n : Int} : (0 ≤ nextI s 0 n) ↔ isSlS s n = true := by
  rw [← count_pos]
  unfold nextI
  have hm : ∀ x, x ∈ ownL s 0 4096 n ↔ _ := fun x => ownL_mem
  cases hL : ownL s 0 4096 n with
  | nil => simp
  | cons y M =>
    have := (hm y).1 (by rw [hL]; simp)
    simp only [List.headD_cons, List.length_cons]
    omega
theorem owner_pos {s n : Int} : (0 ≤ ownerI s n) ↔ (0 ≤ s ∧ s < 4096 ∧ 1 ≤ n ∧ n ≤ 64) := by
  by_cases h : 0 ≤ s ∧ s ≤ 4095 ∧ 1 ≤ n ∧ n ≤ 64
  · rw [owner_in h.1 h.2.1 h.2.2.1 h.2.2.2]
    have := Int.emod_nonneg s (show n ≠ 0 by omega)
    omega
  · rw [owner_out h]; omega
set_option maxRecDepth 100000 in
set_option maxHeartbeats 1000000 in
theorem SlotsNone_walk (a0 : Int) (a1 : Int) (a2 : Int) (w : World) (_ : (Lit.int .i64 a0).wf = true) (_ : (Lit.int .i64 a1).wf = true) (_ : (Lit.int .i64 a2).wf = true) :
    Calls Try.prog 8 #[.int .i64 a0, .int .i64 a1, .int .i64 a2] w fun e w' => e = .returned (.bool true) ∧ Below w.heap.size w w' := by
  have h1 := Lib.hid (owner_any a0 a2)
  have h2 := Lib.hid (count_any a1 0 4096 a2)
  have h3 := Lib.hid (next_any a1 0 a2)
  have p1 := owner_pos (s := a0) (n := a2)
  have p2 := count_pos (s := a1) (n := a2)
  have p3 := next_pos (s := a1) (n := a2)
  have p4 : isSlS a1 a2 = true ↔ (a2 ≤ 64 ∧ 0 ≤ a1 ∧ a1 < a2) := by simp [isSlS]
  generalize isSlS a1 a2 = q at *
  generalize ownerI a0 a2 = o at *
  generalize (ownL a1 0 4096 a2).length = c at *
  generalize nextI a1 0 a2 = x at *
  have P : (0 ≤ o ∧ 0 ≤ a0 ∧ a0 < 4096 ∧ 1 ≤ a2 ∧ a2 ≤ 64 ∨ o < 0 ∧ (a2 < 1 ∨ 1 ≤ a2 ∧ 64 < a2 ∨ 1 ≤ a2 ∧ a2 ≤ 64 ∧ a0 < 0 ∨ 1 ≤ a2 ∧ a2 ≤ 64 ∧ 0 ≤ a0 ∧ 4096 ≤ a0)) := by omega
  have Q : (0 < (c : Int) ∧ 0 ≤ x ∧ 0 ≤ a1 ∧ a1 < a2 ∧ a2 ≤ 64 ∨ (c : Int) ≤ 0 ∧ x < 0 ∧ (a2 < 1 ∨ 64 < a2 ∨ a1 < 0 ∨ 0 ≤ a1 ∧ a2 ≤ a1)) := by
    cases q <;> simp at * <;> omega
  clear p1 p2 p3 p4
  rcases P with ⟨P1, P2, P3, P4, P5⟩ | ⟨P1, P2 | ⟨P2, P3⟩ | ⟨P2, P3, P4⟩ | ⟨P2, P3, P4, P5⟩⟩
  all_goals
    rcases Q with ⟨Q1, Q2, Q3, Q4, Q5⟩ | ⟨Q1, Q2, Q3 | Q3 | Q3 | ⟨Q3, Q4⟩⟩
    all_goals first
      | (exfalso; omega)
      | (have d1 : decide (0 ≤ o) = true ∨ decide (0 ≤ o) = false := by cases decide (0 ≤ o) <;> simp
         have d2 : decide (0 ≤ x) = true ∨ decide (0 ≤ x) = false := by cases decide (0 ≤ x) <;> simp
         have d3 : decide (0 < (c : Int)) = true ∨ decide (0 < (c : Int)) = false := by cases decide (0 < (c : Int)) <;> simp
         have d4 : decide (a1 < a2) = true ∨ decide (a1 < a2) = false := by cases decide (a1 < a2) <;> simp
         have d5 : decide (a0 < 4096) = true ∨ decide (a0 < 4096) = false := by cases decide (a0 < 4096) <;> simp
         rcases d1 with d1 | d1 <;> rcases d2 with d2 | d2 <;> rcases d3 with d3 | d3 <;> rcases d4 with d4 | d4 <;> rcases d5 with d5 | d5
         all_goals first
           | (exfalso; simp only [decide_eq_true_eq, decide_eq_false_iff_not] at d1 d2 d3 d4 d5; omega)
           | (go_enter Try.func8, Try.ntmps8
              go_wp2_with fail
              refine (awake_any _).mono ?_
              rintro e u0 ⟨rfl, b0⟩
              go_wp2_with fail
              refine (h1.out _).mono ?_
              rintro e u ⟨rfl, rfl⟩
              go_wp2_with fail
              refine (h2.out _).mono ?_
              rintro e u1 ⟨rfl, b1⟩
              go_wp2_with fail
              refine (h3.out _).mono ?_
              rintro e u2 ⟨rfl, b2⟩
              have hb := ((((Kept.refl _).call b0).call b1).call b2).1
              clear b0 b1 b2
              go_wp2
              go_ret
              exact ⟨rfl, hb⟩))
end Go.Proofs.Ytfobhofghjpjeaa
