/- The document's answer: which fields a kind has; and what follows for what each number may be. -/
import Derived.Test.YtegjlcmeaelbnaaDoorCmdB
namespace Go.Proofs.YtegjlcmeaelbnaaDoor
open Go.RowKit

/-- the fields of a kind: side, asset, price, quantity, id -/
def usesOf (k : Int) : List Bool :=
  if k = 1 ∨ k = 3 ∨ k = 4 ∨ k = 5 ∨ k = 6 then [true, false, true, true, false]
  else if k = 2 then [true, false, false, true, false]
  else if k = 7 then [false, false, false, false, true]
  else if k = 8 then [false, false, true, true, true]
  else if k = 9 ∨ k = 10 then [false, true, false, true, false]
  else if k = 11 then [false, false, true, false, false]
  else [false, false, false, false, false]
def usesV (k : Int) : Value := .agg ((usesOf k).map Value.bool).toArray

set_option maxRecDepth 100000 in
set_option maxHeartbeats 1000000 in
theorem uses_0 (w : World) : Calls Tryd.prog 17 #[.int .i64 0] w fun e w' => e = .returned (usesV 0) ∧ Below w.heap.size w w' := by
  have hV : usesV 0 = .agg #[.bool false, .bool false, .bool false, .bool false, .bool false] := by kernel_rfl
  rw [hV]
  clear hV
  go_enter Tryd.func17, Tryd.ntmps17
  go_wp2
  refine bodyPost_ret (results_cell_row (p := 2) (ty := 44) rfl _ _ w.heap.size _ _ _ _ rfl (push_new w _) Tryd.underlying44 rfl (by kernel_rfl)) rfl ?_
  exact ⟨rfl, (Below.refl _ _).alloc (Nat.le_refl _) _⟩

set_option maxRecDepth 100000 in
set_option maxHeartbeats 1000000 in
theorem uses_1 (w : World) : Calls Tryd.prog 17 #[.int .i64 1] w fun e w' => e = .returned (usesV 1) ∧ Below w.heap.size w w' := by
  have hV : usesV 1 = .agg #[.bool true, .bool false, .bool true, .bool true, .bool false] := by kernel_rfl
  rw [hV]
  clear hV
  go_enter Tryd.func17, Tryd.ntmps17
  go_wp2
  refine bodyPost_ret (results_cell_row (p := 2) (ty := 44) rfl _ _ w.heap.size _ _ _ _ rfl (push_new w _) Tryd.underlying44 rfl (by kernel_rfl)) rfl ?_
  exact ⟨rfl, (Below.refl _ _).alloc (Nat.le_refl _) _⟩

set_option maxRecDepth 100000 in
set_option maxHeartbeats 1000000 in
theorem uses_2 (w : World) : Calls Tryd.prog 17 #[.int .i64 2] w fun e w' => e = .returned (usesV 2) ∧ Below w.heap.size w w' := by
  have hV : usesV 2 = .agg #[.bool true, .bool false, .bool false, .bool true, .bool false] := by kernel_rfl
  rw [hV]
  clear hV
  go_enter Tryd.func17, Tryd.ntmps17
  go_wp2
  refine bodyPost_ret (results_cell_row (p := 2) (ty := 44) rfl _ _ w.heap.size _ _ _ _ rfl (push_new w _) Tryd.underlying44 rfl (by kernel_rfl)) rfl ?_
  exact ⟨rfl, (Below.refl _ _).alloc (Nat.le_refl _) _⟩

set_option maxRecDepth 100000 in
set_option maxHeartbeats 1000000 in
theorem uses_3 (w : World) : Calls Tryd.prog 17 #[.int .i64 3] w fun e w' => e = .returned (usesV 3) ∧ Below w.heap.size w w' := by
  have hV : usesV 3 = .agg #[.bool true, .bool false, .bool true, .bool true, .bool false] := by kernel_rfl
  rw [hV]
  clear hV
  go_enter Tryd.func17, Tryd.ntmps17
  go_wp2
  refine bodyPost_ret (results_cell_row (p := 2) (ty := 44) rfl _ _ w.heap.size _ _ _ _ rfl (push_new w _) Tryd.underlying44 rfl (by kernel_rfl)) rfl ?_
  exact ⟨rfl, (Below.refl _ _).alloc (Nat.le_refl _) _⟩

set_option maxRecDepth 100000 in
set_option maxHeartbeats 1000000 in
theorem uses_4 (w : World) : Calls Tryd.prog 17 #[.int .i64 4] w fun e w' => e = .returned (usesV 4) ∧ Below w.heap.size w w' := by
  have hV : usesV 4 = .agg #[.bool true, .bool false, .bool true, .bool true, .bool false] := by kernel_rfl
  rw [hV]
  clear hV
  go_enter Tryd.func17, Tryd.ntmps17
  go_wp2
  refine bodyPost_ret (results_cell_row (p := 2) (ty := 44) rfl _ _ w.heap.size _ _ _ _ rfl (push_new w _) Tryd.underlying44 rfl (by kernel_rfl)) rfl ?_
  exact ⟨rfl, (Below.refl _ _).alloc (Nat.le_refl _) _⟩

set_option maxRecDepth 100000 in
set_option maxHeartbeats 1000000 in
theorem uses_5 (w : World) : Calls Tryd.prog 17 #[.int .i64 5] w fun e w' => e = .returned (usesV 5) ∧ Below w.heap.size w w' := by
  have hV : usesV 5 = .agg #[.bool true, .bool false, .bool true, .bool true, .bool false] := by kernel_rfl
  rw [hV]
  clear hV
  go_enter Tryd.func17, Tryd.ntmps17
  go_wp2
  refine bodyPost_ret (results_cell_row (p := 2) (ty := 44) rfl _ _ w.heap.size _ _ _ _ rfl (push_new w _) Tryd.underlying44 rfl (by kernel_rfl)) rfl ?_
  exact ⟨rfl, (Below.refl _ _).alloc (Nat.le_refl _) _⟩

set_option maxRecDepth 100000 in
set_option maxHeartbeats 1000000 in
theorem uses_6 (w : World) : Calls Tryd.prog 17 #[.int .i64 6] w fun e w' => e = .returned (usesV 6) ∧ Below w.heap.size w w' := by
  have hV : usesV 6 = .agg #[.bool true, .bool false, .bool true, .bool true, .bool false] := by kernel_rfl
  rw [hV]
  clear hV
  go_enter Tryd.func17, Tryd.ntmps17
  go_wp2
  refine bodyPost_ret (results_cell_row (p := 2) (ty := 44) rfl _ _ w.heap.size _ _ _ _ rfl (push_new w _) Tryd.underlying44 rfl (by kernel_rfl)) rfl ?_
  exact ⟨rfl, (Below.refl _ _).alloc (Nat.le_refl _) _⟩

set_option maxRecDepth 100000 in
set_option maxHeartbeats 1000000 in
theorem uses_7 (w : World) : Calls Tryd.prog 17 #[.int .i64 7] w fun e w' => e = .returned (usesV 7) ∧ Below w.heap.size w w' := by
  have hV : usesV 7 = .agg #[.bool false, .bool false, .bool false, .bool false, .bool true] := by kernel_rfl
  rw [hV]
  clear hV
  go_enter Tryd.func17, Tryd.ntmps17
  go_wp2
  refine bodyPost_ret (results_cell_row (p := 2) (ty := 44) rfl _ _ w.heap.size _ _ _ _ rfl (push_new w _) Tryd.underlying44 rfl (by kernel_rfl)) rfl ?_
  exact ⟨rfl, (Below.refl _ _).alloc (Nat.le_refl _) _⟩

set_option maxRecDepth 100000 in
set_option maxHeartbeats 1000000 in
theorem uses_8 (w : World) : Calls Tryd.prog 17 #[.int .i64 8] w fun e w' => e = .returned (usesV 8) ∧ Below w.heap.size w w' := by
  have hV : usesV 8 = .agg #[.bool false, .bool false, .bool true, .bool true, .bool true] := by kernel_rfl
  rw [hV]
  clear hV
  go_enter Tryd.func17, Tryd.ntmps17
  go_wp2
  refine bodyPost_ret (results_cell_row (p := 2) (ty := 44) rfl _ _ w.heap.size _ _ _ _ rfl (push_new w _) Tryd.underlying44 rfl (by kernel_rfl)) rfl ?_
  exact ⟨rfl, (Below.refl _ _).alloc (Nat.le_refl _) _⟩

set_option maxRecDepth 100000 in
set_option maxHeartbeats 1000000 in
theorem uses_9 (w : World) : Calls Tryd.prog 17 #[.int .i64 9] w fun e w' => e = .returned (usesV 9) ∧ Below w.heap.size w w' := by
  have hV : usesV 9 = .agg #[.bool false, .bool true, .bool false, .bool true, .bool false] := by kernel_rfl
  rw [hV]
  clear hV
  go_enter Tryd.func17, Tryd.ntmps17
  go_wp2
  refine bodyPost_ret (results_cell_row (p := 2) (ty := 44) rfl _ _ w.heap.size _ _ _ _ rfl (push_new w _) Tryd.underlying44 rfl (by kernel_rfl)) rfl ?_
  exact ⟨rfl, (Below.refl _ _).alloc (Nat.le_refl _) _⟩

set_option maxRecDepth 100000 in
set_option maxHeartbeats 1000000 in
theorem uses_10 (w : World) : Calls Tryd.prog 17 #[.int .i64 10] w fun e w' => e = .returned (usesV 10) ∧ Below w.heap.size w w' := by
  have hV : usesV 10 = .agg #[.bool false, .bool true, .bool false, .bool true, .bool false] := by kernel_rfl
  rw [hV]
  clear hV
  go_enter Tryd.func17, Tryd.ntmps17
  go_wp2
  refine bodyPost_ret (results_cell_row (p := 2) (ty := 44) rfl _ _ w.heap.size _ _ _ _ rfl (push_new w _) Tryd.underlying44 rfl (by kernel_rfl)) rfl ?_
  exact ⟨rfl, (Below.refl _ _).alloc (Nat.le_refl _) _⟩

set_option maxRecDepth 100000 in
set_option maxHeartbeats 1000000 in
theorem uses_11 (w : World) : Calls Tryd.prog 17 #[.int .i64 11] w fun e w' => e = .returned (usesV 11) ∧ Below w.heap.size w w' := by
  have hV : usesV 11 = .agg #[.bool false, .bool false, .bool true, .bool false, .bool false] := by kernel_rfl
  rw [hV]
  clear hV
  go_enter Tryd.func17, Tryd.ntmps17
  go_wp2
  refine bodyPost_ret (results_cell_row (p := 2) (ty := 44) rfl _ _ w.heap.size _ _ _ _ rfl (push_new w _) Tryd.underlying44 rfl (by kernel_rfl)) rfl ?_
  exact ⟨rfl, (Below.refl _ _).alloc (Nat.le_refl _) _⟩

set_option maxRecDepth 100000 in
theorem uses_any (k : Int) (h1 : 0 ≤ k) (h2 : k ≤ 11) (w : World) : Calls Tryd.prog 17 #[.int .i64 k] w fun e w' => e = .returned (usesV k) ∧ Below w.heap.size w w' := by
  obtain rfl | rfl | rfl | rfl | rfl | rfl | rfl | rfl | rfl | rfl | rfl | rfl : k = 0 ∨ k = 1 ∨ k = 2 ∨ k = 3 ∨ k = 4 ∨ k = 5 ∨ k = 6 ∨ k = 7 ∨ k = 8 ∨ k = 9 ∨ k = 10 ∨ k = 11 := by omega
  · exact uses_0 w
  · exact uses_1 w
  · exact uses_2 w
  · exact uses_3 w
  · exact uses_4 w
  · exact uses_5 w
  · exact uses_6 w
  · exact uses_7 w
  · exact uses_8 w
  · exact uses_9 w
  · exact uses_10 w
  · exact uses_11 w
/-- what a quantity and an id may be, by whether the kind has one -/
theorem span_uses (k : Int) (h1 : 0 ≤ k) (h2 : k ≤ 11) : ∃ u0 u1 u2 u3 u4, usesOf k = [u0, u1, u2, u3, u4] ∧
    (u3 = true → lo k 7 = 1 ∧ hi k 7 = 1073741824) ∧ (u3 = false → lo k 7 = 0 ∧ hi k 7 = 0) ∧ (u4 = true → lo k 8 = 1 ∧ hi k 8 = 1099511627776) ∧ (u4 = false → lo k 8 = 0 ∧ hi k 8 = 0) := by
  obtain rfl | rfl | rfl | rfl | rfl | rfl | rfl | rfl | rfl | rfl | rfl | rfl : k = 0 ∨ k = 1 ∨ k = 2 ∨ k = 3 ∨ k = 4 ∨ k = 5 ∨ k = 6 ∨ k = 7 ∨ k = 8 ∨ k = 9 ∨ k = 10 ∨ k = 11 := by omega
  all_goals exact ⟨_, _, _, _, _, rfl, by decide, by decide, by decide, by decide⟩
theorem span_seq (k : Int) : lo k 2 = 1 ∧ hi k 2 = 1099511627776 := ⟨rfl, rfl⟩
/-- with another number in one place, a command that may be may be where that number fits -/
theorem ok_set {ns : List Int} (hl : ns.length = 9) (h : Ok ns) (i : Nat) (h0 : 0 < i) (hi9 : i < 9) (n : Int) : Ok (ns.set i n) ↔ lo (ns.getD 0 0) i ≤ n ∧ n ≤ hi (ns.getD 0 0) i := by
  have e0 : (ns.set i n).getD 0 0 = ns.getD 0 0 := by
    simp only [List.getD_eq_getElem?_getD, List.getElem?_set]
    rw [if_neg (by omega)]
  constructor
  · intro hk
    have := hk i hi9
    unfold Fit at this
    rw [e0] at this
    have e1 : (ns.set i n).getD i 0 = n := by
      simp only [List.getD_eq_getElem?_getD, List.getElem?_set]
      simp [show i < ns.length by omega]
    rwa [e1] at this
  · intro hn j hj
    unfold Fit
    rw [e0]
    by_cases hij : i = j
    · subst hij
      have e1 : (ns.set i n).getD i 0 = n := by
        simp only [List.getD_eq_getElem?_getD, List.getElem?_set]
        simp [show i < ns.length by omega]
      rw [e1]
      exact hn
    · have e1 : (ns.set i n).getD j 0 = ns.getD j 0 := by
        simp only [List.getD_eq_getElem?_getD, List.getElem?_set]
        rw [if_neg hij]
      rw [e1]
      exact h j hj
end Go.Proofs.YtegjlcmeaelbnaaDoor
