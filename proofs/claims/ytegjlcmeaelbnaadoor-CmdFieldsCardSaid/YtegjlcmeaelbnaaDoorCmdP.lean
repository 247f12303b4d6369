/- Whether a command may be: the program's answer. -/
import Derived.Test.YtegjlcmeaelbnaaDoorCmdS
import Derived.Test.YtegjlcmeaelbnaaDoorCmdSb
import Derived.Test.YtegjlcmeaelbnaaDoorCmdSc
import Derived.Test.YtegjlcmeaelbnaaDoorCmdSd
namespace Go.Proofs.YtegjlcmeaelbnaaDoor
open Go.RowKit

set_option maxRecDepth 100000 in
theorem spans_any (k : Int) (w : World) : Calls Tryd.prog 36 #[.int .i64 k] w fun e w' => e = .returned (spanV k) ∧ Below w.heap.size w w' := by
  by_cases h1 : k = 1
  · subst h1; exact spans_1 w
  by_cases h2 : k = 2
  · subst h2; exact spans_2 w
  by_cases h3 : k = 3
  · subst h3; exact spans_3 w
  by_cases h4 : k = 4
  · subst h4; exact spans_4 w
  by_cases h5 : k = 5
  · subst h5; exact spans_5 w
  by_cases h6 : k = 6
  · subst h6; exact spans_6 w
  by_cases h7 : k = 7
  · subst h7; exact spans_7 w
  by_cases h8 : k = 8
  · subst h8; exact spans_8 w
  by_cases h9 : k = 9
  · subst h9; exact spans_9 w
  by_cases h10 : k = 10
  · subst h10; exact spans_10 w
  by_cases h11 : k = 11
  · subst h11; exact spans_11 w
  exact spans_other k h1 h2 h3 h4 h5 h6 h7 h8 h9 h10 h11 w
theorem spans_len (k : Int) : (spansOf k).length = 9 := by
  unfold spansOf
  (repeat' split) <;> rfl
theorem nine_pairs {l : List (Int × Int)} (h : l.length = 9) : ∃ a0 b0 a1 b1 a2 b2 a3 b3 a4 b4 a5 b5 a6 b6 a7 b7 a8 b8, l = [(a0, b0), (a1, b1), (a2, b2), (a3, b3), (a4, b4), (a5, b5), (a6, b6), (a7, b7), (a8, b8)] := by
  match l, h with
  | [(a0, b0), (a1, b1), (a2, b2), (a3, b3), (a4, b4), (a5, b5), (a6, b6), (a7, b7), (a8, b8)], _ => exact ⟨a0, b0, a1, b1, a2, b2, a3, b3, a4, b4, a5, b5, a6, b6, a7, b7, a8, b8, rfl⟩
/-- one of the spans, out of all of them -/
theorem run_span (k : Int) (i : Nat) (h : i < 9) (w : World) : (Instr.index 81 (spanV k) (.int .i64 (i : Int))).run Tryd.prog w = .ok (.agg #[.int .i64 (lo k i), .int .i64 (hi k i)]) w := by
  unfold spanV lo hi
  have hl := spans_len k
  generalize spansOf k = l at *
  obtain ⟨a0, b0, a1, b1, a2, b2, a3, b3, a4, b4, a5, b5, a6, b6, a7, b7, a8, b8, rfl⟩ := nine_pairs hl
  obtain rfl | rfl | rfl | rfl | rfl | rfl | rfl | rfl | rfl : i = 0 ∨ i = 1 ∨ i = 2 ∨ i = 3 ∨ i = 4 ∨ i = 5 ∨ i = 6 ∨ i = 7 ∨ i = 8 := by omega
  all_goals (show _ = _; kernel_rfl)
/-- one of the numbers, out of all of them -/
theorem run_num (ns : List Int) (hl : ns.length = 9) (i : Nat) (h : i < 9) (w : World) : (Instr.index 50 (nums ns) (.int .i64 (i : Int))).run Tryd.prog w = .ok (.int .i64 (ns.getD i 0)) w := by
  unfold nums
  obtain ⟨n0, n1, n2, n3, n4, n5, n6, n7, n8, rfl⟩ := nine hl
  obtain rfl | rfl | rfl | rfl | rfl | rfl | rfl | rfl | rfl : i = 0 ∨ i = 1 ∨ i = 2 ∨ i = 3 ∨ i = 4 ∨ i = 5 ∨ i = 6 ∨ i = 7 ∨ i = 8 := by omega
  all_goals (show _ = _; kernel_rfl)

set_option maxRecDepth 100000 in
set_option maxHeartbeats 2000000 in
theorem may9 (ns : List Int) (hl : ns.length = 9) (w : World) :
    Calls Tryd.prog 21 #[nums ns] w fun e w' => e = .returned (.int .i64 (if Ok ns then 0 else 1)) ∧ Below w.heap.size w w' := by
  obtain ⟨C, hC⟩ : ∃ C : Array Value, nums ns = .agg C ∧ C.size = 9 ∧ ∀ i, i < 9 → C[i]? = some (.int .i64 (ns.getD i 0)) := by
    refine ⟨_, rfl, by simp [hl], fun i hi => ?_⟩
    simp [hl, hi, List.getD_eq_getElem?_getD]
  obtain ⟨hC1, hC2, hC3⟩ := hC
  obtain ⟨n0, n1, n2, n3, n4, n5, n6, n7, n8, hns⟩ := nine hl
  have h0 : ns.getD 0 0 = n0 := by rw [hns]; rfl
  have hcs : nums ns = .agg #[.int .i64 n0, .int .i64 n1, .int .i64 n2, .int .i64 n3, .int .i64 n4, .int .i64 n5, .int .i64 n6, .int .i64 n7, .int .i64 n8] := by rw [hns]; rfl
  have hCe : C = #[.int .i64 n0, .int .i64 n1, .int .i64 n2, .int .i64 n3, .int .i64 n4, .int .i64 n5, .int .i64 n6, .int .i64 n7, .int .i64 n8] := by
    rw [hcs] at hC1
    injection hC1 with h
    exact h.symm
  rw [hcs]
  have hcell : ∀ i, i < 9 → (w.alloc (.cells #[.int .i64 n0, .int .i64 n1, .int .i64 n2, .int .i64 n3, .int .i64 n4, .int .i64 n5, .int .i64 n6, .int .i64 n7, .int .i64 n8] 50)).cell? ⟨w.heap.size, i, none⟩ = some (.int .i64 (ns.getD i 0)) := by
    intro i hi
    rw [← hCe, cell_of_heap (push_new w _) i, hC3 i hi]
  have HC := Lib.hid hcell
  have hb0 : Below w.heap.size w (w.alloc (.cells #[.int .i64 n0, .int .i64 n1, .int .i64 n2, .int .i64 n3, .int .i64 n4, .int .i64 n5, .int .i64 n6, .int .i64 n7, .int .i64 n8] 50)) := (Below.refl _ _).alloc (Nat.le_refl _) _
  have HB0 := Lib.hid hb0
  have hOk : ∀ b : Prop, (Ok ns ↔ b) → True := fun _ _ => trivial
  obtain ⟨A, hA⟩ : ∃ A : Int, (if Ok ns then (0 : Int) else 1) = A := ⟨_, rfl⟩
  have hfit : ∀ i, Fit ns i ↔ lo n0 i ≤ ns.getD i 0 ∧ ns.getD i 0 ≤ hi n0 i := fun i => by unfold Fit; rw [h0]
  have HA := Lib.hid hA
  have HF := Lib.hid hfit
  have HNS := Lib.hid hns
  rw [hA]
  clear hcell hC1 hC2 hC3 hcs hCe hOk hA hfit hns h0 hb0
  go_enter Tryd.func21, Tryd.ntmps21
  go_wp2_with fail
  refine (spans_any n0 _).mono ?_
  rintro e w1 ⟨rfl, b1⟩
  have HC1 : ∀ i, i < 9 → w1.cell? ⟨w.heap.size, i, none⟩ = some (.int .i64 (ns.getD i 0)) := fun i hi => (b1.cell (p := ⟨w.heap.size, i, none⟩) (by simp)).trans (HC.out i hi)
  have k1 : Kept w w1 := ((Kept.refl w).alloc _).call b1
  have hlt : w.heap.size < w1.heap.size := by have := b1.size; simp at this; omega
  have HC := Lib.hid HC1
  have K1 := Lib.hid k1
  clear HC1 k1 b1 HB0
  go_wp2
  go_loopw [8] (fun i wr => ∃ k : Nat, i = .int .i64 k ∧ k ≤ 9 ∧ (∀ j, j < k → Fit ns j) ∧ Kept w1 wr) (fun i _ => 9 - (intOf i).toNat)
  case atStart => exact ⟨0, rfl, by omega, fun j h => absurd h (by omega), Kept.refl _⟩
  case round =>
    obtain ⟨k, rfl, hk9, hall, kk⟩ := hrel
    rename_i wr
    have HALL := Lib.hid hall
    clear hall
    by_cases hk : k < 9
    · have hx := (kk.cell (p := ⟨w.heap.size, k, none⟩) hlt).trans (HC.out k hk)
      have hs := fun W => run_span n0 k hk W
      have hf := HF.out k
      have HFK := Lib.hid hf
      clear hf
      generalize ns.getD k 0 = x at *
      generalize lo n0 k = l at *
      generalize hi n0 k = h at *
      have hlw : w.heap.size < wr.heap.size := Nat.lt_of_lt_of_le hlt kk.2
      have KK := Lib.hid kk
      clear kk
      by_cases hlo : x < l
      · have hno : ¬ Ok ns := fun hk2 => by have := HFK.out.1 (hk2 k hk); omega
        have hA1 : A = 1 := by rw [← HA.out, if_neg hno]
        subst hA1
        go_wp2
        go_region
        go_wp2
        go_ret
        exact ⟨rfl, ((K1.out.trans KK.out).alloc _).drew.1⟩
      · have hd : decide (x < l) = false := by simp; omega
        by_cases hhi : h < x
        · have hno : ¬ Ok ns := fun hk2 => by have := HFK.out.1 (hk2 k hk); omega
          have hA1 : A = 1 := by rw [← HA.out, if_neg hno]
          subst hA1
          go_wp2
          go_region
          go_wp2
          go_ret
          exact ⟨rfl, ((K1.out.trans KK.out).alloc _).drew.1⟩
        · have hF : Fit ns k := HFK.out.2 (by omega)
          have HFF := Lib.hid hF
          clear hF
          go_wp2
          go_region
          go_wp2
          exact ⟨⟨k + 1, by go_num, by omega, fun j hj => by
            rcases Nat.lt_or_ge j k with h' | h'
            · exact HALL.out j h'
            · rw [show j = k by omega]; exact HFF.out, (KK.out.alloc _).drew⟩, by simp [intOf]; omega⟩
    · have hk' : k = 9 := by omega
      subst hk'
      have hA0 : A = 0 := by rw [← HA.out, if_pos (show Ok ns from HALL.out)]
      subst hA0
      have KK := Lib.hid kk
      clear kk
      go_wp2
      go_ret
      exact ⟨rfl, (K1.out.trans KK.out).1⟩
end Go.Proofs.YtegjlcmeaelbnaaDoor
