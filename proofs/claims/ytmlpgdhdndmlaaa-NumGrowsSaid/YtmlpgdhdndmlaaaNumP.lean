/- The program's num, function by function. -/
import Derived.Test.YtmlpgdhdndmlaaaNumW
import Derived.Test.YtmlpgdhdndmlaaaOpen
import Derived.Test.YtmlpgdhdndmlaaaQuiet
import Derived.Laws.StructEq
import Derived.Laws.Rows
import Derived.Deep.RegionWith
namespace Go.Proofs.Ytmlpgdhdndmlaaa
open Go.RowKit

theorem in64 {a : Int} (h : (Lit.int .i64 a).wf = true) : -9223372036854775808 ≤ a ∧ a ≤ 9223372036854775807 := by
  simpa [Lit.wf, IntKind.min, IntKind.max, IntKind.signed, IntKind.bits] using h

/-- both words of a product of numbers with a sign -/
def highOf (a b : Int) : Int := a * b / 18446744073709551616 % 18446744073709551616
def lowOf (a b : Int) : Int := a * b % 18446744073709551616
theorem words_of (x y H L : Nat) (a b : Int) (hx : ((x : Int) = a) ∨ ((x : Int) = a + 18446744073709551616)) (hy : ((y : Int) = b) ∨ ((y : Int) = b + 18446744073709551616))
    (eh : (H : Int) = (x : Int) * y / 18446744073709551616) (el : (L : Int) = (x : Int) * y % 18446744073709551616) :
    highOf a b = ((H : Int) - (if (x : Int) = a then 0 else y) - (if (y : Int) = b then 0 else x)) % 18446744073709551616 ∧ lowOf a b = L := by
  have hp : ((x : Int) * y = a * b + (if (x : Int) = a then 0 else (y : Int) * 18446744073709551616) + (if (y : Int) = b then 0 else a * 18446744073709551616)) := by
    rcases hx with hx | hx <;> rcases hy with hy | hy
    · rw [if_pos hx, if_pos hy, hx, hy]; omega
    · rw [if_pos hx, if_neg (by omega), hx, hy, Int.mul_add]; omega
    · rw [if_neg (by omega), if_pos hy, hx, hy, Int.add_mul, Int.mul_comm 18446744073709551616]; omega
    · rw [if_neg (by omega), if_neg (by omega), hx, hy, Int.add_mul, Int.mul_add, Int.mul_comm 18446744073709551616]; omega
  unfold highOf lowOf
  generalize (x : Int) * y = p at *
  generalize a * b = q at *
  split at hp <;> split at hp <;> constructor <;> (repeat (first | rw [if_pos ‹_›] | rw [if_neg ‹_›])) <;> omega

set_option maxHeartbeats 1000000 in
theorem product_any (a b : Int) (ha : -9223372036854775808 ≤ a ∧ a ≤ 9223372036854775807) (hb : -9223372036854775808 ≤ b ∧ b ≤ 9223372036854775807) (w : World) :
    Calls Try.prog 20 #[.int .i64 a, .int .i64 b] w fun e w' => e = .returned (.agg #[.int .u64 (highOf a b), .int .u64 (lowOf a b)]) ∧ Below w.heap.size w w' := by
  obtain ⟨x, hx, ex, hxa⟩ := NumM.word_of ha
  obtain ⟨y, hy, ey, hyb⟩ := NumM.word_of hb
  have eh := NumM.high_pp x y
  have el := NumM.low_pp x y
  have hM := mul64_any x y hx hy
  have wa : IntKind.u64.wrap a = (x : Int) := by rw [IntKind.wrap_u64]; exact ex
  have wb : IntKind.u64.wrap b = (y : Int) := by rw [IntKind.wrap_u64]; exact ey
  have HM := Lib.hid hM
  clear hM
  generalize x * y / 18446744073709551616 = H at *
  generalize x * y % 18446744073709551616 = L at *
  have hW := words_of x y H L a b (by omega) (by omega) eh el
  obtain ⟨r, hr⟩ : ∃ r, r = highOf a b := ⟨_, rfl⟩
  rw [← hr] at hW ⊢
  rw [hW.2]
  have e1 := hW.1
  have X := Lib.hid (And.intro hxa hyb)
  have hH : (H : Int) < 18446744073709551616 ∧ 0 ≤ (H : Int) := by
    have := NumM.prod_high x y hx hy
    rw [← eh] at this
    omega
  clear hr hW eh el ex ey hxa hyb
  by_cases h1 : a < 0
  · rw [if_neg (by have := X.out; omega)] at e1
    by_cases h2 : b < 0
    · rw [if_neg (by have := X.out; omega)] at e1
      have e2 : IntKind.u64.wrap (IntKind.u64.wrap ((H : Int) - y) - x) = r := by rw [IntKind.wrap_u64, IntKind.wrap_u64, e1]; omega
      clear e1 X ha hb
      go_enter Try.func20, Try.ntmps20
      go_wp2_with fail
      refine (HM.out _).mono ?_
      rintro e u ⟨rfl, rfl⟩
      go_wp2
      refine bodyPost_ret (results_cell_row (p := 4) (ty := 36) rfl _ _ w.heap.size _ _ _ _ rfl (push_new w _) Try.underlying36 rfl (by kernel_rfl)) rfl ?_
      exact ⟨rfl, (Below.refl _ _).alloc (Nat.le_refl _) _⟩
    · rw [if_pos (by have := X.out; omega)] at e1
      have e2 : IntKind.u64.wrap ((H : Int) - y) = r := by rw [IntKind.wrap_u64, e1]; omega
      clear e1 X ha hb
      go_enter Try.func20, Try.ntmps20
      go_wp2_with fail
      refine (HM.out _).mono ?_
      rintro e u ⟨rfl, rfl⟩
      go_wp2
      refine bodyPost_ret (results_cell_row (p := 4) (ty := 36) rfl _ _ w.heap.size _ _ _ _ rfl (push_new w _) Try.underlying36 rfl (by kernel_rfl)) rfl ?_
      exact ⟨rfl, (Below.refl _ _).alloc (Nat.le_refl _) _⟩
  · rw [if_pos (by have := X.out; omega)] at e1
    by_cases h2 : b < 0
    · rw [if_neg (by have := X.out; omega)] at e1
      have e2 : IntKind.u64.wrap ((H : Int) - x) = r := by rw [IntKind.wrap_u64, e1]; omega
      clear e1 X ha hb
      go_enter Try.func20, Try.ntmps20
      go_wp2_with fail
      refine (HM.out _).mono ?_
      rintro e u ⟨rfl, rfl⟩
      go_wp2
      refine bodyPost_ret (results_cell_row (p := 4) (ty := 36) rfl _ _ w.heap.size _ _ _ _ rfl (push_new w _) Try.underlying36 rfl (by kernel_rfl)) rfl ?_
      exact ⟨rfl, (Below.refl _ _).alloc (Nat.le_refl _) _⟩
    · rw [if_pos (by have := X.out; omega)] at e1
      have e2 : (H : Int) = r := by rw [e1]; omega
      clear e1 X ha hb
      go_enter Try.func20, Try.ntmps20
      go_wp2_with fail
      refine (HM.out _).mono ?_
      rintro e u ⟨rfl, rfl⟩
      go_wp2
      refine bodyPost_ret (results_cell_row (p := 4) (ty := 36) rfl _ _ w.heap.size _ _ _ _ rfl (push_new w _) Try.underlying36 rfl (by kernel_rfl)) rfl ?_
      exact ⟨rfl, (Below.refl _ _).alloc (Nat.le_refl _) _⟩

theorem wide_any (n : Int) (hn : -9223372036854775808 ≤ n ∧ n ≤ 9223372036854775807) (w : World) :
    Calls Try.prog 21 #[.int .i64 n] w fun e w' => e = .returned (.agg #[.int .u64 (if n < 0 then 18446744073709551615 else 0), .int .u64 (n % 18446744073709551616)]) ∧ Below w.heap.size w w' := by
  have e1 : IntKind.u64.wrap (n / 9223372036854775808) = (if n < 0 then 18446744073709551615 else 0) := by rw [IntKind.wrap_u64]; split <;> omega
  have e2 : IntKind.u64.wrap n = n % 18446744073709551616 := by rw [IntKind.wrap_u64]
  generalize (if n < 0 then (18446744073709551615 : Int) else 0) = r at *
  go_enter Try.func21, Try.ntmps21
  go_wp2
  refine bodyPost_ret (results_cell_row (p := 2) (ty := 36) rfl _ _ w.heap.size _ _ _ _ rfl (push_new w _) Try.underlying36 rfl (by kernel_rfl)) rfl ?_
  exact ⟨rfl, (Below.refl _ _).alloc (Nat.le_refl _) _⟩

/-- what Mul tells -/
def mulTold (a b : Int) : Int := if -9223372036854775808 ≤ a * b ∧ a * b ≤ 9223372036854775807 then a * b else 0
def mulIs (a b : Int) : Bool := decide (-9223372036854775808 ≤ a * b ∧ a * b ≤ 9223372036854775807)

set_option maxHeartbeats 1000000 in
theorem mul_any (a b : Int) (ha : -9223372036854775808 ≤ a ∧ a ≤ 9223372036854775807) (hb : -9223372036854775808 ≤ b ∧ b ≤ 9223372036854775807) (w : World) :
    Calls Try.prog 12 #[.int .i64 a, .int .i64 b] w fun e w' => e = .returned (.tuple #[.int .i64 (mulTold a b), .bool (mulIs a b)]) ∧ Below w.heap.size w w' := by
  have hP := Lib.hid (product_any a b ha hb)
  obtain ⟨q, hq⟩ : ∃ q, q = highOf a b := ⟨_, rfl⟩
  obtain ⟨l, hl⟩ : ∃ l, l = lowOf a b := ⟨_, rfl⟩
  obtain ⟨n, hn⟩ : ∃ n, n = if l < 9223372036854775808 then l else l - 18446744073709551616 := ⟨_, rfl⟩
  obtain ⟨hf, hf2⟩ := NumM.fits hq.symm hl.symm hn (NumM.mul_bound ha hb)
  have hl' : 0 ≤ l ∧ l < 18446744073709551616 := by rw [hl]; unfold lowOf; omega
  have hW := Lib.hid (wide_any n (by split at hn <;> omega))
  rw [← hq, ← hl] at hP
  have en : IntKind.i64.wrap l = n := by rw [IntKind.wrap_i64]; split at hn <;> omega
  have hnl : n % 18446744073709551616 = l := by split at hn <;> omega
  rw [hnl] at hW
  have hmt : mulTold a b = (if -9223372036854775808 ≤ a * b ∧ a * b ≤ 9223372036854775807 then n else 0) := by
    unfold mulTold; split
    · rename_i h; rw [hf2 h]
    · rfl
  have hmi : mulIs a b = decide (n < 0 ∧ q = 18446744073709551615 ∨ 0 ≤ n ∧ q = 0) := by unfold mulIs; rw [decide_eq_decide]; exact hf.symm
  rw [hmt, hmi]
  simp only [← hf]
  have hne : (q == (if n < 0 then (18446744073709551615 : Int) else 0)) = decide (n < 0 ∧ q = 18446744073709551615 ∨ 0 ≤ n ∧ q = 0) := by
    rw [Bool.eq_iff_iff, beq_iff_eq, decide_eq_true_iff]
    split <;> omega
  have en' : wrap64 l = n := by rw [← en]; exact (IntWalk.i64_left l).symm
  clear hmt hmi hf hf2 hq hl hn hnl ha hb en
  generalize (if n < 0 then (18446744073709551615 : Int) else 0) = q' at *
  by_cases hc : n < 0 ∧ q = 18446744073709551615 ∨ 0 ≤ n ∧ q = 0
  · rw [decide_eq_true hc] at hne
    rw [if_pos hc, decide_eq_true hc]
    obtain rfl : q = q' := eq_of_beq hne
    clear hc hne
    go_enter Try.func12, Try.ntmps12
    go_wp2_with fail
    refine (hP.out _).mono ?_
    rintro e u ⟨rfl, h1⟩
    have k1 := ((Kept.refl w).call h1).alloc (.cells #[.int .u64 q, .int .u64 l] 36)
    have z := push_new u (.cells #[.int .u64 q, .int .u64 l] 36)
    clear h1
    go_wp2_with fail
    generalize u.alloc (.cells #[.int .u64 q, .int .u64 l] 36) = W at *
    generalize u.heap.size = g at *
    have c0 := cell_of_heap z 0
    have c1 := cell_of_heap z 1
    simp only [List.getElem?_toArray, List.getElem?_cons_zero, List.getElem?_cons_succ] at c0 c1
    have Z := Lib.hid z
    clear z
    go_region_with (first
        | (go_at_call 21
           refine (hW.out _).mono ?_
           rintro e u2 ⟨rfl, h2⟩
           have d0 := (h2.cell (p := ⟨g, 0, none⟩) (heap_lt Z.out)).trans c0
           have d1 := (h2.cell (p := ⟨g, 1, none⟩) (heap_lt Z.out)).trans c1
           have K := Lib.hid ((k1.drew).call h2)))
    all_goals
      go_wp2
      go_ret2
      exact ⟨rfl, K.out.1⟩
  · rw [decide_eq_false hc] at hne
    rw [if_neg hc, decide_eq_false hc]
    clear hc
    go_enter Try.func12, Try.ntmps12
    go_wp2_with fail
    refine (hP.out _).mono ?_
    rintro e u ⟨rfl, h1⟩
    have k1 := ((Kept.refl w).call h1).alloc (.cells #[.int .u64 q, .int .u64 l] 36)
    have z := push_new u (.cells #[.int .u64 q, .int .u64 l] 36)
    clear h1
    go_wp2_with fail
    generalize u.alloc (.cells #[.int .u64 q, .int .u64 l] 36) = W at *
    generalize u.heap.size = g at *
    have c0 := cell_of_heap z 0
    have c1 := cell_of_heap z 1
    simp only [List.getElem?_toArray, List.getElem?_cons_zero, List.getElem?_cons_succ] at c0 c1
    have Z := Lib.hid z
    clear z
    go_region_with (first
        | (go_at_call 21
           refine (hW.out _).mono ?_
           rintro e u2 ⟨rfl, h2⟩
           have d0 := (h2.cell (p := ⟨g, 0, none⟩) (heap_lt Z.out)).trans c0
           have d1 := (h2.cell (p := ⟨g, 1, none⟩) (heap_lt Z.out)).trans c1
           have K := Lib.hid ((k1.drew).call h2)))
    all_goals
      go_wp2
      go_ret2
      exact ⟨rfl, K.out.1⟩

/-- an amount that may be had parts of -/
def mayB (n k : Int) : Bool := decide (0 ≤ n ∧ n ≤ 1152921504606846976 ∧ 0 ≤ k ∧ k ≤ 10000)
theorem may_any (n k : Int) (w : World) :
    Calls Try.prog 22 #[.int .i64 n, .int .i64 k] w fun e w' => e = .returned (.bool (mayB n k)) ∧ w' = w := by
  unfold mayB
  by_cases h1 : 0 ≤ n
  · by_cases h2 : n ≤ 1152921504606846976
    · by_cases h3 : 0 ≤ k
      · by_cases h4 : k ≤ 10000
        all_goals
          go_enter Try.func22, Try.ntmps22
          go_wp2
          go_ret
          exact ⟨by simp [h1, h2, h3, h4]; try omega, rfl⟩
      · go_enter Try.func22, Try.ntmps22
        go_wp2
        go_ret
        exact ⟨by simp; omega, rfl⟩
    · go_enter Try.func22, Try.ntmps22
      go_wp2
      go_ret
      exact ⟨by simp; omega, rfl⟩
  · go_enter Try.func22, Try.ntmps22
    go_wp2
    go_ret
    exact ⟨by simp; omega, rfl⟩
end Go.Proofs.Ytmlpgdhdndmlaaa
