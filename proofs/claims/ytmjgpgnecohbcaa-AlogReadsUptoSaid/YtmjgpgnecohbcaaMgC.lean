/- Numbers as sevens of bits: plain arithmetic, no program. -/
import Derived.Lib.Hide
import Derived.Test.YtmjgpgnecohbcaaProg
import Derived.WalkKit

namespace Go.Proofs.Ytmjgpgnecohbcaa

/-- how a number is laid down -/
def put (n : Nat) : List Nat := if h : n < 128 then [n] else (n % 128 + 128) :: put (n / 128)
termination_by n
decreasing_by omega
theorem put_small {n : Nat} (h : n < 128) : put n = [n] := by rw [put, dif_pos h]
theorem put_big {n : Nat} (h : ¬ n < 128) : put n = (n % 128 + 128) :: put (n / 128) := by rw [put, dif_neg h]
theorem put_pos (n : Nat) : 0 < (put n).length := by
  by_cases h : n < 128
  · simp [put_small h]
  · simp [put_big h]
theorem put_byte (n : Nat) : ∀ c ∈ put n, c < 256 := by
  induction n using put.induct with
  | case1 n h => rw [put_small h]; simp; omega
  | case2 n h ih =>
    rw [put_big h]
    intro c hc
    rcases List.mem_cons.1 hc with rfl | hc
    · omega
    · exact ih c hc
theorem put_len (n : Nat) : ∀ k, n < 128 ^ (k + 1) → (put n).length ≤ k + 1 := by
  induction n using put.induct with
  | case1 n h => intro k _; simp [put_small h]
  | case2 n h ih =>
    intro k hk
    rw [put_big h]
    match k with
    | 0 => simp at hk; omega
    | k + 1 =>
      have : n / 128 < 128 ^ (k + 1) := by
        rw [Nat.div_lt_iff_lt_mul (by decide)]
        calc n < 128 ^ (k + 1 + 1) := hk
          _ = 128 ^ (k + 1) * 128 := by rw [Nat.pow_succ]
      have := ih k this
      simp
      omega
theorem put_ten {n : Nat} (h : n < 18446744073709551616) : (put n).length ≤ 10 :=
  put_len n 9 (by have : (128 : Nat) ^ (9 + 1) = 1180591620717411303424 := by decide
                  omega)

/-- the number that stands at the beginning, read from byte i on, acc read so far: the number, how many bytes it has, an error's number -/
def getW (i acc : Nat) : List Nat → Nat × Nat × Nat
  | [] => (0, 0, 3)
  | c :: cs => if i = 9 ∧ 1 < c then (0, 0, 2) else if 0 < i ∧ c = 0 then (0, 0, 2) else if c < 128 then (acc + c * 128 ^ i, i + 1, 0) else getW (i + 1) (acc + (c - 128) * 128 ^ i) cs
def get (bs : List Nat) : Nat × Nat × Nat := getW 0 0 bs

theorem pow9 : (128 : Nat) ^ 9 = 9223372036854775808 := by decide
theorem pow_le9 {i : Nat} (h : i ≤ 9) : (128 : Nat) ^ i ≤ 9223372036854775808 := by
  rw [← pow9]; exact Nat.pow_le_pow_right (by decide) h

/-- what is laid down is read as it was -/
theorem getW_put (m : Nat) : ∀ (i acc : Nat) (rest : List Nat), i ≤ 9 → m * 128 ^ i < 18446744073709551616 → (0 < i → 0 < m) → getW i acc (put m ++ rest) = (acc + m * 128 ^ i, i + (put m).length, 0) := by
  induction m using put.induct with
  | case1 m h =>
    intro i acc rest hi hm hpos
    have h9 : ¬ (i = 9 ∧ 1 < m) := by
      rintro ⟨rfl, h1⟩
      rw [pow9] at hm
      omega
    have h0 : ¬ (0 < i ∧ m = 0) := by omega
    simp [put_small h, getW, h9, h0, h]
  | case2 m h ih =>
    intro i acc rest hi hm hpos
    have hlt : i < 9 := by
      rcases Nat.lt_or_ge i 9 with h' | h'
      · exact h'
      · have : i = 9 := by omega
        subst this
        rw [pow9] at hm
        omega
    have e : m / 128 * 128 ^ (i + 1) ≤ m * 128 ^ i := by
      rw [Nat.pow_succ, Nat.mul_comm (128 ^ i) 128, ← Nat.mul_assoc]
      exact Nat.mul_le_mul_right _ (Nat.div_mul_le_self m 128)
    have := ih (i + 1) (acc + m % 128 * 128 ^ i) rest (by omega) (by omega) (by omega)
    rw [put_big h]
    simp only [List.cons_append, getW]
    rw [if_neg (by omega), if_neg (by omega), if_neg (by omega), show m % 128 + 128 - 128 = m % 128 by omega, this]
    have e2 : m % 128 * 128 ^ i + m / 128 * 128 ^ (i + 1) = m * 128 ^ i := by
      rw [Nat.pow_succ, Nat.mul_comm (128 ^ i) 128, ← Nat.mul_assoc, ← Nat.add_mul]
      congr 1
      omega
    simp only [List.length_cons, Prod.mk.injEq, and_true]
    omega
theorem get_put {m : Nat} (h : m < 18446744073709551616) (rest : List Nat) : get (put m ++ rest) = (m, (put m).length, 0) := by
  have := getW_put m 0 0 rest (by omega) (by simpa using h) (by omega)
  simpa [get] using this

/-- what is read is laid down as it stood; and it is within 64 bits -/
theorem getW_back : ∀ (bs : List Nat) (i acc n k : Nat), (∀ c ∈ bs, c < 256) → i ≤ 9 → acc < 128 ^ i → getW i acc bs = (n, k, 0) →
    ∃ m, n = acc + m * 128 ^ i ∧ k = i + (put m).length ∧ bs.take (put m).length = put m ∧ (0 < i → 0 < m) ∧ n < 18446744073709551616 ∧ (put m).length ≤ bs.length
  | [], i, acc, n, k, _, _, _, h => by simp [getW] at h
  | c :: cs, i, acc, n, k, hb, hi, ha, h => by
    rw [getW] at h
    split at h
    · simp at h
    split at h
    · simp at h
    rename_i h9 h0
    have hc := hb c (by simp)
    split at h
    · rename_i hc1
      simp only [Prod.mk.injEq, and_true] at h
      obtain ⟨rfl, rfl⟩ := h
      refine ⟨c, rfl, by simp [put_small hc1], by simp [put_small hc1], by omega, ?_, by simp [put_small hc1]⟩
      rcases Nat.lt_or_ge i 9 with hi9 | hi9
      · have hp : (128 : Nat) ^ i * 128 ≤ 9223372036854775808 := by rw [← Nat.pow_succ]; exact pow_le9 (by omega)
        have : c * 128 ^ i ≤ 127 * 128 ^ i := Nat.mul_le_mul_right _ (by omega)
        omega
      · have : i = 9 := by omega
        subst this
        rw [pow9] at ha ⊢
        have : c ≤ 1 := by omega
        omega
    · rename_i hc1
      have hi9 : i < 9 := by
        rcases Nat.lt_or_ge i 9 with h' | h'
        · exact h'
        · exact absurd ⟨by omega, by omega⟩ h9
      have hacc : acc + (c - 128) * 128 ^ i < 128 ^ (i + 1) := by
        have : (c - 128) * 128 ^ i ≤ 127 * 128 ^ i := Nat.mul_le_mul_right _ (by omega)
        rw [Nat.pow_succ]
        omega
      obtain ⟨m, rfl, rfl, ht, hm, hn, hl⟩ := getW_back cs (i + 1) _ n k (fun x hx => hb x (by simp [hx])) (by omega) hacc h
      have hm' := hm (by omega)
      have hbig : ¬ (c - 128 + 128 * m < 128) := by omega
      have e1 : (c - 128 + 128 * m) % 128 + 128 = c := by omega
      have e2 : (c - 128 + 128 * m) / 128 = m := by omega
      have e3 : put (c - 128 + 128 * m) = c :: put m := by rw [put_big hbig, e1, e2]
      refine ⟨c - 128 + 128 * m, ?_, ?_, ?_, by omega, hn, by rw [e3]; simpa using hl⟩
      · rw [Nat.pow_succ, Nat.add_mul, Nat.mul_comm (128 ^ i) 128, ← Nat.mul_assoc, Nat.mul_comm m 128]; omega
      · rw [e3, List.length_cons]; omega
      · rw [e3, List.length_cons, List.take_succ_cons, ht]
theorem get_back {bs : List Nat} {n k : Nat} (hb : ∀ c ∈ bs, c < 256) (h : get bs = (n, k, 0)) : k = (put n).length ∧ bs.take k = put n ∧ n < 18446744073709551616 ∧ k ≤ bs.length := by
  obtain ⟨m, rfl, rfl, h1, _, h2, h3⟩ := getW_back bs 0 0 n k hb (by omega) (by simp) h
  simp only [Nat.pow_zero, Nat.mul_one, Nat.zero_add] at *
  exact ⟨trivial, h1, h2, h3⟩
/-- with an error nothing is read -/
theorem getW_err : ∀ (bs : List Nat) (i acc n k c : Nat), getW i acc bs = (n, k, c) → (c = 0 ∧ i < k) ∨ (n = 0 ∧ k = 0 ∧ (c = 2 ∨ c = 3))
  | [], i, acc, n, k, c, h => by simp [getW] at h; omega
  | b :: bs, i, acc, n, k, c, h => by
    rw [getW] at h
    split at h
    · simp at h; omega
    split at h
    · simp at h; omega
    split at h
    · simp at h; omega
    · have := getW_err bs _ _ n k c h
      omega
theorem get_err {bs : List Nat} {n k c : Nat} (h : get bs = (n, k, c)) : (c = 0 ∧ 0 < k) ∨ (n = 0 ∧ k = 0 ∧ (c = 2 ∨ c = 3)) := getW_err bs 0 0 n k c h

/-- a number with a sign, as it is laid down; and back -/
def zig (n : Int) : Nat := if n < 0 then (2 * (-n - 1) + 1).toNat else (2 * n).toNat
def zag (n : Nat) : Int := if n % 2 = 1 then -((n / 2 : Nat) : Int) - 1 else ((n / 2 : Nat) : Int)
theorem zag_zig (n : Int) : zag (zig n) = n := by
  unfold zag zig
  split <;> split <;> omega
theorem zig_lt {n : Int} (h1 : -9223372036854775808 ≤ n) (h2 : n < 9223372036854775808) : zig n < 18446744073709551616 := by
  unfold zig
  split <;> omega
theorem zag_lt {n : Nat} (h : n < 18446744073709551616) : -9223372036854775808 ≤ zag n ∧ zag n < 9223372036854775808 := by
  unfold zag
  split <;> omega
end Go.Proofs.Ytmjgpgnecohbcaa

/- The error that wire tells, as a value: for seats that lack errors.As (elsewhere it stands in ErrN). -/
namespace Go.Proofs.Ytmjgpgnecohbcaa
open Go.RowKit
def fault (c p : Int) : Value := .iface 172 (.agg #[.int .i64 c, .int .i64 p])
end Go.Proofs.Ytmjgpgnecohbcaa
