/- Amounts: both words of a product, and a part of an amount by a long division: plain arithmetic, no program. -/
import Derived.Lib.Hide
import Derived.Lib.Mul64
import Derived.Laws.Bits64b
namespace Go.Proofs.Ytmlpgdhdndmlaaa.NumM

/-- a number below 0 as 64 bits -/
theorem word_of {a : Int} (ha : -9223372036854775808 ≤ a ∧ a ≤ 9223372036854775807) : ∃ x : Nat, x < 18446744073709551616 ∧ a % 18446744073709551616 = (x : Int) ∧ ((0 ≤ a ∧ (x : Int) = a) ∨ (a < 0 ∧ (x : Int) = a + 18446744073709551616)) :=
  ⟨(a % 18446744073709551616).toNat, by omega, by omega, by omega⟩

/-- both words of a product of numbers with a sign, out of those of the words -/
theorem high_pp (x y : Nat) : ((x * y / 18446744073709551616 : Nat) : Int) = ((x : Int) * y) / 18446744073709551616 := by rw [← Int.natCast_mul]; omega
theorem low_pp (x y : Nat) : ((x * y % 18446744073709551616 : Nat) : Int) = ((x : Int) * y) % 18446744073709551616 := by rw [← Int.natCast_mul]; omega

theorem prod_high (x y : Nat) (hx : x < 18446744073709551616) (hy : y < 18446744073709551616) : 0 ≤ (x : Int) * y / 18446744073709551616 ∧ (x : Int) * y / 18446744073709551616 < 18446744073709551616 := by
  have h1 : x * y ≤ 18446744073709551615 * 18446744073709551615 := Nat.mul_le_mul (by omega) (by omega)
  rw [← Int.natCast_mul]
  omega
/-- the words of a product fit one word -/
theorem fits {p q l n : Int} (hq : p / 18446744073709551616 % 18446744073709551616 = q) (hl : p % 18446744073709551616 = l)
    (hn : n = if l < 9223372036854775808 then l else l - 18446744073709551616) (hp : -85070591730234615865843651857942052864 ≤ p ∧ p ≤ 85070591730234615865843651857942052864) :
    ((n < 0 ∧ q = 18446744073709551615 ∨ 0 ≤ n ∧ q = 0) ↔ (-9223372036854775808 ≤ p ∧ p ≤ 9223372036854775807)) ∧ ((-9223372036854775808 ≤ p ∧ p ≤ 9223372036854775807) → n = p) := by
  split at hn <;> omega
theorem mul_bound {a b : Int} (ha : -9223372036854775808 ≤ a ∧ a ≤ 9223372036854775807) (hb : -9223372036854775808 ≤ b ∧ b ≤ 9223372036854775807) : -85070591730234615865843651857942052864 ≤ a * b ∧ a * b ≤ 85070591730234615865843651857942052864 := by
  have h1 : a.natAbs * b.natAbs ≤ 9223372036854775808 * 9223372036854775808 := Nat.mul_le_mul (by omega) (by omega)
  have h2 : (a * b).natAbs = a.natAbs * b.natAbs := Int.natAbs_mul a b
  rw [← h2] at h1
  omega

/-- the long division of two words by 10000, the divisor moved to the top -/
theorem long (hi lo : Nat) (hh : hi < 10000) (hl : lo < 18446744073709551616) :
    let un32 := hi * 1125899906842624 + lo / 16384
    let un10 := lo % 16384 * 1125899906842624
    let un1 := un10 / 4294967296
    let q1 := un32 / 2621440000
    let un21 := un32 % 2621440000 * 4294967296 + un1
    let q0 := un21 / 2621440000
    un32 < 11258999068426240000 ∧ q1 < 4294967296 ∧ un10 % 4294967296 = 0 ∧ un1 < 4294967296 ∧ un21 < 11258999068426240000 ∧ q0 < 4294967296 ∧
      q1 * 4294967296 + q0 = (hi * 18446744073709551616 + lo) / 10000 ∧ un21 % 2621440000 * 4294967296 / 1125899906842624 = (hi * 18446744073709551616 + lo) % 10000 := by
  intro un32 un10 un1 q1 un21 q0
  omega

/-- the same, a letter for each word -/
theorem words (hi lo : Nat) (hh : hi < 10000) (hl : lo < 18446744073709551616) : ∃ U V v q r A B C M p s : Nat,
    U = hi * 1125899906842624 + lo / 16384 ∧ V = lo % 16384 * 1125899906842624 ∧ v = V / 4294967296 ∧ v < 4294967296 ∧ q < 4294967296 ∧ r < 2621440000 ∧ p < 4294967296 ∧ s < 2621440000 ∧ U < 18446744073709551616 ∧ V < 18446744073709551616 ∧ M < 18446744073709551616 ∧
    V % 4294967296 = 0 ∧ q = U / 2621440000 ∧ r = U % 2621440000 ∧ A = U * 4294967296 % 18446744073709551616 ∧ B = (A + v) % 18446744073709551616 ∧ C = q * 11258999068426240000 % 18446744073709551616 ∧
    M = (B + 18446744073709551616 - C) % 18446744073709551616 ∧ p = M / 2621440000 ∧ s = M % 2621440000 ∧
    q * 4294967296 + p = (hi * 18446744073709551616 + lo) / 10000 ∧ s * 4294967296 / 1125899906842624 = (hi * 18446744073709551616 + lo) % 10000 ∧
    (M * 4294967296 % 18446744073709551616 + 18446744073709551616 - p * 11258999068426240000 % 18446744073709551616) % 18446744073709551616 = s * 4294967296 := by
  obtain ⟨h1, h2, h3, h4, h5, h6, h7, h8⟩ := long hi lo hh hl
  obtain ⟨U, hU⟩ : ∃ U, U = hi * 1125899906842624 + lo / 16384 := ⟨_, rfl⟩
  obtain ⟨V, hV⟩ : ∃ V, V = lo % 16384 * 1125899906842624 := ⟨_, rfl⟩
  obtain ⟨v, hv⟩ : ∃ v, v = V / 4294967296 := ⟨_, rfl⟩
  obtain ⟨q, hq⟩ : ∃ q, q = U / 2621440000 := ⟨_, rfl⟩
  obtain ⟨r, hr⟩ : ∃ r, r = U % 2621440000 := ⟨_, rfl⟩
  obtain ⟨M, hM⟩ : ∃ M, M = r * 4294967296 + v := ⟨_, rfl⟩
  simp only [← hU, ← hV, ← hv, ← hq, ← hr, ← hM] at h1 h2 h3 h4 h5 h6 h7 h8
  have hlV : V < 18446744073709551616 := by omega
  clear hh hl
  obtain ⟨A, hA⟩ : ∃ A, A = U * 4294967296 % 18446744073709551616 := ⟨_, rfl⟩
  obtain ⟨B, hB⟩ : ∃ B, B = (A + v) % 18446744073709551616 := ⟨_, rfl⟩
  obtain ⟨C, hC⟩ : ∃ C, C = q * 11258999068426240000 % 18446744073709551616 := ⟨_, rfl⟩
  obtain ⟨p, hp⟩ : ∃ p, p = M / 2621440000 := ⟨_, rfl⟩
  obtain ⟨s, hs⟩ : ∃ s, s = M % 2621440000 := ⟨_, rfl⟩
  rw [← hp] at h6 h7
  rw [← hs] at h8
  have g1 : M = (B + 18446744073709551616 - C) % 18446744073709551616 := by clear h7 h8 hU hV; omega
  have g2 : (M * 4294967296 % 18446744073709551616 + 18446744073709551616 - p * 11258999068426240000 % 18446744073709551616) % 18446744073709551616 = s * 4294967296 := by clear h7 h8 hU hV hq hr hA hB hC g1; omega
  exact ⟨U, V, v, q, r, A, B, C, M, p, s, hU, hV, hv, h4, h2, by omega, h6, by omega, by omega, hlV, by omega, h3, hq, hr, hA, hB, hC, g1, hp, hs, h7, h8, g2⟩

theorem w_word (n : Nat) (h : n < 18446744073709551616) : IntKind.u64.wrap (n : Int) = (n : Int) := by rw [IntKind.wrap_u64]; omega
theorem w_mod (n : Nat) : IntKind.u64.wrap (n : Int) = ((n % 18446744073709551616 : Nat) : Int) := by rw [IntKind.wrap_u64]; omega
theorem w_mul (n k : Nat) : IntKind.u64.wrap ((n : Int) * (k : Int)) = ((n * k % 18446744073709551616 : Nat) : Int) := by rw [← Int.natCast_mul]; exact w_mod _
theorem w_add (n k : Nat) : IntKind.u64.wrap ((n : Int) + (k : Int)) = (((n + k) % 18446744073709551616 : Nat) : Int) := by rw [← Int.natCast_add]; exact w_mod _
theorem w_sub (n k : Nat) (hk : k ≤ 18446744073709551616) : IntKind.u64.wrap ((n : Int) - (k : Int)) = (((n + 18446744073709551616 - k) % 18446744073709551616 : Nat) : Int) := by rw [IntKind.wrap_u64]; omega
theorem w_div (n k : Nat) (h : n < 18446744073709551616) : IntKind.u64.wrap ((n : Int).tdiv (k : Int)) = ((n / k : Nat) : Int) := by
  rw [Int.tdiv_eq_ediv_of_nonneg (Int.natCast_nonneg n), ← Int.natCast_ediv]
  exact w_word _ (Nat.lt_of_le_of_lt (Nat.div_le_self n k) h)
theorem sub_mul_div (U q r : Nat) (hU : U < 18446744073709551616) (hq : q = U / 2621440000) (hr : r = U % 2621440000) : (U + 18446744073709551616 - q * 2621440000 % 18446744073709551616) % 18446744073709551616 = r := by omega

/-- as the walk says it -/
theorem spelt (hi lo : Nat) (hh : hi < 10000) (hl : lo < 18446744073709551616) : ∃ U V v q r A B C M p s x y : Nat,
    U = hi * 1125899906842624 + lo / 16384 ∧ IntKind.u64.wrap ((lo : Int) * 1125899906842624) = (V : Int) ∧ (V : Int) / 4294967296 = (v : Int) ∧
    v < 4294967296 ∧ q < 4294967296 ∧ r < 2621440000 ∧ p < 4294967296 ∧ s < 2621440000 ∧ V < 18446744073709551616 ∧ V % 4294967296 = 0 ∧
    IntKind.u64.wrap ((U : Int).tdiv 2621440000) = (q : Int) ∧ IntKind.u64.wrap ((U : Int) - IntKind.u64.wrap ((q : Int) * 2621440000)) = (r : Int) ∧
    IntKind.u64.wrap ((U : Int) * 4294967296) = (A : Int) ∧ IntKind.u64.wrap ((A : Int) + v) = (B : Int) ∧ IntKind.u64.wrap ((q : Int) * 11258999068426240000) = (C : Int) ∧
    IntKind.u64.wrap ((B : Int) - C) = (M : Int) ∧ IntKind.u64.wrap ((M : Int).tdiv 2621440000) = (p : Int) ∧ IntKind.u64.wrap ((M : Int) - IntKind.u64.wrap ((p : Int) * 2621440000)) = (s : Int) ∧
    IntKind.u64.wrap ((M : Int) * 4294967296) = (x : Int) ∧ IntKind.u64.wrap ((p : Int) * 11258999068426240000) = (y : Int) ∧
    q * 4294967296 + p = (hi * 18446744073709551616 + lo) / 10000 ∧ (x + 18446744073709551616 - y) % 18446744073709551616 / 1125899906842624 = (hi * 18446744073709551616 + lo) % 10000 ∧ x < 18446744073709551616 ∧ y < 18446744073709551616 := by
  obtain ⟨U, V, v, q, r, A, B, C, M, p, s, hU, hV, hv, lv, lq, lr, lp, ls, lU, lV, lM, hV0, hq, hr, hA, hB, hC, hM, hp, hs, f1, f2, f3⟩ := words hi lo hh hl
  have lA : A < 18446744073709551616 := by rw [hA]; exact Nat.mod_lt _ (by decide)
  have lC : C < 18446744073709551616 := by rw [hC]; exact Nat.mod_lt _ (by decide)
  have hV' : lo * 1125899906842624 % 18446744073709551616 = V := by clear f1 f2 f3 hU hv hV0 hq hr hA hB hC hM hp hs; omega
  have e1 := w_mul lo 1125899906842624
  have e2 := w_div U 2621440000 lU
  have e3 := w_mul q 2621440000
  have e4 := w_sub U (q * 2621440000 % 18446744073709551616) (Nat.le_of_lt (Nat.mod_lt _ (by decide)))
  have e5 := w_mul U 4294967296
  have e6 := w_add A v
  have e7 := w_mul q 11258999068426240000
  have e8 := w_sub B C (Nat.le_of_lt lC)
  have e9 := w_div M 2621440000 lM
  have e10 := w_mul p 2621440000
  have e11 := w_sub M (p * 2621440000 % 18446744073709551616) (Nat.le_of_lt (Nat.mod_lt _ (by decide)))
  have e12 := w_mul M 4294967296
  have e13 := w_mul p 11258999068426240000
  rw [hV'] at e1
  rw [← hq] at e2
  rw [sub_mul_div U q r lU hq hr] at e4
  rw [← hA] at e5
  rw [← hB] at e6
  rw [← hC] at e7
  rw [← hM] at e8
  rw [← hp] at e9
  rw [sub_mul_div M p s lM hp hs] at e11
  rw [← e3] at e4
  rw [← e10] at e11
  refine ⟨U, V, v, q, r, A, B, C, M, p, s, M * 4294967296 % 18446744073709551616, p * 11258999068426240000 % 18446744073709551616, hU, e1, ?_, lv, lq, lr, lp, ls, lV, hV0, e2, e4, e5, e6, e7, e8, e9, e11, e12, e13, f1, ?_, Nat.mod_lt _ (by decide), Nat.mod_lt _ (by decide)⟩
  · rw [hv]; rfl
  · rw [f3, f2]
end Go.Proofs.Ytmlpgdhdndmlaaa.NumM
