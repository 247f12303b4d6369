/- math/bits' product and division of words, as this program calls them. -/
import Derived.Test.YtmlpgdhdndmlaaaRows
import Derived.Test.YtmlpgdhdndmlaaaNumM
import Derived.WalkKit
import Derived.Below
import Derived.Lib.Hide
import Derived.WalkSmall
import Derived.Laws.Bits64b
import Derived.BigQuiet
namespace Go.Proofs.Ytmlpgdhdndmlaaa
open Go.RowKit

theorem maskN (a : Nat) (ha : a < 18446744073709551616) : bits .and .u64 (a : Int) 4294967295 = ((a % 4294967296 : Nat) : Int) := by
  have h := bits_and_u64_nat a 4294967295 ha (by omega)
  have e : a &&& 4294967295 = a % 4294967296 := Nat.and_two_pow_sub_one_eq_mod a 32
  rw [e] at h
  exact h
theorem divN (a : Nat) : (a : Int) / 4294967296 = ((a / 4294967296 : Nat) : Int) := by omega
theorem mulN (a b : Nat) : (a : Int) * (b : Int) = ((a * b : Nat) : Int) := (Int.natCast_mul a b).symm
theorem addN (a b : Nat) : (a : Int) + (b : Int) = ((a + b : Nat) : Int) := (Int.natCast_add a b).symm
theorem wrapN (a : Nat) (ha : a < 18446744073709551616) : IntKind.u64.wrap (a : Int) = (a : Int) := by rw [IntKind.wrap_u64]; omega
theorem wrapM (a : Nat) : IntKind.u64.wrap (a : Int) = ((a % 18446744073709551616 : Nat) : Int) := by rw [IntKind.wrap_u64]; omega

set_option maxHeartbeats 1000000 in
theorem mul64_any (x y : Nat) (hx : x < 18446744073709551616) (hy : y < 18446744073709551616) (w : World) :
    Calls Try.prog 24 #[.int .u64 x, .int .u64 y] w fun e w' => e = .returned (.tuple #[.int .u64 ((x * y / 18446744073709551616 : Nat) : Int), .int .u64 ((x * y % 18446744073709551616 : Nat) : Int)]) ∧ w' = w := by
  obtain ⟨bd, bt, bw, hhi⟩ := Lib.mul64_hi x y hx hy
  have ba := Lib.half_mul_le (a := x / 4294967296) (b := y / 4294967296) (by omega) (by omega)
  have bb := Lib.half_mul_le (a := x / 4294967296) (b := y % 4294967296) (by omega) (by omega)
  have bc := Lib.half_mul_le (a := x % 4294967296) (b := y / 4294967296) (by omega) (by omega)
  have ba' : x / 4294967296 * (y / 4294967296) < 18446744073709551616 := by omega
  have bb' : x / 4294967296 * (y % 4294967296) < 18446744073709551616 := by omega
  have bc' : x % 4294967296 * (y / 4294967296) < 18446744073709551616 := by omega
  have bh1 : x / 4294967296 * (y / 4294967296) + (x / 4294967296 * (y % 4294967296) + x % 4294967296 * (y % 4294967296) / 4294967296) / 4294967296 < 18446744073709551616 := by omega
  have bh : x / 4294967296 * (y / 4294967296) + (x / 4294967296 * (y % 4294967296) + x % 4294967296 * (y % 4294967296) / 4294967296) / 4294967296 + ((x / 4294967296 * (y % 4294967296) + x % 4294967296 * (y % 4294967296) / 4294967296) % 4294967296 + x % 4294967296 * (y / 4294967296)) / 4294967296 < 18446744073709551616 := by omega
  go_enter Try.func24, Try.ntmps24
  go_wp2
  simp only [maskN x hx, maskN y hy, divN, mulN, addN, wrapN _ bd, wrapN _ bb', wrapN _ bt, maskN _ bt, wrapN _ bc', wrapN _ bw, wrapN _ ba', wrapN _ bh1, wrapN _ bh, wrapM (x * y)]
  rw [hhi]
  go_ret2
  exact ⟨rfl, rfl⟩

set_option maxRecDepth 100000 in
set_option maxHeartbeats 1000000 in
theorem len_any (w : World) : Calls Try.prog 27 #[.int .u64 10000] w fun e w' => e = .returned (.int .i64 14) ∧ w' = w := by
  go_enter Try.func27, Try.ntmps27
  go_wp2
  go_ret
  exact ⟨by kernel_rfl, rfl⟩
theorem zeros_any (w : World) : Calls Try.prog 26 #[.int .u64 10000] w fun e w' => e = .returned (.int .i64 50) ∧ w' = w := by
  go_enter Try.func26, Try.ntmps26
  go_wp2_with fail
  refine (len_any _).mono ?_
  rintro e u ⟨rfl, rfl⟩
  go_wp2
  go_ret
  exact ⟨rfl, rfl⟩

/-- bits that don't meet -/
theorem or_apart (a b : Nat) (hb : b < 1125899906842624) (ha : a < 16384) : bits .or .u64 ((a : Int) * 1125899906842624) (b : Int) = ((a * 1125899906842624 + b : Nat) : Int) := by
  have h := bits_or_u64_nat (a * 1125899906842624) b (by omega) (by omega)
  have e := Nat.two_pow_add_eq_or_of_lt (i := 50) (b := b) (by omega) a
  have e50 : (2 : Nat) ^ 50 = 1125899906842624 := by decide
  rw [e50, Nat.mul_comm] at e
  have c : (a : Int) * 1125899906842624 = ((a * 1125899906842624 : Nat) : Int) := by omega
  rw [c, h, e]

set_option maxRecDepth 100000 in
set_option maxHeartbeats 4000000 in
theorem div64_low (lo : Nat) (hl : lo < 18446744073709551616) (w : World) :
    Calls Try.prog 25 #[.int .u64 0, .int .u64 lo, .int .u64 10000] w fun e w' => e = .returned (.tuple #[.int .u64 ((lo / 10000 : Nat) : Int), .int .u64 ((lo % 10000 : Nat) : Int)]) ∧ Below w.heap.size w w' := by
  go_enter Try.func25, Try.ntmps25
  go_wp2
  go_region
  all_goals
    go_wp2
    go_ret2
    exact ⟨rfl, (Below.refl _ _).drew⟩
set_option maxRecDepth 100000 in
set_option maxHeartbeats 4000000 in
theorem div64_high (hi lo : Nat) (h0 : ¬ hi = 0) (hh : hi < 10000) (hl : lo < 18446744073709551616) (w : World) :
    Calls Try.prog 25 #[.int .u64 hi, .int .u64 lo, .int .u64 10000] w fun e w' => e = .returned (.tuple #[.int .u64 (((hi * 18446744073709551616 + lo) / 10000 : Nat) : Int), .int .u64 (((hi * 18446744073709551616 + lo) % 10000 : Nat) : Int)]) ∧ Below w.heap.size w w' := by
  obtain ⟨U, V, v, q, r, A, B, C, M, p, s, x, y, hU, e2, e3, lv, lq, lr, lp, ls, lV, hV0, e5, e6, e8, e9, e10, e11, e12, e13, e14, e15, f1, f2, lx, ly⟩ := NumM.spelt hi lo hh hl
  have e0 : bits .and .u64 11258999068426240000 4294967295 = 0 := maskN 11258999068426240000 (by omega)
  have e1 : bits .or .u64 ((hi : Int) * 1125899906842624) ((lo : Int) / 16384) = (U : Int) := by
    have := or_apart hi (lo / 16384) (by omega) (by omega)
    rw [hU, ← this]; rfl
  have e4 : bits .and .u64 (V : Int) 4294967295 = 0 := by rw [maskN V lV, hV0]; rfl
  have c6 : IntKind.u64.wrap ((q : Int) * 2621440000) = (q : Int) * 2621440000 := by rw [IntKind.wrap_u64]; omega
  have c13 : IntKind.u64.wrap ((p : Int) * 2621440000) = (p : Int) * 2621440000 := by rw [IntKind.wrap_u64]; omega
  rw [c6] at e6
  rw [c13] at e13
  clear c6 c13
  have e5' : IntKind.u64.wrap ((U : Int) / 2621440000) = (q : Int) := by rw [← e5, Int.tdiv_eq_ediv_of_nonneg (Int.natCast_nonneg U)]
  have e12' : IntKind.u64.wrap ((M : Int) / 2621440000) = (p : Int) := by rw [← e12, Int.tdiv_eq_ediv_of_nonneg (Int.natCast_nonneg M)]
  obtain ⟨R1, hR1⟩ : ∃ R, R = (hi * 18446744073709551616 + lo) / 10000 := ⟨_, rfl⟩
  obtain ⟨R2, hR2⟩ : ∃ R, R = (hi * 18446744073709551616 + lo) % 10000 := ⟨_, rfl⟩
  rw [← hR1] at f1 ⊢
  rw [← hR2] at f2 ⊢
  have F1 := Lib.hid f1
  have F2 := Lib.hid f2
  clear hU hV0 hR1 hR2 f1 f2 lV
  go_enter Try.func25, Try.ntmps25
  go_wp2_with fail
  refine (zeros_any _).mono ?_
  rintro e u ⟨rfl, rfl⟩
  go_wp2
  go_loop [15, 16] (fun a b => a = .int .u64 (q : Int) ∧ b = .int .u64 (r : Int)) (fun _ _ => 0)
  case atStart => exact ⟨rfl, rfl⟩
  case round =>
    obtain ⟨rfl, rfl⟩ := hrel
    have H := Lib.hid (And.intro e14 e15)
    have L := Lib.hid (And.intro lp (And.intro ls lq))
    clear e14 e15 e5 e5' e6 e0 e1 e2 e3 e4
    have d1 : ¬ 4294967296 ≤ (q : Int) := by omega
    have d2 : IntKind.u64.wrap (4294967296 * (r : Int)) = 4294967296 * (r : Int) := by rw [IntKind.wrap_u64]; omega
    have d3 : IntKind.u64.wrap (4294967296 * (r : Int) + v) = 4294967296 * (r : Int) + v := by rw [IntKind.wrap_u64]; omega
    have d4 : ¬ 4294967296 * (r : Int) + v < 0 := by omega
    clear lq lr lv ls
    go_wp2_with fail
    clear d1 d2 d3 d4 lp
    go_loop [18, 16] (fun a b => a = .int .u64 (p : Int) ∧ b = .int .u64 (s : Int)) (fun _ _ => 0)
    case atStart => exact ⟨rfl, rfl⟩
    case round =>
      obtain ⟨rfl, rfl⟩ := hrel
      obtain ⟨lp, ls, lq⟩ := L.out
      obtain ⟨e14, e15⟩ := H.out
      clear e8 e9 e10 e11 e12 e13 e12'
      have d1 : ¬ 4294967296 ≤ (p : Int) := by omega
      have d2 : IntKind.u64.wrap (4294967296 * (s : Int)) = 4294967296 * (s : Int) := by rw [IntKind.wrap_u64]; omega
      have d4 : ¬ 4294967296 * (s : Int) < 0 := by omega
      have e16 : IntKind.u64.wrap (IntKind.u64.wrap ((q : Int) * 4294967296) + p) = (R1 : Int) := by rw [IntKind.wrap_u64, IntKind.wrap_u64]; have := F1.out; omega
      have e17 : IntKind.u64.wrap ((x : Int) - y) / 1125899906842624 = (R2 : Int) := by rw [IntKind.wrap_u64]; have := F2.out; omega
      clear lp ls lq
      go_wp2
      go_ret2
      exact ⟨rfl, Below.refl _ _⟩
theorem div64_any (hi lo : Nat) (hh : hi < 10000) (hl : lo < 18446744073709551616) (w : World) :
    Calls Try.prog 25 #[.int .u64 hi, .int .u64 lo, .int .u64 10000] w fun e w' => e = .returned (.tuple #[.int .u64 (((hi * 18446744073709551616 + lo) / 10000 : Nat) : Int), .int .u64 (((hi * 18446744073709551616 + lo) % 10000 : Nat) : Int)]) ∧ Below w.heap.size w w' := by
  by_cases h0 : hi = 0
  · subst h0
    have := div64_low lo hl w
    rw [show 0 * 18446744073709551616 + lo = lo by omega]
    exact this
  · exact div64_high hi lo h0 hh hl w
end Go.Proofs.Ytmlpgdhdndmlaaa
