/- Bits turned in a row of bytes, one after the other, as a mask says: plain arithmetic, and the walk's spelling of it. -/
import Derived.Test.YtebpbholelhbgaaCrcW
namespace Go.Proofs.Ytebpbholelhbgaa
open Go.RowKit CrcM

def Any (b : Bool) (M : Nat) : Prop := b = true ↔ M ≠ 0
theorem bit_test {m k : Nat} (h : m / 2 ^ k % 2 = 1) : (((m : Int) / 2 ^ k).tmod 2 == 1) = true := by
  have h1 : ((m : Int) / 2 ^ k) = ((m / 2 ^ k : Nat) : Int) := by simp
  rw [h1, beq_iff_eq, show (2 : Int) = ((2 : Nat) : Int) from rfl, ← Int.ofNat_tmod]; omega
theorem bit_test0 {m k : Nat} (h : m / 2 ^ k % 2 = 0) : (((m : Int) / 2 ^ k).tmod 2 == 1) = false := by
  have h1 : ((m : Int) / 2 ^ k) = ((m / 2 ^ k : Nat) : Int) := by simp
  rw [h1, beq_eq_false_iff_ne, show (2 : Int) = ((2 : Nat) : Int) from rfl, ← Int.ofNat_tmod]; omega

theorem turn_byte {c r : Nat} (hc : c < 256) (hr : r < 8) : bits BinOp.xor IntKind.u8 (c : Int) (2 ^ r % 256) = ((c ^^^ 1 <<< r : Nat) : Int) := by
  have h1 : (1 <<< r : Nat) < 256 := by
    rw [Nat.one_shiftLeft]; exact Nat.lt_of_lt_of_le (Nat.pow_lt_pow_right (by omega) hr) (by decide)
  have h2 : ∀ q : Nat, q < 256 → ((q : Int) % 256) = (q : Int) := by intro q hq; omega
  rw [Nat.one_shiftLeft] at *
  rw [show ((2 : Int) ^ r) = ((2 ^ r : Nat) : Int) by simp, h2 _ h1, u8_xor_nat c _ hc h1]
theorem turn_lt {c r : Nat} (hc : c < 256) (hr : r < 8) : (c ^^^ 1 <<< r : Nat) < 256 := by
  have h1 : (1 <<< r : Nat) < 2 ^ 8 := by
    rw [Nat.one_shiftLeft]; exact Nat.pow_lt_pow_right (by omega) hr
  exact Nat.xor_lt_two_pow (n := 8) hc h1
theorem turn_num {bs ds : List Nat} {m k f : Nat} (hnum : num ds = num bs ^^^ ((m % 2 ^ k) <<< f)) (hbit : m / 2 ^ k % 2 = 1) (hj : (f + k) / 8 < ds.length) :
    num (ds.set ((f + k) / 8) (ds.getD ((f + k) / 8) 0 ^^^ 1 <<< ((f + k) % 8))) = num bs ^^^ ((m % 2 ^ (k + 1)) <<< f) := by
  rw [num_set ds _ _ hj, hnum, mask_succ, hbit, Nat.shiftLeft_xor_distrib, ← Nat.shiftLeft_add, Nat.xor_assoc, show 8 * ((f + k) / 8) + (f + k) % 8 = k + f by omega]
theorem mask_one {m k : Nat} (hbit : m / 2 ^ k % 2 = 1) : m % 2 ^ (k + 1) ≠ 0 := by
  intro h
  have h1 : (m % 2 ^ (k + 1)).testBit k = true := by
    rw [Nat.testBit_mod_two_pow, Nat.testBit_eq_decide_div_mod_eq]; simp [hbit]
  rw [h] at h1; simp at h1
theorem mask_none {m k : Nat} (hbit : m / 2 ^ k % 2 = 0) : m % 2 ^ (k + 1) = m % 2 ^ k := by
  rw [mask_succ, hbit]; simp

end Go.Proofs.Ytebpbholelhbgaa
