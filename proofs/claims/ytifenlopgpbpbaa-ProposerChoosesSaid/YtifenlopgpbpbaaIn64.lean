/- An int's bounds, as numbers. -/
import Derived.Test.YtifenlopgpbpbaaRows
import Derived.Lib.Hide
namespace Go.Proofs.Ytifenlopgpbpbaa
open Go.RowKit

theorem in64 {n : Int} (h : (Lit.int .i64 n).wf = true) : -9223372036854775808 ≤ n ∧ n ≤ 9223372036854775807 := by
  simp [Lit.wf, IntKind.min, IntKind.max, IntKind.signed, IntKind.bits] at h
  omega
end Go.Proofs.Ytifenlopgpbpbaa
