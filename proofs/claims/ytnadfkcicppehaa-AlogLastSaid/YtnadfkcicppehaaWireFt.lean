/- The error that wire tells, as a value: for seats that lack errors.As (elsewhere it stands in ErrN). -/
import Derived.Test.YtnadfkcicppehaaProg
import Derived.WalkKit
namespace Go.Proofs.Ytnadfkcicppehaa
open Go.RowKit
def fault (c p : Int) : Value := .iface 158 (.agg #[.int .i64 c, .int .i64 p])
end Go.Proofs.Ytnadfkcicppehaa
