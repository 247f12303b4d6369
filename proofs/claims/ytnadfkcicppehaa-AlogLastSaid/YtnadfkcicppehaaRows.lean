/-
  No cell of these rows narrows 'for every input' (looked for: loops, veiled, ifaces, maps, wideKeys, modest, calm, conditions, laid).
  DERIVED. THE GIVEN ROWS OF THIS SEAT. 5 by the template 'for every input the law returns true; each argument reads behind the call as it read before'; 0 by the template 'total and deterministic' (their statements: YtnadfkcicppehaaTotals.lean).
  GIVEN WITH THE SEED: the statements are not yours to turn. If you find one false, say at which input.
  Laid BY PROGRAM, IN A SANDBOX (cutbox-rows.mjs): the forced cells as the released guide's own fill.sh prints them over the translation 76de4a488505c0c0… (all of the seat's roots in one cut). By AI agents, Wed Nov 11 2026. No macro, syntax, notation, axiom, sorry.
-/
import Derived.Test.YtnadfkcicppehaaChecked
import GoSem.Claim
import GoSem.ClaimJoined
import GoSem.ClaimMapViews
import Derived.JoinedTies
import Derived.KernelRfl
namespace Go.Proofs.Ytnadfkcicppehaa
/- THE CELL 'sum', in the pinned program and in every row, IS THE sha256 OF THE DUMP (.gsa) THAT YtnadfkcicppehaaProg.lean LOADS. Nothing in Lean hashes anything: it is a label: what it is worth is what the hold of that sum in a sandbox is worth. -/
noncomputable def Try.pinned : Pinned := { name := "ytnadfkcicppehaa", sum := "76de4a488505c0c08ad5ffb699f3509e4dc6e486bbf84c95020863f0773eb397", checked := Try.checked }
namespace Rows
def none {H : Type} : Left H := { results := [], args := [] }

/-- 'agiolaw07.AlogReads': WHATEVER THE INPUT: true; the input reads as it did. -/
def alogReadsSpec : ChangeSpec := { name := "alogReads", fn := fun _ => fun
  | [d] => { results := [.lit (.bool true)], args := [d] }
  | _ => none }
def alogReadsRow : OpenClaim := { program := "ytnadfkcicppehaa", sum := "76de4a488505c0c08ad5ffb699f3509e4dc6e486bbf84c95020863f0773eb397", func := "agio/agiolaw07.AlogReads", spec := "alogReads", unfollowed := true, recurses := true, apart := false }
def AlogReadsSaid : Prop := alogReadsRow.holds Try.pinned (OpenSpec.ofChange alogReadsSpec)

/-- ITS FALSE NEIGHBOUR: 'it returns false'. Refute it at one input. -/
def alogReadsWrong : ChangeSpec := { name := "alogReads", fn := fun _ => fun
  | [d] => { results := [.lit (.bool false)], args := [d] }
  | _ => none }
def AlogReadsWrongFalsely : Prop := alogReadsRow.holds Try.pinned (OpenSpec.ofChange alogReadsWrong)

/-- 'agiolaw07.AlogBack': WHATEVER THE INPUT: true; the input reads as it did. -/
def alogBackSpec : ChangeSpec := { name := "alogBack", fn := fun _ => fun
  | [d] => { results := [.lit (.bool true)], args := [d] }
  | _ => none }
def alogBackRow : OpenClaim := { program := "ytnadfkcicppehaa", sum := "76de4a488505c0c08ad5ffb699f3509e4dc6e486bbf84c95020863f0773eb397", func := "agio/agiolaw07.AlogBack", spec := "alogBack", unfollowed := true, recurses := true, apart := false }
def AlogBackSaid : Prop := alogBackRow.holds Try.pinned (OpenSpec.ofChange alogBackSpec)

/-- ITS FALSE NEIGHBOUR: 'it returns false'. Refute it at one input. -/
def alogBackWrong : ChangeSpec := { name := "alogBack", fn := fun _ => fun
  | [d] => { results := [.lit (.bool false)], args := [d] }
  | _ => none }
def AlogBackWrongFalsely : Prop := alogBackRow.holds Try.pinned (OpenSpec.ofChange alogBackWrong)

/-- 'agiolaw07.AlogTorn': WHATEVER THE INPUT: true; the input reads as it did. -/
def alogTornSpec : ChangeSpec := { name := "alogTorn", fn := fun _ => fun
  | [d1, d2, d3] => { results := [.lit (.bool true)], args := [d1, d2, d3] }
  | _ => none }
def alogTornRow : OpenClaim := { program := "ytnadfkcicppehaa", sum := "76de4a488505c0c08ad5ffb699f3509e4dc6e486bbf84c95020863f0773eb397", func := "agio/agiolaw07.AlogTorn", spec := "alogTorn", unfollowed := true, recurses := true, apart := false }
def AlogTornSaid : Prop := alogTornRow.holds Try.pinned (OpenSpec.ofChange alogTornSpec)

/-- ITS FALSE NEIGHBOUR: 'it returns false'. Refute it at one input. -/
def alogTornWrong : ChangeSpec := { name := "alogTorn", fn := fun _ => fun
  | [d1, d2, d3] => { results := [.lit (.bool false)], args := [d1, d2, d3] }
  | _ => none }
def AlogTornWrongFalsely : Prop := alogTornRow.holds Try.pinned (OpenSpec.ofChange alogTornWrong)

/-- 'agiolaw07.AlogAgain': WHATEVER THE INPUT: true; the input reads as it did. -/
def alogAgainSpec : ChangeSpec := { name := "alogAgain", fn := fun _ => fun
  | [d] => { results := [.lit (.bool true)], args := [d] }
  | _ => none }
def alogAgainRow : OpenClaim := { program := "ytnadfkcicppehaa", sum := "76de4a488505c0c08ad5ffb699f3509e4dc6e486bbf84c95020863f0773eb397", func := "agio/agiolaw07.AlogAgain", spec := "alogAgain", unfollowed := true, recurses := true, apart := false }
def AlogAgainSaid : Prop := alogAgainRow.holds Try.pinned (OpenSpec.ofChange alogAgainSpec)

/-- ITS FALSE NEIGHBOUR: 'it returns false'. Refute it at one input. -/
def alogAgainWrong : ChangeSpec := { name := "alogAgain", fn := fun _ => fun
  | [d] => { results := [.lit (.bool false)], args := [d] }
  | _ => none }
def AlogAgainWrongFalsely : Prop := alogAgainRow.holds Try.pinned (OpenSpec.ofChange alogAgainWrong)

/-- 'agiolaw07.AlogLast': WHATEVER THE INPUT: true; the input reads as it did. -/
def alogLastSpec : ChangeSpec := { name := "alogLast", fn := fun _ => fun
  | [d1, d2, d3] => { results := [.lit (.bool true)], args := [d1, d2, d3] }
  | _ => none }
def alogLastRow : OpenClaim := { program := "ytnadfkcicppehaa", sum := "76de4a488505c0c08ad5ffb699f3509e4dc6e486bbf84c95020863f0773eb397", func := "agio/agiolaw07.AlogLast", spec := "alogLast", unfollowed := true, recurses := true, apart := false }
def AlogLastSaid : Prop := alogLastRow.holds Try.pinned (OpenSpec.ofChange alogLastSpec)

/-- ITS FALSE NEIGHBOUR: 'it returns false'. Refute it at one input. -/
def alogLastWrong : ChangeSpec := { name := "alogLast", fn := fun _ => fun
  | [d1, d2, d3] => { results := [.lit (.bool false)], args := [d1, d2, d3] }
  | _ => none }
def AlogLastWrongFalsely : Prop := alogLastRow.holds Try.pinned (OpenSpec.ofChange alogLastWrong)

/- THE SECOND FORM. 'bulk': how many values and letters a reading holds, each counted each time it is reached (what is shared counts as often as it is met; a slice's spare places count too). A statement '..UptoSaid' is the law's where the arguments, and the package variables that the reading takes, are together of bulk at most 1048576: NARROWER than '..Said'. Prove '..Said' where nothing that the law and all that it calls make is longer than what came in: it says more and counts as full. Else prove '..UptoSaid'. A law counts once. -/
mutual
def uptoBulk {H : Type} : DataW H → Nat
  | .lit (.string bytes) => bytes.length + 1
  | .lit _ => 1
  | .nil => 1
  | .ptr d => uptoBulk d + 1
  | .slice elems spare => uptoBulkAll elems + uptoBulkAll spare + 1
  | .agg parts => uptoBulkAll parts + 1
  | .iface _ d => uptoBulk d + 1
  | .map entries => uptoBulkEntries entries + 1
  | .held _ => 1
def uptoBulkAll {H : Type} : List (DataW H) → Nat
  | [] => 0
  | d :: r => uptoBulk d + uptoBulkAll r
def uptoBulkEntries {H : Type} : List (Lit × DataW H) → Nat
  | [] => 0
  | x :: r => uptoBulkEntry x + uptoBulkEntries r
def uptoBulkEntry {H : Type} : Lit × DataW H → Nat
  | (.string bytes, d) => bytes.length + uptoBulk d + 1
  | (_, d) => uptoBulk d + 1
 end
def uptoSmall : (H : Type) → List (DataW H) → Bool := fun _ ds => decide (uptoBulkAll ds ≤ 1048576)
def OpenSpec.upto (s : _root_.Go.ChangeSpec) : _root_.Go.OpenSpec := { _root_.Go.OpenSpec.ofChange s with cond := some uptoSmall }

/-- 'agiolaw07.AlogReads', WHERE WHAT IT READS IS OF BULK AT MOST 1048576: true; the input reads as it did. -/
def alogReadsUptoRow : OpenClaim := { program := "ytnadfkcicppehaa", sum := "76de4a488505c0c08ad5ffb699f3509e4dc6e486bbf84c95020863f0773eb397", func := "agio/agiolaw07.AlogReads", spec := "alogReads", unfollowed := true, recurses := true, apart := false, narrowed := true }
def AlogReadsUptoSaid : Prop := alogReadsUptoRow.holds Try.pinned (OpenSpec.upto alogReadsSpec)

/-- 'agiolaw07.AlogBack', WHERE WHAT IT READS IS OF BULK AT MOST 1048576: true; the input reads as it did. -/
def alogBackUptoRow : OpenClaim := { program := "ytnadfkcicppehaa", sum := "76de4a488505c0c08ad5ffb699f3509e4dc6e486bbf84c95020863f0773eb397", func := "agio/agiolaw07.AlogBack", spec := "alogBack", unfollowed := true, recurses := true, apart := false, narrowed := true }
def AlogBackUptoSaid : Prop := alogBackUptoRow.holds Try.pinned (OpenSpec.upto alogBackSpec)

/-- 'agiolaw07.AlogTorn', WHERE WHAT IT READS IS OF BULK AT MOST 1048576: true; the input reads as it did. -/
def alogTornUptoRow : OpenClaim := { program := "ytnadfkcicppehaa", sum := "76de4a488505c0c08ad5ffb699f3509e4dc6e486bbf84c95020863f0773eb397", func := "agio/agiolaw07.AlogTorn", spec := "alogTorn", unfollowed := true, recurses := true, apart := false, narrowed := true }
def AlogTornUptoSaid : Prop := alogTornUptoRow.holds Try.pinned (OpenSpec.upto alogTornSpec)

/-- 'agiolaw07.AlogAgain', WHERE WHAT IT READS IS OF BULK AT MOST 1048576: true; the input reads as it did. -/
def alogAgainUptoRow : OpenClaim := { program := "ytnadfkcicppehaa", sum := "76de4a488505c0c08ad5ffb699f3509e4dc6e486bbf84c95020863f0773eb397", func := "agio/agiolaw07.AlogAgain", spec := "alogAgain", unfollowed := true, recurses := true, apart := false, narrowed := true }
def AlogAgainUptoSaid : Prop := alogAgainUptoRow.holds Try.pinned (OpenSpec.upto alogAgainSpec)

/-- 'agiolaw07.AlogLast', WHERE WHAT IT READS IS OF BULK AT MOST 1048576: true; the input reads as it did. -/
def alogLastUptoRow : OpenClaim := { program := "ytnadfkcicppehaa", sum := "76de4a488505c0c08ad5ffb699f3509e4dc6e486bbf84c95020863f0773eb397", func := "agio/agiolaw07.AlogLast", spec := "alogLast", unfollowed := true, recurses := true, apart := false, narrowed := true }
def AlogLastUptoSaid : Prop := alogLastUptoRow.holds Try.pinned (OpenSpec.upto alogLastSpec)

end Rows
end Go.Proofs.Ytnadfkcicppehaa
