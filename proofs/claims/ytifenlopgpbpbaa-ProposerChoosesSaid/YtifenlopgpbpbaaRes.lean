/- Results: one in a cell beside one in a slot. -/
import Derived.Test.YtifenlopgpbpbaaRows
import Derived.Laws.ResultCell
import Derived.Laws.Rows
import Derived.Great.Walk
import Derived.Great.BuildSlice
import Derived.Deep.MidRow
namespace Go.Proofs.Ytifenlopgpbpbaa
open Go.RowKit Go.Great

theorem results_row_tmp {fn : Func} {p u : Tmp} {ty : TypeId} (h : fn.results = #[.cell p ty, .tmp u]) (tmps : Array Value) (P : Program) (w : World) (g : Nat) (t : TypeId) (cs : Array Value) (fr : Nat × Nat) (d : TypeDesc) (v : Value)
    (hp : tmps.getD p undef = .pointer (some ⟨g, 0, none⟩)) (hv : tmps.getD u undef = v) (hg : w.heap[g]? = some (.cells cs t fr))
    (hu : P.underlying ty = some d) (hd : d.isRow = true) (hi : (P.info? ty).map (·.size) = some cs.size) :
    (results fn tmps).run P w = .ok (.tuple #[.agg cs, v]) w := by
  have hl : (loadVar ty ⟨g, 0, none⟩).run P w = .ok (.agg cs) w := by
    cases d <;> first | exact run_loadVar_row w g t ty cs fr _ hg hu rfl hi | cases hd
  rw [results_cell_tmp h, hp, hv]
  simp [asAddr, Result.andThen, hl]
/-- one in a cell beside another one in a cell -/
theorem results_row_cell {fn : Func} {p u : Tmp} {ty tz : TypeId} (h : fn.results = #[.cell p ty, .cell u tz]) (tmps : Array Value) (P : Program) (w : World) (g g' : Nat) (t : TypeId) (cs : Array Value) (fr : Nat × Nat) (d : TypeDesc) (v : Value)
    (hp : tmps.getD p undef = .pointer (some ⟨g, 0, none⟩)) (hu' : tmps.getD u undef = .pointer (some ⟨g', 0, none⟩)) (hg : w.heap[g]? = some (.cells cs t fr)) (hv : (loadVar tz ⟨g', 0, none⟩).run P w = .ok v w)
    (hu : P.underlying ty = some d) (hd : d.isRow = true) (hi : (P.info? ty).map (·.size) = some cs.size) :
    (results fn tmps).run P w = .ok (.tuple #[.agg cs, v]) w := by
  have hl : (loadVar ty ⟨g, 0, none⟩).run P w = .ok (.agg cs) w := by
    cases d <;> first | exact run_loadVar_row w g t ty cs fr _ hg hu rfl hi | cases hd
  have hp' : tmps[p]?.getD undef = .pointer (some ⟨g, 0, none⟩) := by simpa using hp
  have hu'' : tmps[u]?.getD undef = .pointer (some ⟨g', 0, none⟩) := by simpa using hu'
  simp [results, h, hp', hu'', Sem.run_bind, Result.andThen, asAddr, hl, hv]
end Go.Proofs.Ytifenlopgpbpbaa
