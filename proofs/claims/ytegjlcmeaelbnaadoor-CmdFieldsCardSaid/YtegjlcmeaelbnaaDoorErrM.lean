/- The writing of a fault through its pointer; errors.as and errors.Is by their contracts. -/
import Derived.Test.YtegjlcmeaelbnaaDoorErrN
import Derived.Below
namespace Go.Proofs.YtegjlcmeaelbnaaDoor
open Go.RowKit Go.Extern.Stop Go.Stop Go.Extern

theorem set_F (g h o q : Nat) (c p : Int) (old1 old2 : Value) (W : World) (hb0 : W.cell? ⟨h, q, none⟩ = some (.int .i64 c)) (hb1 : W.cell? ⟨h, q + 1, none⟩ = some (.int .i64 p))
    (ht0 : W.cell? ⟨g, o, none⟩ = some old1) (ht1 : W.cell? ⟨g, o + 1, none⟩ = some old2) (hf0 : W.frozen? ⟨g, o, none⟩ = false) (hf1 : W.frozen? ⟨g, o + 1, none⟩ = false) :
    (ReflectliteValue.set #[.agg #[hnd 75, .pointer (some ⟨g, o, none⟩), .int .u64 409], .agg #[hnd 75, .pointer (some ⟨h, q, none⟩), .int .u64 153]]).run Tryd.prog W
      = .ok (.tuple #[]) ((W.setCell ⟨g, o, none⟩ (.int .i64 c)).setCell ⟨g, o + 1, none⟩ (.int .i64 p)) := by
  change Sem.run _ (ReflectliteValue.parts (.agg #[hnd 75, .pointer (some ⟨g, o, none⟩), .int .u64 409]) >>= fun _ => ReflectliteValue.parts (.agg #[hnd 75, .pointer (some ⟨h, q, none⟩), .int .u64 153]) >>= _) _ = _
  simp only [Sem.run_bind, parts_Fa, parts_F, Result.andThen]
  have hl := run_loadCells_list (P := Tryd.prog) (w := W) ⟨h, q, none⟩ [.int .i64 c, .int .i64 p] (fun j v hv => by
    match j, hv with
    | 0, hv => simp at hv; subst hv; simpa [Addr.add] using hb0
    | 1, hv => simp at hv; subst hv; simpa [Addr.add] using hb1)
  simp only [List.length_cons, List.length_nil, Nat.zero_add, Nat.reduceAdd] at hl
  simp [ReflectliteValue.flagAddr, loadVar, isAgg, underlying, Tryd.underlying75, Result.andThen, direct_F, storeVar, Value.cells]
  simp [hl, storeCells, Addr.add, Result.andThen]
  rw [run_store Tryd.prog W _ _ _ (by rfl)]
  simp [ht0, hf0]
  rw [run_store Tryd.prog _ _ _ _ (by rfl)]
  simp [ht1, hf1, World.cell?_setCell_other, World.frozen?_setCell]
end Go.Proofs.YtegjlcmeaelbnaaDoor
