/- append of bytes, and of a slice of bytes, at a step of a region that draws its order (for 'go_region_law'). -/
import Derived.Test.YteefeancakeebaaBts
import Derived.Deep.RegionLaw
namespace Go.Proofs.Yteefeancakeebaa
open Go.RowKit

theorem step_append_bts {w : World} {ops : Array Oper} {o : Oper} {a : Act} {K : Act → World → Prop} {Q : Exit → Act → World → Prop} {E : Prop} (hgd : o.guard = none) (s x : Operand)
    (ho : o.op = .call { callee := .builtin .append, args := #[s, x], argTypes := #[26, 26] })
    {base : Nat} {v : Value} {ds bs : List Nat} {B n c : Nat} {A : Option Addr} (hs : a.eval s = v) (hx : a.eval x = .slice A n c) (hown : Own w base v ds) (hb : Bts w B A n bs) (hc : A = none → c = 0)
    (hsum : ds.length + n ≤ 140737505132544) (hbase : base ≤ w.heap.size)
    (h : ∀ v' w', Own w' base v' (ds ++ bs) → w.grownBy w' v.ownBlock → (v'.ownBlock = v.ownBlock ∨ v'.ownBlock = some w.heap.size) → K (a.put o.dst v') w') :
    if Region.wanted o (yielded ops a.tmps) = true then Oper.wp Try.prog o a w K Q else E := by
  have hw : Region.wanted o (yielded ops a.tmps) = true := by simp [Region.wanted, hgd]
  rw [if_pos hw]
  obtain ⟨v', w', hrun, h2, h3, h4⟩ := run_append_bts (w := w) o.type hown hb hc hsum hbase
  unfold Oper.wp
  simp [execOp, ho, resolve, invoke, builtin, hs, hx, hrun, Result.andThen]
  exact h v' w' h2 h3 h4
end Go.Proofs.Yteefeancakeebaa
