/- Rows of records in memory. -/
import Derived.Test.YtnadfkcicppehaaAlgP
namespace Go.Proofs.Ytnadfkcicppehaa
open Go.RowKit

/-- a record stands at this place -/
def RcAt (w : World) (b o : Nat) (r : Rc) : Prop :=
  w.cell? ⟨b, o, none⟩ = some (.int .i64 r.kind) ∧ w.cell? ⟨b, o + 1, none⟩ = some (.int .i64 r.slot) ∧ w.cell? ⟨b, o + 2, none⟩ = some (.int .i64 r.round) ∧ w.cell? ⟨b, o + 3, none⟩ = some (.int .i64 r.site) ∧
    ∃ A c, w.cell? ⟨b, o + 4, none⟩ = some (.slice A r.val.length c) ∧ Row w A r.val.length c r.val
/-- the slice at A reads as these records -/
def Rcs (w : World) (A : Option Addr) (l : List Rc) : Prop :=
  (∀ r ∈ l, r.wf) ∧ ∀ (i : Nat) (h : i < l.length), ∃ b off, A = some ⟨b, off, none⟩ ∧ b < w.heap.size ∧ RcAt w b (off + i * 5) l[i]
theorem RcAt.kept {w W : World} {b o : Nat} {r : Rc} (h : RcAt w b o r) (k : Kept w W) : RcAt W b o r := by
  obtain ⟨h0, h1, h2, h3, A, c, h4, h5⟩ := h
  exact ⟨(k.cell (p := ⟨b, o, none⟩) (cell_lt h0)).trans h0, (k.cell (p := ⟨b, o + 1, none⟩) (cell_lt h1)).trans h1, (k.cell (p := ⟨b, o + 2, none⟩) (cell_lt h2)).trans h2, (k.cell (p := ⟨b, o + 3, none⟩) (cell_lt h3)).trans h3, A, c, (k.cell (p := ⟨b, o + 4, none⟩) (cell_lt h4)).trans h4, h5.below k.1⟩
theorem Rcs.kept {w W : World} {A : Option Addr} {l : List Rc} (h : Rcs w A l) (k : Kept w W) : Rcs W A l := by
  refine ⟨h.1, fun i hi => ?_⟩
  obtain ⟨b, off, e, hb, hr⟩ := h.2 i hi
  exact ⟨b, off, e, Nat.lt_of_lt_of_le hb k.2, hr.kept k⟩
theorem Rcs.nil {w : World} {A : Option Addr} : Rcs w A [] := ⟨by simp, fun i h => absurd h (by simp)⟩
theorem Rcs.take {w : World} {A : Option Addr} {l : List Rc} (h : Rcs w A l) (k : Nat) : Rcs w A (l.take k) := by
  refine ⟨fun r hr => h.1 r (List.mem_of_mem_take hr), fun i hi => ?_⟩
  rw [List.length_take] at hi
  obtain ⟨b, off, e, hb, hr⟩ := h.2 i (by omega)
  exact ⟨b, off, e, hb, by rw [List.getElem_take]; exact hr⟩
theorem Rcs.byte {w : World} {A : Option Addr} {l : List Rc} (h : Rcs w A l) : ∀ r ∈ l, r.byte := by
  intro r hr
  obtain ⟨i, hi, rfl⟩ := List.mem_iff_getElem.1 hr
  obtain ⟨b, off, _, _, _, _, _, _, A', c, _, hrow⟩ := h.2 i hi
  exact hrow.bts.2.2.1
end Go.Proofs.Ytnadfkcicppehaa
