/- The Writer's other calls; Own bytes told; a new Writer. -/
import Derived.Test.YtnadfkcicppehaaWireW
namespace Go.Proofs.Ytnadfkcicppehaa
open Go.RowKit






set_option maxRecDepth 100000 in
theorem told_any (base g : Nat) (bs : List Nat) (W : World) (hw : Wr W base g bs) (hl : bs.length ≤ 140737505132544) :
    Calls Try.prog 38 #[.pointer (some ⟨g, 0, none⟩)] W fun e W' => ∃ v, e = .returned v ∧ Own W' W.heap.size v bs ∧ Below W.heap.size W W' := by
  obtain ⟨v, hv, own, hne⟩ := hw.cell
  obtain ⟨A, cap, rfl, hr⟩ := own.row hl hw.byte
  have hcl := cell_of_heap hv 0
  simp only [List.getElem?_toArray, List.getElem?_cons_zero] at hcl
  go_enter Try.func38, Try.ntmps38
  go_wp2_with fail
  refine (clone_any hr).mono ?_
  rintro e w1 ⟨v, rfl, h1, h2⟩
  go_wp2
  go_ret
  exact ⟨_, rfl, h1, h2⟩

/-- a new Writer -/
theorem Wr.new (w : World) (base : Nat) (hb : base ≤ w.heap.size) : Wr (w.alloc (.cells #[.slice none 0 0] 88)) base w.heap.size [] :=
  ⟨hb, by simp; omega, ⟨.slice none 0 0, by show (w.heap.push _)[w.heap.size]? = _; simp, Own.nil _ _, by intro h; cases h⟩, by simp⟩
theorem Wr.below {w w' : World} {base g : Nat} {bs : List Nat} (h : Wr w base g bs) (hb : Below w.heap.size w w') : Wr w' base g bs := by
  obtain ⟨v, hv, own, hne⟩ := h.cell
  exact ⟨h.lo, Nat.le_trans h.hs hb.size, ⟨v, (hb.block g (heap_lt hv)).trans hv, own.below hb, hne⟩, h.byte⟩
theorem Wr.row_lt {w : World} {base g : Nat} {bs : List Nat} (h : Wr w base g bs) : ∀ k, rowOf w g = some k → base ≤ k ∧ k < w.heap.size := by
  obtain ⟨v, hv, own, _⟩ := h.cell
  rw [rowOf_is hv]
  exact World.ownsRow.lt own
theorem Wr.lt {w : World} {base g : Nat} {bs : List Nat} (h : Wr w base g bs) : g < w.heap.size := by
  obtain ⟨v, hv, _⟩ := h.cell
  exact heap_lt hv
end Go.Proofs.Ytnadfkcicppehaa
