/- A region that draws its order, walked once in the order of the text, in whatever class of worlds the calls keep. -/
import Derived.BigQuiet
import Derived.Below
namespace Go.Proofs.Ytifenlopgpbpbaa
open Go.RowKit
theorem wp_region_in {P : Program} (D : World → Prop) {id : Nat} {Q : Exit → Act → World → Prop} {a : Act} {w : World} {l : List Oper} (hm : P.follows .mixedOrders = true) (hB : Region.lexB .any l.toArray = true)
    (hD : D w.drew) (h : wpQuiet P l.toArray D (fun a' => ∀ w', D w' → Q .normal a' w') l a) : (Code.region id l.toArray true).wp P Q a w :=
  wp_region_quiet (C := D) hm hB hD (by simpa using h)
/-- what was there when the law began is as it was -/
def Kept (w W : World) : Prop := Below w.heap.size w W ∧ w.heap.size ≤ W.heap.size
theorem Kept.refl (w : World) : Kept w w := ⟨Below.refl _ _, Nat.le_refl _⟩
theorem Kept.drew {w W : World} (h : Kept w W) : Kept w W.drew := ⟨h.1.drew, h.2⟩
theorem Kept.alloc {w W : World} (h : Kept w W) (o : Obj) : Kept w (W.alloc o) := ⟨h.1.alloc h.2 o, by simp; have := h.2; omega⟩
/-- a call that changes nothing of what it found -/
theorem Kept.call {w W W' : World} (h : Kept w W) (hb : Below W.heap.size W W') : Kept w W' := ⟨h.1.trans (hb.mono h.2), Nat.le_trans h.2 hb.size⟩
theorem Kept.trans {a b c : World} (h : Kept a b) (k : Kept b c) : Kept a c := h.call k.1
theorem Kept.cell {w W : World} (h : Kept w W) {p : Addr} (hp : p.block < w.heap.size) : W.cell? p = w.cell? p := h.1.cell hp
end Go.Proofs.Ytifenlopgpbpbaa
