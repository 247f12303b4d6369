/- Slices of bytes that may be read and cut; rows of bytes that the call owns, as such. -/
import Derived.Test.YteefeancakeebaaBts
namespace Go.Proofs.Yteefeancakeebaa
open Go.RowKit

/-- a slice of bytes that may be read and cut -/
structure Row (w : World) (A : Option Addr) (n cap : Nat) (bs : List Nat) : Prop where
  bts : Bts w w.heap.size A n bs
  nil : A = none → cap = 0
  room : n ≤ cap
  most : cap ≤ maxLen
theorem Row.below {w w' : World} {A : Option Addr} {n cap : Nat} {bs : List Nat} (h : Row w A n cap bs) (hb : Below w.heap.size w w') : Row w' A n cap bs := ⟨(h.bts.below hb).more hb.size, h.nil, h.room, h.most⟩
theorem Row.len {w : World} {A : Option Addr} {n cap : Nat} {bs : List Nat} (h : Row w A n cap bs) : bs.length = n := h.bts.1
theorem Row.none {w : World} : Row w none 0 0 [] := ⟨Bts.nil, fun _ => rfl, Nat.le_refl _, by decide⟩
theorem Own.row {w : World} {base : Nat} {v : Value} {bs : List Nat} (h : Own w base v bs) (hl : bs.length ≤ 140737505132544) (hby : ∀ c ∈ bs, c < 256) : ∃ A cap, v = .slice A bs.length cap ∧ Row w A bs.length cap bs := by
  obtain ⟨A, cap, e, hb⟩ := h.bts hl hby
  refine ⟨A, cap, e, hb, ?_, ?_, ?_⟩
  all_goals
    obtain ⟨_, ⟨e', h0⟩ | ⟨g', cap', cur, e', _, _, h1, h2, _⟩⟩ := h
    · rw [e, Value.slice.injEq] at e'; obtain ⟨rfl, e2, rfl⟩ := e'; first | (intro _; rfl) | omega | decide
    · rw [e, Value.slice.injEq] at e'; obtain ⟨rfl, e2, rfl⟩ := e'; first | (intro h; cases h) | exact h1 | exact h2
theorem Own.slice {w : World} {base : Nat} {v : Value} {bs : List Nat} (h : Own w base v bs) : ∃ A n cap, v = .slice A n cap := by
  obtain ⟨_, ⟨e, _⟩ | ⟨g', cap', cur, e, _⟩⟩ := h
  · exact ⟨_, _, _, e⟩
  · exact ⟨_, _, _, e⟩
theorem Own.below {w w' : World} {base : Nat} {v : Value} {bs : List Nat} (h : Own w base v bs) (hb : Below w.heap.size w w') : Own w' base v bs :=
  World.ownsRow.kept h (row := Option.none) ⟨hb.os, hb.tape, hb.output, hb.size, fun k hk _ => hb.block k hk⟩ (by cases v.ownBlock <;> simp)

end Go.Proofs.Yteefeancakeebaa
