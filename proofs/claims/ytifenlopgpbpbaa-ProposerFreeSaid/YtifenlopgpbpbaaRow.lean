/- Slices of bytes that may be read and cut; rows of bytes that the call owns, as such. -/
import Derived.Test.YtifenlopgpbpbaaBts
namespace Go.Proofs.Ytifenlopgpbpbaa
open Go.RowKit

/-- a slice of bytes that may be read and cut -/
structure Row (w : World) (A : Option Addr) (n cap : Nat) (bs : List Nat) : Prop where
  bts : Bts w w.heap.size A n bs
  nil : A = none → cap = 0
  room : n ≤ cap
  most : cap ≤ maxLen
theorem Row.below {w w' : World} {A : Option Addr} {n cap : Nat} {bs : List Nat} (h : Row w A n cap bs) (hb : Below w.heap.size w w') : Row w' A n cap bs := ⟨(h.bts.below hb).more hb.size, h.nil, h.room, h.most⟩
theorem Row.len {w : World} {A : Option Addr} {n cap : Nat} {bs : List Nat} (h : Row w A n cap bs) : bs.length = n := h.bts.1
theorem Row.none {w : World} : Row w none 0 0 [] := ⟨Bts.nil, fun _ => rfl, Nat.le_refl _, by decide⟩
theorem Own.row {w : World} {base : Nat} {v : Value} {bs : List Nat} (h : Own w base v bs) (hl : bs.length ≤ 140737505132544) (hby : ∀ c ∈ bs, c < 256) : ∃ A cap, v = .slice A bs.length cap ∧ Row w A bs.length cap bs := by
  obtain ⟨A, cap, e, hb⟩ := h.bts hl hby
  refine ⟨A, cap, e, hb, ?_, ?_, ?_⟩
  all_goals
    obtain ⟨_, ⟨e', h0⟩ | ⟨g', cap', cur, e', _, _, h1, h2, _⟩⟩ := h
    · rw [e, Value.slice.injEq] at e'; obtain ⟨rfl, e2, rfl⟩ := e'; first | (intro _; rfl) | omega | decide
    · rw [e, Value.slice.injEq] at e'; obtain ⟨rfl, e2, rfl⟩ := e'; first | (intro h; cases h) | exact h1 | exact h2
theorem Own.slice {w : World} {base : Nat} {v : Value} {bs : List Nat} (h : Own w base v bs) : ∃ A n cap, v = .slice A n cap := by
  obtain ⟨_, ⟨e, _⟩ | ⟨g', cap', cur, e, _⟩⟩ := h
  · exact ⟨_, _, _, e⟩
  · exact ⟨_, _, _, e⟩
theorem Own.below {w w' : World} {base : Nat} {v : Value} {bs : List Nat} (h : Own w base v bs) (hb : Below w.heap.size w w') : Own w' base v bs :=
  World.ownsRow.kept h (row := Option.none) ⟨hb.os, hb.tape, hb.output, hb.size, fun k hk _ => hb.block k hk⟩ (by cases v.ownBlock <;> simp)

theorem Row.block_lt {W : World} {A : Option Addr} {n cap : Nat} {cs : List Nat} (h : Row W A n cap cs) {a : Addr} (ha : A = some a) (hn : 0 < n) : a.block < W.heap.size := by
  obtain ⟨b, off, e, hlt, _⟩ := h.bts.2.2.2 hn
  rw [ha] at e
  injection e with e
  rw [e]; exact hlt
theorem Row.off {W W' : World} {A : Option Addr} {n c : Nat} {bs : List Nat} (h : Row W A n c bs) (hs : W.heap.size ≤ W'.heap.size) (hk : ∀ a, A = some a → 0 < n → W'.heap[a.block]? = W.heap[a.block]?) : Row W' A n c bs := by
  refine ⟨⟨h.bts.1, h.bts.2.1, h.bts.2.2.1, fun hn => ?_⟩, h.nil, h.room, h.most⟩
  obtain ⟨b, off, e, hlt, hcs⟩ := h.bts.2.2.2 hn
  have h9 : W'.heap[b]? = W.heap[b]? := hk _ e hn
  exact ⟨b, off, e, Nat.lt_of_lt_of_le hlt hs, fun j hj => by rw [← hcs j hj]; exact World.cell?_of_block h9⟩
/-- a slice of bytes that lie in a block of bytes -/
structure RowB (w : World) (A : Option Addr) (n cap : Nat) (bs : List Nat) : Prop where
  row : Row w A n cap bs
  typ : ∀ a, A = some a → 0 < n → ∃ cs fr, w.heap[a.block]? = some (.cells cs 5 fr)
theorem RowB.below {w w' : World} {A : Option Addr} {n cap : Nat} {bs : List Nat} (h : RowB w A n cap bs) (hb : Below w.heap.size w w') : RowB w' A n cap bs :=
  ⟨h.row.below hb, fun a ha hn => by rw [hb.block _ (h.row.block_lt ha hn)]; exact h.typ a ha hn⟩
theorem RowB.off {W W' : World} {A : Option Addr} {n c : Nat} {bs : List Nat} (h : RowB W A n c bs) (hs : W.heap.size ≤ W'.heap.size) (hk : ∀ a, A = some a → 0 < n → W'.heap[a.block]? = W.heap[a.block]?) : RowB W' A n c bs :=
  ⟨h.row.off hs hk, fun a ha hn => by rw [hk a ha hn]; exact h.typ a ha hn⟩
theorem RowB.none {w : World} : RowB w none 0 0 [] := ⟨Row.none, fun a h => by cases h⟩
/-- it lies in no block of another kind -/
theorem RowB.ne {W : World} {A : Option Addr} {n c g : Nat} {bs : List Nat} {cs : Array Value} {t : TypeId} {fr : Nat × Nat} (h : RowB W A n c bs) (hg : W.heap[g]? = some (.cells cs t fr)) (ht : t ≠ 5) : ∀ a, A = some a → 0 < n → a.block ≠ g := by
  rintro a ha hn rfl
  obtain ⟨cs', fr', e⟩ := h.typ a ha hn
  rw [hg] at e
  injection e with e
  injection e with _ e
  exact ht e
theorem Own.typ {w : World} {base : Nat} {A : Option Addr} {n c : Nat} {bs : List Nat} (h : Own w base (.slice A n c) bs) : ∀ a, A = some a → 0 < n → ∃ cs fr, w.heap[a.block]? = some (.cells cs 5 fr) := by
  intro a ha hn
  obtain ⟨_, ⟨e, h0⟩ | ⟨g, cap, cur, e, _, hg, _⟩⟩ := h
  · rw [Value.slice.injEq] at e; rw [ha] at e; cases e.1
  · rw [Value.slice.injEq] at e
    rw [ha] at e
    obtain ⟨e, _⟩ := e
    injection e with e
    subst e
    exact ⟨cur, _, hg⟩
theorem Own.rowB {w : World} {base : Nat} {v : Value} {bs : List Nat} (h : Own w base v bs) (hl : bs.length ≤ 140737505132544) (hby : ∀ c ∈ bs, c < 256) : ∃ A cap, v = .slice A bs.length cap ∧ RowB w A bs.length cap bs := by
  obtain ⟨A, cap, rfl, hr⟩ := h.row hl hby
  exact ⟨A, cap, rfl, hr, h.typ⟩
end Go.Proofs.Ytifenlopgpbpbaa
