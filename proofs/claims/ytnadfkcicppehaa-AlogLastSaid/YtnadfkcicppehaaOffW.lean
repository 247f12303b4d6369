/- What an object that has bytes of its own (a Writer, a Disk) leaves as it was. -/
import Derived.Test.YtnadfkcicppehaaBts
namespace Go.Proofs.Ytnadfkcicppehaa
open Go.RowKit

/-- the block of the bytes of the object at g, which are its first field -/
def rowOf (W : World) (g : Nat) : Option Nat := match W.heap[g]? with
  | some (.cells cs _ _) => (cs.getD 0 undef).ownBlock
  | _ => none
theorem rowOf_is {W : World} {g : Nat} {v : Value} {t : TypeId} {m : Nat × Nat} (h : W.heap[g]? = some (.cells #[v] t m)) : rowOf W g = v.ownBlock := by
  unfold rowOf; rw [h]; rfl
/-- of what was there only the object at g, and its bytes, have changed -/
structure OffW (g : Nat) (W W' : World) : Prop where
  size : W.heap.size ≤ W'.heap.size
  rest : ∀ k, k < W.heap.size → k ≠ g → rowOf W g ≠ some k → W'.heap[k]? = W.heap[k]?
  row : rowOf W' g = rowOf W g ∨ ∃ j, W.heap.size ≤ j ∧ rowOf W' g = some j
theorem OffW.refl (g : Nat) (W : World) : OffW g W W := ⟨Nat.le_refl _, fun _ _ _ _ => rfl, .inl rfl⟩
theorem OffW.trans {g : Nat} {a b c : World} (h : OffW g a b) (k : OffW g b c) : OffW g a c := by
  refine ⟨Nat.le_trans h.size k.size, fun i hi hn hr => ?_, ?_⟩
  · refine (k.rest i (Nat.lt_of_lt_of_le hi h.size) hn ?_).trans (h.rest i hi hn hr)
    rcases h.row with e | ⟨j, hj, e⟩
    · rw [e]; exact hr
    · rw [e]; intro e2; injection e2 with e2; omega
  · rcases k.row with e | ⟨j, hj, e⟩
    · rw [e]; exact h.row
    · exact .inr ⟨j, Nat.le_trans h.size hj, e⟩
/-- bytes that are neither the object's nor new read as they did -/
theorem OffW.bts {g : Nat} {W W' : World} (h : OffW g W W') {B n : Nat} {A : Option Addr} {cs : List Nat} (hc : Bts W B A n cs) (ha : ∀ a, A = some a → 0 < n → a.block ≠ g ∧ rowOf W g ≠ some a.block) : Bts W' B A n cs := by
  refine ⟨hc.1, hc.2.1, hc.2.2.1, fun hn => ?_⟩
  obtain ⟨b, off, e, hlt, hcs⟩ := hc.2.2.2 hn
  obtain ⟨h1, h2⟩ := ha _ e hn
  refine ⟨b, off, e, hlt, fun j hj => ?_⟩
  have hcj := hcs j hj
  rw [← hcj]
  exact World.cell?_of_block (h.rest b (cell_lt hcj) h1 h2)

theorem OffW.of_below {g : Nat} {W W' : World} (h : Below W.heap.size W W') (hg : g < W.heap.size) : OffW g W W' :=
  ⟨h.size, fun k hk _ _ => h.block k hk, .inl (by unfold rowOf; rw [h.block g hg])⟩

/-- the same, where the object may also come to have no bytes of its own -/
structure OffO (g : Nat) (W W' : World) : Prop where
  size : W.heap.size ≤ W'.heap.size
  rest : ∀ k, k < W.heap.size → k ≠ g → rowOf W g ≠ some k → W'.heap[k]? = W.heap[k]?
  row : ∀ j, rowOf W' g = some j → j < W.heap.size → rowOf W g = some j
theorem OffO.refl (g : Nat) (W : World) : OffO g W W := ⟨Nat.le_refl _, fun _ _ _ _ => rfl, fun _ h _ => h⟩
theorem OffO.trans {g : Nat} {a b c : World} (h : OffO g a b) (k : OffO g b c) : OffO g a c :=
  ⟨Nat.le_trans h.size k.size, fun i hi hn hr => (k.rest i (Nat.lt_of_lt_of_le hi h.size) hn (fun e => hr (h.row i e hi))).trans (h.rest i hi hn hr), fun j hj hlt => h.row j (k.row j hj (Nat.lt_of_lt_of_le hlt h.size)) hlt⟩
theorem OffO.of_below {g : Nat} {W W' : World} (h : Below W.heap.size W W') (hg : g < W.heap.size) : OffO g W W' :=
  ⟨h.size, fun k hk _ _ => h.block k hk, fun j hj _ => by unfold rowOf at *; rwa [h.block g hg] at hj⟩
theorem OffO.bts {g : Nat} {W W' : World} (h : OffO g W W') {B n : Nat} {A : Option Addr} {cs : List Nat} (hc : Bts W B A n cs) (ha : ∀ a, A = some a → 0 < n → a.block ≠ g ∧ rowOf W g ≠ some a.block) : Bts W' B A n cs := by
  refine ⟨hc.1, hc.2.1, hc.2.2.1, fun hn => ?_⟩
  obtain ⟨b, off, e, hlt, hcs⟩ := hc.2.2.2 hn
  obtain ⟨h1, h2⟩ := ha _ e hn
  refine ⟨b, off, e, hlt, fun j hj => ?_⟩
  have hcj := hcs j hj
  rw [← hcj]
  exact World.cell?_of_block (h.rest b (cell_lt hcj) h1 h2)
end Go.Proofs.Ytnadfkcicppehaa
