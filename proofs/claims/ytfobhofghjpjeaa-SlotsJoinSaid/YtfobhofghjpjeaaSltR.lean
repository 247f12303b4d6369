/- Slots: Own, Count, Next: what each keeps between two rounds, and how a round moves it on. -/
import Derived.Test.YtfobhofghjpjeaaSltQ
import Derived.Test.YtfobhofghjpjeaaZs
import Derived.Maps.AppendAt
import Derived.Maps.OwnIn
import Derived.Laws.OwnMore
namespace Go.Proofs.Ytfobhofghjpjeaa
open Go.RowKit Go.Shelf
attribute [local go_sem] Oper.semAt_some

theorem results_cell_one {fn : Func} {p : Tmp} {ty : TypeId} (h : fn.results = #[.cell p ty]) (tmps : Array Value) (P : Program) (w : World) (g : Nat) (v : Value)
    (hp : tmps.getD p undef = .pointer (some ⟨g, 0, none⟩)) (hv : (loadVar ty ⟨g, 0, none⟩).run P w = .ok v w) : (results fn tmps).run P w = .ok v w := by
  have hp' : tmps[p]?.getD undef = .pointer (some ⟨g, 0, none⟩) := by simpa using hp
  simp [results, h, hp', asAddr, hv]
theorem load_int {W : World} {b : Nat} {v : Int} (h : W.cell? ⟨b, 0, none⟩ = some (.int .i64 v)) : (loadVar 3 ⟨b, 0, none⟩).run Try.prog W = .ok (.int .i64 v) W := by go_simp

theorem OwnZ.moved {w w' : World} {base : Nat} {v : Value} {l : List Int} (h : OwnZ w base v l) (hr : ∀ g, v.ownBlock = some g → w'.heap[g]? = w.heap[g]?) : OwnZ w' base v l := by
  refine ⟨h.1, ?_⟩
  rcases h.2 with h1 | ⟨g, cap, cur, rfl, h1, h2, h3⟩
  · exact .inl h1
  · exact .inr ⟨g, cap, cur, rfl, h1, (hr g rfl).trans h2, h3⟩
theorem OwnZ.base {w : World} {b b' : Nat} {v : Value} {l : List Int} (h : OwnZ w b v l) (hb : b' ≤ b) : OwnZ w b' v l := by
  refine ⟨h.1, ?_⟩
  rcases h.2 with h1 | ⟨g, cap, cur, rfl, h1, h2⟩
  · exact .inl h1
  · exact .inr ⟨g, cap, cur, rfl, Nat.le_trans hb h1, h2⟩
theorem wpListIn_append_one {F : Fence} {n : Nat} {w : World} {ops : Array Oper} {rest : List Oper} {o : Oper} {a : Act} {Q : Exit → Act → World → Prop} (hgd : o.guard = none) (s x : Operand)
    (ho : o.op = .call { callee := .builtin .append, args := #[s, x], argTypes := #[25, 25] })
    {base : Nat} {v : Value} {ds : List Int} {g : Nat} {k : Int} (hs : a.eval s = v) (hx : a.eval x = .slice (some ⟨g, 0, none⟩) 1 1) (hown : OwnZ w base v ds) (hy : w.cell? ⟨g, 0, none⟩ = some (.int .i64 k))
    (hsum : ds.length ≤ 1099511627776) (hbase : base ≤ w.heap.size)
    (h : ∀ v' w', OwnZ w' base v' (ds ++ [k]) → w.grownBy w' v.ownBlock → (v'.ownBlock = v.ownBlock ∨ v'.ownBlock = some w.heap.size) → wpListIn F n Try.prog ops Q rest (a.put o.dst v') w') : wpListIn F n Try.prog ops Q (o :: rest) a w := by
  obtain ⟨i0, hi, hz0, hz1, hz2⟩ := info_parts int_info
  refine wpListIn_append_own_at w hgd s x 25 ho base 3 i0 _ 1 8 Try.underlying25 hi hz0 hz1 hz2 rfl (by omega) v ds.length (ds.map fun n : Int => Value.int .i64 n) hs hown ⟨g, 0, none⟩ 1 1 [.int .i64 k] hx rfl (fun j u hu => by
    match j, hu with
    | 0, hu => simp at hu; subst hu; simpa [Addr.add] using hy) (fun u hu => by simp at hu; subst hu; rfl) (by simp only [maxLen]; omega) (by omega) hbase ?_
  intro v' w' h1 h2 h3 h4
  exact h v' w' (by simpa [OwnZ] using h1) h2 h4

/-- Own: those of all rounds so far lie in the box -/
def IOwn (B : Nat) (W2 : World) (L : List Int) (W : World) : Prop := SI B W2 W ∧ ∃ v, W.heap[B]? = some (.cells #[v] 25 (0, 0)) ∧ OwnZ W W2.heap.size v L
theorem IOwn.step {B : Nat} {W2 W W5 : World} {L : List Int} {x : Int} {v v' : Value} {o2 : Obj} {r0 r1 : Loop} (h : SI B W2 W) (hl2 : W2.heap[B + 6]? = some (.loop r0)) (hv : W.heap[B]? = some (.cells #[v] 25 (0, 0))) (own : OwnZ W W2.heap.size v L)
    (hg : ((W.putObj (B + 6) (.loop r1)).alloc o2).grownBy W5 v.ownBlock) (own' : OwnZ W5 W2.heap.size v' (L ++ [x])) :
    (W5.heap[B]? = some (.cells #[v] 25 (0, 0)) ∧ W5.heap[B + 6]? = some (.loop r1)) ∧ IOwn B W2 (L ++ [x]) ((W5.setCell ⟨B, 0, none⟩ v').putObj (B + 6) (.loop r0)) := by
  have hs := h.size
  have hb := h.hB
  have hva : ∀ g, v.ownBlock = some g → W2.heap.size ≤ g := fun g hg => (World.ownsRow.lt own g hg).1
  have hvb : ∀ g, v'.ownBlock = some g → W2.heap.size ≤ g := fun g hg => (World.ownsRow.lt own' g hg).1
  have hs5 : W.heap.size ≤ W5.heap.size := by have := hg.size; simp at this; omega
  have step : ∀ b, b < W2.heap.size → b ≠ B + 6 → W5.heap[b]? = W.heap[b]? := fun b hb hne => by
    rw [hg.block b (by simp; omega) (fun e => by have := hva b e.symm; omega)]
    rw [push_old _ _ (by simp; omega), World.putObj_heap_other hne]
  have hl5 : W5.heap[B + 6]? = some (.loop r1) := by
    rw [hg.block (B + 6) (by simp; omega) (fun e => by have := hva _ e.symm; omega), push_old _ _ (by simp; omega)]
    exact World.putObj_heap_same (by omega)
  have hB5 := (step B (by omega) (by omega)).trans hv
  have far : ∀ b, b ≠ B → b ≠ B + 6 → ((W5.setCell ⟨B, 0, none⟩ v').putObj (B + 6) (.loop r0)).heap[b]? = W5.heap[b]? := fun b h1 h3 => by
    rw [World.putObj_heap_other h3]
    exact Below.heap_setCell _ ⟨B, 0, none⟩ _ b h1
  refine ⟨⟨hB5, hl5⟩, ⟨hg.os.trans h.os, hg.tape.trans h.tape, hg.output.trans h.output, by simp [World.setCell]; omega, hb, fun b hb' h1 => ?_⟩, v', ?_, ?_⟩
  · by_cases h3 : b = B + 6
    · subst h3
      rw [hl2]
      exact World.putObj_heap_same (by simp [World.setCell]; omega)
    · rw [far b h1 h3, step b hb' h3]
      exact h.old b hb' h1
  · rw [World.putObj_heap_other (by omega), heap_setCell_same hB5]
    rfl
  · exact own'.moved (fun g hg' => far g (by have := hvb g hg'; omega) (by have := hvb g hg'; omega))
/-- Count: how many there were so far lies in the box -/
def ICnt (B : Nat) (W2 : World) (L : List Int) (W : World) : Prop := SI B W2 W ∧ W.heap[B]? = some (.cells #[.int .i64 (L.length : Nat)] 3 (0, 0))
theorem ICnt.step {B : Nat} {W2 W : World} {L : List Int} {x : Int} {r0 r1 : Loop} (h : ICnt B W2 L W) (hl2 : W2.heap[B + 6]? = some (.loop r0)) :
    ((W.putObj (B + 6) (.loop r1)).heap[B]? = some (.cells #[.int .i64 (L.length : Nat)] 3 (0, 0)) ∧ ((W.putObj (B + 6) (.loop r1)).setCell ⟨B, 0, none⟩ (.int .i64 ((L.length : Nat) + 1))).heap[B + 6]? = some (.loop r1)) ∧
    ICnt B W2 (L ++ [x]) (((W.putObj (B + 6) (.loop r1)).setCell ⟨B, 0, none⟩ (.int .i64 ((L.length : Nat) + 1))).putObj (B + 6) (.loop r0)) := by
  obtain ⟨h, hv⟩ := h
  have hs := h.size
  have hb := h.hB
  have hB5 : (W.putObj (B + 6) (.loop r1)).heap[B]? = some (.cells #[.int .i64 (L.length : Nat)] 3 (0, 0)) := (World.putObj_heap_other (by omega)).trans hv
  have hl5 : (W.putObj (B + 6) (.loop r1)).heap[B + 6]? = some (.loop r1) := World.putObj_heap_same (by omega)
  refine ⟨⟨hB5, (Below.heap_setCell _ ⟨B, 0, none⟩ _ (B + 6) (by simp)).trans hl5⟩, ⟨h.os, h.tape, h.output, by simp [World.setCell]; omega, hb, fun b hb' h1 => ?_⟩, ?_⟩
  · by_cases h3 : b = B + 6
    · subst h3
      rw [hl2]
      exact World.putObj_heap_same (by simp [World.setCell]; omega)
    · rw [World.putObj_heap_other h3, Below.heap_setCell _ ⟨B, 0, none⟩ _ b h1, World.putObj_heap_other h3]
      exact h.old b hb' h1
  · rw [World.putObj_heap_other (by omega), heap_setCell_same hB5]
    simp
/-- Next: there was no round; it ends with the first one -/
def INxt (B : Nat) (W2 : World) (L : List Int) (W : World) : Prop := (SI B W2 W ∧ L = []) ∧ W.heap[B]? = some (.cells #[.int .i64 0] 3 (0, 0))
structure NHit (B : Nat) (y : Sl) (W' : World) : Prop where
  one : y.L = []
  hB : B + 6 < y.W2.heap.size
  os : W'.os = y.W2.os
  tape : W'.tape = y.W2.tape
  output : W'.output = y.W2.output
  size : y.W2.heap.size ≤ W'.heap.size
  old : ∀ b, b < y.W2.heap.size → b ≠ B → b ≠ B + 6 → W'.heap[b]? = y.W2.heap[b]?
  res : W'.heap[B]? = some (.cells #[.int .i64 y.x] 3 (0, 0))
  done : ∃ r : Loop, W'.heap[B + 6]? = some (.loop r) ∧ r.state = .done ∧ r.pending = some .ret
theorem INxt.step {B : Nat} {y : Sl} {W : World} {r1 r2 : Loop} (h : INxt B y.W2 y.L W) (hr : r2.state = .done ∧ r2.pending = some .ret) :
    ((W.putObj (B + 6) (.loop r1)).heap[B]? = some (.cells #[.int .i64 0] 3 (0, 0)) ∧ ((W.putObj (B + 6) (.loop r1)).setCell ⟨B, 0, none⟩ (.int .i64 y.x)).heap[B + 6]? = some (.loop r1)) ∧
    NHit B y (((W.putObj (B + 6) (.loop r1)).setCell ⟨B, 0, none⟩ (.int .i64 y.x)).putObj (B + 6) (.loop r2)) := by
  obtain ⟨⟨h, hL⟩, hv⟩ := h
  have hs := h.size
  have hb := h.hB
  have hB5 : (W.putObj (B + 6) (.loop r1)).heap[B]? = some (.cells #[.int .i64 0] 3 (0, 0)) := (World.putObj_heap_other (by omega)).trans hv
  have hl5 : (W.putObj (B + 6) (.loop r1)).heap[B + 6]? = some (.loop r1) := World.putObj_heap_same (by omega)
  refine ⟨⟨hB5, (Below.heap_setCell _ ⟨B, 0, none⟩ _ (B + 6) (by simp)).trans hl5⟩, hL, hb, h.os, h.tape, h.output, by simp [World.setCell]; omega, fun b hb' h1 h3 => ?_, ?_, _, World.putObj_heap_same (by simp [World.setCell]; omega), hr⟩
  · rw [World.putObj_heap_other h3, Below.heap_setCell _ ⟨B, 0, none⟩ _ b h1, World.putObj_heap_other h3]
    exact h.old b hb' h1
  · rw [World.putObj_heap_other (by omega), heap_setCell_same hB5]
    rfl
end Go.Proofs.Ytfobhofghjpjeaa
