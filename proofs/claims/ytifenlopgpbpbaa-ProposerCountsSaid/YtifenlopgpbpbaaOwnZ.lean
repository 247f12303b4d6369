/- Rows of whole numbers that the call owns; append of one, or of a row, onto it. -/
import Derived.Test.YtifenlopgpbpbaaInts
import Derived.BigFrame
namespace Go.Proofs.Ytifenlopgpbpbaa
open Go.RowKit

def OwnZ (w : World) (base : Nat) (v : Value) (ns : List Int) : Prop := w.ownsRow base 3 1 v ns.length (ns.map fun n : Int => Value.int .i64 n)
theorem OwnZ.nil (w : World) (base : Nat) : OwnZ w base (.slice none 0 0) [] := World.ownsRow_nil w base _ 1
theorem OwnZ.below {w w' : World} {base : Nat} {v : Value} {ns : List Int} (h : OwnZ w base v ns) (hb : Below w.heap.size w w') : OwnZ w' base v ns :=
  World.ownsRow.kept h (row := Option.none) ⟨hb.os, hb.tape, hb.output, hb.size, fun k hk _ => hb.block k hk⟩ (by cases v.ownBlock <;> simp)
theorem OwnZ.slice {w : World} {base : Nat} {v : Value} {ns : List Int} (h : OwnZ w base v ns) : ∃ A c, v = .slice A ns.length c ∧ ns.length ≤ c ∧ c ≤ maxLen ∧ (A = none → c = 0) ∧ (0 < ns.length → ∃ g, A = some ⟨g, 0, none⟩ ∧ g < w.heap.size ∧ ∀ j (h : j < ns.length), w.cell? ⟨g, j, none⟩ = some (.int .i64 ns[j])) := by
  have h' := h
  obtain ⟨_, ⟨rfl, h0⟩ | ⟨g, cap, cur, rfl, _, hg, h1, h2, _⟩⟩ := h
  · exact ⟨none, 0, by rw [h0], by omega, by decide, fun _ => rfl, fun h => by omega⟩
  · refine ⟨_, cap, rfl, h1, h2, (fun h => by cases h), fun _ => ⟨g, rfl, heap_lt hg, fun j hj => ?_⟩⟩
    rw [World.ownsRow.cellAt h' j (by omega)]
    simp [hj]
theorem run_append_ints {w : World} {base : Nat} {v : Value} {ds xs : List Int} {g off n c : Nat} (ty : TypeId) (hown : OwnZ w base v ds) (hn : xs.length = n) (hx : ∀ j (h : j < xs.length), w.cell? ⟨g, off + j, none⟩ = some (.int .i64 xs[j]))
    (hsum : ds.length + n ≤ 1099511627776) (hbase : base ≤ w.heap.size) :
    ∃ v' w', (Builtin.append_ #[63, 63] ty #[v, .slice (some ⟨g, off, none⟩) n c]).run Try.prog w = .ok v' w' ∧ OwnZ w' base v' (ds ++ xs) ∧ w.grownBy w' v.ownBlock ∧ (v'.ownBlock = v.ownBlock ∨ v'.ownBlock = some w.heap.size) := by
  obtain ⟨i0, hi, hz0, hz1, hz2⟩ := info_parts int_info
  unfold OwnZ at *
  obtain ⟨v', w', r1, r2, r3, _, r5⟩ := run_append_own_at (P := Try.prog) w base 63 ty 3 i0 _ 1 8 Try.underlying63 hi hz0 hz1 hz2 rfl (by omega) v ds.length _ hown ⟨g, off, none⟩ n c (xs.map fun n : Int => Value.int .i64 n) (by simp [hn]) (fun j u hu => by
      rw [List.getElem?_map] at hu
      obtain ⟨x, hx1, rfl⟩ := Option.map_eq_some_iff.1 hu
      obtain ⟨hj, rfl⟩ := List.getElem?_eq_some_iff.1 hx1
      have := hx j hj
      unfold Addr.add
      split
      · rename_i h0; subst h0; simpa using this
      · exact this) (fun u hu => by
        obtain ⟨x, -, rfl⟩ := List.mem_map.1 hu
        rfl) (by simp only [maxLen]; omega) (by omega) hbase
  exact ⟨v', w', r1, by simpa [hn] using r2, r3, r5⟩
theorem wpList_append_ints {w : World} {ops : Array Oper} {rest : List Oper} {o : Oper} {a : Act} {Q : Exit → Act → World → Prop} (hgd : o.guard = none) (s x : Operand)
    (ho : o.op = .call { callee := .builtin .append, args := #[s, x], argTypes := #[63, 63] })
    {base : Nat} {v : Value} {ds xs : List Int} {g off n c : Nat} (hs : a.eval s = v) (hx : a.eval x = .slice (some ⟨g, off, none⟩) n c) (hown : OwnZ w base v ds) (hn : xs.length = n) (hy : ∀ j (h : j < xs.length), w.cell? ⟨g, off + j, none⟩ = some (.int .i64 xs[j]))
    (hsum : ds.length + n ≤ 1099511627776) (hbase : base ≤ w.heap.size)
    (h : ∀ v' w', OwnZ w' base v' (ds ++ xs) → w.grownBy w' v.ownBlock → (v'.ownBlock = v.ownBlock ∨ v'.ownBlock = some w.heap.size) → wpList Try.prog ops Q rest (a.put o.dst v') w') : wpList Try.prog ops Q (o :: rest) a w := by
  refine wpList_plain hgd fun K hK => ?_
  obtain ⟨v', w', hrun, h2, h3, h4⟩ := run_append_ints (w := w) (c := c) o.type hown hn hy hsum hbase
  unfold Oper.wp
  simp [execOp, ho, resolve, invoke, builtin, hs, hx, hrun, Result.andThen]
  exact hK _ _ (h v' w' h2 h3 h4)
/-- append at an operation whose guard says yes, where its run is known -/
theorem wpList_append_known {P : Program} {ops : Array Oper} {rest : List Oper} {o : Oper} {a : Act} {w w' : World} {Q : Exit → Act → World → Prop} {t : TypeId} {v u v' : Value} (s x : Operand)
    (ho : o.op = .call { callee := .builtin .append, args := #[s, x], argTypes := #[t, t] }) (hrun : (Builtin.append_ #[t, t] o.type #[v, u]).run P w = .ok v' w') (hs : a.eval s = v) (hx : a.eval x = u) (hw : Region.wanted o (yielded ops a.tmps) = true)
    (h : wpList P ops Q rest (a.put o.dst v') w') : wpList P ops Q (o :: rest) a w := by
  refine BigFrame.wpList_want hw fun K hK => ?_
  unfold Oper.wp
  simp [execOp, ho, resolve, invoke, builtin, hs, hx, hrun, Result.andThen]
  exact hK _ _ h
end Go.Proofs.Ytifenlopgpbpbaa
