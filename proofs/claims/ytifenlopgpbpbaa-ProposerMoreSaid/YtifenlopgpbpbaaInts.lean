/- Rows of ints that the call owns; append of one; what lies apart from a row that grows. Numbers of the program: the types []int and int. -/
import Derived.Test.YtifenlopgpbpbaaBts
import Derived.Test.YtifenlopgpbpbaaRows
import Derived.Test.YtifenlopgpbpbaaOpen
import Derived.Test.YtifenlopgpbpbaaQuiet
import Derived.WalkKit
import Derived.Below
import Derived.Maps.AppendAt
import Derived.Deep.DeepAppendWide
import Derived.Laws.AppendOwnNone
import Derived.Lib.Hide
namespace Go.Proofs.Ytifenlopgpbpbaa
open Go.RowKit


def OwnI (w : World) (base : Nat) (v : Value) (ns : List Nat) : Prop := w.ownsRow base 3 1 v ns.length (ns.map fun n : Nat => Value.int .i64 (n : Int))
theorem OwnI.nil (w : World) (base : Nat) : OwnI w base (.slice none 0 0) [] := World.ownsRow_nil w base _ 1
theorem OwnI.below {w w' : World} {base : Nat} {v : Value} {ns : List Nat} (h : OwnI w base v ns) (hb : Below w.heap.size w w') : OwnI w' base v ns :=
  World.ownsRow.kept h (row := Option.none) ⟨hb.os, hb.tape, hb.output, hb.size, fun k hk _ => hb.block k hk⟩ (by cases v.ownBlock <;> simp)
theorem OwnI.slice {w : World} {base : Nat} {v : Value} {ns : List Nat} (h : OwnI w base v ns) : ∃ A c, v = .slice A ns.length c ∧ ns.length ≤ c ∧ c ≤ maxLen ∧ (A = none → c = 0) ∧ (0 < ns.length → ∃ g, A = some ⟨g, 0, none⟩ ∧ ∀ j, j < ns.length → w.cell? ⟨g, j, none⟩ = some (.int .i64 (ns.getD j 0 : Nat))) := by
  have h' := h
  obtain ⟨_, ⟨rfl, h0⟩ | ⟨g, cap, cur, rfl, _, _, h1, h2, _⟩⟩ := h
  · exact ⟨none, 0, by rw [h0], by omega, by decide, fun _ => rfl, fun h => by omega⟩
  · refine ⟨_, cap, rfl, h1, h2, (fun h => by cases h), fun _ => ⟨g, rfl, fun j hj => ?_⟩⟩
    rw [World.ownsRow.cellAt h' j (by omega)]
    simp [hj]
theorem int_info : (Try.prog.info? 3).map (fun i => (i.zero, i.size, i.bytes)) = some (some (.int .i64 0), 1, 8) := by kernel_rfl
theorem run_append_int {w : World} {base : Nat} {v : Value} {ds : List Nat} {g k : Nat} (ty : TypeId) (hown : OwnI w base v ds) (hx : w.cell? ⟨g, 0, none⟩ = some (.int .i64 (k : Int)))
    (hsum : ds.length ≤ 1099511627776) (hbase : base ≤ w.heap.size) :
    ∃ v' w', (Builtin.append_ #[63, 63] ty #[v, .slice (some ⟨g, 0, none⟩) 1 1]).run Try.prog w = .ok v' w' ∧ OwnI w' base v' (ds ++ [k]) ∧ w.grownBy w' v.ownBlock ∧ (v'.ownBlock = v.ownBlock ∨ v'.ownBlock = some w.heap.size) := by
  obtain ⟨i0, hi, hz0, hz1, hz2⟩ := info_parts int_info
  unfold OwnI at *
  obtain ⟨v', w', r1, r2, r3, _, r5⟩ := run_append_own_at (P := Try.prog) w base 63 ty 3 i0 _ 1 8 Try.underlying63 hi hz0 hz1 hz2 rfl (by omega) v ds.length _ hown ⟨g, 0, none⟩ 1 1 [.int .i64 (k : Int)] rfl (fun j u hu => by
      match j, hu with
      | 0, hu => simp at hu; subst hu; simpa [Addr.add] using hx) (fun u hu => by simp at hu; subst hu; rfl) (by simp only [maxLen]; omega) (by omega) hbase
  exact ⟨v', w', r1, by simpa using r2, r3, r5⟩
theorem wpList_append_int {w : World} {ops : Array Oper} {rest : List Oper} {o : Oper} {a : Act} {Q : Exit → Act → World → Prop} (hgd : o.guard = none) (s x : Operand)
    (ho : o.op = .call { callee := .builtin .append, args := #[s, x], argTypes := #[63, 63] })
    {base : Nat} {v : Value} {ds : List Nat} {g k : Nat} (hs : a.eval s = v) (hx : a.eval x = .slice (some ⟨g, 0, none⟩) 1 1) (hown : OwnI w base v ds) (hy : w.cell? ⟨g, 0, none⟩ = some (.int .i64 (k : Int)))
    (hsum : ds.length ≤ 1099511627776) (hbase : base ≤ w.heap.size)
    (h : ∀ v' w', OwnI w' base v' (ds ++ [k]) → w.grownBy w' v.ownBlock → (v'.ownBlock = v.ownBlock ∨ v'.ownBlock = some w.heap.size) → wpList Try.prog ops Q rest (a.put o.dst v') w') : wpList Try.prog ops Q (o :: rest) a w := by
  refine wpList_plain hgd fun K hK => ?_
  obtain ⟨v', w', hrun, h2, h3, h4⟩ := run_append_int (w := w) o.type hown hy hsum hbase
  unfold Oper.wp
  simp [execOp, ho, resolve, invoke, builtin, hs, hx, hrun, Result.andThen]
  exact hK _ _ (h v' w' h2 h3 h4)
/-- a row that is apart from one that grows -/
theorem row_other {w w' : World} {base n size : Nat} {e : TypeId} {u v : Value} {xs : List Value} (hu : w.ownsRow base e size u n xs) (hne : Apart u v) (hg : w.grownBy w' v.ownBlock) : w'.ownsRow base e size u n xs := by
  refine World.ownsRow.kept hu hg ?_
  cases h : u.ownBlock with
  | none => exact .inl rfl
  | some g => exact .inr (fun e => hne g h e.symm)
theorem row_apart_new {w : World} {base n size : Nat} {e : TypeId} {u v v' : Value} {xs : List Value} (hu : w.ownsRow base e size u n xs) (hne : Apart u v) (h : v'.ownBlock = v.ownBlock ∨ v'.ownBlock = some w.heap.size) : Apart u v' := by
  intro g hg he
  rcases h with h | h
  · exact hne g hg (h ▸ he)
  · have := (World.ownsRow.lt hu g hg).2
    rw [h] at he
    injection he with he
    omega
theorem Kept.grow {w W W' : World} {base n size : Nat} {e : TypeId} {v : Value} {xs : List Value} (hk : Kept w W) (hown : W.ownsRow base e size v n xs) (hb : w.heap.size ≤ base) (hg : W.grownBy W' v.ownBlock) : Kept w W' :=
  ⟨hk.1.grown hg hk.2 (fun k h => Nat.le_trans hb (World.ownsRow.lt hown k h).1), Nat.le_trans hk.2 hg.size⟩

end Go.Proofs.Ytifenlopgpbpbaa
