/- A region that draws its order and appends in place onto a row of ints that it made: how the worlds go on. -/
import Derived.Test.YtfobhofghjpjeaaZs
import Derived.Test.YtfobhofghjpjeaaTypedS
namespace Go.Proofs.Ytfobhofghjpjeaa
open Go.RowKit

/-- all is as it was; but a row that the region made, and that begins with a, may have been given b behind it -/
structure Fill (base : Nat) (a b : List Value) (w w' : World) : Prop where
  os : w'.os = w.os
  tape : w'.tape = w.tape
  output : w'.output = w.output
  size : w.heap.size ≤ w'.heap.size
  block : ∀ k, k < w.heap.size → w'.heap[k]? = w.heap[k]? ∨ (base ≤ k ∧ ∃ cur cur' : Array Value, w.heap[k]? = some (.cells cur 3 (0, 0)) ∧ w'.heap[k]? = some (.cells cur' 3 (0, 0)) ∧ cur'.size = cur.size ∧
    cur'.toList.take a.length = cur.toList.take a.length ∧ ¬ (cur.toList.drop a.length).take b.length = b ∧ (cur'.toList.drop a.length).take b.length = b)
theorem Kept.fill {base : Nat} {a b : List Value} {w w' : World} (h : Kept w w') : Fill base a b w w' := ⟨h.1.os, h.1.tape, h.1.output, h.2, fun k hk => .inl (h.1.block k hk)⟩
theorem Fill.trans {base : Nat} {a b : List Value} {u v w : World} (h : Fill base a b u v) (k : Fill base a b v w) : Fill base a b u w := by
  refine ⟨k.os.trans h.os, k.tape.trans h.tape, k.output.trans h.output, Nat.le_trans h.size k.size, fun j hj => ?_⟩
  rcases h.block j hj with h1 | ⟨h0, c1, c2, h1, h2, h3, h4, h5, h6⟩
  · rcases k.block j (Nat.lt_of_lt_of_le hj h.size) with k1 | ⟨k0, d1, d2, k1, k2⟩
    · exact .inl (k1.trans h1)
    · exact .inr ⟨k0, d1, d2, h1.symm.trans k1, k2⟩
  · rcases k.block j (Nat.lt_of_lt_of_le hj h.size) with k1 | ⟨_, d1, d2, k1, _, _, _, k5, _⟩
    · exact .inr ⟨h0, c1, c2, h1, k1.trans h2, h3, h4, h5, h6⟩
    · rw [h2] at k1
      injection k1 with k1
      injection k1 with k1
      subst k1
      exact absurd h6 k5
theorem Fill.kept {a b : List Value} {w w' : World} (h : Fill w.heap.size a b w w') : Kept w w' :=
  ⟨⟨h.os, h.tape, h.output, h.size, fun k hk => by
    rcases h.block k hk with h | ⟨h, _⟩
    · exact h
    · omega⟩, h.size⟩
@[reducible] def fillGrow (base : Nat) (a b : List Value) : Grow := ⟨Fill base a b, fun w => (Kept.refl w).fill, Fill.trans⟩

/-- a row that the region made -/
def OwnF (base : Nat) (ds : List Int) : Value → World → Prop := fun v w => OwnZ w base v ds
/-- a slice without room that the region made -/
def EmptyZ (base : Nat) : Value → World → Prop := fun v w => ∃ g, base ≤ g ∧ v = .slice (some ⟨g, 0, none⟩) 0 0 ∧ w.heap[g]? = some (.cells #[] 3 (0, 0))
theorem EmptyZ.fill {base : Nat} {a b : List Value} {w w' : World} {v : Value} (h : EmptyZ base v w) (k : Fill base a b w w') : EmptyZ base v w' := by
  obtain ⟨g, h1, h2, h3⟩ := h
  refine ⟨g, h1, h2, ?_⟩
  rcases k.block g (heap_lt h3) with k1 | ⟨_, c1, c2, k1, k2, k3, _⟩
  · rw [k1, h3]
  · rw [h3] at k1
    injection k1 with k1
    injection k1 with k1
    subst k1
    rw [k2]
    have : c2 = #[] := Array.eq_empty_of_size_eq_zero (by simpa using k3)
    rw [this]
theorem OwnF.fill {base : Nat} {a b : List Value} {w w' : World} {v : Value} {ds : List Int} (h : OwnF base ds v w) (k : Fill base a b w w') (hd : ds.length ≤ a.length ∨ ds.map (fun n : Int => Value.int .i64 n) = a ++ b) : OwnF base ds v w' := by
  refine ⟨h.1, ?_⟩
  rcases h.2 with h1 | ⟨g, cap, cur, rfl, h1, h2, h3, h4, h5, h6⟩
  · exact .inl h1
  · rcases k.block g (heap_lt h2) with k1 | ⟨_, c1, c2, k1, k2, k3, k4, k5, k6⟩
    · exact .inr ⟨g, cap, cur, rfl, h1, k1.trans h2, h3, h4, h5, h6⟩
    · rw [h2] at k1
      injection k1 with k1
      injection k1 with k1
      subst k1
      rw [Nat.mul_one] at h6 h5
      rcases hd with hd | hd
      · refine .inr ⟨g, cap, c2, rfl, h1, k2, h3, h4, by rw [k3, h5]; simp, ?_⟩
        rw [Nat.mul_one, ← h6]
        have e1 : ∀ l : List Value, l.take ds.length = (l.take a.length).take ds.length := fun l => by rw [List.take_take, Nat.min_eq_left hd]
        rw [e1 c2.toList, e1 cur.toList, k4]
      · exfalso
        apply k5
        have hl : ds.length = a.length + b.length := by
          have := congrArg List.length hd
          simpa using this
        rw [hd, hl] at h6
        have := congrArg (List.drop a.length) h6
        rw [List.drop_take, List.drop_left, Nat.add_sub_cancel_left] at this
        exact this
theorem kept_setRowZ {w : World} {g : Nat} {cs : Array Value} {t : TypeId} {m : Nat × Nat} (h : w.heap[g]? = some (.cells cs t m)) : Kept w (w.setRow g cs) := by
  refine ⟨⟨rfl, rfl, rfl, by simp, fun k _ => ?_⟩, by simp⟩
  by_cases hk : k = g
  · subst hk; rw [setRow_heap w k cs cs t m h, h]
  · exact setRow_other w g k cs hk
theorem exec_appendZ {ρ : Operand → Value} {o : Oper} {w w' : World} {t1 t2 : TypeId} {s x : Operand} {v u v' : Value} (ho : o.op = .call { callee := .builtin .append, args := #[s, x], argTypes := #[t1, t2] })
    (hs : ρ s = v) (hx : ρ x = u) (hrun : (Builtin.append_ #[t1, t2] o.type #[v, u]).run Try.prog w = .ok v' w') : (execOp ρ o).run Try.prog w = .ok (.value v') w' := by
  simp [execOp, ho, resolve, invoke, builtin, hs, hx, hrun, Result.andThen]
/-- append onto such a row: new memory, or in place -/
theorem run_append_fill {w : World} {base : Nat} {v : Value} {ds xs : List Int} {A : Option Addr} {n c : Nat} (ty : TypeId) (hown : OwnZ w base v ds) (hz : Zs w A n xs) (hnil : A = none → c = 0)
    (hsum : ds.length + n ≤ 1099511627776) (hbase : base ≤ w.heap.size) :
    ∃ v' w', (Builtin.append_ #[25, 25] ty #[v, .slice A n c]).run Try.prog w = .ok v' w' ∧ OwnZ w' base v' (ds ++ xs) ∧ (Kept w w' ∨
      ∃ g cap cur, v = .slice (some ⟨g, 0, none⟩) ds.length cap ∧ base ≤ g ∧ w.heap[g]? = some (.cells cur 3 (0, 0)) ∧ 0 < n ∧ ds.length + n ≤ cap ∧ cur.size = cap ∧ cur.toList.take ds.length = ds.map (fun n : Int => Value.int .i64 n) ∧
        w' = w.setRow g (cur.toList.take ds.length ++ xs.map (fun n : Int => Value.int .i64 n) ++ cur.toList.drop (ds.length + n)).toArray) := by
  obtain ⟨v', w', h1, h2, h3, h4⟩ := run_append_zs (c := c) ty hown hz hnil hsum hbase
  refine ⟨v', w', h1, h2, ?_⟩
  obtain ⟨i0, hi, hz0, hz1, hz2⟩ := info_parts int_info
  obtain ⟨hl, hcell⟩ := hz
  by_cases h0 : n = 0
  · subst h0
    obtain rfl := List.eq_nil_of_length_eq_zero hl
    refine .inl ?_
    cases A with
    | none =>
      obtain rfl := hnil rfl
      have hr := run_append_owned_none (P := Try.prog) (w := w) base 25 ty 3 i0 1 Try.underlying25 hi v ds.length _ hown
      rw [hr] at h1
      injection h1 with _ h1
      rw [← h1]
      exact Kept.refl _
    | some ad =>
      rcases hown.2 with ⟨rfl, hd⟩ | ⟨g, cap, cur, rfl, hbg, hg, hnc, hcm, hcs, htake⟩
      · have := h3.size
        exact ⟨⟨h3.os, h3.tape, h3.output, h3.size, fun k hk => h3.block k hk (by simp [Value.ownBlock])⟩, this⟩
      · have hr := run_append_room (P := Try.prog) w 25 ty 3 i0 Try.underlying25 hi g ds.length cap cur hg ad 0 c [] (by simp) (by simp) (by simp) (by omega) (by rw [hz1]; simp; omega)
        rw [hr] at h1
        injection h1 with _ h1
        rw [← h1]
        simpa using kept_setRowZ hg
  · obtain ⟨b, off, rfl, _, hcs⟩ := hcell (by omega)
    have hnews : ∀ j u, (xs.map fun n : Int => Value.int .i64 n)[j]? = some u → w.cell? ((⟨b, off, none⟩ : Addr).add j) = some u := fun j u hu => by
      rw [List.getElem?_map] at hu
      obtain ⟨x, hx1, rfl⟩ := Option.map_eq_some_iff.1 hu
      obtain ⟨hj, rfl⟩ := List.getElem?_eq_some_iff.1 hx1
      have := hcs j hj
      unfold Addr.add
      split
      · rename_i h0; subst h0; simpa using this
      · exact this
    have hone : ∀ u ∈ (xs.map fun n : Int => Value.int .i64 n), u.oneCell' = true := fun u hu => by
      obtain ⟨x, -, rfl⟩ := List.mem_map.1 hu
      rfl
    rcases hown.2 with ⟨rfl, hd⟩ | ⟨g, cap, cur, rfl, hbg, hg, hnc, hcm, hcsz, htake⟩
    · exact .inl ⟨⟨h3.os, h3.tape, h3.output, h3.size, fun k hk => h3.block k hk (by simp [Value.ownBlock])⟩, h3.size⟩
    · rw [Nat.mul_one] at hcsz htake
      by_cases hroom : ds.length + n ≤ cap
      · have hr := run_append_room (P := Try.prog) w 25 ty 3 i0 Try.underlying25 hi g ds.length cap cur hg ⟨b, off, none⟩ n c _ (by rw [hz1]; simp [hl]) hnews hone hroom (by rw [hz1, List.length_map, hl, hcsz]; omega)
        rw [hr] at h1
        injection h1 with _ h1
        refine .inr ⟨g, cap, cur, rfl, hbg, hg, by omega, hroom, hcsz, htake, ?_⟩
        rw [← h1, hz1, Nat.mul_one, List.length_map, hl]
      · left
        have holds := World.ownsRow.cells (g := g) hown rfl
        have hr := run_append_grow (P := Try.prog) w 25 ty 3 i0 (.int .i64 0) Try.underlying25 hi hz0 ⟨g, 0, none⟩ ds.length cap _ (by rw [hz1]; exact hown.1) holds ⟨b, off, none⟩ n c _ (by rw [hz1]; simp [hl]) hnews (by omega) (by omega)
          (by rw [hz2]; exact growslice_fits (by omega) (by omega))
        rw [hr] at h1
        injection h1 with _ h1
        rw [← h1]
        exact ((Kept.refl w).drew).alloc _
/-- in place: the world goes on so -/
theorem fill_of {w w' : World} {base : Nat} {v : Value} {ds xs : List Int} {n : Nat} (hl : xs.length = n) (h : Kept w w' ∨
      ∃ g cap cur, v = .slice (some ⟨g, 0, none⟩) ds.length cap ∧ base ≤ g ∧ w.heap[g]? = some (.cells cur 3 (0, 0)) ∧ 0 < n ∧ ds.length + n ≤ cap ∧ cur.size = cap ∧ cur.toList.take ds.length = ds.map (fun n : Int => Value.int .i64 n) ∧
        w' = w.setRow g (cur.toList.take ds.length ++ xs.map (fun n : Int => Value.int .i64 n) ++ cur.toList.drop (ds.length + n)).toArray) :
    Fill base (ds.map fun n : Int => Value.int .i64 n) (xs.map fun n : Int => Value.int .i64 n) w w' := by
  rcases h with h | ⟨g, cap, cur, rfl, hbg, hg, hn, hroom, hcs, htake, rfl⟩
  · exact h.fill
  · have hlt : (cur.toList.take ds.length).length = ds.length := by rw [htake, List.length_map]
    by_cases hh : (cur.toList.drop ds.length).take n = xs.map (fun n : Int => Value.int .i64 n)
    · have e : cur.toList.take ds.length ++ xs.map (fun n : Int => Value.int .i64 n) ++ cur.toList.drop (ds.length + n) = cur.toList := by
        rw [← hh, List.append_assoc, ← List.drop_drop, List.take_append_drop, List.take_append_drop]
      rw [e]
      exact Kept.fill (by simpa using kept_setRowZ hg)
    · refine ⟨rfl, rfl, rfl, by simp, fun k _ => ?_⟩
      by_cases hk : k = g
      · subst hk
        refine .inr ⟨hbg, cur, _, hg, setRow_heap w k cur _ _ _ hg, ?_, ?_, ?_, ?_⟩
        · simp only [List.size_toArray, List.length_append, hlt, List.length_map, List.length_drop, Array.length_toList, hl]
          omega
        · rw [List.length_map, List.append_assoc, List.take_left' hlt]
        · rw [List.length_map, List.length_map, hl]
          exact hh
        · rw [List.length_map, List.length_map, List.append_assoc, List.drop_left' hlt]
          exact List.take_left' (by rw [List.length_map])
      · exact .inl (setRow_other w g k _ hk)
theorem EmptyZ.mono (base : Nat) (a b : List Value) : @Slot.Mono (fillGrow base a b) (.has (EmptyZ base)) := fun _ _ _ k h => EmptyZ.fill h k
theorem OwnF.mono {base : Nat} {a b : List Value} (ds : List Int) (hd : ds.length ≤ a.length ∨ ds.map (fun n : Int => Value.int .i64 n) = a ++ b) : @Slot.Mono (fillGrow base a b) (.has (OwnF base ds)) := fun _ _ _ k h => OwnF.fill h k hd
end Go.Proofs.Ytfobhofghjpjeaa
