/- A region that draws its order and appends in place onto a row that it made, of any element type: how the worlds go on. -/
import Derived.Test.YtifenlopgpbpbaaFlat
import Derived.Test.YtifenlopgpbpbaaTypedS
namespace Go.Proofs.Ytifenlopgpbpbaa
open Go.RowKit

/-- all is as it was; but a row that the region made, and that begins with a, may have been given b behind it -/
structure FillE (e : TypeId) (base : Nat) (a b : List Value) (w w' : World) : Prop where
  os : w'.os = w.os
  tape : w'.tape = w.tape
  output : w'.output = w.output
  size : w.heap.size ≤ w'.heap.size
  block : ∀ k, k < w.heap.size → w'.heap[k]? = w.heap[k]? ∨ (base ≤ k ∧ ∃ cur cur' : Array Value, w.heap[k]? = some (.cells cur e (0, 0)) ∧ w'.heap[k]? = some (.cells cur' e (0, 0)) ∧ cur'.size = cur.size ∧
    cur'.toList.take a.length = cur.toList.take a.length ∧ ¬ (cur.toList.drop a.length).take b.length = b ∧ (cur'.toList.drop a.length).take b.length = b)
theorem Kept.fillE {e : TypeId} {base : Nat} {a b : List Value} {w w' : World} (h : Kept w w') : FillE e base a b w w' := ⟨h.1.os, h.1.tape, h.1.output, h.2, fun k hk => .inl (h.1.block k hk)⟩
theorem FillE.trans {e : TypeId} {base : Nat} {a b : List Value} {u v w : World} (h : FillE e base a b u v) (k : FillE e base a b v w) : FillE e base a b u w := by
  refine ⟨k.os.trans h.os, k.tape.trans h.tape, k.output.trans h.output, Nat.le_trans h.size k.size, fun j hj => ?_⟩
  rcases h.block j hj with h1 | ⟨h0, c1, c2, h1, h2, h3, h4, h5, h6⟩
  · rcases k.block j (Nat.lt_of_lt_of_le hj h.size) with k1 | ⟨k0, d1, d2, k1, k2⟩
    · exact .inl (k1.trans h1)
    · exact .inr ⟨k0, d1, d2, h1.symm.trans k1, k2⟩
  · rcases k.block j (Nat.lt_of_lt_of_le hj h.size) with k1 | ⟨_, d1, d2, k1, _, _, _, k5, _⟩
    · exact .inr ⟨h0, c1, c2, h1, k1.trans h2, h3, h4, h5, h6⟩
    · rw [h2] at k1
      injection k1 with k1
      injection k1 with k1
      subst k1
      exact absurd h6 k5
theorem FillE.kept {e : TypeId} {a b : List Value} {w w' : World} (h : FillE e w.heap.size a b w w') : Kept w w' :=
  ⟨⟨h.os, h.tape, h.output, h.size, fun k hk => by
    rcases h.block k hk with h | ⟨h, _⟩
    · exact h
    · omega⟩, h.size⟩
@[reducible] def fillGrowE (e : TypeId) (base : Nat) (a b : List Value) : Grow := ⟨FillE e base a b, fun w => (Kept.refl w).fillE, FillE.trans⟩

section
variable {α : Type} {t e : TypeId}
/-- a row that the region made -/
def OwnFE (E : Elem t e α) (base : Nat) (ds : List α) : Value → World → Prop := fun v w => E.Own w base v ds
/-- a slice without room that the region made -/
def EmptyE (e : TypeId) (base : Nat) : Value → World → Prop := fun v w => ∃ g, base ≤ g ∧ v = .slice (some ⟨g, 0, none⟩) 0 0 ∧ w.heap[g]? = some (.cells #[] e (0, 0))
theorem EmptyE.fill {base : Nat} {a b : List Value} {w w' : World} {v : Value} (h : EmptyE e base v w) (k : FillE e base a b w w') : EmptyE e base v w' := by
  obtain ⟨g, h1, h2, h3⟩ := h
  refine ⟨g, h1, h2, ?_⟩
  rcases k.block g (heap_lt h3) with k1 | ⟨_, c1, c2, k1, k2, k3, _⟩
  · rw [k1, h3]
  · rw [h3] at k1
    injection k1 with k1
    injection k1 with k1
    subst k1
    rw [k2]
    have : c2 = #[] := Array.eq_empty_of_size_eq_zero (by simpa using k3)
    rw [this]
theorem OwnFE.fill {E : Elem t e α} {base : Nat} {a b : List Value} {w w' : World} {v : Value} {ds : List α} (h : OwnFE E base ds v w) (k : FillE e base a b w w') (hd : (E.flat ds).length ≤ a.length ∨ E.flat ds = a ++ b) : OwnFE E base ds v w' := by
  refine ⟨h.1, ?_⟩
  rcases h.2 with h1 | ⟨g, cap, cur, rfl, h1, h2, h3, h4, h5, h6⟩
  · exact .inl h1
  · rcases k.block g (heap_lt h2) with k1 | ⟨_, c1, c2, k1, k2, k3, k4, k5, k6⟩
    · exact .inr ⟨g, cap, cur, rfl, h1, k1.trans h2, h3, h4, h5, h6⟩
    · rw [h2] at k1
      injection k1 with k1
      injection k1 with k1
      subst k1
      have hfl := E.flat_len ds
      rcases hd with hd | hd
      · refine .inr ⟨g, cap, c2, rfl, h1, k2, h3, h4, by rw [k3, h5], ?_⟩
        rw [← h6]
        have e1 : ∀ l : List Value, l.take (ds.length * E.k) = (l.take a.length).take (ds.length * E.k) := fun l => by rw [List.take_take, Nat.min_eq_left (by omega)]
        rw [e1 c2.toList, e1 cur.toList, k4]
      · exfalso
        apply k5
        have hl : ds.length * E.k = a.length + b.length := by
          have := congrArg List.length hd
          rw [hfl] at this
          simpa using this
        rw [hd, hl] at h6
        have := congrArg (List.drop a.length) h6
        rw [List.drop_take, List.drop_left, Nat.add_sub_cancel_left] at this
        exact this
theorem kept_setRowE {w : World} {g : Nat} {cs : Array Value} {t : TypeId} {m : Nat × Nat} (h : w.heap[g]? = some (.cells cs t m)) : Kept w (w.setRow g cs) := by
  refine ⟨⟨rfl, rfl, rfl, by simp, fun k _ => ?_⟩, by simp⟩
  by_cases hk : k = g
  · subst hk; rw [setRow_heap w k cs cs t m h, h]
  · exact setRow_other w g k cs hk
theorem exec_appendE {ρ : Operand → Value} {o : Oper} {w w' : World} {t1 t2 : TypeId} {s x : Operand} {v u v' : Value} (ho : o.op = .call { callee := .builtin .append, args := #[s, x], argTypes := #[t1, t2] })
    (hs : ρ s = v) (hx : ρ x = u) (hrun : (Builtin.append_ #[t1, t2] o.type #[v, u]).run Try.prog w = .ok v' w') : (execOp ρ o).run Try.prog w = .ok (.value v') w' := by
  simp [execOp, ho, resolve, invoke, builtin, hs, hx, hrun, Result.andThen]
/-- append onto such a row: new memory, or in place -/
theorem run_append_fillE {E : Elem t e α} {w : World} {base : Nat} {v : Value} {ds xs : List α} {A : Option Addr} {n c : Nat} (ty : TypeId) (hown : E.Own w base v ds) (hx : E.Reads w A xs) (hn : xs.length = n) (hnil : A = none → c = 0)
    (hsum : ds.length + n ≤ 1073741824) (hbase : base ≤ w.heap.size) :
    ∃ v' w', (Builtin.append_ #[t, t] ty #[v, .slice A n c]).run Try.prog w = .ok v' w' ∧ E.Own w' base v' (ds ++ xs) ∧ (Kept w w' ∨
      ∃ g cap cur, v = .slice (some ⟨g, 0, none⟩) ds.length cap ∧ base ≤ g ∧ w.heap[g]? = some (.cells cur e (0, 0)) ∧ 0 < n ∧ ds.length + n ≤ cap ∧ cur.size = cap * E.k ∧ cur.toList.take (ds.length * E.k) = E.flat ds ∧
        w' = w.setRow g (cur.toList.take (ds.length * E.k) ++ E.flat xs ++ cur.toList.drop (ds.length * E.k + (E.flat xs).length)).toArray) := by
  obtain ⟨v', w', h1, h2, h3, h4⟩ := E.run_append (c := c) ty hown hx hn hnil (by omega) hbase
  refine ⟨v', w', h1, h2, ?_⟩
  obtain ⟨i0, hi, hz0, hz1, hz2⟩ := info_parts E.info
  subst hn
  cases A with
  | none =>
    have h0 : xs = [] := by
      cases xs with
      | nil => rfl
      | cons x xs => obtain ⟨b, off, e1, _⟩ := hx 0 (by simp); cases e1
    subst h0
    obtain rfl := hnil rfl
    have hr := run_append_owned_none (P := Try.prog) (w := w) base t ty e i0 E.k E.und hi v ds.length _ hown
    simp only [List.length_nil] at h1
    rw [hr] at h1
    injection h1 with _ h1
    rw [← h1]
    exact .inl (Kept.refl _)
  | some ad =>
    have hnews : ∀ j u, (E.flat xs)[j]? = some u → w.cell? (ad.add j) = some u := fun j u hu => by
      have hj : j < xs.length * E.k := by
        rw [← E.flat_len xs]
        exact (List.getElem?_eq_some_iff.1 hu).1
      have hi2 : j / E.k < xs.length := Nat.div_lt_of_lt_mul (by rw [Nat.mul_comm]; exact hj)
      have hm : j % E.k < E.k := Nat.mod_lt _ E.pos
      have he : j / E.k * E.k + j % E.k = j := by rw [Nat.mul_comm]; exact Nat.div_add_mod j E.k
      obtain ⟨b, off, e1, hb, hcs⟩ := hx (j / E.k) hi2
      injection e1 with e1
      subst e1
      rw [← he, E.flat_at xs _ hi2 _ hm] at hu
      have := hcs _ u hu
      rw [Nat.add_assoc, he] at this
      unfold Addr.add
      split
      · rename_i h0; subst h0; simpa using this
      · exact this
    rcases hown.2 with ⟨rfl, hd⟩ | ⟨g, cap, cur, rfl, hbg, hg, hnc, hcm, hcsz, htake⟩
    · exact .inl ⟨⟨h3.os, h3.tape, h3.output, h3.size, fun k hk => h3.block k hk (by simp [Value.ownBlock])⟩, h3.size⟩
    · by_cases hroom : ds.length + xs.length ≤ cap
      · have hr := run_append_room (P := Try.prog) w t ty e i0 E.und hi g ds.length cap cur hg ad xs.length c (E.flat xs) (by rw [hz1]; exact E.flat_len xs) hnews (E.flat_one xs) hroom (by
          rw [hz1, E.flat_len, hcsz, ← Nat.add_mul]
          exact Nat.mul_le_mul_right _ hroom)
        rw [hr] at h1
        injection h1 with _ h1
        by_cases h0 : xs = []
        · subst h0
          left
          rw [← h1]
          have : E.flat ([] : List α) = [] := rfl
          rw [this]
          simpa using kept_setRowE hg
        · refine .inr ⟨g, cap, cur, rfl, hbg, hg, by cases xs with | nil => exact absurd rfl h0 | cons => simp, hroom, hcsz, htake, ?_⟩
          rw [← h1, hz1]
      · left
        have holds := World.ownsRow.cells (g := g) hown rfl
        have hb : (ds.length + xs.length) * E.nb ≤ 137438953472 := Nat.le_trans (Nat.mul_le_mul hsum E.few) (by decide)
        have hr := run_append_grow (P := Try.prog) w t ty e i0 E.z E.und hi hz0 ⟨g, 0, none⟩ ds.length cap _ (by rw [hz1]; exact hown.1) holds ad xs.length c (E.flat xs) (by rw [hz1]; exact E.flat_len xs) hnews (by omega) (by omega)
          (by
            rw [hz2]
            refine growslice_fits_wide (by omega) ?_
            have h1 : ds.length + xs.length + (ds.length + xs.length) / 4 + 192 ≤ 1610612736 := by omega
            exact Nat.le_trans (Nat.mul_le_mul h1 E.few) (by decide))
        rw [hr] at h1
        injection h1 with _ h1
        rw [← h1]
        exact ((Kept.refl w).drew).alloc _
/-- in place: the world goes on so -/
theorem fill_ofE {E : Elem t e α} {w w' : World} {base : Nat} {v : Value} {ds xs : List α} {n : Nat} (h : Kept w w' ∨
      ∃ g cap cur, v = .slice (some ⟨g, 0, none⟩) ds.length cap ∧ base ≤ g ∧ w.heap[g]? = some (.cells cur e (0, 0)) ∧ 0 < n ∧ ds.length + n ≤ cap ∧ cur.size = cap * E.k ∧ cur.toList.take (ds.length * E.k) = E.flat ds ∧
        w' = w.setRow g (cur.toList.take (ds.length * E.k) ++ E.flat xs ++ cur.toList.drop (ds.length * E.k + (E.flat xs).length)).toArray) (hl : xs.length = n) :
    FillE e base (E.flat ds) (E.flat xs) w w' := by
  rcases h with h | ⟨g, cap, cur, rfl, hbg, hg, hn, hroom, hcs, htake, rfl⟩
  · exact h.fillE
  · have hlt : (cur.toList.take (ds.length * E.k)).length = ds.length * E.k := by rw [htake, E.flat_len]
    have hfd := E.flat_len ds
    have hfx := E.flat_len xs
    have hsz : ds.length * E.k + xs.length * E.k ≤ cur.size := by rw [hcs, ← Nat.add_mul]; exact Nat.mul_le_mul_right _ (by omega)
    by_cases hh : (cur.toList.drop (ds.length * E.k)).take (E.flat xs).length = E.flat xs
    · have e : cur.toList.take (ds.length * E.k) ++ E.flat xs ++ cur.toList.drop (ds.length * E.k + (E.flat xs).length) = cur.toList := by
        conv => lhs; arg 1; arg 2; rw [← hh]
        rw [List.append_assoc, ← List.drop_drop, List.take_append_drop, List.take_append_drop]
      rw [e]
      exact Kept.fillE (by simpa using kept_setRowE hg)
    · refine ⟨rfl, rfl, rfl, by simp, fun k _ => ?_⟩
      by_cases hk : k = g
      · subst hk
        refine .inr ⟨hbg, cur, _, hg, setRow_heap w k cur _ _ _ hg, ?_, ?_, ?_, ?_⟩
        · simp only [List.size_toArray, List.length_append, hlt, List.length_drop, Array.length_toList, hfx]
          omega
        · rw [hfd, List.append_assoc, List.take_left' hlt]
        · rw [hfd]
          exact hh
        · rw [hfd, List.append_assoc, List.drop_left' hlt]
          exact List.take_left' rfl
      · exact .inl (setRow_other w g k _ hk)
theorem EmptyE.mono (e : TypeId) (base : Nat) (a b : List Value) : @Slot.Mono (fillGrowE e base a b) (.has (EmptyE e base)) := fun _ _ _ k h => EmptyE.fill h k
theorem OwnFE.mono {E : Elem t e α} {base : Nat} {a b : List Value} (ds : List α) (hd : (E.flat ds).length ≤ a.length ∨ E.flat ds = a ++ b) : @Slot.Mono (fillGrowE e base a b) (.has (OwnFE E base ds)) := fun _ _ _ k h => OwnFE.fill h k hd
/-- a literal of one element that the region made -/
def OneE (E : Elem t e α) (base : Nat) (x : α) : Value → World → Prop := fun v w => ∃ g, base ≤ g ∧ v = .slice (some ⟨g, 0, none⟩) 1 1 ∧ w.heap[g]? = some (.cells (E.cl x).toArray e (0, 0))
theorem OneE.reads {E : Elem t e α} {x : α} {g : Nat} {w : World} (h : w.heap[g]? = some (.cells (E.cl x).toArray e (0, 0))) : E.Reads w (some ⟨g, 0, none⟩) [x] := by
  intro i hi
  obtain rfl : i = 0 := by simpa using hi
  refine ⟨g, 0, rfl, heap_lt h, fun j u hu => ?_⟩
  simp only [List.getElem_cons_zero] at hu
  rw [cell_of_heap h (0 + 0 * E.k + j)]
  simpa using hu
/-- it stays, where rows that begin with more are given more -/
theorem OneE.fill {E : Elem t e α} {base : Nat} {x : α} {a b : List Value} {w w' : World} {v : Value} (h : OneE E base x v w) (k : FillE e base a b w w') (hb : b = E.cl x) : OneE E base x v w' := by
  obtain ⟨g, h1, h2, h3⟩ := h
  refine ⟨g, h1, h2, ?_⟩
  rcases k.block g (heap_lt h3) with k1 | ⟨_, c1, c2, k1, k2, k3, k4, k5, k6⟩
  · rw [k1, h3]
  · exfalso
    rw [h3] at k1
    injection k1 with k1
    injection k1 with k1
    have hx := E.len x
    have hs : c2.toList.length = E.k := by rw [Array.length_toList, k3, ← k1]; simp [E.len]
    have hbl : b.length = E.k := by rw [hb]; exact hx
    have hp := E.pos
    by_cases ha : a.length = 0
    · apply k5
      rw [ha, ← k1, List.drop_zero, hbl]
      rw [hb, List.take_of_length_le (by show (E.cl x).length ≤ E.k; omega)]
    · have hl := congrArg List.length k6
      rw [List.length_take, List.length_drop, hs, hbl] at hl
      omega
theorem OneE.mono {E : Elem t e α} (base : Nat) (x : α) (a : List Value) : @Slot.Mono (fillGrowE e base a (E.flat [x])) (.has (OneE E base x)) := fun _ _ _ k h => OneE.fill h k (by simp [Elem.flat])
end
end Go.Proofs.Ytifenlopgpbpbaa
