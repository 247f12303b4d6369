/- Rows of records that the call owns; append. -/
import Derived.Test.YtnadfkcicppehaaAlgS
import Derived.Test.YtnadfkcicppehaaBts
import Derived.Maps.AppendAt
import Derived.Maps.OwnIn
import Derived.Laws.OwnMore
namespace Go.Proofs.Ytnadfkcicppehaa
open Go.RowKit

/-- a record, and where its bytes lie -/
structure It where
  r : Rc
  A : Option Addr
  c : Nat
def It.cells (x : It) : List Value := [.int .i64 x.r.kind, .int .i64 x.r.slot, .int .i64 x.r.round, .int .i64 x.r.site, .slice x.A x.r.val.length x.c]
def flatI (l : List It) : List Value := l.flatMap It.cells
theorem flatI_len : ∀ l : List It, (flatI l).length = l.length * 5
  | [] => rfl
  | x :: l => by
    have := flatI_len l
    simp only [flatI, List.flatMap_cons, List.length_append, List.length_cons] at *
    simp only [It.cells, List.length_cons, List.length_nil]
    omega
theorem flatI_at : ∀ (l : List It) (i : Nat) (h : i < l.length) (j : Nat), j < 5 → (flatI l)[i * 5 + j]? = l[i].cells[j]?
  | x :: l, 0, _, j, hj => by
    rw [flatI, List.flatMap_cons, List.getElem?_append_left (by simp [It.cells]; omega)]
    simp
  | x :: l, i + 1, h, j, hj => by
    have := flatI_at l i (by simpa using h) j hj
    rw [flatI, List.flatMap_cons, List.getElem?_append_right (by simp [It.cells]; omega)]
    rw [show (i + 1) * 5 + j - x.cells.length = i * 5 + j by simp [It.cells]; omega]
    exact this
theorem flatI_append (a b : List It) : flatI (a ++ b) = flatI a ++ flatI b := by simp [flatI]
theorem flatI_one (l : List It) : ∀ u ∈ flatI l, u.oneCell' = true := by
  intro u hu
  obtain ⟨x, _, h⟩ := List.mem_flatMap.1 hu
  simp only [It.cells, List.mem_cons, List.not_mem_nil, or_false] at h
  rcases h with rfl | rfl | rfl | rfl | rfl <;> rfl
/-- it reads as it says -/
def It.ok (w : World) (x : It) : Prop := Row w x.A x.r.val.length x.c x.r.val
theorem It.ok.kept {w W : World} {x : It} (h : x.ok w) (k : Kept w W) : x.ok W := Row.below h k.1
/-- its bytes don't lie in that block -/
def It.off (av : Option Nat) (x : It) : Prop := ∀ a, x.A = some a → 0 < x.r.val.length → av ≠ some a.block

/-- a row of records that the call owns, from block base on; their bytes lie elsewhere -/
structure OwnR (e : TypeId) (w : World) (base : Nat) (v : Value) (l : List It) : Prop where
  row : w.ownsRow base e 5 v l.length (flatI l)
  each : ∀ x ∈ l, x.ok w ∧ x.off v.ownBlock
theorem OwnR.nil (e : TypeId) (w : World) (base : Nat) : OwnR e w base (.slice none 0 0) [] := ⟨World.ownsRow_nil w base _ 5, by simp⟩
theorem OwnR.slice {e : TypeId} {w : World} {base : Nat} {v : Value} {l : List It} (h : OwnR e w base v l) : ∃ A c, v = .slice A l.length c ∧ (A = none → c = 0) ∧ l.length ≤ c ∧ c ≤ maxLen := by
  obtain ⟨_, ⟨rfl, h0⟩ | ⟨g, cap, cur, rfl, _, _, h1, h2, _⟩⟩ := h.row
  · exact ⟨none, 0, by rw [h0], fun _ => rfl, by omega, by decide⟩
  · exact ⟨_, cap, rfl, (fun e => by cases e), h1, h2⟩
/-- where nothing that it speaks of has changed -/
theorem OwnR.moved {e : TypeId} {w w' : World} {base : Nat} {v : Value} {l : List It} (h : OwnR e w base v l) (hs : w.heap.size ≤ w'.heap.size) (hr : ∀ g, v.ownBlock = some g → w'.heap[g]? = w.heap[g]?) (he : ∀ x ∈ l, ∀ a, x.A = some a → 0 < x.r.val.length → w'.heap[a.block]? = w.heap[a.block]?) : OwnR e w' base v l := by
  refine ⟨⟨h.row.1, ?_⟩, fun x hx => ⟨Row.off (h.each x hx).1 hs fun a ha hn => he x hx a ha hn, (h.each x hx).2⟩⟩
  rcases h.row.2 with h1 | ⟨g, cap, cur, rfl, h1, h2, h3⟩
  · exact .inl h1
  · exact .inr ⟨g, cap, cur, rfl, h1, (hr g rfl).trans h2, h3⟩
theorem OwnR.kept {e : TypeId} {w w' : World} {base : Nat} {v : Value} {l : List It} (h : OwnR e w base v l) (k : Kept w w') : OwnR e w' base v l :=
  h.moved k.2 (fun g hg => k.1.block g (World.ownsRow.lt h.row g hg).2) (fun x hx a ha hn => k.1.block _ (Row.block_lt (h.each x hx).1 ha hn))
theorem OwnR.base {e : TypeId} {w : World} {b b' : Nat} {v : Value} {l : List It} (h : OwnR e w b v l) (hb : b' ≤ b) : OwnR e w b' v l := by
  refine ⟨⟨h.row.1, ?_⟩, h.each⟩
  rcases h.row.2 with h1 | ⟨g, cap, cur, e1, h1, h2⟩
  · exact .inl h1
  · exact .inr ⟨g, cap, cur, e1, Nat.le_trans hb h1, h2⟩
/-- it reads as these records -/
theorem OwnR.rcs {e : TypeId} {w : World} {base : Nat} {A : Option Addr} {n c : Nat} {l : List It} (h : OwnR e w base (.slice A n c) l) (hw : ∀ x ∈ l, x.r.wf) : Rcs w A (l.map It.r) := by
  refine ⟨fun r hr => ?_, fun i hi => ?_⟩
  · obtain ⟨x, hx, rfl⟩ := List.mem_map.1 hr
    exact hw x hx
  · have hil : i < l.length := by simpa using hi
    have hrow := h.row
    obtain ⟨_, ⟨e1, h0⟩ | ⟨g, cap, cur, e1, h1, h2, h3, h4, h5, h6⟩⟩ := id hrow
    · omega
    · rw [Value.slice.injEq] at e1
      obtain ⟨rfl, rfl, rfl⟩ := e1
      have hg := heap_lt h2
      have hc : ∀ j, j < 5 → w.cell? ⟨g, 0 + i * 5 + j, none⟩ = l[i].cells[j]? := fun j hj => by
        rw [Nat.zero_add, World.ownsRow.cellAt hrow (i * 5 + j) (by have := Nat.mul_le_mul_right 5 (show i + 1 ≤ l.length by omega); omega), flatI_at l i hil j hj]
      refine ⟨g, 0, rfl, hg, ?_⟩
      rw [List.getElem_map]
      have hx := (h.each l[i] (List.getElem_mem hil)).1
      exact ⟨hc 0 (by omega), hc 1 (by omega), hc 2 (by omega), hc 3 (by omega), l[i].A, l[i].c, hc 4 (by omega), hx⟩

theorem rec_info : (Try.prog.info? 41).map (fun i => (i.zero, i.size, i.bytes)) = some (some (.agg #[.int .i64 0, .int .i64 0, .int .i64 0, .int .i64 0, .slice none 0 0]), 5, 56) := by kernel_rfl
theorem ref_info : (Try.prog.info? 44).map (fun i => (i.zero, i.size, i.bytes)) = some (some (.agg #[.int .i64 0, .int .i64 0, .int .i64 0, .int .i64 0, .slice none 0 0]), 5, 56) := by kernel_rfl
/-- behind an append onto a row that the call owns -/
theorem OwnR.grown {e : TypeId} {w w' : World} {base : Nat} {v v' : Value} {l m : List It} (h : OwnR e w base v l) (hm : ∀ x ∈ m, x.ok w ∧ x.off v.ownBlock) (hr : w'.ownsRow base e 5 v' (l.length + m.length) (flatI l ++ flatI m))
    (hg : w.grownBy w' v.ownBlock) (ha : v'.ownBlock = v.ownBlock ∨ v'.ownBlock = some w.heap.size) : OwnR e w' base v' (l ++ m) := by
  refine ⟨by rw [List.length_append, flatI_append]; exact hr, fun x hx => ?_⟩
  have hx' : x.ok w ∧ x.off v.ownBlock := by
    rcases List.mem_append.1 hx with hx | hx
    · exact h.each x hx
    · exact hm x hx
  refine ⟨Row.off hx'.1 hg.size fun a ha' hn => hg.block a.block (Row.block_lt hx'.1 ha' hn) fun e => hx'.2 a ha' hn e.symm, fun a ha' hn => ?_⟩
  rcases ha with e | e
  · rw [e]; exact hx'.2 a ha' hn
  · rw [e]
    intro e2
    injection e2 with e2
    have := Row.block_lt hx'.1 ha' hn
    omega
theorem wpList_append_rec {w : World} {ops : Array Oper} {rest : List Oper} {o : Oper} {a : Act} {Q : Exit → Act → World → Prop} (hgd : o.guard = none) (s x : Operand)
    (ho : o.op = .call { callee := .builtin .append, args := #[s, x], argTypes := #[22, 22] })
    {base : Nat} {v : Value} {l m : List It} {ad : Addr} {k c : Nat} (hs : a.eval s = v) (hx : a.eval x = .slice (some ad) k c) (hk : m.length = k) (hown : OwnR 41 w base v l) (hm : ∀ x ∈ m, x.ok w ∧ x.off v.ownBlock)
    (hc : ∀ j u, (flatI m)[j]? = some u → w.cell? (ad.add j) = some u) (hsum : l.length + k ≤ 1099511627776) (hbase : base ≤ w.heap.size)
    (h : ∀ v' w', OwnR 41 w' base v' (l ++ m) → w.grownBy w' v.ownBlock → (v'.ownBlock = v.ownBlock ∨ v'.ownBlock = some w.heap.size) → wpList Try.prog ops Q rest (a.put o.dst v') w') : wpList Try.prog ops Q (o :: rest) a w := by
  obtain ⟨i0, hi, hz0, hz1, hz2⟩ := info_parts rec_info
  subst hk
  refine wpList_append_own_at w hgd s x 22 ho base 41 i0 _ 5 56 Try.underlying22 hi hz0 hz1 hz2 rfl (by omega) v l.length (flatI l) hs hown.row ad m.length c (flatI m) hx (flatI_len m) hc (flatI_one m) (by simp only [maxLen]; omega) (by omega) hbase ?_
  intro v' w' h1 h2 h3 h4
  exact h v' w' (hown.grown hm h1 h2 h4) h2 h4
theorem wpList_append_ref {w : World} {ops : Array Oper} {rest : List Oper} {o : Oper} {a : Act} {Q : Exit → Act → World → Prop} (hgd : o.guard = none) (s x : Operand)
    (ho : o.op = .call { callee := .builtin .append, args := #[s, x], argTypes := #[32, 32] })
    {base : Nat} {v : Value} {l m : List It} {ad : Addr} {k c : Nat} (hs : a.eval s = v) (hx : a.eval x = .slice (some ad) k c) (hk : m.length = k) (hown : OwnR 44 w base v l) (hm : ∀ x ∈ m, x.ok w ∧ x.off v.ownBlock)
    (hc : ∀ j u, (flatI m)[j]? = some u → w.cell? (ad.add j) = some u) (hsum : l.length + k ≤ 1099511627776) (hbase : base ≤ w.heap.size)
    (h : ∀ v' w', OwnR 44 w' base v' (l ++ m) → w.grownBy w' v.ownBlock → (v'.ownBlock = v.ownBlock ∨ v'.ownBlock = some w.heap.size) → wpList Try.prog ops Q rest (a.put o.dst v') w') : wpList Try.prog ops Q (o :: rest) a w := by
  obtain ⟨i0, hi, hz0, hz1, hz2⟩ := info_parts ref_info
  subst hk
  refine wpList_append_own_at w hgd s x 32 ho base 44 i0 _ 5 56 Try.underlying32 hi hz0 hz1 hz2 rfl (by omega) v l.length (flatI l) hs hown.row ad m.length c (flatI m) hx (flatI_len m) hc (flatI_one m) (by simp only [maxLen]; omega) (by omega) hbase ?_
  intro v' w' h1 h2 h3 h4
  exact h v' w' (hown.grown hm h1 h2 h4) h2 h4
theorem wpListIn_append_rec {F : Fence} {n : Nat} {w : World} {ops : Array Oper} {rest : List Oper} {o : Oper} {a : Act} {Q : Exit → Act → World → Prop} (hgd : o.guard = none) (s x : Operand)
    (ho : o.op = .call { callee := .builtin .append, args := #[s, x], argTypes := #[22, 22] })
    {base : Nat} {v : Value} {l m : List It} {ad : Addr} {k c : Nat} (hs : a.eval s = v) (hx : a.eval x = .slice (some ad) k c) (hk : m.length = k) (hown : OwnR 41 w base v l) (hm : ∀ x ∈ m, x.ok w ∧ x.off v.ownBlock)
    (hc : ∀ j u, (flatI m)[j]? = some u → w.cell? (ad.add j) = some u) (hsum : l.length + k ≤ 1099511627776) (hbase : base ≤ w.heap.size)
    (h : ∀ v' w', OwnR 41 w' base v' (l ++ m) → w.grownBy w' v.ownBlock → (v'.ownBlock = v.ownBlock ∨ v'.ownBlock = some w.heap.size) → wpListIn F n Try.prog ops Q rest (a.put o.dst v') w') : wpListIn F n Try.prog ops Q (o :: rest) a w := by
  obtain ⟨i0, hi, hz0, hz1, hz2⟩ := info_parts rec_info
  subst hk
  refine wpListIn_append_own_at w hgd s x 22 ho base 41 i0 _ 5 56 Try.underlying22 hi hz0 hz1 hz2 rfl (by omega) v l.length (flatI l) hs hown.row ad m.length c (flatI m) hx (flatI_len m) hc (flatI_one m) (by simp only [maxLen]; omega) (by omega) hbase ?_
  intro v' w' h1 h2 h3 h4
  exact h v' w' (hown.grown hm h1 h2 h4) h2 h4
/-- a new block that holds one record -/
theorem cells_new (w : World) (x : It) (t : TypeId) : ∀ j u, (flatI [x])[j]? = some u → (w.alloc (.cells #[.int .i64 x.r.kind, .int .i64 x.r.slot, .int .i64 x.r.round, .int .i64 x.r.site, .slice x.A x.r.val.length x.c] t)).cell? ((⟨w.heap.size, 0, none⟩ : Addr).add j) = some u := by
  intro j u hu
  have e : (⟨w.heap.size, 0, none⟩ : Addr).add j = ⟨w.heap.size, j, none⟩ := by
    unfold Addr.add; by_cases h : j = 0 <;> simp [h]
  rw [e, World.cell?_alloc_at _ _ _ _ rfl]
  simpa [flatI, It.cells] using hu
end Go.Proofs.Ytnadfkcicppehaa
