/- Rows of records in memory. -/
import Derived.Test.YtmjgpgnecohbcaaAlgP
import Derived.Test.YtmjgpgnecohbcaaMgA
import Derived.Maps.AppendAt
import Derived.Maps.OwnIn
import Derived.Laws.OwnMore

namespace Go.Proofs.Ytmjgpgnecohbcaa
open Go.RowKit

/-- a record stands at this place -/
def RcAt (w : World) (b o : Nat) (r : Rc) : Prop :=
  w.cell? ⟨b, o, none⟩ = some (.int .i64 r.kind) ∧ w.cell? ⟨b, o + 1, none⟩ = some (.int .i64 r.slot) ∧ w.cell? ⟨b, o + 2, none⟩ = some (.int .i64 r.round) ∧ w.cell? ⟨b, o + 3, none⟩ = some (.int .i64 r.site) ∧
    ∃ A c, w.cell? ⟨b, o + 4, none⟩ = some (.slice A r.val.length c) ∧ Row w A r.val.length c r.val
/-- the slice at A reads as these records -/
def Rcs (w : World) (A : Option Addr) (l : List Rc) : Prop :=
  (∀ r ∈ l, r.wf) ∧ ∀ (i : Nat) (h : i < l.length), ∃ b off, A = some ⟨b, off, none⟩ ∧ b < w.heap.size ∧ RcAt w b (off + i * 5) l[i]
theorem RcAt.kept {w W : World} {b o : Nat} {r : Rc} (h : RcAt w b o r) (k : Kept w W) : RcAt W b o r := by
  obtain ⟨h0, h1, h2, h3, A, c, h4, h5⟩ := h
  exact ⟨(k.cell (p := ⟨b, o, none⟩) (cell_lt h0)).trans h0, (k.cell (p := ⟨b, o + 1, none⟩) (cell_lt h1)).trans h1, (k.cell (p := ⟨b, o + 2, none⟩) (cell_lt h2)).trans h2, (k.cell (p := ⟨b, o + 3, none⟩) (cell_lt h3)).trans h3, A, c, (k.cell (p := ⟨b, o + 4, none⟩) (cell_lt h4)).trans h4, h5.below k.1⟩
theorem Rcs.kept {w W : World} {A : Option Addr} {l : List Rc} (h : Rcs w A l) (k : Kept w W) : Rcs W A l := by
  refine ⟨h.1, fun i hi => ?_⟩
  obtain ⟨b, off, e, hb, hr⟩ := h.2 i hi
  exact ⟨b, off, e, Nat.lt_of_lt_of_le hb k.2, hr.kept k⟩
theorem Rcs.nil {w : World} {A : Option Addr} : Rcs w A [] := ⟨by simp, fun i h => absurd h (by simp)⟩
theorem Rcs.take {w : World} {A : Option Addr} {l : List Rc} (h : Rcs w A l) (k : Nat) : Rcs w A (l.take k) := by
  refine ⟨fun r hr => h.1 r (List.mem_of_mem_take hr), fun i hi => ?_⟩
  rw [List.length_take] at hi
  obtain ⟨b, off, e, hb, hr⟩ := h.2 i (by omega)
  exact ⟨b, off, e, hb, by rw [List.getElem_take]; exact hr⟩
theorem Rcs.byte {w : World} {A : Option Addr} {l : List Rc} (h : Rcs w A l) : ∀ r ∈ l, r.byte := by
  intro r hr
  obtain ⟨i, hi, rfl⟩ := List.mem_iff_getElem.1 hr
  obtain ⟨b, off, _, _, _, _, _, _, A', c, _, hrow⟩ := h.2 i hi
  exact hrow.bts.2.2.1
end Go.Proofs.Ytmjgpgnecohbcaa

/- Rows of records that the call owns; append. -/
namespace Go.Proofs.Ytmjgpgnecohbcaa
open Go.RowKit

/-- a record, and where its bytes lie -/
structure It where
  r : Rc
  A : Option Addr
  c : Nat
def It.cells (x : It) : List Value := [.int .i64 x.r.kind, .int .i64 x.r.slot, .int .i64 x.r.round, .int .i64 x.r.site, .slice x.A x.r.val.length x.c]
def flatI (l : List It) : List Value := l.flatMap It.cells
theorem flatI_len : ∀ l : List It, (flatI l).length = l.length * 5
  | [] => rfl
  | x :: l => by
    have := flatI_len l
    simp only [flatI, List.flatMap_cons, List.length_append, List.length_cons] at *
    simp only [It.cells, List.length_cons, List.length_nil]
    omega
theorem flatI_at : ∀ (l : List It) (i : Nat) (h : i < l.length) (j : Nat), j < 5 → (flatI l)[i * 5 + j]? = l[i].cells[j]?
  | x :: l, 0, _, j, hj => by
    rw [flatI, List.flatMap_cons, List.getElem?_append_left (by simp [It.cells]; omega)]
    simp
  | x :: l, i + 1, h, j, hj => by
    have := flatI_at l i (by simpa using h) j hj
    rw [flatI, List.flatMap_cons, List.getElem?_append_right (by simp [It.cells]; omega)]
    rw [show (i + 1) * 5 + j - x.cells.length = i * 5 + j by simp [It.cells]; omega]
    exact this
theorem flatI_append (a b : List It) : flatI (a ++ b) = flatI a ++ flatI b := by simp [flatI]
theorem flatI_one (l : List It) : ∀ u ∈ flatI l, u.oneCell' = true := by
  intro u hu
  obtain ⟨x, _, h⟩ := List.mem_flatMap.1 hu
  simp only [It.cells, List.mem_cons, List.not_mem_nil, or_false] at h
  rcases h with rfl | rfl | rfl | rfl | rfl <;> rfl
/-- it reads as it says -/
def It.ok (w : World) (x : It) : Prop := Row w x.A x.r.val.length x.c x.r.val
theorem It.ok.kept {w W : World} {x : It} (h : x.ok w) (k : Kept w W) : x.ok W := Row.below h k.1
/-- its bytes don't lie in that block -/
def It.off (av : Option Nat) (x : It) : Prop := ∀ a, x.A = some a → 0 < x.r.val.length → av ≠ some a.block

/-- a row of records that the call owns, from block base on; their bytes lie elsewhere -/
structure OwnR (e : TypeId) (w : World) (base : Nat) (v : Value) (l : List It) : Prop where
  row : w.ownsRow base e 5 v l.length (flatI l)
  each : ∀ x ∈ l, x.ok w ∧ x.off v.ownBlock
theorem OwnR.nil (e : TypeId) (w : World) (base : Nat) : OwnR e w base (.slice none 0 0) [] := ⟨World.ownsRow_nil w base _ 5, by simp⟩
theorem OwnR.slice {e : TypeId} {w : World} {base : Nat} {v : Value} {l : List It} (h : OwnR e w base v l) : ∃ A c, v = .slice A l.length c ∧ (A = none → c = 0) ∧ l.length ≤ c ∧ c ≤ maxLen := by
  obtain ⟨_, ⟨rfl, h0⟩ | ⟨g, cap, cur, rfl, _, _, h1, h2, _⟩⟩ := h.row
  · exact ⟨none, 0, by rw [h0], fun _ => rfl, by omega, by decide⟩
  · exact ⟨_, cap, rfl, (fun e => by cases e), h1, h2⟩
/-- where nothing that it speaks of has changed -/
theorem OwnR.moved {e : TypeId} {w w' : World} {base : Nat} {v : Value} {l : List It} (h : OwnR e w base v l) (hs : w.heap.size ≤ w'.heap.size) (hr : ∀ g, v.ownBlock = some g → w'.heap[g]? = w.heap[g]?) (he : ∀ x ∈ l, ∀ a, x.A = some a → 0 < x.r.val.length → w'.heap[a.block]? = w.heap[a.block]?) : OwnR e w' base v l := by
  refine ⟨⟨h.row.1, ?_⟩, fun x hx => ⟨Row.off (h.each x hx).1 hs fun _ ha hn => he x hx _ ha hn, (h.each x hx).2⟩⟩
  rcases h.row.2 with h1 | ⟨g, cap, cur, rfl, h1, h2, h3⟩
  · exact .inl h1
  · exact .inr ⟨g, cap, cur, rfl, h1, (hr g rfl).trans h2, h3⟩
theorem OwnR.kept {e : TypeId} {w w' : World} {base : Nat} {v : Value} {l : List It} (h : OwnR e w base v l) (k : Kept w w') : OwnR e w' base v l :=
  h.moved k.2 (fun g hg => k.1.block g (World.ownsRow.lt h.row g hg).2) (fun x hx _ ha hn => k.1.block _ (Row.block_lt (h.each x hx).1 ha hn))
theorem OwnR.base {e : TypeId} {w : World} {b b' : Nat} {v : Value} {l : List It} (h : OwnR e w b v l) (hb : b' ≤ b) : OwnR e w b' v l := by
  refine ⟨⟨h.row.1, ?_⟩, h.each⟩
  rcases h.row.2 with h1 | ⟨g, cap, cur, e1, h1, h2⟩
  · exact .inl h1
  · exact .inr ⟨g, cap, cur, e1, Nat.le_trans hb h1, h2⟩
/-- it reads as these records -/
theorem OwnR.rcs {e : TypeId} {w : World} {base : Nat} {A : Option Addr} {n c : Nat} {l : List It} (h : OwnR e w base (.slice A n c) l) (hw : ∀ x ∈ l, x.r.wf) : Rcs w A (l.map It.r) := by
  refine ⟨fun r hr => ?_, fun i hi => ?_⟩
  · obtain ⟨x, hx, rfl⟩ := List.mem_map.1 hr
    exact hw x hx
  · have hil : i < l.length := by simpa using hi
    have hrow := h.row
    obtain ⟨_, ⟨e1, h0⟩ | ⟨g, cap, cur, e1, h1, h2, h3, h4, h5, h6⟩⟩ := id hrow
    · omega
    · rw [Value.slice.injEq] at e1
      obtain ⟨rfl, rfl, rfl⟩ := e1
      have hg := heap_lt h2
      have hc : ∀ j, j < 5 → w.cell? ⟨g, 0 + i * 5 + j, none⟩ = l[i].cells[j]? := fun j hj => by
        rw [Nat.zero_add, World.ownsRow.cellAt hrow (i * 5 + j) (by have := Nat.mul_le_mul_right 5 (show i + 1 ≤ l.length by omega); omega), flatI_at l i hil j hj]
      refine ⟨g, 0, rfl, hg, ?_⟩
      rw [List.getElem_map]
      have hx := (h.each l[i] (List.getElem_mem hil)).1
      exact ⟨hc 0 (by omega), hc 1 (by omega), hc 2 (by omega), hc 3 (by omega), l[i].A, l[i].c, hc 4 (by omega), hx⟩

theorem rec_info : (Try.prog.info? 52).map (fun i => (i.zero, i.size, i.bytes)) = some (some (.agg #[.int .i64 0, .int .i64 0, .int .i64 0, .int .i64 0, .slice none 0 0]), 5, 56) := by kernel_rfl
theorem ref_info : (Try.prog.info? 55).map (fun i => (i.zero, i.size, i.bytes)) = some (some (.agg #[.int .i64 0, .int .i64 0, .int .i64 0, .int .i64 0, .slice none 0 0]), 5, 56) := by kernel_rfl
/-- behind an append onto a row that the call owns -/
theorem OwnR.grown {e : TypeId} {w w' : World} {base : Nat} {v v' : Value} {l m : List It} (h : OwnR e w base v l) (hm : ∀ x ∈ m, x.ok w ∧ x.off v.ownBlock) (hr : w'.ownsRow base e 5 v' (l.length + m.length) (flatI l ++ flatI m))
    (hg : w.grownBy w' v.ownBlock) (ha : v'.ownBlock = v.ownBlock ∨ v'.ownBlock = some w.heap.size) : OwnR e w' base v' (l ++ m) := by
  refine ⟨by rw [List.length_append, flatI_append]; exact hr, fun x hx => ?_⟩
  have hx' : x.ok w ∧ x.off v.ownBlock := by
    rcases List.mem_append.1 hx with hx | hx
    · exact h.each x hx
    · exact hm x hx
  refine ⟨Row.off hx'.1 hg.size fun a ha' hn => hg.block a.block (Row.block_lt hx'.1 ha' hn) fun e => hx'.2 a ha' hn e.symm, fun a ha' hn => ?_⟩
  rcases ha with e | e
  · rw [e]; exact hx'.2 a ha' hn
  · rw [e]
    intro e2
    injection e2 with e2
    have := Row.block_lt hx'.1 ha' hn
    omega
theorem wpList_append_rec {w : World} {ops : Array Oper} {rest : List Oper} {o : Oper} {a : Act} {Q : Exit → Act → World → Prop} (hgd : o.guard = none) (s x : Operand)
    (ho : o.op = .call { callee := .builtin .append, args := #[s, x], argTypes := #[36, 36] })
    {base : Nat} {v : Value} {l m : List It} {ad : Addr} {k c : Nat} (hs : a.eval s = v) (hx : a.eval x = .slice (some ad) k c) (hk : m.length = k) (hown : OwnR 52 w base v l) (hm : ∀ x ∈ m, x.ok w ∧ x.off v.ownBlock)
    (hc : ∀ j u, (flatI m)[j]? = some u → w.cell? (ad.add j) = some u) (hsum : l.length + k ≤ 1099511627776) (hbase : base ≤ w.heap.size)
    (h : ∀ v' w', OwnR 52 w' base v' (l ++ m) → w.grownBy w' v.ownBlock → (v'.ownBlock = v.ownBlock ∨ v'.ownBlock = some w.heap.size) → wpList Try.prog ops Q rest (a.put o.dst v') w') : wpList Try.prog ops Q (o :: rest) a w := by
  obtain ⟨i0, hi, hz0, hz1, hz2⟩ := info_parts rec_info
  subst hk
  refine wpList_append_own_at w hgd s x 36 ho base 52 i0 _ 5 56 Try.underlying36 hi hz0 hz1 hz2 rfl (by omega) v l.length (flatI l) hs hown.row ad m.length c (flatI m) hx (flatI_len m) hc (flatI_one m) (by simp only [maxLen]; omega) (by omega) hbase ?_
  intro v' w' h1 h2 h3 h4
  exact h v' w' (hown.grown hm h1 h2 h4) h2 h4
theorem wpList_append_ref {w : World} {ops : Array Oper} {rest : List Oper} {o : Oper} {a : Act} {Q : Exit → Act → World → Prop} (hgd : o.guard = none) (s x : Operand)
    (ho : o.op = .call { callee := .builtin .append, args := #[s, x], argTypes := #[45, 45] })
    {base : Nat} {v : Value} {l m : List It} {ad : Addr} {k c : Nat} (hs : a.eval s = v) (hx : a.eval x = .slice (some ad) k c) (hk : m.length = k) (hown : OwnR 55 w base v l) (hm : ∀ x ∈ m, x.ok w ∧ x.off v.ownBlock)
    (hc : ∀ j u, (flatI m)[j]? = some u → w.cell? (ad.add j) = some u) (hsum : l.length + k ≤ 1099511627776) (hbase : base ≤ w.heap.size)
    (h : ∀ v' w', OwnR 55 w' base v' (l ++ m) → w.grownBy w' v.ownBlock → (v'.ownBlock = v.ownBlock ∨ v'.ownBlock = some w.heap.size) → wpList Try.prog ops Q rest (a.put o.dst v') w') : wpList Try.prog ops Q (o :: rest) a w := by
  obtain ⟨i0, hi, hz0, hz1, hz2⟩ := info_parts ref_info
  subst hk
  refine wpList_append_own_at w hgd s x 45 ho base 55 i0 _ 5 56 Try.underlying45 hi hz0 hz1 hz2 rfl (by omega) v l.length (flatI l) hs hown.row ad m.length c (flatI m) hx (flatI_len m) hc (flatI_one m) (by simp only [maxLen]; omega) (by omega) hbase ?_
  intro v' w' h1 h2 h3 h4
  exact h v' w' (hown.grown hm h1 h2 h4) h2 h4
theorem wpListIn_append_rec {F : Fence} {n : Nat} {w : World} {ops : Array Oper} {rest : List Oper} {o : Oper} {a : Act} {Q : Exit → Act → World → Prop} (hgd : o.guard = none) (s x : Operand)
    (ho : o.op = .call { callee := .builtin .append, args := #[s, x], argTypes := #[36, 36] })
    {base : Nat} {v : Value} {l m : List It} {ad : Addr} {k c : Nat} (hs : a.eval s = v) (hx : a.eval x = .slice (some ad) k c) (hk : m.length = k) (hown : OwnR 52 w base v l) (hm : ∀ x ∈ m, x.ok w ∧ x.off v.ownBlock)
    (hc : ∀ j u, (flatI m)[j]? = some u → w.cell? (ad.add j) = some u) (hsum : l.length + k ≤ 1099511627776) (hbase : base ≤ w.heap.size)
    (h : ∀ v' w', OwnR 52 w' base v' (l ++ m) → w.grownBy w' v.ownBlock → (v'.ownBlock = v.ownBlock ∨ v'.ownBlock = some w.heap.size) → wpListIn F n Try.prog ops Q rest (a.put o.dst v') w') : wpListIn F n Try.prog ops Q (o :: rest) a w := by
  obtain ⟨i0, hi, hz0, hz1, hz2⟩ := info_parts rec_info
  subst hk
  refine wpListIn_append_own_at w hgd s x 36 ho base 52 i0 _ 5 56 Try.underlying36 hi hz0 hz1 hz2 rfl (by omega) v l.length (flatI l) hs hown.row ad m.length c (flatI m) hx (flatI_len m) hc (flatI_one m) (by simp only [maxLen]; omega) (by omega) hbase ?_
  intro v' w' h1 h2 h3 h4
  exact h v' w' (hown.grown hm h1 h2 h4) h2 h4
/-- a new block that holds one record -/
theorem cells_new (w : World) (x : It) (t : TypeId) : ∀ j u, (flatI [x])[j]? = some u → (w.alloc (.cells #[.int .i64 x.r.kind, .int .i64 x.r.slot, .int .i64 x.r.round, .int .i64 x.r.site, .slice x.A x.r.val.length x.c] t)).cell? ((⟨w.heap.size, 0, none⟩ : Addr).add j) = some u := by
  intro j u hu
  have e : (⟨w.heap.size, 0, none⟩ : Addr).add j = ⟨w.heap.size, j, none⟩ := by
    unfold Addr.add; by_cases h : j = 0 <;> simp [h]
  rw [e, World.cell?_alloc_at _ _ _ _ rfl]
  simpa [flatI, It.cells] using hu
end Go.Proofs.Ytmjgpgnecohbcaa
