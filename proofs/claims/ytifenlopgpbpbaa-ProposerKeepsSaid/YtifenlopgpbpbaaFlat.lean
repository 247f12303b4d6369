/- Rows of elements of several cells each: read, owned, appended to; of any element type. -/
import Derived.Test.YtifenlopgpbpbaaBts
import Derived.Test.YtifenlopgpbpbaaQuiet
import Derived.Test.YtifenlopgpbpbaaRow
import Derived.Maps.AppendAt
import Derived.Maps.OwnIn
import Derived.Laws.OwnMore
import Derived.Deep.DeepAppendWide
import Derived.BigFrame
namespace Go.Proofs.Ytifenlopgpbpbaa
open Go.RowKit

/-- an element type of a slice type, and its elements' cells -/
structure Elem (t e : TypeId) (α : Type) where
  cl : α → List Value
  k : Nat
  nb : Nat
  z : Value
  pos : 0 < k
  und : Try.prog.underlying t = some (.slice e)
  info : (Try.prog.info? e).map (fun i => (i.zero, i.size, i.bytes)) = some (some z, k, nb)
  zc : z.cells.size = k
  len : ∀ x, (cl x).length = k
  one : ∀ x, ∀ u ∈ cl x, u.oneCell' = true
  few : nb ≤ 128
namespace Elem
variable {α : Type} {t e : TypeId}
def flat (E : Elem t e α) (l : List α) : List Value := l.flatMap E.cl
theorem flat_len (E : Elem t e α) : ∀ l : List α, (E.flat l).length = l.length * E.k
  | [] => by simp [flat]
  | x :: l => by
    have := flat_len E l
    have h2 := E.len x
    simp only [flat, List.flatMap_cons, List.length_append, List.length_cons] at *
    rw [this, h2, Nat.add_mul]
    omega
theorem flat_at (E : Elem t e α) : ∀ (l : List α) (i : Nat) (h : i < l.length) (j : Nat), j < E.k → (E.flat l)[i * E.k + j]? = (E.cl l[i])[j]?
  | x :: l, 0, _, j, hj => by
    rw [flat, List.flatMap_cons, List.getElem?_append_left (by rw [E.len]; omega)]
    simp
  | x :: l, i + 1, h, j, hj => by
    have := flat_at E l i (by simpa using h) j hj
    rw [flat, List.flatMap_cons, List.getElem?_append_right (by rw [E.len, Nat.add_mul]; omega)]
    rw [show (i + 1) * E.k + j - (E.cl x).length = i * E.k + j by rw [E.len, Nat.add_mul]; omega]
    exact this
theorem flat_append (E : Elem t e α) (a b : List α) : E.flat (a ++ b) = E.flat a ++ E.flat b := by simp [flat]
theorem flat_one (E : Elem t e α) (l : List α) : ∀ u ∈ E.flat l, u.oneCell' = true := by
  intro u hu
  obtain ⟨x, _, h⟩ := List.mem_flatMap.1 hu
  exact E.one x u h
theorem flat_set (E : Elem t e α) : ∀ (l : List α) (i : Nat) (x : α), i < l.length → E.flat (l.set i x) = (E.flat l).take (i * E.k) ++ E.cl x ++ (E.flat l).drop (i * E.k + E.k)
  | y :: l, 0, x, _ => by
    simp only [flat, List.set_cons_zero, List.flatMap_cons, Nat.zero_mul, List.take_zero, List.nil_append, Nat.zero_add]
    rw [List.drop_left' (E.len y)]
  | y :: l, i + 1, x, h => by
    have := flat_set E l i x (by simpa using h)
    simp only [flat, List.set_cons_succ, List.flatMap_cons] at *
    have h1 : (E.cl y).take ((i + 1) * E.k) = E.cl y := List.take_of_length_le (by rw [E.len, Nat.add_mul]; omega)
    have h2 : (E.cl y).drop ((i + 1) * E.k + E.k) = [] := List.drop_eq_nil_of_le (by rw [E.len, Nat.add_mul]; omega)
    rw [this, List.take_append, List.drop_append, E.len y, h1, h2]
    rw [show (i + 1) * E.k - E.k = i * E.k by rw [Nat.add_mul]; omega, show (i + 1) * E.k + E.k - E.k = i * E.k + E.k by rw [Nat.add_mul]; omega]
    simp [List.append_assoc]

/-- the slice at A reads as these elements -/
def Reads (E : Elem t e α) (w : World) (A : Option Addr) (l : List α) : Prop :=
  ∀ (i : Nat) (h : i < l.length), ∃ b off, A = some ⟨b, off, none⟩ ∧ b < w.heap.size ∧ ∀ j u, (E.cl l[i])[j]? = some u → w.cell? ⟨b, off + i * E.k + j, none⟩ = some u
theorem Reads.kept {E : Elem t e α} {w W : World} {A : Option Addr} {l : List α} (h : E.Reads w A l) (k : Kept w W) : E.Reads W A l := fun i hi => by
  obtain ⟨b, off, e, hb, hc⟩ := h i hi
  exact ⟨b, off, e, Nat.lt_of_lt_of_le hb k.2, fun j u hu => (k.cell (p := ⟨b, off + i * E.k + j, none⟩) hb).trans (hc j u hu)⟩
theorem Reads.nil {E : Elem t e α} {w : World} {A : Option Addr} : E.Reads w A [] := fun i h => absurd h (by simp)
/-- another way to see the same cells -/
theorem Reads.as {t' e' : TypeId} {E : Elem t e α} {E' : Elem t' e' α} {w : World} {A : Option Addr} {l : List α} (h : E.Reads w A l) (hc : ∀ x, E'.cl x = E.cl x) (hk : E'.k = E.k) : E'.Reads w A l := fun i hi => by
  obtain ⟨b, off, e, hb, hcs⟩ := h i hi
  exact ⟨b, off, e, hb, fun j u hu => by rw [hk]; exact hcs j u (by rw [← hc]; exact hu)⟩

/-- a row that the call owns -/
def Own (E : Elem t e α) (w : World) (base : Nat) (v : Value) (l : List α) : Prop := w.ownsRow base e E.k v l.length (E.flat l)
theorem Own.nil (E : Elem t e α) (w : World) (base : Nat) : E.Own w base (.slice none 0 0) [] := World.ownsRow_nil w base e E.k
theorem Own.slice {E : Elem t e α} {w : World} {base : Nat} {v : Value} {l : List α} (h : E.Own w base v l) : ∃ A c, v = .slice A l.length c ∧ (A = none → c = 0) ∧ l.length ≤ c ∧ c ≤ maxLen := by
  obtain ⟨_, ⟨rfl, h0⟩ | ⟨g, cap, cur, rfl, _, _, h1, h2, _⟩⟩ := h
  · exact ⟨none, 0, by rw [h0], fun _ => rfl, by omega, by decide⟩
  · exact ⟨_, cap, rfl, (fun e => by cases e), h1, h2⟩
theorem Own.kept {E : Elem t e α} {w w' : World} {base : Nat} {v : Value} {l : List α} (h : E.Own w base v l) (k : Kept w w') : E.Own w' base v l :=
  World.ownsRow.kept h (row := Option.none) ⟨k.1.os, k.1.tape, k.1.output, k.2, fun i hi _ => k.1.block i hi⟩ (by cases v.ownBlock <;> simp)
theorem Own.base {E : Elem t e α} {w : World} {b b' : Nat} {v : Value} {l : List α} (h : E.Own w b v l) (hb : b' ≤ b) : E.Own w b' v l := by
  refine ⟨h.1, ?_⟩
  rcases h.2 with h1 | ⟨g, cap, cur, e1, h1, h2⟩
  · exact .inl h1
  · exact .inr ⟨g, cap, cur, e1, Nat.le_trans hb h1, h2⟩
theorem Own.reads {E : Elem t e α} {w : World} {base : Nat} {A : Option Addr} {n c : Nat} {l : List α} (h : E.Own w base (.slice A n c) l) : E.Reads w A l := by
  intro i hi
  obtain ⟨_, ⟨e1, h0⟩ | ⟨g, cap, cur, e1, h1, h2, h3, h4, h5, h6⟩⟩ := id h
  · omega
  · rw [Value.slice.injEq] at e1
    obtain ⟨rfl, rfl, rfl⟩ := e1
    refine ⟨g, 0, rfl, heap_lt h2, fun j u hu => ?_⟩
    have hj : j < E.k := by
      rcases Nat.lt_or_ge j E.k with h | h
      · exact h
      · rw [List.getElem?_eq_none (by rw [E.len]; exact h)] at hu; cases hu
    rw [Nat.zero_add, World.ownsRow.cellAt h (i * E.k + j) (by have := Nat.mul_le_mul_right E.k (show i + 1 ≤ l.length by omega); rw [Nat.add_mul] at this; omega), E.flat_at l i hi j hj]
    exact hu
/-- append onto such a row -/
theorem run_append {E : Elem t e α} {w : World} {base : Nat} {v : Value} {ds xs : List α} {A : Option Addr} {n c : Nat} (ty : TypeId) (hown : E.Own w base v ds) (hx : E.Reads w A xs) (hn : xs.length = n) (hc : A = none → c = 0)
    (hsum : ds.length + n ≤ 1099511627776) (hbase : base ≤ w.heap.size) :
    ∃ v' w', (Builtin.append_ #[t, t] ty #[v, .slice A n c]).run Try.prog w = .ok v' w' ∧ E.Own w' base v' (ds ++ xs) ∧ w.grownBy w' v.ownBlock ∧ (v'.ownBlock = v.ownBlock ∨ v'.ownBlock = some w.heap.size) := by
  obtain ⟨i0, hi, hz0, hz1, hz2⟩ := info_parts E.info
  subst hn
  have hbytes : (ds.length + xs.length) * E.nb ≤ 140737488355328 := Nat.le_trans (Nat.mul_le_mul hsum E.few) (by decide)
  have hmax : ds.length + xs.length ≤ maxLen := by simp only [maxLen]; omega
  cases A with
  | none =>
    have h0 : xs = [] := by
      cases xs with
      | nil => rfl
      | cons x xs => obtain ⟨b, off, e1, _⟩ := hx 0 (by simp); cases e1
    subst h0
    obtain rfl := hc rfl
    exact ⟨v, w, run_append_owned_none (P := Try.prog) (w := w) base t ty e i0 E.k E.und hi v ds.length _ hown, by rw [List.append_nil]; exact hown, World.grownBy.refl w _, .inl rfl⟩
  | some a =>
    obtain ⟨v', w', r1, r2, r3, _, r5⟩ := run_append_own_at (P := Try.prog) w base t ty e i0 _ E.k E.nb E.und hi hz0 hz1 hz2 E.zc E.pos v ds.length _ hown a xs.length c (E.flat xs) (E.flat_len xs) (fun j u hu => by
      have hj : j < xs.length * E.k := by
        rw [← E.flat_len xs]
        exact (List.getElem?_eq_some_iff.1 hu).1
      have hi2 : j / E.k < xs.length := Nat.div_lt_of_lt_mul (by rw [Nat.mul_comm]; exact hj)
      have hm : j % E.k < E.k := Nat.mod_lt _ E.pos
      have he : j / E.k * E.k + j % E.k = j := by rw [Nat.mul_comm]; exact Nat.div_add_mod j E.k
      obtain ⟨b, off, e1, hb, hcs⟩ := hx (j / E.k) hi2
      injection e1 with e1
      subst e1
      rw [← he, E.flat_at xs _ hi2 _ hm] at hu
      have := hcs _ u hu
      rw [Nat.add_assoc, he] at this
      unfold Addr.add
      split
      · rename_i h0; subst h0; simpa using this
      · exact this) (E.flat_one xs) hmax hbytes hbase
    exact ⟨v', w', r1, by unfold Own; rw [List.length_append, E.flat_append]; exact r2, r3, r5⟩
end Elem
section
variable {α : Type} {t e : TypeId}
theorem wpList_append_flat (E : Elem t e α) {w : World} {ops : Array Oper} {rest : List Oper} {o : Oper} {a : Act} {Q : Exit → Act → World → Prop} (hgd : o.guard = none) (s x : Operand)
    (ho : o.op = .call { callee := .builtin .append, args := #[s, x], argTypes := #[t, t] })
    {base : Nat} {v : Value} {ds xs : List α} {A : Option Addr} {n c : Nat} (hs : a.eval s = v) (hx : a.eval x = .slice A n c) (hown : E.Own w base v ds) (hxs : E.Reads w A xs) (hn : xs.length = n) (hc : A = none → c = 0)
    (hsum : ds.length + n ≤ 1099511627776) (hbase : base ≤ w.heap.size)
    (h : ∀ v' w', E.Own w' base v' (ds ++ xs) → w.grownBy w' v.ownBlock → (v'.ownBlock = v.ownBlock ∨ v'.ownBlock = some w.heap.size) → wpList Try.prog ops Q rest (a.put o.dst v') w') : wpList Try.prog ops Q (o :: rest) a w := by
  refine wpList_plain hgd fun K hK => ?_
  obtain ⟨v', w', hrun, h2, h3, h4⟩ := E.run_append (w := w) o.type hown hxs hn hc hsum hbase
  unfold Oper.wp
  simp [execOp, ho, resolve, invoke, builtin, hs, hx, hrun, Result.andThen]
  exact hK _ _ (h v' w' h2 h3 h4)
theorem wpListIn_append_flat (E : Elem t e α) {F : Fence} {m : Nat} {w : World} {ops : Array Oper} {rest : List Oper} {o : Oper} {a : Act} {Q : Exit → Act → World → Prop} (hgd : o.guard = none) (s x : Operand)
    (ho : o.op = .call { callee := .builtin .append, args := #[s, x], argTypes := #[t, t] })
    {base : Nat} {v : Value} {ds xs : List α} {ad : Addr} {n c : Nat} (hs : a.eval s = v) (hx : a.eval x = .slice (some ad) n c) (hown : E.Own w base v ds) (hxs : E.Reads w (some ad) xs) (hn : xs.length = n)
    (hsum : ds.length + n ≤ 1099511627776) (hbase : base ≤ w.heap.size)
    (h : ∀ v' w', E.Own w' base v' (ds ++ xs) → w.grownBy w' v.ownBlock → (v'.ownBlock = v.ownBlock ∨ v'.ownBlock = some w.heap.size) → wpListIn F m Try.prog ops Q rest (a.put o.dst v') w') : wpListIn F m Try.prog ops Q (o :: rest) a w := by
  obtain ⟨i0, hi, hz0, hz1, hz2⟩ := info_parts E.info
  subst hn
  have hbytes : (ds.length + xs.length) * E.nb ≤ 140737488355328 := Nat.le_trans (Nat.mul_le_mul hsum E.few) (by decide)
  have hmax : ds.length + xs.length ≤ maxLen := by simp only [maxLen]; omega
  refine wpListIn_append_own_at w hgd s x t ho base e i0 _ E.k E.nb E.und hi hz0 hz1 hz2 E.zc E.pos v ds.length _ hs hown ad xs.length c (E.flat xs) hx (E.flat_len xs) (fun j u hu => ?_) (E.flat_one xs) hmax hbytes hbase ?_
  · have hj : j < xs.length * E.k := by
      rw [← E.flat_len xs]
      exact (List.getElem?_eq_some_iff.1 hu).1
    have hi2 : j / E.k < xs.length := Nat.div_lt_of_lt_mul (by rw [Nat.mul_comm]; exact hj)
    have hm : j % E.k < E.k := Nat.mod_lt _ E.pos
    have he : j / E.k * E.k + j % E.k = j := by rw [Nat.mul_comm]; exact Nat.div_add_mod j E.k
    obtain ⟨b, off, e1, hb, hcs⟩ := hxs (j / E.k) hi2
    injection e1 with e1
    subst e1
    rw [← he, E.flat_at xs _ hi2 _ hm] at hu
    have := hcs _ u hu
    rw [Nat.add_assoc, he] at this
    unfold Addr.add
    split
    · rename_i h0; subst h0; simpa using this
    · exact this
  · intro v' w' h1 h2 h3 h4
    exact h v' w' (by unfold Elem.Own; rw [List.length_append, E.flat_append]; exact h1) h2 h4
/-- a world in which a row has grown -/
theorem Elem.Own.keeps {E : Elem t e α} {w W W' : World} {base : Nat} {v : Value} {l : List α} (hk : Kept w W) (hown : E.Own W base v l) (hb : w.heap.size ≤ base) (hg : W.grownBy W' v.ownBlock) : Kept w W' :=
  ⟨hk.1.grown hg hk.2 (fun k h => Nat.le_trans hb (World.ownsRow.lt hown k h).1), Nat.le_trans hk.2 hg.size⟩
/-- a new block that holds one element -/
theorem Elem.reads_new (E : Elem t e α) (w : World) (x : α) (cs : Array Value) (t' : TypeId) (h : cs.toList = E.cl x) : E.Reads (w.alloc (.cells cs t')) (some ⟨w.heap.size, 0, none⟩) [x] := by
  intro i hi
  obtain rfl : i = 0 := by simpa using hi
  refine ⟨w.heap.size, 0, rfl, by simp, fun j u hu => ?_⟩
  rw [World.cell?_alloc_at _ _ _ _ rfl]
  simp only [List.getElem_cons_zero] at hu
  rw [← h] at hu
  simpa using hu
end
end Go.Proofs.Ytifenlopgpbpbaa
