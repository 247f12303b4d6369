/- Rows of slices of bytes: what it means that one reads as a list of lists of bytes; rows of slices that the call owns; append. Numbers of the program: the types [][]uint8 and []uint8. -/
import Derived.Test.YtmjgpgnecohbcaaMgA
import Derived.Deep.DeepAppendWide
import Derived.Lib.Hide
import Derived.BigFrame

namespace Go.Proofs.Ytmjgpgnecohbcaa
open Go.RowKit

/-- v is a slice that reads as the bytes x, and lies not in block av -/
def Tell (w : World) (B : Nat) (av : Option Nat) (v : Value) (x : List Nat) : Prop := ∃ A n c, v = .slice A n c ∧ Bts w B A n x ∧ (A = none → n = 0 ∧ c = 0) ∧ ∀ a, A = some a → 0 < n → av ≠ some a.block
def Tells (w : World) (B : Nat) (av : Option Nat) (vs : List Value) (xs : List (List Nat)) : Prop := vs.length = xs.length ∧ ∀ (i : Nat) v x, vs[i]? = some v → xs[i]? = some x → Tell w B av v x
theorem Tells.nil {w : World} {B : Nat} {av : Option Nat} : Tells w B av [] [] := ⟨rfl, fun i v x h => by simp at h⟩
theorem Tells.snoc {w : World} {B : Nat} {av : Option Nat} {vs : List Value} {xs : List (List Nat)} (h : Tells w B av vs xs) {v : Value} {x : List Nat} (hv : Tell w B av v x) : Tells w B av (vs ++ [v]) (xs ++ [x]) := by
  refine ⟨by simp [h.1], fun i u y hu hy => ?_⟩
  rcases Nat.lt_or_ge i vs.length with hi | hi
  · rw [List.getElem?_append_left hi] at hu
    rw [List.getElem?_append_left (by rw [← h.1]; exact hi)] at hy
    exact h.2 i u y hu hy
  · rw [List.getElem?_append_right hi] at hu
    rw [List.getElem?_append_right (by rw [← h.1]; exact hi), ← h.1] at hy
    cases hk : i - vs.length with
    | zero =>
      rw [hk] at hu hy
      simp at hu hy
      subst hu hy
      exact hv
    | succ k =>
      rw [hk] at hu
      simp at hu
theorem Tell.below {w w' : World} {B : Nat} {av : Option Nat} {v : Value} {x : List Nat} (h : Tell w B av v x) (hb : Below B w w') : Tell w' B av v x := by
  obtain ⟨A, n, c, e, h1, h2, h3⟩ := h
  exact ⟨A, n, c, e, h1.below hb, h2, h3⟩
theorem Tell.more {w : World} {B B' : Nat} {av : Option Nat} {v : Value} {x : List Nat} (h : Tell w B av v x) (hB : B ≤ B') : Tell w B' av v x := by
  obtain ⟨A, n, c, e, h1, h2, h3⟩ := h
  exact ⟨A, n, c, e, h1.more hB, h2, h3⟩
theorem Tell.free {w : World} {B : Nat} {av av' : Option Nat} {v : Value} {x : List Nat} (h : Tell w B av v x) (ha : ∀ k, av' = some k → av = some k ∨ B ≤ k) : Tell w B av' v x := by
  obtain ⟨A, n, c, e, h1, h2, h3⟩ := h
  refine ⟨A, n, c, e, h1, h2, fun a hA hn he => ?_⟩
  rcases ha _ he with h4 | h4
  · exact h3 a hA hn h4
  · obtain ⟨b, off, hA', hb, _⟩ := h1.2.2.2 hn
    rw [hA] at hA'
    injection hA' with hA'
    subst hA'
    simp only at h4
    omega
/-- what lies elsewhere stays, behind an append onto the row -/
theorem Tell.grown {w w' : World} {B : Nat} {av : Option Nat} {v : Value} {x : List Nat} (h : Tell w B av v x) (hg : w.grownBy w' av) : Tell w' B av v x := by
  obtain ⟨A, n, c, e, h1, h2, h3⟩ := h
  refine ⟨A, n, c, e, ⟨h1.1, h1.2.1, h1.2.2.1, fun hn => ?_⟩, h2, h3⟩
  obtain ⟨b, off, hA, hb, hc⟩ := h1.2.2.2 hn
  refine ⟨b, off, hA, hb, fun j hj => ?_⟩
  exact hg.cell (hc j hj) (fun h => h3 _ hA hn h.symm)
theorem Tells.map {w w' : World} {B B' : Nat} {av av' : Option Nat} {vs : List Value} {xs : List (List Nat)} (h : Tells w B av vs xs) (f : ∀ v x, Tell w B av v x → Tell w' B' av' v x) : Tells w' B' av' vs xs :=
  ⟨h.1, fun i v x hv hx => f v x (h.2 i v x hv hx)⟩

/-- The slice value of address A and length n reads as the rows xs. -/
def Rws (w : World) (A : Option Addr) (n : Nat) (xs : List (List Nat)) : Prop :=
  xs.length = n ∧ ∀ (i : Nat) x, xs[i]? = some x → ∃ b off v, A = some ⟨b, off, none⟩ ∧ b < w.heap.size ∧ w.cell? ⟨b, off + i, none⟩ = some v ∧ Tell w w.heap.size none v x
theorem Rws.below {w w' : World} {A : Option Addr} {n : Nat} {xs : List (List Nat)} (h : Rws w A n xs) (hb : Below w.heap.size w w') : Rws w' A n xs := by
  refine ⟨h.1, fun i x hx => ?_⟩
  obtain ⟨b, off, v, h1, h2, h3, h4⟩ := h.2 i x hx
  exact ⟨b, off, v, h1, Nat.lt_of_lt_of_le h2 hb.size, (hb.cell (p := ⟨b, off + i, none⟩) h2).trans h3, (h4.below hb).more hb.size⟩

/-- a row of slices that the call owns -/
def OwnS (w : World) (base : Nat) (v : Value) (vs : List Value) : Prop := w.ownsRow base 37 1 v vs.length vs
theorem OwnS.nil (w : World) (base : Nat) : OwnS w base (.slice none 0 0) [] := World.ownsRow_nil w base _ 1
theorem OwnS.below {w w' : World} {base : Nat} {v : Value} {vs : List Value} (h : OwnS w base v vs) (hb : Below w.heap.size w w') : OwnS w' base v vs :=
  World.ownsRow.kept h (row := Option.none) ⟨hb.os, hb.tape, hb.output, hb.size, fun k hk _ => hb.block k hk⟩ (by cases v.ownBlock <;> simp)
theorem OwnS.slice {w : World} {base : Nat} {v : Value} {vs : List Value} (h : OwnS w base v vs) : ∃ A n c, v = .slice A n c := by
  obtain ⟨_, ⟨e, _⟩ | ⟨g', cap', cur, e, _⟩⟩ := h
  · exact ⟨_, _, _, e⟩
  · exact ⟨_, _, _, e⟩
theorem OwnS.rws {w : World} {base : Nat} {v : Value} {vs : List Value} {xs : List (List Nat)} (h : OwnS w base v vs) {av : Option Nat} (ht : Tells w w.heap.size av vs xs) : ∃ A c, v = .slice A xs.length c ∧ Rws w A xs.length xs ∧ xs.length ≤ c := by
  have h' := h
  obtain ⟨_, ⟨rfl, h0⟩ | ⟨g, cap, cur, rfl, _, _, hcap, _⟩⟩ := h
  · have hx : xs = [] := List.eq_nil_of_length_eq_zero (by rw [← ht.1, h0])
    subst hx
    exact ⟨none, 0, rfl, ⟨rfl, fun i x hx => by simp at hx⟩, Nat.le_refl _⟩
  · have hlt := (World.ownsRow.lt h' g rfl).2
    refine ⟨_, cap, by rw [ht.1], ⟨rfl, fun i x hx => ?_⟩, by rw [← ht.1]; exact hcap⟩
    have hi : i < vs.length := by
      rw [ht.1]
      rcases Nat.lt_or_ge i xs.length with h | h
      · exact h
      · rw [List.getElem?_eq_none h] at hx; cases hx
    refine ⟨g, 0, vs[i], rfl, hlt, ?_, (ht.2 i _ x (List.getElem?_eq_getElem hi) hx).free (fun k hk => by cases hk)⟩
    rw [Nat.zero_add, World.ownsRow.cellAt h' i (by omega), List.getElem?_eq_getElem hi]

theorem rows_info : (Try.prog.info? 37).map (fun i => (i.zero, i.size, i.bytes)) = some (some (.slice none 0 0), 1, 24) := by kernel_rfl
/-- append of one slice onto a row that the call owns -/
theorem run_append_row {w : World} {base : Nat} {v : Value} {ds : List Value} {g : Nat} {x : Value} (ty : TypeId) (hown : OwnS w base v ds) (hx : w.cell? ⟨g, 0, none⟩ = some x) (h1 : x.oneCell' = true)
    (hsum : ds.length ≤ 1099511627776) (hbase : base ≤ w.heap.size) :
    ∃ v' w', (Builtin.append_ #[75, 75] ty #[v, .slice (some ⟨g, 0, none⟩) 1 1]).run Try.prog w = .ok v' w' ∧ OwnS w' base v' (ds ++ [x]) ∧ w.grownBy w' v.ownBlock ∧ (v'.ownBlock = v.ownBlock ∨ v'.ownBlock = some w.heap.size) := by
  obtain ⟨i0, hi, hz0, hz1, hz2⟩ := info_parts rows_info
  unfold OwnS at *
  obtain ⟨v', w', r1, r2, r3, _, r5⟩ := run_append_own_at (P := Try.prog) w base 75 ty 37 i0 _ 1 24 Try.underlying75 hi hz0 hz1 hz2 rfl (by omega) v ds.length _ hown ⟨g, 0, none⟩ 1 1 [x] rfl (fun j u hu => by
      match j, hu with
      | 0, hu => simp at hu; subst hu; simpa [Addr.add] using hx) (fun u hu => by simp at hu; subst hu; exact h1) (by simp only [maxLen]; omega) (by omega) hbase
  exact ⟨v', w', r1, by simpa using r2, r3, r5⟩
theorem wpList_append_row {w : World} {ops : Array Oper} {rest : List Oper} {o : Oper} {a : Act} {Q : Exit → Act → World → Prop} (hgd : o.guard = none) (s x : Operand)
    (ho : o.op = .call { callee := .builtin .append, args := #[s, x], argTypes := #[75, 75] })
    {base : Nat} {v : Value} {ds : List Value} {g : Nat} {y : Value} (hs : a.eval s = v) (hx : a.eval x = .slice (some ⟨g, 0, none⟩) 1 1) (hown : OwnS w base v ds) (hy : w.cell? ⟨g, 0, none⟩ = some y) (h1 : y.oneCell' = true)
    (hsum : ds.length ≤ 1099511627776) (hbase : base ≤ w.heap.size)
    (h : ∀ v' w', OwnS w' base v' (ds ++ [y]) → w.grownBy w' v.ownBlock → (v'.ownBlock = v.ownBlock ∨ v'.ownBlock = some w.heap.size) → wpList Try.prog ops Q rest (a.put o.dst v') w') : wpList Try.prog ops Q (o :: rest) a w := by
  refine wpList_plain hgd fun K hK => ?_
  obtain ⟨v', w', hrun, h2, h3, h4⟩ := run_append_row (w := w) o.type hown hy h1 hsum hbase
  unfold Oper.wp
  simp [execOp, ho, resolve, invoke, builtin, hs, hx, hrun, Result.andThen]
  exact hK _ _ (h v' w' h2 h3 h4)
/-- a row and what it holds, behind an append of one more -/
theorem rows_grown {w w' : World} {v v' : Value} {ds : List Value} {xs : List (List Nat)} {y : Value} {x : List Nat} (ht : Tells w w.heap.size v.ownBlock ds xs) (hy : Tell w w.heap.size v.ownBlock y x)
    (hg : w.grownBy w' v.ownBlock) (ha : v'.ownBlock = v.ownBlock ∨ v'.ownBlock = some w.heap.size) : Tells w' w'.heap.size v'.ownBlock (ds ++ [y]) (xs ++ [x]) := by
  refine (ht.snoc hy).map fun u z h => ((h.grown hg).free fun k hk => ?_).more hg.size
  rcases ha with e | e
  · exact .inl (e ▸ hk)
  · rw [e] at hk
    injection hk with hk
    exact .inr (Nat.le_of_eq hk)
/-- an argument: a slice of slices of bytes -/
theorem rows_of {w : World} {A : Option Addr} {n cap : Nat} (h : SliceAt 1 24 (IsSlice 1 1 (IsInt .u8)) w A n cap) : ∃ xs, Rws w A n xs := by
  obtain ⟨_, _, _, _, hc⟩ := h
  have key : ∀ i, i < n → ∃ x : List Nat, ∀ b off, A = some ⟨b, off, none⟩ → b < w.heap.size ∧ ∃ v, w.cell? ⟨b, off + i, none⟩ = some v ∧ Tell w w.heap.size none v x := by
    intro i hi
    obtain ⟨b, off, rfl, hb, hel⟩ := hc (by omega)
    obtain ⟨cs, hl, ⟨Ai, ni, ci, rfl, hs⟩, hcell⟩ := hel i hi
    obtain ⟨x, hx⟩ := bts_of hs
    refine ⟨x, fun b' off' e => ?_⟩
    simp only [Option.some.injEq, Addr.mk.injEq, and_true] at e
    obtain ⟨rfl, rfl⟩ := e
    refine ⟨hb, _, by simpa using hcell 0 (by omega), Ai, ni, ci, rfl, hx, fun h => ?_, fun _ _ _ h => by cases h⟩
    have := hs.2.2.2.1 h
    exact ⟨by have := hs.1; omega, this⟩
  obtain ⟨f, hf⟩ := Go.Deep.choose_lt key
  refine ⟨(List.range n).map f, by simp, fun i x hx => ?_⟩
  have hi : i < n := by
    rcases Nat.lt_or_ge i n with h | h
    · exact h
    · rw [List.getElem?_eq_none (by simpa using h)] at hx; cases hx
  obtain ⟨b, off, rfl, _, _⟩ := hc (by omega)
  simp [hi] at hx
  subst hx
  obtain ⟨hb, v, h1, h2⟩ := hf i hi b off rfl
  exact ⟨b, off, v, rfl, hb, h1, h2⟩
end Go.Proofs.Ytmjgpgnecohbcaa

/- Rows of ints that the call owns; append of one; what lies apart from a row that grows. Numbers of the program: the types []int and int. -/
namespace Go.Proofs.Ytmjgpgnecohbcaa
open Go.RowKit

def OwnI (w : World) (base : Nat) (v : Value) (ns : List Nat) : Prop := w.ownsRow base 3 1 v ns.length (ns.map fun n : Nat => Value.int .i64 (n : Int))
theorem OwnI.nil (w : World) (base : Nat) : OwnI w base (.slice none 0 0) [] := World.ownsRow_nil w base _ 1
theorem OwnI.below {w w' : World} {base : Nat} {v : Value} {ns : List Nat} (h : OwnI w base v ns) (hb : Below w.heap.size w w') : OwnI w' base v ns :=
  World.ownsRow.kept h (row := Option.none) ⟨hb.os, hb.tape, hb.output, hb.size, fun k hk _ => hb.block k hk⟩ (by cases v.ownBlock <;> simp)
theorem OwnI.slice {w : World} {base : Nat} {v : Value} {ns : List Nat} (h : OwnI w base v ns) : ∃ A c, v = .slice A ns.length c ∧ ns.length ≤ c ∧ c ≤ maxLen ∧ (A = none → c = 0) ∧ (0 < ns.length → ∃ g, A = some ⟨g, 0, none⟩ ∧ ∀ j, j < ns.length → w.cell? ⟨g, j, none⟩ = some (.int .i64 (ns.getD j 0 : Nat))) := by
  have h' := h
  obtain ⟨_, ⟨rfl, h0⟩ | ⟨g, cap, cur, rfl, _, _, h1, h2, _⟩⟩ := h
  · exact ⟨none, 0, by rw [h0], by omega, by decide, fun _ => rfl, fun h => by omega⟩
  · refine ⟨_, cap, rfl, h1, h2, (fun h => by cases h), fun _ => ⟨g, rfl, fun j hj => ?_⟩⟩
    rw [World.ownsRow.cellAt h' j (by omega)]
    simp [hj]
theorem int_info : (Try.prog.info? 3).map (fun i => (i.zero, i.size, i.bytes)) = some (some (.int .i64 0), 1, 8) := by kernel_rfl
theorem run_append_int {w : World} {base : Nat} {v : Value} {ds : List Nat} {g k : Nat} (ty : TypeId) (hown : OwnI w base v ds) (hx : w.cell? ⟨g, 0, none⟩ = some (.int .i64 (k : Int)))
    (hsum : ds.length ≤ 1099511627776) (hbase : base ≤ w.heap.size) :
    ∃ v' w', (Builtin.append_ #[29, 29] ty #[v, .slice (some ⟨g, 0, none⟩) 1 1]).run Try.prog w = .ok v' w' ∧ OwnI w' base v' (ds ++ [k]) ∧ w.grownBy w' v.ownBlock ∧ (v'.ownBlock = v.ownBlock ∨ v'.ownBlock = some w.heap.size) := by
  obtain ⟨i0, hi, hz0, hz1, hz2⟩ := info_parts int_info
  unfold OwnI at *
  obtain ⟨v', w', r1, r2, r3, _, r5⟩ := run_append_own_at (P := Try.prog) w base 29 ty 3 i0 _ 1 8 Try.underlying29 hi hz0 hz1 hz2 rfl (by omega) v ds.length _ hown ⟨g, 0, none⟩ 1 1 [.int .i64 (k : Int)] rfl (fun j u hu => by
      match j, hu with
      | 0, hu => simp at hu; subst hu; simpa [Addr.add] using hx) (fun u hu => by simp at hu; subst hu; rfl) (by simp only [maxLen]; omega) (by omega) hbase
  exact ⟨v', w', r1, by simpa using r2, r3, r5⟩
theorem wpList_append_int {w : World} {ops : Array Oper} {rest : List Oper} {o : Oper} {a : Act} {Q : Exit → Act → World → Prop} (hgd : o.guard = none) (s x : Operand)
    (ho : o.op = .call { callee := .builtin .append, args := #[s, x], argTypes := #[29, 29] })
    {base : Nat} {v : Value} {ds : List Nat} {g k : Nat} (hs : a.eval s = v) (hx : a.eval x = .slice (some ⟨g, 0, none⟩) 1 1) (hown : OwnI w base v ds) (hy : w.cell? ⟨g, 0, none⟩ = some (.int .i64 (k : Int)))
    (hsum : ds.length ≤ 1099511627776) (hbase : base ≤ w.heap.size)
    (h : ∀ v' w', OwnI w' base v' (ds ++ [k]) → w.grownBy w' v.ownBlock → (v'.ownBlock = v.ownBlock ∨ v'.ownBlock = some w.heap.size) → wpList Try.prog ops Q rest (a.put o.dst v') w') : wpList Try.prog ops Q (o :: rest) a w := by
  refine wpList_plain hgd fun K hK => ?_
  obtain ⟨v', w', hrun, h2, h3, h4⟩ := run_append_int (w := w) o.type hown hy hsum hbase
  unfold Oper.wp
  simp [execOp, ho, resolve, invoke, builtin, hs, hx, hrun, Result.andThen]
  exact hK _ _ (h v' w' h2 h3 h4)
/-- a row that is apart from one that grows -/
theorem row_other {w w' : World} {base n size : Nat} {e : TypeId} {u v : Value} {xs : List Value} (hu : w.ownsRow base e size u n xs) (hne : Apart u v) (hg : w.grownBy w' v.ownBlock) : w'.ownsRow base e size u n xs := by
  refine World.ownsRow.kept hu hg ?_
  cases h : u.ownBlock with
  | none => exact .inl rfl
  | some g => exact .inr (fun e => hne g h e.symm)
theorem row_apart_new {w : World} {base n size : Nat} {e : TypeId} {u v v' : Value} {xs : List Value} (hu : w.ownsRow base e size u n xs) (hne : Apart u v) (h : v'.ownBlock = v.ownBlock ∨ v'.ownBlock = some w.heap.size) : Apart u v' := by
  intro g hg he
  rcases h with h | h
  · exact hne g hg (h ▸ he)
  · have := (World.ownsRow.lt hu g hg).2
    rw [h] at he
    injection he with he
    omega
theorem Kept.grow {w W W' : World} {base n size : Nat} {e : TypeId} {v : Value} {xs : List Value} (hk : Kept w W) (hown : W.ownsRow base e size v n xs) (hb : w.heap.size ≤ base) (hg : W.grownBy W' v.ownBlock) : Kept w W' :=
  ⟨hk.1.grown hg hk.2 (fun k h => Nat.le_trans hb (World.ownsRow.lt hown k h).1), Nat.le_trans hk.2 hg.size⟩
theorem Rws.head {w : World} {A : Option Addr} {n k : Nat} {xs : List (List Nat)} (h : Rws w A n xs) (hk : k ≤ n) : Rws w A k (xs.take k) := by
  refine ⟨by rw [List.length_take, h.1]; omega, fun i x hx => ?_⟩
  have hi : i < k := by
    rcases Nat.lt_or_ge i k with h | h
    · exact h
    · rw [List.getElem?_eq_none (by rw [List.length_take]; omega)] at hx; cases hx
  rw [List.getElem?_take_of_lt hi] at hx
  exact h.2 i x hx
/-- 'l[:k]' of slices of bytes -/
theorem run_headR (ki : IntKind) (A : Option Addr) (n cap k : Nat) (hk : (k : Int) ≤ (cap : Int)) (w : World) :
    (Instr.sliceAt 75 (.slice A n cap) Option.none (some (.int ki (k : Int))) Option.none).run Try.prog w = .ok (.slice A k cap) w := by
  rw [run_sliceAt_slice w 75 _ _ _ _ (by kernel_rfl), run_slice_h w 75 A n cap (by kernel_rfl) ki (k : Int) (by omega) hk]
  have hz : (sizeOf (Try.prog.elem 75)).run Try.prog w = .ok 1 w := by kernel_rfl
  rw [hz]
  have e : ((k : Int)).toNat = k := by omega
  simp only [Result.andThen, sliced, e]
  cases A with
  | none => simp
  | some a => simp [Addr.add]
end Go.Proofs.Ytmjgpgnecohbcaa

/- Rows of whole numbers that the call owns; append of one, or of a row, onto it. -/
namespace Go.Proofs.Ytmjgpgnecohbcaa
open Go.RowKit

def OwnZ (w : World) (base : Nat) (v : Value) (ns : List Int) : Prop := w.ownsRow base 3 1 v ns.length (ns.map fun n : Int => Value.int .i64 n)
theorem OwnZ.nil (w : World) (base : Nat) : OwnZ w base (.slice none 0 0) [] := World.ownsRow_nil w base _ 1
theorem OwnZ.below {w w' : World} {base : Nat} {v : Value} {ns : List Int} (h : OwnZ w base v ns) (hb : Below w.heap.size w w') : OwnZ w' base v ns :=
  World.ownsRow.kept h (row := Option.none) ⟨hb.os, hb.tape, hb.output, hb.size, fun k hk _ => hb.block k hk⟩ (by cases v.ownBlock <;> simp)
theorem OwnZ.slice {w : World} {base : Nat} {v : Value} {ns : List Int} (h : OwnZ w base v ns) : ∃ A c, v = .slice A ns.length c ∧ ns.length ≤ c ∧ c ≤ maxLen ∧ (A = none → c = 0) ∧ (0 < ns.length → ∃ g, A = some ⟨g, 0, none⟩ ∧ g < w.heap.size ∧ ∀ j (h : j < ns.length), w.cell? ⟨g, j, none⟩ = some (.int .i64 ns[j])) := by
  have h' := h
  obtain ⟨_, ⟨rfl, h0⟩ | ⟨g, cap, cur, rfl, _, hg, h1, h2, _⟩⟩ := h
  · exact ⟨none, 0, by rw [h0], by omega, by decide, fun _ => rfl, fun h => by omega⟩
  · refine ⟨_, cap, rfl, h1, h2, (fun h => by cases h), fun _ => ⟨g, rfl, heap_lt hg, fun j hj => ?_⟩⟩
    rw [World.ownsRow.cellAt h' j (by omega)]
    simp [hj]
theorem run_append_ints {w : World} {base : Nat} {v : Value} {ds xs : List Int} {g off n c : Nat} (ty : TypeId) (hown : OwnZ w base v ds) (hn : xs.length = n) (hx : ∀ j (h : j < xs.length), w.cell? ⟨g, off + j, none⟩ = some (.int .i64 xs[j]))
    (hsum : ds.length + n ≤ 1099511627776) (hbase : base ≤ w.heap.size) :
    ∃ v' w', (Builtin.append_ #[29, 29] ty #[v, .slice (some ⟨g, off, none⟩) n c]).run Try.prog w = .ok v' w' ∧ OwnZ w' base v' (ds ++ xs) ∧ w.grownBy w' v.ownBlock ∧ (v'.ownBlock = v.ownBlock ∨ v'.ownBlock = some w.heap.size) := by
  obtain ⟨i0, hi, hz0, hz1, hz2⟩ := info_parts int_info
  unfold OwnZ at *
  obtain ⟨v', w', r1, r2, r3, _, r5⟩ := run_append_own_at (P := Try.prog) w base 29 ty 3 i0 _ 1 8 Try.underlying29 hi hz0 hz1 hz2 rfl (by omega) v ds.length _ hown ⟨g, off, none⟩ n c (xs.map fun n : Int => Value.int .i64 n) (by simp [hn]) (fun j u hu => by
      rw [List.getElem?_map] at hu
      obtain ⟨x, hx1, rfl⟩ := Option.map_eq_some_iff.1 hu
      obtain ⟨hj, rfl⟩ := List.getElem?_eq_some_iff.1 hx1
      have := hx j hj
      unfold Addr.add
      split
      · rename_i h0; subst h0; simpa using this
      · exact this) (fun u hu => by
        obtain ⟨x, -, rfl⟩ := List.mem_map.1 hu
        rfl) (by simp only [maxLen]; omega) (by omega) hbase
  exact ⟨v', w', r1, by simpa [hn] using r2, r3, r5⟩
theorem wpList_append_ints {w : World} {ops : Array Oper} {rest : List Oper} {o : Oper} {a : Act} {Q : Exit → Act → World → Prop} (hgd : o.guard = none) (s x : Operand)
    (ho : o.op = .call { callee := .builtin .append, args := #[s, x], argTypes := #[29, 29] })
    {base : Nat} {v : Value} {ds xs : List Int} {g off n c : Nat} (hs : a.eval s = v) (hx : a.eval x = .slice (some ⟨g, off, none⟩) n c) (hown : OwnZ w base v ds) (hn : xs.length = n) (hy : ∀ j (h : j < xs.length), w.cell? ⟨g, off + j, none⟩ = some (.int .i64 xs[j]))
    (hsum : ds.length + n ≤ 1099511627776) (hbase : base ≤ w.heap.size)
    (h : ∀ v' w', OwnZ w' base v' (ds ++ xs) → w.grownBy w' v.ownBlock → (v'.ownBlock = v.ownBlock ∨ v'.ownBlock = some w.heap.size) → wpList Try.prog ops Q rest (a.put o.dst v') w') : wpList Try.prog ops Q (o :: rest) a w := by
  refine wpList_plain hgd fun K hK => ?_
  obtain ⟨v', w', hrun, h2, h3, h4⟩ := run_append_ints (w := w) (c := c) o.type hown hn hy hsum hbase
  unfold Oper.wp
  simp [execOp, ho, resolve, invoke, builtin, hs, hx, hrun, Result.andThen]
  exact hK _ _ (h v' w' h2 h3 h4)
/-- append at an operation whose guard says yes, where its run is known -/
theorem wpList_append_known {P : Program} {ops : Array Oper} {rest : List Oper} {o : Oper} {a : Act} {w w' : World} {Q : Exit → Act → World → Prop} {t : TypeId} {v u v' : Value} (s x : Operand)
    (ho : o.op = .call { callee := .builtin .append, args := #[s, x], argTypes := #[t, t] }) (hrun : (Builtin.append_ #[t, t] o.type #[v, u]).run P w = .ok v' w') (hs : a.eval s = v) (hx : a.eval x = u) (hw : Region.wanted o (yielded ops a.tmps) = true)
    (h : wpList P ops Q rest (a.put o.dst v') w') : wpList P ops Q (o :: rest) a w := by
  refine BigFrame.wpList_want hw fun K hK => ?_
  unfold Oper.wp
  simp [execOp, ho, resolve, invoke, builtin, hs, hx, hrun, Result.andThen]
  exact hK _ _ h
end Go.Proofs.Ytmjgpgnecohbcaa

/- Slices of whole numbers that may be read and cut; append of one onto a row of the call's own. -/
namespace Go.Proofs.Ytmjgpgnecohbcaa
open Go.RowKit

/-- the slice value of address A and length n reads as the numbers xs -/
def Zs (w : World) (A : Option Addr) (n : Nat) (xs : List Int) : Prop :=
  xs.length = n ∧ (0 < n → ∃ b off, A = some ⟨b, off, none⟩ ∧ b < w.heap.size ∧ ∀ j (h : j < xs.length), w.cell? ⟨b, off + j, none⟩ = some (.int .i64 xs[j]))
theorem Zs.kept {w W : World} {A : Option Addr} {n : Nat} {xs : List Int} (h : Zs w A n xs) (k : Kept w W) : Zs W A n xs :=
  ⟨h.1, fun hn => by
    obtain ⟨b, off, e, hb, hc⟩ := h.2 hn
    exact ⟨b, off, e, Nat.lt_of_lt_of_le hb k.2, fun j hj => (k.cell (p := ⟨b, off + j, none⟩) hb).trans (hc j hj)⟩⟩
theorem Zs.head {w : World} {A : Option Addr} {n k : Nat} {xs : List Int} (h : Zs w A n xs) (hk : k ≤ n) : Zs w A k (xs.take k) :=
  ⟨by rw [List.length_take, h.1]; omega, fun hn => by
    obtain ⟨b, off, e, hb, hc⟩ := h.2 (by omega)
    refine ⟨b, off, e, hb, fun j hj => ?_⟩
    rw [List.length_take] at hj
    rw [List.getElem_take]
    exact hc j (by omega)⟩
theorem Zs.rest {w : World} {A : Option Addr} {n k cap : Nat} {xs : List Int} (h : Zs w A n xs) (hk : k ≤ n) (hc : n ≤ cap) : Zs w (if cap = k then A else A.map fun x => x.add k) (n - k) (xs.drop k) :=
  ⟨by rw [List.length_drop, h.1], fun hn => by
    obtain ⟨b, off, e, hb, hcell⟩ := h.2 (by omega)
    subst e
    refine ⟨b, off + k, ?_, hb, fun j hj => ?_⟩
    · rw [if_neg (by omega)]
      unfold Addr.add
      by_cases h0 : k = 0 <;> simp [h0]
    · rw [List.length_drop] at hj
      rw [List.getElem_drop, Nat.add_assoc]
      exact hcell (k + j) (by omega)⟩
theorem OwnZ.zs {w : World} {base : Nat} {A : Option Addr} {n c : Nat} {L : List Int} (h : OwnZ w base (.slice A n c) L) : Zs w A n L := by
  obtain ⟨A', c', e, _, _, _, hc⟩ := h.slice
  rw [Value.slice.injEq] at e
  obtain ⟨rfl, rfl, rfl⟩ := e
  refine ⟨rfl, fun hn => ?_⟩
  obtain ⟨g, rfl, hg, hcell⟩ := hc hn
  exact ⟨g, 0, rfl, hg, fun j hj => by rw [Nat.zero_add]; exact hcell j hj⟩
theorem run_append_zs {w : World} {base : Nat} {v : Value} {ds xs : List Int} {A : Option Addr} {n c : Nat} (ty : TypeId) (hown : OwnZ w base v ds) (hz : Zs w A n xs) (hnil : A = none → c = 0)
    (hsum : ds.length + n ≤ 1099511627776) (hbase : base ≤ w.heap.size) :
    ∃ v' w', (Builtin.append_ #[29, 29] ty #[v, .slice A n c]).run Try.prog w = .ok v' w' ∧ OwnZ w' base v' (ds ++ xs) ∧ w.grownBy w' v.ownBlock ∧ (v'.ownBlock = v.ownBlock ∨ v'.ownBlock = some w.heap.size) := by
  obtain ⟨hl, hcell⟩ := hz
  by_cases h0 : n = 0
  · subst h0
    obtain rfl := List.eq_nil_of_length_eq_zero hl
    cases A with
    | none =>
      obtain ⟨i0, hi, hz0, hz1, hz2⟩ := info_parts int_info
      have hrun := run_append_owned_none (P := Try.prog) (w := w) base 29 ty 3 i0 1 Try.underlying29 hi v ds.length _ hown
      rw [hnil rfl]
      exact ⟨v, w, by simpa using hrun, by simpa using hown, World.grownBy.refl w _, .inl rfl⟩
    | some ad =>
      obtain ⟨i0, hi, hz0, hz1, hz2⟩ := info_parts int_info
      obtain ⟨v', w', h1, h2, h3, _, h5⟩ := run_append_own_at (P := Try.prog) w base 29 ty 3 i0 _ 1 8 Try.underlying29 hi hz0 hz1 hz2 rfl (by omega) v ds.length _ hown ad 0 c [] rfl (by simp) (by simp) (by simp only [maxLen]; omega) (by omega) hbase
      exact ⟨v', w', h1, by simpa [OwnZ] using h2, h3, h5⟩
  · obtain ⟨b, off, rfl, _, hc⟩ := hcell (by omega)
    exact run_append_ints ty hown hl hc hsum hbase
theorem wpList_append_zs {w : World} {ops : Array Oper} {rest : List Oper} {o : Oper} {a : Act} {Q : Exit → Act → World → Prop} (hgd : o.guard = none) (s x : Operand)
    (ho : o.op = .call { callee := .builtin .append, args := #[s, x], argTypes := #[29, 29] })
    {base : Nat} {v : Value} {ds xs : List Int} {A : Option Addr} {n c : Nat} (hs : a.eval s = v) (hx : a.eval x = .slice A n c) (hown : OwnZ w base v ds) (hz : Zs w A n xs) (hnil : A = none → c = 0)
    (hsum : ds.length + n ≤ 1099511627776) (hbase : base ≤ w.heap.size)
    (h : ∀ v' w', OwnZ w' base v' (ds ++ xs) → w.grownBy w' v.ownBlock → (v'.ownBlock = v.ownBlock ∨ v'.ownBlock = some w.heap.size) → wpList Try.prog ops Q rest (a.put o.dst v') w') : wpList Try.prog ops Q (o :: rest) a w := by
  refine wpList_plain hgd fun K hK => ?_
  obtain ⟨v', w', hrun, h2, h3, h4⟩ := run_append_zs (w := w) (c := c) o.type hown hz hnil hsum hbase
  unfold Oper.wp
  simp [execOp, ho, resolve, invoke, builtin, hs, hx, hrun, Result.andThen]
  exact hK _ _ (h v' w' h2 h3 h4)
/-- 'l[:k]', 'l[k:]' of ints -/
theorem run_headI (ki : IntKind) (A : Option Addr) (n cap k : Nat) (hk : (k : Int) ≤ (cap : Int)) (w : World) :
    (Instr.sliceAt 29 (.slice A n cap) Option.none (some (.int ki (k : Int))) Option.none).run Try.prog w = .ok (.slice A k cap) w := by
  rw [run_sliceAt_slice w 29 _ _ _ _ (by kernel_rfl), run_slice_h w 29 A n cap (by kernel_rfl) ki (k : Int) (by omega) hk]
  have hz : (sizeOf (Try.prog.elem 29)).run Try.prog w = .ok 1 w := by kernel_rfl
  rw [hz]
  have e : ((k : Int)).toNat = k := by omega
  simp only [Result.andThen, sliced, e]
  cases A with
  | none => simp
  | some a => simp [Addr.add]
theorem run_tailI (ki : IntKind) (A : Option Addr) (n cap k : Nat) (hk : k ≤ n) (w : World) :
    (Instr.sliceAt 29 (.slice A n cap) (some (.int ki (k : Int))) Option.none Option.none).run Try.prog w = .ok (.slice (if cap = k then A else A.map fun x => x.add k) (n - k) (cap - k)) w := by
  rw [run_sliceAt_slice w 29 _ _ _ _ (by kernel_rfl), run_slice_l w 29 A n cap (by kernel_rfl) ki (k : Int) (by omega) (by omega)]
  have hz : (sizeOf (Try.prog.elem 29)).run Try.prog w = .ok 1 w := by kernel_rfl
  rw [hz]
  have e : ((k : Int)).toNat = k := by omega
  simp only [Result.andThen, sliced, e, Nat.mul_one]
theorem kept_drewN {w W : World} (h : Kept w W) (n : Nat) : Kept w (W.drewN n) := by
  induction n with
  | zero => exact h
  | succ n ih => exact ih.drew
end Go.Proofs.Ytmjgpgnecohbcaa
