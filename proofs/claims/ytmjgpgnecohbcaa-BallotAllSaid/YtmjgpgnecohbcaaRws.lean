/- Rows of slices of bytes: what it means that one reads as a list of lists of bytes; rows of slices that the call owns; append. Numbers of the program: the types [][]uint8 and []uint8. -/
import Derived.Test.YtmjgpgnecohbcaaRow
import Derived.Deep.DeepAppendWide
import Derived.Lib.Hide
namespace Go.Proofs.Ytmjgpgnecohbcaa
open Go.RowKit

/-- v is a slice that reads as the bytes x, and lies not in block av -/
def Tell (w : World) (B : Nat) (av : Option Nat) (v : Value) (x : List Nat) : Prop := ∃ A n c, v = .slice A n c ∧ Bts w B A n x ∧ (A = none → n = 0 ∧ c = 0) ∧ ∀ a, A = some a → 0 < n → av ≠ some a.block
def Tells (w : World) (B : Nat) (av : Option Nat) (vs : List Value) (xs : List (List Nat)) : Prop := vs.length = xs.length ∧ ∀ (i : Nat) v x, vs[i]? = some v → xs[i]? = some x → Tell w B av v x
theorem Tells.nil {w : World} {B : Nat} {av : Option Nat} : Tells w B av [] [] := ⟨rfl, fun i v x h => by simp at h⟩
theorem Tells.snoc {w : World} {B : Nat} {av : Option Nat} {vs : List Value} {xs : List (List Nat)} (h : Tells w B av vs xs) {v : Value} {x : List Nat} (hv : Tell w B av v x) : Tells w B av (vs ++ [v]) (xs ++ [x]) := by
  refine ⟨by simp [h.1], fun i u y hu hy => ?_⟩
  rcases Nat.lt_or_ge i vs.length with hi | hi
  · rw [List.getElem?_append_left hi] at hu
    rw [List.getElem?_append_left (by rw [← h.1]; exact hi)] at hy
    exact h.2 i u y hu hy
  · rw [List.getElem?_append_right hi] at hu
    rw [List.getElem?_append_right (by rw [← h.1]; exact hi), ← h.1] at hy
    cases hk : i - vs.length with
    | zero =>
      rw [hk] at hu hy
      simp at hu hy
      subst hu hy
      exact hv
    | succ k =>
      rw [hk] at hu
      simp at hu
theorem Tell.below {w w' : World} {B : Nat} {av : Option Nat} {v : Value} {x : List Nat} (h : Tell w B av v x) (hb : Below B w w') : Tell w' B av v x := by
  obtain ⟨A, n, c, e, h1, h2, h3⟩ := h
  exact ⟨A, n, c, e, h1.below hb, h2, h3⟩
theorem Tell.more {w : World} {B B' : Nat} {av : Option Nat} {v : Value} {x : List Nat} (h : Tell w B av v x) (hB : B ≤ B') : Tell w B' av v x := by
  obtain ⟨A, n, c, e, h1, h2, h3⟩ := h
  exact ⟨A, n, c, e, h1.more hB, h2, h3⟩
theorem Tell.free {w : World} {B : Nat} {av av' : Option Nat} {v : Value} {x : List Nat} (h : Tell w B av v x) (ha : ∀ k, av' = some k → av = some k ∨ B ≤ k) : Tell w B av' v x := by
  obtain ⟨A, n, c, e, h1, h2, h3⟩ := h
  refine ⟨A, n, c, e, h1, h2, fun a hA hn he => ?_⟩
  rcases ha _ he with h4 | h4
  · exact h3 a hA hn h4
  · obtain ⟨b, off, hA', hb, _⟩ := h1.2.2.2 hn
    rw [hA] at hA'
    injection hA' with hA'
    subst hA'
    simp only at h4
    omega
/-- what lies elsewhere stays, behind an append onto the row -/
theorem Tell.grown {w w' : World} {B : Nat} {av : Option Nat} {v : Value} {x : List Nat} (h : Tell w B av v x) (hg : w.grownBy w' av) : Tell w' B av v x := by
  obtain ⟨A, n, c, e, h1, h2, h3⟩ := h
  refine ⟨A, n, c, e, ⟨h1.1, h1.2.1, h1.2.2.1, fun hn => ?_⟩, h2, h3⟩
  obtain ⟨b, off, hA, hb, hc⟩ := h1.2.2.2 hn
  refine ⟨b, off, hA, hb, fun j hj => ?_⟩
  exact hg.cell (hc j hj) (fun h => h3 _ hA hn h.symm)
theorem Tells.map {w w' : World} {B B' : Nat} {av av' : Option Nat} {vs : List Value} {xs : List (List Nat)} (h : Tells w B av vs xs) (f : ∀ v x, Tell w B av v x → Tell w' B' av' v x) : Tells w' B' av' vs xs :=
  ⟨h.1, fun i v x hv hx => f v x (h.2 i v x hv hx)⟩

/-- The slice value of address A and length n reads as the rows xs. -/
def Rws (w : World) (A : Option Addr) (n : Nat) (xs : List (List Nat)) : Prop :=
  xs.length = n ∧ ∀ (i : Nat) x, xs[i]? = some x → ∃ b off v, A = some ⟨b, off, none⟩ ∧ b < w.heap.size ∧ w.cell? ⟨b, off + i, none⟩ = some v ∧ Tell w w.heap.size none v x
theorem Rws.below {w w' : World} {A : Option Addr} {n : Nat} {xs : List (List Nat)} (h : Rws w A n xs) (hb : Below w.heap.size w w') : Rws w' A n xs := by
  refine ⟨h.1, fun i x hx => ?_⟩
  obtain ⟨b, off, v, h1, h2, h3, h4⟩ := h.2 i x hx
  exact ⟨b, off, v, h1, Nat.lt_of_lt_of_le h2 hb.size, (hb.cell (p := ⟨b, off + i, none⟩) h2).trans h3, (h4.below hb).more hb.size⟩

/-- a row of slices that the call owns -/
def OwnS (w : World) (base : Nat) (v : Value) (vs : List Value) : Prop := w.ownsRow base 37 1 v vs.length vs
theorem OwnS.nil (w : World) (base : Nat) : OwnS w base (.slice none 0 0) [] := World.ownsRow_nil w base _ 1
theorem OwnS.below {w w' : World} {base : Nat} {v : Value} {vs : List Value} (h : OwnS w base v vs) (hb : Below w.heap.size w w') : OwnS w' base v vs :=
  World.ownsRow.kept h (row := Option.none) ⟨hb.os, hb.tape, hb.output, hb.size, fun k hk _ => hb.block k hk⟩ (by cases v.ownBlock <;> simp)
theorem OwnS.slice {w : World} {base : Nat} {v : Value} {vs : List Value} (h : OwnS w base v vs) : ∃ A n c, v = .slice A n c := by
  obtain ⟨_, ⟨e, _⟩ | ⟨g', cap', cur, e, _⟩⟩ := h
  · exact ⟨_, _, _, e⟩
  · exact ⟨_, _, _, e⟩
theorem OwnS.rws {w : World} {base : Nat} {v : Value} {vs : List Value} {xs : List (List Nat)} (h : OwnS w base v vs) {av : Option Nat} (ht : Tells w w.heap.size av vs xs) : ∃ A c, v = .slice A xs.length c ∧ Rws w A xs.length xs ∧ xs.length ≤ c := by
  have h' := h
  obtain ⟨_, ⟨rfl, h0⟩ | ⟨g, cap, cur, rfl, _, _, hcap, _⟩⟩ := h
  · have hx : xs = [] := List.eq_nil_of_length_eq_zero (by rw [← ht.1, h0])
    subst hx
    exact ⟨none, 0, rfl, ⟨rfl, fun i x hx => by simp at hx⟩, Nat.le_refl _⟩
  · have hlt := (World.ownsRow.lt h' g rfl).2
    refine ⟨_, cap, by rw [ht.1], ⟨rfl, fun i x hx => ?_⟩, by rw [← ht.1]; exact hcap⟩
    have hi : i < vs.length := by
      rw [ht.1]
      rcases Nat.lt_or_ge i xs.length with h | h
      · exact h
      · rw [List.getElem?_eq_none h] at hx; cases hx
    refine ⟨g, 0, vs[i], rfl, hlt, ?_, (ht.2 i _ x (List.getElem?_eq_getElem hi) hx).free (fun k hk => by cases hk)⟩
    rw [Nat.zero_add, World.ownsRow.cellAt h' i (by omega), List.getElem?_eq_getElem hi]

theorem rows_info : (Try.prog.info? 37).map (fun i => (i.zero, i.size, i.bytes)) = some (some (.slice none 0 0), 1, 24) := by kernel_rfl
/-- append of one slice onto a row that the call owns -/
theorem run_append_row {w : World} {base : Nat} {v : Value} {ds : List Value} {g : Nat} {x : Value} (ty : TypeId) (hown : OwnS w base v ds) (hx : w.cell? ⟨g, 0, none⟩ = some x) (h1 : x.oneCell' = true)
    (hsum : ds.length ≤ 1099511627776) (hbase : base ≤ w.heap.size) :
    ∃ v' w', (Builtin.append_ #[75, 75] ty #[v, .slice (some ⟨g, 0, none⟩) 1 1]).run Try.prog w = .ok v' w' ∧ OwnS w' base v' (ds ++ [x]) ∧ w.grownBy w' v.ownBlock ∧ (v'.ownBlock = v.ownBlock ∨ v'.ownBlock = some w.heap.size) := by
  obtain ⟨i0, hi, hz0, hz1, hz2⟩ := info_parts rows_info
  unfold OwnS at *
  obtain ⟨v', w', r1, r2, r3, _, r5⟩ := run_append_own_at (P := Try.prog) w base 75 ty 37 i0 _ 1 24 Try.underlying75 hi hz0 hz1 hz2 rfl (by omega) v ds.length _ hown ⟨g, 0, none⟩ 1 1 [x] rfl (fun j u hu => by
      match j, hu with
      | 0, hu => simp at hu; subst hu; simpa [Addr.add] using hx) (fun u hu => by simp at hu; subst hu; exact h1) (by simp only [maxLen]; omega) (by omega) hbase
  exact ⟨v', w', r1, by simpa using r2, r3, r5⟩
theorem wpList_append_row {w : World} {ops : Array Oper} {rest : List Oper} {o : Oper} {a : Act} {Q : Exit → Act → World → Prop} (hgd : o.guard = none) (s x : Operand)
    (ho : o.op = .call { callee := .builtin .append, args := #[s, x], argTypes := #[75, 75] })
    {base : Nat} {v : Value} {ds : List Value} {g : Nat} {y : Value} (hs : a.eval s = v) (hx : a.eval x = .slice (some ⟨g, 0, none⟩) 1 1) (hown : OwnS w base v ds) (hy : w.cell? ⟨g, 0, none⟩ = some y) (h1 : y.oneCell' = true)
    (hsum : ds.length ≤ 1099511627776) (hbase : base ≤ w.heap.size)
    (h : ∀ v' w', OwnS w' base v' (ds ++ [y]) → w.grownBy w' v.ownBlock → (v'.ownBlock = v.ownBlock ∨ v'.ownBlock = some w.heap.size) → wpList Try.prog ops Q rest (a.put o.dst v') w') : wpList Try.prog ops Q (o :: rest) a w := by
  refine wpList_plain hgd fun K hK => ?_
  obtain ⟨v', w', hrun, h2, h3, h4⟩ := run_append_row (w := w) o.type hown hy h1 hsum hbase
  unfold Oper.wp
  simp [execOp, ho, resolve, invoke, builtin, hs, hx, hrun, Result.andThen]
  exact hK _ _ (h v' w' h2 h3 h4)
/-- a row and what it holds, behind an append of one more -/
theorem rows_grown {w w' : World} {v v' : Value} {ds : List Value} {xs : List (List Nat)} {y : Value} {x : List Nat} (ht : Tells w w.heap.size v.ownBlock ds xs) (hy : Tell w w.heap.size v.ownBlock y x)
    (hg : w.grownBy w' v.ownBlock) (ha : v'.ownBlock = v.ownBlock ∨ v'.ownBlock = some w.heap.size) : Tells w' w'.heap.size v'.ownBlock (ds ++ [y]) (xs ++ [x]) := by
  refine (ht.snoc hy).map fun u z h => ((h.grown hg).free fun k hk => ?_).more hg.size
  rcases ha with e | e
  · exact .inl (e ▸ hk)
  · rw [e] at hk
    injection hk with hk
    exact .inr (Nat.le_of_eq hk)
/-- an argument: a slice of slices of bytes -/
theorem rows_of {w : World} {A : Option Addr} {n cap : Nat} (h : SliceAt 1 24 (IsSlice 1 1 (IsInt .u8)) w A n cap) : ∃ xs, Rws w A n xs := by
  obtain ⟨_, _, _, _, hc⟩ := h
  have key : ∀ i, i < n → ∃ x : List Nat, ∀ b off, A = some ⟨b, off, none⟩ → b < w.heap.size ∧ ∃ v, w.cell? ⟨b, off + i, none⟩ = some v ∧ Tell w w.heap.size none v x := by
    intro i hi
    obtain ⟨b, off, rfl, hb, hel⟩ := hc (by omega)
    obtain ⟨cs, hl, ⟨Ai, ni, ci, rfl, hs⟩, hcell⟩ := hel i hi
    obtain ⟨x, hx⟩ := bts_of hs
    refine ⟨x, fun b' off' e => ?_⟩
    simp only [Option.some.injEq, Addr.mk.injEq, and_true] at e
    obtain ⟨rfl, rfl⟩ := e
    refine ⟨hb, _, by simpa using hcell 0 (by omega), Ai, ni, ci, rfl, hx, fun h => ?_, fun _ _ _ h => by cases h⟩
    have := hs.2.2.2.1 h
    exact ⟨by have := hs.1; omega, this⟩
  obtain ⟨f, hf⟩ := Go.Deep.choose_lt key
  refine ⟨(List.range n).map f, by simp, fun i x hx => ?_⟩
  have hi : i < n := by
    rcases Nat.lt_or_ge i n with h | h
    · exact h
    · rw [List.getElem?_eq_none (by simpa using h)] at hx; cases hx
  obtain ⟨b, off, rfl, _, _⟩ := hc (by omega)
  simp [hi] at hx
  subst hx
  obtain ⟨hb, v, h1, h2⟩ := hf i hi b off rfl
  exact ⟨b, off, v, rfl, hb, h1, h2⟩
end Go.Proofs.Ytmjgpgnecohbcaa
