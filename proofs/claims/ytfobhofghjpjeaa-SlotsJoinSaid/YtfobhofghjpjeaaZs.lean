/- Slices of whole numbers that may be read and cut; append of one onto a row of the call's own. -/
import Derived.Test.YtfobhofghjpjeaaOwnZ
namespace Go.Proofs.Ytfobhofghjpjeaa
open Go.RowKit

/-- the slice value of address A and length n reads as the numbers xs -/
def Zs (w : World) (A : Option Addr) (n : Nat) (xs : List Int) : Prop :=
  xs.length = n ∧ (0 < n → ∃ b off, A = some ⟨b, off, none⟩ ∧ b < w.heap.size ∧ ∀ j (h : j < xs.length), w.cell? ⟨b, off + j, none⟩ = some (.int .i64 xs[j]))
theorem Zs.kept {w W : World} {A : Option Addr} {n : Nat} {xs : List Int} (h : Zs w A n xs) (k : Kept w W) : Zs W A n xs :=
  ⟨h.1, fun hn => by
    obtain ⟨b, off, e, hb, hc⟩ := h.2 hn
    exact ⟨b, off, e, Nat.lt_of_lt_of_le hb k.2, fun j hj => (k.cell (p := ⟨b, off + j, none⟩) hb).trans (hc j hj)⟩⟩
theorem Zs.head {w : World} {A : Option Addr} {n k : Nat} {xs : List Int} (h : Zs w A n xs) (hk : k ≤ n) : Zs w A k (xs.take k) :=
  ⟨by rw [List.length_take, h.1]; omega, fun hn => by
    obtain ⟨b, off, e, hb, hc⟩ := h.2 (by omega)
    refine ⟨b, off, e, hb, fun j hj => ?_⟩
    rw [List.length_take] at hj
    rw [List.getElem_take]
    exact hc j (by omega)⟩
theorem Zs.rest {w : World} {A : Option Addr} {n k cap : Nat} {xs : List Int} (h : Zs w A n xs) (hk : k ≤ n) (hc : n ≤ cap) : Zs w (if cap = k then A else A.map fun x => x.add k) (n - k) (xs.drop k) :=
  ⟨by rw [List.length_drop, h.1], fun hn => by
    obtain ⟨b, off, e, hb, hcell⟩ := h.2 (by omega)
    subst e
    refine ⟨b, off + k, ?_, hb, fun j hj => ?_⟩
    · rw [if_neg (by omega)]
      unfold Addr.add
      by_cases h0 : k = 0 <;> simp [h0]
    · rw [List.length_drop] at hj
      rw [List.getElem_drop, Nat.add_assoc]
      exact hcell (k + j) (by omega)⟩
theorem OwnZ.zs {w : World} {base : Nat} {A : Option Addr} {n c : Nat} {L : List Int} (h : OwnZ w base (.slice A n c) L) : Zs w A n L := by
  obtain ⟨A', c', e, _, _, _, hc⟩ := h.slice
  rw [Value.slice.injEq] at e
  obtain ⟨rfl, rfl, rfl⟩ := e
  refine ⟨rfl, fun hn => ?_⟩
  obtain ⟨g, rfl, hg, hcell⟩ := hc hn
  exact ⟨g, 0, rfl, hg, fun j hj => by rw [Nat.zero_add]; exact hcell j hj⟩
theorem run_append_zs {w : World} {base : Nat} {v : Value} {ds xs : List Int} {A : Option Addr} {n c : Nat} (ty : TypeId) (hown : OwnZ w base v ds) (hz : Zs w A n xs) (hnil : A = none → c = 0)
    (hsum : ds.length + n ≤ 1099511627776) (hbase : base ≤ w.heap.size) :
    ∃ v' w', (Builtin.append_ #[25, 25] ty #[v, .slice A n c]).run Try.prog w = .ok v' w' ∧ OwnZ w' base v' (ds ++ xs) ∧ w.grownBy w' v.ownBlock ∧ (v'.ownBlock = v.ownBlock ∨ v'.ownBlock = some w.heap.size) := by
  obtain ⟨hl, hcell⟩ := hz
  by_cases h0 : n = 0
  · subst h0
    obtain rfl := List.eq_nil_of_length_eq_zero hl
    cases A with
    | none =>
      obtain ⟨i0, hi, hz0, hz1, hz2⟩ := info_parts int_info
      have hrun := run_append_owned_none (P := Try.prog) (w := w) base 25 ty 3 i0 1 Try.underlying25 hi v ds.length _ hown
      rw [hnil rfl]
      exact ⟨v, w, by simpa using hrun, by simpa using hown, World.grownBy.refl w _, .inl rfl⟩
    | some ad =>
      obtain ⟨i0, hi, hz0, hz1, hz2⟩ := info_parts int_info
      obtain ⟨v', w', h1, h2, h3, _, h5⟩ := run_append_own_at (P := Try.prog) w base 25 ty 3 i0 _ 1 8 Try.underlying25 hi hz0 hz1 hz2 rfl (by omega) v ds.length _ hown ad 0 c [] rfl (by simp) (by simp) (by simp only [maxLen]; omega) (by omega) hbase
      exact ⟨v', w', h1, by simpa [OwnZ] using h2, h3, h5⟩
  · obtain ⟨b, off, rfl, _, hc⟩ := hcell (by omega)
    exact run_append_ints ty hown hl hc hsum hbase
theorem wpList_append_zs {w : World} {ops : Array Oper} {rest : List Oper} {o : Oper} {a : Act} {Q : Exit → Act → World → Prop} (hgd : o.guard = none) (s x : Operand)
    (ho : o.op = .call { callee := .builtin .append, args := #[s, x], argTypes := #[25, 25] })
    {base : Nat} {v : Value} {ds xs : List Int} {A : Option Addr} {n c : Nat} (hs : a.eval s = v) (hx : a.eval x = .slice A n c) (hown : OwnZ w base v ds) (hz : Zs w A n xs) (hnil : A = none → c = 0)
    (hsum : ds.length + n ≤ 1099511627776) (hbase : base ≤ w.heap.size)
    (h : ∀ v' w', OwnZ w' base v' (ds ++ xs) → w.grownBy w' v.ownBlock → (v'.ownBlock = v.ownBlock ∨ v'.ownBlock = some w.heap.size) → wpList Try.prog ops Q rest (a.put o.dst v') w') : wpList Try.prog ops Q (o :: rest) a w := by
  refine wpList_plain hgd fun K hK => ?_
  obtain ⟨v', w', hrun, h2, h3, h4⟩ := run_append_zs (w := w) (c := c) o.type hown hz hnil hsum hbase
  unfold Oper.wp
  simp [execOp, ho, resolve, invoke, builtin, hs, hx, hrun, Result.andThen]
  exact hK _ _ (h v' w' h2 h3 h4)
/-- 'l[:k]', 'l[k:]' of ints -/
theorem run_headI (ki : IntKind) (A : Option Addr) (n cap k : Nat) (hk : (k : Int) ≤ (cap : Int)) (w : World) :
    (Instr.sliceAt 25 (.slice A n cap) Option.none (some (.int ki (k : Int))) Option.none).run Try.prog w = .ok (.slice A k cap) w := by
  rw [run_sliceAt_slice w 25 _ _ _ _ (by kernel_rfl), run_slice_h w 25 A n cap (by kernel_rfl) ki (k : Int) (by omega) hk]
  have hz : (sizeOf (Try.prog.elem 25)).run Try.prog w = .ok 1 w := by kernel_rfl
  rw [hz]
  have e : ((k : Int)).toNat = k := by omega
  simp only [Result.andThen, sliced, e]
  cases A with
  | none => simp
  | some a => simp [Addr.add]
theorem run_tailI (ki : IntKind) (A : Option Addr) (n cap k : Nat) (hk : k ≤ n) (w : World) :
    (Instr.sliceAt 25 (.slice A n cap) (some (.int ki (k : Int))) Option.none Option.none).run Try.prog w = .ok (.slice (if cap = k then A else A.map fun x => x.add k) (n - k) (cap - k)) w := by
  rw [run_sliceAt_slice w 25 _ _ _ _ (by kernel_rfl), run_slice_l w 25 A n cap (by kernel_rfl) ki (k : Int) (by omega) (by omega)]
  have hz : (sizeOf (Try.prog.elem 25)).run Try.prog w = .ok 1 w := by kernel_rfl
  rw [hz]
  have e : ((k : Int)).toNat = k := by omega
  simp only [Result.andThen, sliced, e, Nat.mul_one]
theorem kept_drewN {w W : World} (h : Kept w W) (n : Nat) : Kept w (W.drewN n) := by
  induction n with
  | zero => exact h
  | succ n ih => exact ih.drew
end Go.Proofs.Ytfobhofghjpjeaa
