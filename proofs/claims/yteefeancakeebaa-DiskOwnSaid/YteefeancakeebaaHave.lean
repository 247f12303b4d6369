/- Bytes in a slice of which the block is the call's own, and may hold more than the slice has room for (b[:n:n]): cut, appended to, read. -/
import Derived.Test.YteefeancakeebaaBts
import Derived.Test.YteefeancakeebaaRow
namespace Go.Proofs.Yteefeancakeebaa
open Go.RowKit

def Have (w : World) (base : Nat) (v : Value) (bs : List Nat) : Prop :=
  (v = .slice none 0 0 ∧ bs = []) ∨
  ∃ g cap cur, v = .slice (some ⟨g, 0, none⟩) bs.length cap ∧ base ≤ g ∧ w.heap[g]? = some (.cells cur 5 (0, 0)) ∧ bs.length ≤ cap ∧ cap ≤ maxLen ∧ cap ≤ cur.size ∧ cur.toList.take bs.length = bs.map fun c : Nat => Value.int .u8 (c : Int)
theorem Have.nil (w : World) (base : Nat) : Have w base (.slice none 0 0) [] := .inl ⟨rfl, rfl⟩
theorem Own.have {w : World} {base : Nat} {v : Value} {bs : List Nat} (h : Own w base v bs) : Have w base v bs := by
  obtain ⟨_, ⟨rfl, h0⟩ | ⟨g, cap, cur, rfl, h1, h2, h3, h4, h5, h6⟩⟩ := h
  · exact .inl ⟨rfl, List.eq_nil_of_length_eq_zero h0⟩
  · exact .inr ⟨g, cap, cur, rfl, h1, h2, h3, h4, by omega, by simpa using h6⟩
theorem Have.lt {w : World} {base : Nat} {v : Value} {bs : List Nat} (h : Have w base v bs) : ∀ k, v.ownBlock = some k → base ≤ k ∧ k < w.heap.size := by
  intro k hk
  obtain ⟨rfl, _⟩ | ⟨g, cap, cur, rfl, h1, h2, _⟩ := h
  · cases hk
  · simp [Value.ownBlock] at hk; subst hk; exact ⟨h1, heap_lt h2⟩
theorem Have.kept {w w' : World} {base : Nat} {v : Value} {bs : List Nat} (h : Have w base v bs) (hb : ∀ k, v.ownBlock = some k → w'.heap[k]? = w.heap[k]?) : Have w' base v bs := by
  obtain h | ⟨g, cap, cur, rfl, h1, h2, h3⟩ := h
  · exact .inl h
  · exact .inr ⟨g, cap, cur, rfl, h1, (hb g rfl).trans h2, h3⟩
theorem Have.below {w w' : World} {base : Nat} {v : Value} {bs : List Nat} (h : Have w base v bs) (hb : Below w.heap.size w w') : Have w' base v bs := h.kept fun k hk => hb.block k (h.lt k hk).2
theorem Have.base {w : World} {b b' : Nat} {v : Value} {bs : List Nat} (h : Have w b v bs) (hb : b' ≤ b) : Have w b' v bs := by
  obtain h | ⟨g, cap, cur, rfl, h1, h3⟩ := h
  · exact .inl h
  · exact .inr ⟨g, cap, cur, rfl, Nat.le_trans hb h1, h3⟩
theorem Have.far {w : World} {base : Nat} {u : Value} {bs : List Nat} (hu : Have w base u bs) {p : Addr} (hp : u.ownBlock ≠ some p.block) (x : Value) : Have (w.setCell p x) base u bs :=
  hu.kept fun k hk => Below.heap_setCell w p x k (fun e => hp (by rw [hk, e]))
theorem Have.slice {w : World} {base : Nat} {v : Value} {bs : List Nat} (h : Have w base v bs) : ∃ A cap, v = .slice A bs.length cap ∧ (A = none → cap = 0) ∧ bs.length ≤ cap ∧ cap ≤ maxLen := by
  obtain ⟨rfl, rfl⟩ | ⟨g, cap, cur, rfl, h1, h2, h3, h4, _⟩ := h
  · exact ⟨none, 0, rfl, fun _ => rfl, Nat.le_refl _, by decide⟩
  · exact ⟨_, cap, rfl, fun h => (by cases h), h3, h4⟩
theorem Have.form {w : World} {base : Nat} {v : Value} {bs : List Nat} (h : Have w base v bs) : ∃ A n cap, v = .slice A n cap := by
  obtain ⟨A, cap, e, _⟩ := h.slice
  exact ⟨A, _, cap, e⟩
/-- what the slice says may be read -/
theorem Have.row {w : World} {base : Nat} {A : Option Addr} {n cap : Nat} {bs : List Nat} (h : Have w base (.slice A n cap) bs) (hl : bs.length ≤ 140737505132544) (hby : ∀ c ∈ bs, c < 256) : Row w A n cap bs := by
  obtain ⟨e, rfl⟩ | ⟨g, cap', cur, e, h1, h2, h3, h4, h5, h6⟩ := h
  · cases e; exact Row.none
  · cases e
    refine ⟨⟨rfl, hl, hby, fun hn => ⟨g, 0, rfl, heap_lt h2, fun j hj => ?_⟩⟩, (fun h => by cases h), h3, h4⟩
    rw [Nat.zero_add, cell_of_heap h2]
    have h7 : cur[j]? = (cur.toList.take bs.length)[j]? := by
      rw [List.getElem?_take, if_pos hj]; simp
    rw [h7, h6]
    simp [hj]
/-- 'b[:k:k]' -/
theorem Have.leave {w : World} {base : Nat} {A : Option Addr} {n cap : Nat} {bs : List Nat} (h : Have w base (.slice A n cap) bs) {k : Nat} (hk : k ≤ n) : Have w base (.slice A k k) (bs.take k) := by
  obtain ⟨e, rfl⟩ | ⟨g, cap', cur, e, h1, h2, h3, h4, h5, h6⟩ := h
  · cases e
    obtain rfl : k = 0 := by omega
    exact .inl ⟨rfl, rfl⟩
  · cases e
    have hlk : (bs.take k).length = k := by simp; omega
    refine .inr ⟨g, k, cur, by rw [hlk], h1, h2, by omega, by omega, by omega, ?_⟩
    rw [hlk, List.map_take, ← h6, List.take_take, Nat.min_eq_left hk]
theorem run_leave (A : Option Addr) (n cap k : Nat) (i : Int) (hi : i = (k : Int)) (hk : k ≤ cap) (w : World) :
    (Instr.slice 26 (.slice A n cap) Option.none (some (.int .i64 i)) (some (.int .i64 i))).run Try.prog w = .ok (.slice A k k) w := by
  subst hi
  rw [run_slice_hm w 26 A n cap (by kernel_rfl) .i64 .i64 (k : Int) (k : Int) (by omega) (by omega) (by omega)]
  have hz : (sizeOf (Try.prog.elem 26)).run Try.prog w = .ok 1 w := by kernel_rfl
  rw [hz]
  have e : ((k : Int)).toNat = k := by omega
  simp only [Result.andThen, sliced, e]
  cases A with
  | none => simp
  | some a => simp [Addr.add]

/-- append of bytes that lie somewhere (nowhere, if there are none) onto such a slice -/
theorem run_append_have {w : World} {base : Nat} {v : Value} {ds bs : List Nat} {B n c : Nat} {A : Option Addr} (ty : TypeId) (h : Have w base v ds) (hb : Bts w B A n bs) (hc : A = none → c = 0)
    (hsum : ds.length + n ≤ 140737505132544) (hbase : base ≤ w.heap.size) :
    ∃ v' w', (Builtin.append_ #[26, 26] ty #[v, .slice A n c]).run Try.prog w = .ok v' w' ∧ Have w' base v' (ds ++ bs) ∧ w.grownBy w' v.ownBlock ∧ (v'.ownBlock = v.ownBlock ∨ v'.ownBlock = some w.heap.size) := by
  obtain ⟨rfl, rfl⟩ | ⟨g, cap, cur, rfl, hbg, hg, hnc, hcm, hcs, htake⟩ := h
  · obtain ⟨v', w', h1, h2, h3, h4⟩ := run_append_bts ty (Own.nil w base) hb hc hsum hbase
    exact ⟨v', w', h1, h2.have, h3, h4⟩
  · obtain ⟨i0, hi, hz0, hz1, hz2⟩ := info_parts u8_info
    obtain ⟨hl, _, hby, hcell⟩ := hb
    subst hl
    cases A with
    | none =>
      have h0 : bs.length = 0 := by
        rcases Nat.eq_zero_or_pos bs.length with h | h
        · exact h
        · obtain ⟨_, _, e, _⟩ := hcell h; cases e
      obtain rfl := List.eq_nil_of_length_eq_zero h0
      obtain rfl := hc rfl
      refine ⟨_, w, ?_, ?_, World.grownBy.refl w _, .inl rfl⟩
      · exact (by simp [Builtin.append_, run_underlying Try.underlying26, sizeOf, typeInfo, hi, Builtin.lenOf, Builtin.firstCells, hnc, storeCells] :
          (Builtin.append_ #[26, 26] ty #[.slice (some ⟨g, 0, none⟩) ds.length cap, .slice none 0 0]).run Try.prog w = .ok (.slice (some ⟨g, 0, none⟩) ds.length cap) w)
      · rw [List.append_nil]; exact .inr ⟨g, cap, cur, rfl, hbg, hg, hnc, hcm, hcs, htake⟩
    | some ad =>
      have hnews : ∀ j u, (bs.map fun c : Nat => Value.int .u8 (c : Int))[j]? = some u → w.cell? (ad.add j) = some u := fun j u hu => by
        have hj : j < bs.length := by
          rcases Nat.lt_or_ge j bs.length with h | h
          · exact h
          · rw [List.getElem?_eq_none (by simpa using h)] at hu; cases hu
        obtain ⟨b, off, e, _, hcs⟩ := hcell (by omega)
        injection e with e
        subst e
        have h6 := hcs j hj
        have h7 : (⟨b, off, none⟩ : Addr).add j = ⟨b, off + j, none⟩ := by
          unfold Addr.add; by_cases hj0 : j = 0 <;> simp [hj0]
        rw [h7, h6, ← hu]
        simp [hj]
      have hone : ∀ u ∈ (bs.map fun c : Nat => Value.int .u8 (c : Int)), u.oneCell' = true := fun u hu => by obtain ⟨c, _, rfl⟩ := List.mem_map.1 hu; rfl
      have hlen : (bs.map fun c : Nat => Value.int .u8 (c : Int)).length = bs.length * i0.size := by rw [hz1]; simp
      have hdl : (ds.map fun c : Nat => Value.int .u8 (c : Int)).length = ds.length * i0.size := by rw [hz1]; simp
      by_cases hroom : ds.length + bs.length ≤ cap
      · have hr := run_append_room (P := Try.prog) w 26 ty 5 i0 Try.underlying26 hi g ds.length cap cur hg ad bs.length c _ hlen hnews hone hroom (by rw [hz1]; simp; omega)
        refine ⟨_, _, hr, ?_, ⟨rfl, rfl, rfl, by simp, fun k hk hne => setRow_other w g k _ (fun e => hne (by simp [Value.ownBlock, e]))⟩, .inl rfl⟩
        refine .inr ⟨g, cap, _, by simp, hbg, setRow_heap w g cur _ 5 _ hg, by simpa using hroom, hcm, ?_, ?_⟩
        · simp [hz1]; omega
        · simp only [hz1, Nat.mul_one, htake, List.map_append, List.length_append]
          exact List.take_left' (by simp)
      · have holds : ∀ j u, (ds.map fun c : Nat => Value.int .u8 (c : Int))[j]? = some u → w.cell? ((⟨g, 0, none⟩ : Addr).add j) = some u := fun j u hu => by
          have hadd : (⟨g, 0, none⟩ : Addr).add j = ⟨g, j, none⟩ := by unfold Addr.add; split <;> simp_all
          rw [hadd, cell_of_heap hg, ← hu, ← htake, List.getElem?_take]
          have hj : j < ds.length := by
            rcases Nat.lt_or_ge j ds.length with h | h
            · exact h
            · rw [List.getElem?_eq_none (by simpa using h)] at hu; cases hu
          rw [if_pos hj]; simp
        have hr := run_append_grow (P := Try.prog) w 26 ty 5 i0 (.int .u8 0) Try.underlying26 hi hz0 ⟨g, 0, none⟩ ds.length cap _ hdl holds ad bs.length c _ hlen hnews (by omega) (by omega)
          (by rw [hz2]; exact growslice_fits_wide (by omega) (by omega))
        have hge := grownCap_ge w (ds.length + bs.length) cap 5
        have hcm' : grownCap w (ds.length + bs.length) cap 5 ≤ maxLen := grownCap_le_maxLen w _ cap 5 (by simp only [maxLen]; omega)
        refine ⟨_, _, hr, ?_, ⟨rfl, rfl, rfl, by simp, fun k hk _ => heap_alloc_old w.drew _ hk⟩, .inr rfl⟩
        refine .inr ⟨w.heap.size, _, _, by rw [List.length_append], hbase, heap_alloc_new w.drew _, by rw [List.length_append]; exact hge, hcm', ?_, ?_⟩
        · simp [size_zeroCells, Value.cells]; omega
        · simp only [Array.toList_append, List.append_assoc, List.map_append]
          rw [← List.append_assoc]
          exact List.take_left' (by simp)

theorem wpList_append_have {w : World} {ops : Array Oper} {rest : List Oper} {o : Oper} {a : Act} {Q : Exit → Act → World → Prop} (hgd : o.guard = none) (s x : Operand)
    (ho : o.op = .call { callee := .builtin .append, args := #[s, x], argTypes := #[26, 26] })
    {base : Nat} {v : Value} {ds bs : List Nat} {B n c : Nat} {A : Option Addr} (hs : a.eval s = v) (hx : a.eval x = .slice A n c) (hown : Have w base v ds) (hb : Bts w B A n bs) (hc : A = none → c = 0)
    (hsum : ds.length + n ≤ 140737505132544) (hbase : base ≤ w.heap.size)
    (h : ∀ v' w', Have w' base v' (ds ++ bs) → w.grownBy w' v.ownBlock → (v'.ownBlock = v.ownBlock ∨ v'.ownBlock = some w.heap.size) → wpList Try.prog ops Q rest (a.put o.dst v') w') : wpList Try.prog ops Q (o :: rest) a w := by
  refine wpList_plain hgd fun K hK => ?_
  obtain ⟨v', w', hrun, h2, h3, h4⟩ := run_append_have (w := w) o.type hown hb hc hsum hbase
  unfold Oper.wp
  simp [execOp, ho, resolve, invoke, builtin, hs, hx, hrun, Result.andThen]
  exact hK _ _ (h v' w' h2 h3 h4)
end Go.Proofs.Yteefeancakeebaa
