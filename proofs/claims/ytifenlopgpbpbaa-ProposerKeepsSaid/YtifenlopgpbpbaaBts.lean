/- Slices of bytes: what it means that one reads as a list of bytes; cuts of it; new rows; rows that the call owns; append. Nothing here speaks of one program but for the numbers of the types []uint8 and uint8. -/
import Derived.Test.YtifenlopgpbpbaaRows
import Derived.Test.YtifenlopgpbpbaaOpen
import Derived.Test.YtifenlopgpbpbaaQuiet
import Derived.WalkKit
import Derived.Below
import Derived.Maps.AppendAt
import Derived.Deep.DeepAppendWide
import Derived.Laws.AppendOwnNone
namespace Go.Proofs.Ytifenlopgpbpbaa
open Go.RowKit

def u8 (c : Nat) : Value := .int .u8 (c : Int)
/-- The slice value of address A and length n reads as the bytes bs, all below block B. -/
def Bts (w : World) (B : Nat) (A : Option Addr) (n : Nat) (bs : List Nat) : Prop :=
  bs.length = n ∧ n ≤ 140737505132544 ∧ (∀ c ∈ bs, c < 256) ∧
    (0 < n → ∃ b off, A = some ⟨b, off, none⟩ ∧ b < B ∧ ∀ j, j < n → w.cell? ⟨b, off + j, none⟩ = some (.int .u8 (bs.getD j 0 : Nat)))
theorem Bts.below {w w' : World} {B : Nat} {A : Option Addr} {n : Nat} {bs : List Nat} (h : Bts w B A n bs) (hb : Below B w w') : Bts w' B A n bs := by
  refine ⟨h.1, h.2.1, h.2.2.1, fun hn => ?_⟩
  obtain ⟨b, off, e, hlt, hc⟩ := h.2.2.2 hn
  exact ⟨b, off, e, hlt, fun j hj => (hb.cell (p := ⟨b, off + j, none⟩) hlt).trans (hc j hj)⟩
theorem Bts.more {w : World} {B B' : Nat} {A : Option Addr} {n : Nat} {bs : List Nat} (h : Bts w B A n bs) (hB : B ≤ B') : Bts w B' A n bs := by
  refine ⟨h.1, h.2.1, h.2.2.1, fun hn => ?_⟩
  obtain ⟨b, off, e, hlt, hc⟩ := h.2.2.2 hn
  exact ⟨b, off, e, by omega, hc⟩

theorem Bts.nil {w : World} {B : Nat} {A : Option Addr} : Bts w B A 0 [] := ⟨rfl, by omega, by simp, fun h => absurd h (by omega)⟩
theorem Bts.cut {w : World} {B : Nat} {A : Option Addr} {n : Nat} {bs : List Nat} (h : Bts w B A n bs) {k m : Nat} (hkm : k ≤ m) (hm : m ≤ n) : Bts w B (A.map fun x => x.add k) (m - k) ((bs.take m).drop k) := by
  obtain ⟨h1, h2, h3, h4⟩ := h
  refine ⟨by simp; omega, by omega, fun c hc => h3 c (List.mem_of_mem_take (List.mem_of_mem_drop hc)), fun hn => ?_⟩
  obtain ⟨b, off, rfl, hlt, hc⟩ := h4 (by omega)
  refine ⟨b, off + k, ?_, hlt, fun j hj => ?_⟩
  · unfold Addr.add
    by_cases hk : k = 0 <;> simp [hk]
  · rw [Nat.add_assoc, hc (k + j) (by omega)]
    simp [List.getD_eq_getElem?_getD, List.getElem?_drop, show k + j < m by omega]
theorem Bts.head {w : World} {B : Nat} {A : Option Addr} {n : Nat} {bs : List Nat} (h : Bts w B A n bs) {m : Nat} (hm : m ≤ n) : Bts w B A m (bs.take m) := by
  obtain ⟨h1, h2, h3, h4⟩ := h
  refine ⟨by simp; omega, by omega, fun c hc => h3 c (List.mem_of_mem_take hc), fun hn => ?_⟩
  obtain ⟨b, off, rfl, hlt, hc⟩ := h4 (by omega)
  refine ⟨b, off, rfl, hlt, fun j hj => ?_⟩
  rw [hc j (by omega)]
  simp [List.getD_eq_getElem?_getD, hj]
theorem Bts.cutIf {w : World} {B : Nat} {A : Option Addr} {n cap : Nat} {bs : List Nat} (h : Bts w B A n bs) {k m : Nat} (hkm : k ≤ m) (hm : m ≤ n) (hc : n ≤ cap) : Bts w B (if cap = k then A else A.map fun x => x.add k) (m - k) ((bs.take m).drop k) := by
  by_cases hk : cap = k
  · rw [if_pos hk, show m - k = 0 by omega, List.drop_eq_nil_of_le (by simp; omega)]
    exact Bts.nil
  · rw [if_neg hk]; exact h.cut hkm hm
theorem Bts.rest {w : World} {B : Nat} {A : Option Addr} {n cap : Nat} {bs : List Nat} (h : Bts w B A n bs) {k : Nat} (hkm : k ≤ n) (hc : n ≤ cap) : Bts w B (if cap = k then A else A.map fun x => x.add k) (n - k) (bs.drop k) := by
  have := h.cutIf hkm (Nat.le_refl n) hc
  rwa [List.take_of_length_le (by rw [h.1]; omega)] at this

/-- a new row of bytes, whatever its mark -/
theorem bts_new (w : World) (t : TypeId) (fr : Nat × Nat) (bs : List Nat) (hlen : bs.length ≤ 140737505132544) (hby : ∀ c ∈ bs, c < 256) :
    Bts (w.alloc (.cells (bs.map fun c : Nat => Value.int .u8 (c : Int)).toArray t fr)) (w.alloc (.cells (bs.map fun c : Nat => Value.int .u8 (c : Int)).toArray t fr)).heap.size (some ⟨w.heap.size, 0, none⟩) bs.length bs := by
  refine ⟨rfl, hlen, hby, fun _ => ⟨_, _, rfl, by simp, fun j hj => ?_⟩⟩
  rw [World.cell?_alloc_mark]
  simp [hj]

theorem byte_of_wf {n : Int} (h : (Lit.int .u8 n).wf = true) : ∃ c : Nat, c < 256 ∧ n = (c : Int) := by
  have hb := bounds_u8 h
  exact ⟨n.toNat, by omega, by omega⟩
theorem bts_of {w : World} {A : Option Addr} {n cap : Nat} (h : SliceAt 1 1 (IsInt .u8) w A n cap) : ∃ bs, Bts w w.heap.size A n bs := by
  obtain ⟨_, _, hr, _, hc⟩ := h
  have key : ∀ i, i < n → ∃ c : Nat, c < 256 ∧ ∀ b off, A = some ⟨b, off, none⟩ → w.cell? ⟨b, off + i, none⟩ = some (.int .u8 (c : Int)) := by
    intro i hi
    obtain ⟨b, off, rfl, _, hel⟩ := hc (by omega)
    obtain ⟨cs, hl, ⟨m, rfl, hwf⟩, hcell⟩ := hel i hi
    obtain ⟨c, hc256, rfl⟩ := byte_of_wf hwf
    refine ⟨c, hc256, fun b' off' e => ?_⟩
    simp only [Option.some.injEq, Addr.mk.injEq, and_true] at e
    obtain ⟨rfl, rfl⟩ := e
    simpa using hcell 0 (by omega)
  obtain ⟨f, hf⟩ := Go.Deep.choose_lt key
  refine ⟨(List.range n).map f, by simp, by omega, fun c hcm => ?_, fun hn => ?_⟩
  · obtain ⟨i, hi, rfl⟩ := List.mem_map.1 hcm
    exact (hf i (by simpa using hi)).1
  · obtain ⟨b, off, rfl, hlt, _⟩ := hc hn
    refine ⟨b, off, rfl, hlt, fun j hj => ?_⟩
    rw [(hf j hj).2 b off rfl]
    simp [hj]


/-- a row of bytes that the call owns, from block base on -/
def Own (w : World) (base : Nat) (v : Value) (bs : List Nat) : Prop := w.ownsRow base 5 1 v bs.length (bs.map fun c : Nat => Value.int .u8 (c : Int))
theorem Own.nil (w : World) (base : Nat) : Own w base (.slice none 0 0) [] := World.ownsRow_nil w base _ 1
theorem Own.lit {w : World} {base : Nat} (bs : List Nat) (hb : base ≤ w.heap.size) (hm : bs.length ≤ maxLen) :
    Own (w.alloc (.cells (bs.map fun c : Nat => Value.int .u8 (c : Int)).toArray 5)) base (.slice (some ⟨w.heap.size, 0, none⟩) bs.length bs.length) bs := by
  have := World.ownsRow_lit (base := base) (e := 5) (size := 1) w (bs.map fun c : Nat => Value.int .u8 (c : Int)).toArray bs.length hb hm (by simp)
  simpa [Own] using this
theorem Own.bts {w : World} {base : Nat} {v : Value} {bs : List Nat} (h : Own w base v bs) (hl : bs.length ≤ 140737505132544) (hby : ∀ c ∈ bs, c < 256) : ∃ A cap, v = .slice A bs.length cap ∧ Bts w w.heap.size A bs.length bs := by
  have h' := h
  obtain ⟨_, ⟨rfl, h0⟩ | ⟨g, cap, cur, rfl, _, _, _⟩⟩ := h
  · exact ⟨none, 0, by rw [h0], by rw [h0]; obtain rfl := List.eq_nil_of_length_eq_zero h0; exact Bts.nil⟩
  · have hlt := (World.ownsRow.lt h' g rfl).2
    refine ⟨_, cap, rfl, rfl, hl, hby, fun _ => ⟨g, 0, rfl, hlt, fun j hj => ?_⟩⟩
    have := World.ownsRow.cellAt h' j (by omega)
    rw [Nat.zero_add, this]
    simp [hj]

/-- append onto a row of the call's own, of elements of one cell and one byte: as many as a little more than 2^47; and whose block the new value has -/
theorem run_append_far {P : Program} (w : World) (base : Nat) (t ty e : TypeId) (i : TypeInfo) (z : Value) (ht : P.underlying t = some (.slice e)) (hi : P.info? e = some i) (hz : i.zero = some z) (hsize : i.size = 1) (hby : i.bytes = 1) (hzs : z.cells.size = 1)
    (v : Value) (n : Nat) (xs : List Value) (hown : w.ownsRow base e 1 v n xs) (a : Addr) (m c : Nat) (news : List Value) (hl : news.length = m) (hnews : ∀ j u, news[j]? = some u → w.cell? (a.add j) = some u) (h1 : ∀ u ∈ news, u.oneCell' = true)
    (hsum : n + m ≤ 140737505132544) (hbase : base ≤ w.heap.size) :
    ∃ v' w', (Builtin.append_ #[t, t] ty #[v, .slice (some a) m c]).run P w = .ok v' w' ∧ w'.ownsRow base e 1 v' (n + m) (xs ++ news) ∧ w.grownBy w' v.ownBlock ∧ (v'.ownBlock = v.ownBlock ∨ v'.ownBlock = some w.heap.size) := by
  obtain ⟨v', w', hr, h2, h3, h4⟩ := run_append_own_wide (P := P) w base t ty e i z 1 1 ht hi hz hsize hby hzs (by omega) v n xs hown a m c news (by omega) hnews h1 (by simp only [maxLen]; omega) (by omega) hbase
  refine ⟨v', w', hr, h2, h3, ?_⟩
  rcases hown.2 with ⟨rfl, rfl⟩ | ⟨g, cap, cur, rfl, _, hg, _, _, hcs, _⟩
  · by_cases hm : m = 0
    · rw [h4.2 ⟨rfl, hm⟩]
      exact .inl rfl
    · have hq := run_append_nil (P := P) w t ty e i z ht hi hz a m c news (by rw [hsize]; omega) hnews (by omega) (by omega) (by rw [hby]; omega)
      rw [hr] at hq
      injection hq with hq _
      rw [hq]
      exact .inr rfl
  · by_cases hroom : n + m ≤ cap
    · have hq := run_append_room (P := P) w t ty e i ht hi g n cap cur hg a m c news (by rw [hsize]; omega) hnews h1 hroom (by rw [hsize, hcs]; omega)
      rw [hr] at hq
      injection hq with hq _
      rw [hq]
      exact .inl rfl
    · have hq := run_append_grow (P := P) w t ty e i z ht hi hz ⟨g, 0, none⟩ n cap xs (by rw [hsize]; exact hown.1) (hown.cells (g := g) rfl) a m c news (by rw [hsize]; omega) hnews (by omega) (by omega) (by rw [hby]; exact growslice_fits_wide (by omega) (by omega))
      rw [hr] at hq
      injection hq with hq _
      rw [hq]
      exact .inr rfl
theorem u8_info : (Try.prog.info? 5).map (fun i => (i.zero, i.size, i.bytes)) = some (some (.int .u8 0), 1, 1) := by kernel_rfl
/-- append of bytes that lie somewhere (nowhere, if there are none) onto a row that the call owns -/
theorem run_append_bts {w : World} {base : Nat} {v : Value} {ds bs : List Nat} {B n c : Nat} {A : Option Addr} (ty : TypeId) (hown : Own w base v ds) (hb : Bts w B A n bs) (hc : A = none → c = 0)
    (hsum : ds.length + n ≤ 140737505132544) (hbase : base ≤ w.heap.size) :
    ∃ v' w', (Builtin.append_ #[24, 24] ty #[v, .slice A n c]).run Try.prog w = .ok v' w' ∧ Own w' base v' (ds ++ bs) ∧ w.grownBy w' v.ownBlock ∧ (v'.ownBlock = v.ownBlock ∨ v'.ownBlock = some w.heap.size) := by
  obtain ⟨i0, hi, hz0, hz1, hz2⟩ := info_parts u8_info
  obtain ⟨hl, _, _, hcell⟩ := hb
  subst hl
  unfold Own at *
  by_cases h0 : bs.length = 0
  · have hbs := List.eq_nil_of_length_eq_zero h0
    subst hbs
    cases A with
    | none =>
      have hrun := run_append_owned_none (P := Try.prog) (w := w) base 24 ty 5 i0 1 Try.underlying24 hi v ds.length _ hown
      rw [hc rfl]
      exact ⟨v, w, by simpa using hrun, by simpa using hown, World.grownBy.refl w _, .inl rfl⟩
    | some ad =>
      obtain ⟨v', w', h1, h2, h3, h5⟩ := run_append_far (P := Try.prog) w base 24 ty 5 i0 _ Try.underlying24 hi hz0 hz1 hz2 rfl v ds.length _ hown ad 0 c [] rfl (by simp) (by simp)
        (by omega) hbase
      exact ⟨v', w', by simpa using h1, by simpa using h2, h3, h5⟩
  · obtain ⟨b, off, rfl, _, hcs⟩ := hcell (by omega)
    obtain ⟨v', w', h1, h2, h3, h5⟩ := run_append_far (P := Try.prog) w base 24 ty 5 i0 _ Try.underlying24 hi hz0 hz1 hz2 rfl v ds.length _ hown ⟨b, off, none⟩ bs.length c
        (bs.map fun c : Nat => Value.int .u8 (c : Int)) (by simp) (fun j u hu => by
          have hj : j < bs.length := by
            rcases Nat.lt_or_ge j bs.length with h | h
            · exact h
            · rw [List.getElem?_eq_none (by simpa using h)] at hu; cases hu
          have h6 := hcs j hj
          have h7 : (⟨b, off, none⟩ : Addr).add j = ⟨b, off + j, none⟩ := by
            unfold Addr.add; by_cases hj0 : j = 0 <;> simp [hj0]
          rw [h7, h6, ← hu]
          simp [hj])
        (fun u hu => by obtain ⟨c, _, rfl⟩ := List.mem_map.1 hu; rfl) (by omega) hbase
    exact ⟨v', w', h1, by simpa using h2, h3, h5⟩

theorem wpList_append_bts {w : World} {ops : Array Oper} {rest : List Oper} {o : Oper} {a : Act} {Q : Exit → Act → World → Prop} (hgd : o.guard = none) (s x : Operand)
    (ho : o.op = .call { callee := .builtin .append, args := #[s, x], argTypes := #[24, 24] })
    {base : Nat} {v : Value} {ds bs : List Nat} {B n c : Nat} {A : Option Addr} (hs : a.eval s = v) (hx : a.eval x = .slice A n c) (hown : Own w base v ds) (hb : Bts w B A n bs) (hc : A = none → c = 0)
    (hsum : ds.length + n ≤ 140737505132544) (hbase : base ≤ w.heap.size)
    (h : ∀ v' w', Own w' base v' (ds ++ bs) → w.grownBy w' v.ownBlock → (v'.ownBlock = v.ownBlock ∨ v'.ownBlock = some w.heap.size) → wpList Try.prog ops Q rest (a.put o.dst v') w') : wpList Try.prog ops Q (o :: rest) a w := by
  refine wpList_plain hgd fun K hK => ?_
  obtain ⟨v', w', hrun, h2, h3, h4⟩ := run_append_bts (w := w) o.type hown hb hc hsum hbase
  unfold Oper.wp
  simp [execOp, ho, resolve, invoke, builtin, hs, hx, hrun, Result.andThen]
  exact hK _ _ (h v' w' h2 h3 h4)
/-- what was there stays behind an append onto a row of the call's own -/
theorem Kept.append {w W W' : World} {v : Value} {ds : List Nat} (hk : Kept w W) (hown : Own W w.heap.size v ds) (hg : W.grownBy W' v.ownBlock) : Kept w W' :=
  ⟨hk.1.grown hg hk.2 (fun k h => (World.ownsRow.lt hown k h).1), Nat.le_trans hk.2 hg.size⟩
theorem Own.form {w : World} {base : Nat} {v : Value} {bs : List Nat} (h : Own w base v bs) (hn : 0 < bs.length) : ∃ g cap, v = .slice (some ⟨g, 0, none⟩) bs.length cap ∧ base ≤ g := by
  obtain ⟨_, ⟨_, h0⟩ | ⟨g, cap, cur, rfl, hg, _⟩⟩ := h
  · omega
  · exact ⟨g, cap, rfl, hg⟩
theorem Own.cell {w : World} {base g cap n : Nat} {bs : List Nat} (h : Own w base (.slice (some ⟨g, 0, none⟩) n cap) bs) {j : Nat} (hj : j < bs.length) : w.cell? ⟨g, j, none⟩ = some (.int .u8 (bs.getD j 0 : Nat)) := by
  obtain ⟨_, ⟨e, h0⟩ | ⟨g', cap', cur, e, _⟩⟩ := id h
  · cases e
  · cases e
    rw [World.ownsRow.cellAt h j (by omega)]
    simp [hj]
theorem Own.free {w : World} {base g cap n : Nat} {bs : List Nat} (h : Own w base (.slice (some ⟨g, 0, none⟩) n cap) bs) (j : Nat) : w.frozen? ⟨g, j, none⟩ = false := by
  obtain ⟨_, ⟨e, h0⟩ | ⟨g', cap', cur, e, _⟩⟩ := id h
  · cases e
  · cases e
    exact World.ownsRow.frozenAt h j
/-- one byte written -/
theorem Own.store {w : World} {base g cap n : Nat} {bs : List Nat} (h : Own w base (.slice (some ⟨g, 0, none⟩) n cap) bs) (j c : Nat) :
    Own (w.setCell ⟨g, j, none⟩ (.int .u8 (c : Int))) base (.slice (some ⟨g, 0, none⟩) n cap) (bs.set j c) := by
  obtain ⟨_, ⟨e, h0⟩ | ⟨g', cap', cur, e, _⟩⟩ := id h
  · cases e
  · cases e
    have := World.ownsRow.stored h j (.int .u8 (c : Int))
    unfold Own
    rw [List.length_set, List.map_set]
    exact this.1
theorem Kept.setCell {w W : World} (h : Kept w W) {p : Addr} (hp : w.heap.size ≤ p.block) (u : Value) : Kept w (W.setCell p u) := ⟨h.1.setCell hp u, by simpa [World.setCell] using h.2⟩
/-- two values own no block together -/
def Apart (u v : Value) : Prop := ∀ g, u.ownBlock = some g → v.ownBlock ≠ some g
theorem Apart.symm {u v : Value} (h : Apart u v) : Apart v u := fun g hv hu => h g hu hv
theorem Apart.nil (v : Value) : Apart (.slice none 0 0) v := fun g h => by cases h
theorem Own.other {w w' : World} {base : Nat} {u v : Value} {bs : List Nat} (hu : Own w base u bs) (hne : Apart u v) (hg : w.grownBy w' v.ownBlock) : Own w' base u bs := by
  refine World.ownsRow.kept hu hg ?_
  cases h : u.ownBlock with
  | none => exact .inl rfl
  | some g => exact .inr (fun e => hne g h e.symm)
theorem Own.apart_new {w : World} {base : Nat} {u v v' : Value} {bs : List Nat} (hu : Own w base u bs) (hne : Apart u v) (h : v'.ownBlock = v.ownBlock ∨ v'.ownBlock = some w.heap.size) : Apart u v' := by
  intro g hg he
  rcases h with h | h
  · exact hne g hg (h ▸ he)
  · have := (World.ownsRow.lt hu g hg).2
    rw [h] at he
    injection he with he
    omega
theorem Own.far {w : World} {base : Nat} {u : Value} {bs : List Nat} (hu : Own w base u bs) {p : Addr} (hp : u.ownBlock ≠ some p.block) (x : Value) : Own (w.setCell p x) base u bs := ownsRow_setCell_other hu hp x
theorem Own.alloc' {w : World} {base : Nat} {u : Value} {bs : List Nat} (hu : Own w base u bs) (o : Obj) : Own (w.alloc o) base u bs := World.ownsRow.alloc hu o
/-- a new row of one byte -/
theorem bts_one (W : World) (t : TypeId) (fr : Nat × Nat) {c g : Nat} (hg : g = W.heap.size) (hc : c < 256) : Bts (W.alloc (.cells #[.int .u8 (c : Int)] t fr)) (W.heap.size + 1) (some ⟨g, 0, none⟩) 1 [c] := by
  subst hg
  have := bts_new W t fr [c] (by simp) (by simpa using hc)
  simpa using this
theorem Own.at_ {w : World} {base n cap : Nat} {A : Option Addr} {bs : List Nat} (h : Own w base (.slice A n cap) bs) (hl : bs.length ≤ 140737505132544) (hby : ∀ c ∈ bs, c < 256) : Bts w w.heap.size A n bs := by
  obtain ⟨A', c', e, hb⟩ := h.bts hl hby
  cases e
  exact hb
/-- 'b[:k]' of bytes -/
theorem run_head (A : Option Addr) (n cap k : Nat) (hk : (k : Int) ≤ (cap : Int)) (w : World) :
    (Instr.slice 24 (.slice A n cap) Option.none (some (.int .i64 (k : Int))) Option.none).run Try.prog w = .ok (.slice A k cap) w := by
  rw [run_slice_h w 24 A n cap (by kernel_rfl) .i64 (k : Int) (by omega) hk]
  have hz : (sizeOf (Try.prog.elem 24)).run Try.prog w = .ok 1 w := by kernel_rfl
  rw [hz]
  have e : ((k : Int)).toNat = k := by omega
  simp only [Result.andThen, sliced, e]
  cases A with
  | none => simp
  | some a => simp [Addr.add]
theorem run_headK (ki : IntKind) (A : Option Addr) (n cap k : Nat) (hk : (k : Int) ≤ (cap : Int)) (w : World) :
    (Instr.sliceAt 24 (.slice A n cap) Option.none (some (.int ki (k : Int))) Option.none).run Try.prog w = .ok (.slice A k cap) w := by
  rw [run_sliceAt_slice w 24 _ _ _ _ (by kernel_rfl), run_slice_h w 24 A n cap (by kernel_rfl) ki (k : Int) (by omega) hk]
  have hz : (sizeOf (Try.prog.elem 24)).run Try.prog w = .ok 1 w := by kernel_rfl
  rw [hz]
  have e : ((k : Int)).toNat = k := by omega
  simp only [Result.andThen, sliced, e]
  cases A with
  | none => simp
  | some a => simp [Addr.add]
theorem run_headAt (A : Option Addr) (n cap k : Nat) (hk : (k : Int) ≤ (cap : Int)) (w : World) :
    (Instr.sliceAt 24 (.slice A n cap) Option.none (some (.int .i64 (k : Int))) Option.none).run Try.prog w = .ok (.slice A k cap) w := by
  rw [run_sliceAt_slice w 24 _ _ _ _ (by kernel_rfl), run_head A n cap k hk w]
/-- 'b[k:]' and 'b[k:m]' of bytes, whatever number they are written as -/
theorem run_tailK (ki : IntKind) (A : Option Addr) (n cap k : Nat) (i : Int) (hi : i = (k : Int)) (hk : k ≤ n) (w : World) :
    (Instr.sliceAt 24 (.slice A n cap) (some (.int ki i)) Option.none Option.none).run Try.prog w = .ok (.slice (if cap = k then A else A.map fun x => x.add k) (n - k) (cap - k)) w := by
  subst hi
  rw [run_sliceAt_slice w 24 _ _ _ _ (by kernel_rfl), run_slice_l w 24 A n cap (by kernel_rfl) ki (k : Int) (by omega) (by omega)]
  have hz : (sizeOf (Try.prog.elem 24)).run Try.prog w = .ok 1 w := by kernel_rfl
  rw [hz]
  have e : ((k : Int)).toNat = k := by omega
  simp only [Result.andThen, sliced, e, Nat.mul_one]
theorem run_tailS (ki : IntKind) (A : Option Addr) (n cap k : Nat) (i : Int) (hi : i = (k : Int)) (hk : k ≤ n) (w : World) :
    (Instr.slice 24 (.slice A n cap) (some (.int ki i)) Option.none Option.none).run Try.prog w = .ok (.slice (if cap = k then A else A.map fun x => x.add k) (n - k) (cap - k)) w := by
  rw [← run_tailK ki A n cap k i hi hk w, run_sliceAt_slice w 24 _ _ _ _ (by kernel_rfl)]
theorem run_midK (ki kj : IntKind) (A : Option Addr) (n cap k m : Nat) (i j : Int) (hi : i = (k : Int)) (hj : j = (m : Int)) (hk : k ≤ m) (hm : m ≤ cap) (w : World) :
    (Instr.sliceAt 24 (.slice A n cap) (some (.int ki i)) (some (.int kj j)) Option.none).run Try.prog w = .ok (.slice (if cap = k then A else A.map fun x => x.add k) (m - k) (cap - k)) w := by
  subst hi hj
  rw [run_sliceAt_slice w 24 _ _ _ _ (by kernel_rfl), run_slice_lh w 24 A n cap (by kernel_rfl) ki kj (k : Int) (m : Int) (by omega) (by omega) (by omega)]
  have hz : (sizeOf (Try.prog.elem 24)).run Try.prog w = .ok 1 w := by kernel_rfl
  rw [hz]
  have e : ((k : Int)).toNat = k := by omega
  have e' : ((m : Int)).toNat = m := by omega
  simp only [Result.andThen, sliced, e, e', Nat.mul_one]
end Go.Proofs.Ytifenlopgpbpbaa
