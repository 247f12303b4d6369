/- Items: as they are laid down, and where they stand. -/
import Derived.Test.YtmmmajlfndibnaaDoorWireE
import Derived.Test.YtmmmajlfndibnaaDoorBulk
namespace Go.Proofs.YtmmmajlfndibnaaDoor
open Go.RowKit

/-- a number, one with a sign (kind 1), or bytes -/
structure Itm where
  kind : Int
  n : Nat
  bs : List Nat
/-- the number of 64 bits as one with a sign -/
def sgn (n : Nat) : Int := if n < 9223372036854775808 then (n : Int) else (n : Int) - 18446744073709551616
def enc (x : Itm) : List Nat := if x.kind = 0 then put x.n else if x.kind = 1 then put (zig (sgn x.n)) else put x.bs.length ++ x.bs
def encs (l : List Itm) : List Nat := l.flatMap enc
def Itm.ok (x : Itm) : Prop := x.n < 18446744073709551616 ∧ x.bs.length ≤ 1048576 ∧ (∀ c ∈ x.bs, c < 256) ∧ (Lit.int .i64 x.kind).wf = true
theorem sgn_wrap {n : Nat} (h : n < 18446744073709551616) : IntKind.i64.wrap (n : Int) = sgn n := by
  rw [IntKind.wrap_i64]; unfold sgn; split <;> omega
theorem sgn_range {n : Nat} (h : n < 18446744073709551616) : -9223372036854775808 ≤ sgn n ∧ sgn n < 9223372036854775808 := by
  unfold sgn; split <;> omega
theorem enc_len {x : Itm} (h : x.ok) : (enc x).length ≤ 10 + x.bs.length := by
  obtain ⟨h1, h2, _, _⟩ := h
  unfold enc
  split
  · have := put_ten h1; omega
  · split
    · have := put_ten (zig_lt (sgn_range h1).1 (sgn_range h1).2); omega
    · have := put_ten (n := x.bs.length) (by omega); simp; omega
theorem enc_byte {x : Itm} (h : x.ok) : ∀ c ∈ enc x, c < 256 := by
  unfold enc
  split
  · exact put_byte _
  · split
    · exact put_byte _
    · intro c hc
      rcases List.mem_append.1 hc with h1 | h1
      · exact put_byte _ c h1
      · exact h.2.2.1 c h1
def load (l : List Itm) : Nat := (l.map fun x => x.bs.length).sum
theorem encs_len : ∀ {l : List Itm}, (∀ x ∈ l, x.ok) → (encs l).length ≤ 10 * l.length + load l
  | [], _ => by simp [encs, load]
  | x :: l, h => by
    have h1 := enc_len (h x (by simp))
    have h2 := encs_len (l := l) (fun y hy => h y (by simp [hy]))
    simp only [encs, load, List.flatMap_cons, List.length_append, List.map_cons, List.sum_cons, List.length_cons] at *
    omega
theorem encs_byte {l : List Itm} (h : ∀ x ∈ l, x.ok) : ∀ c ∈ encs l, c < 256 := by
  intro c hc
  obtain ⟨x, hx, hcx⟩ := List.mem_flatMap.1 hc
  exact enc_byte (h x hx) c hcx
theorem load_take (l : List Itm) (k : Nat) : load (l.take k) ≤ load l := by
  induction l generalizing k with
  | nil => simp [load]
  | cons x l ih =>
    cases k with
    | zero => simp [load]
    | succ k => have := ih k; simp only [load, List.take_succ_cons, List.map_cons, List.sum_cons] at *; omega
theorem encs_snoc {l : List Itm} {k : Nat} (h : k < l.length) : encs (l.take (k + 1)) = encs (l.take k) ++ enc l[k] := by
  unfold encs
  rw [List.take_succ_eq_append_getElem h, List.flatMap_append, List.flatMap_cons, List.flatMap_nil, List.append_nil]
theorem encs_split {l : List Itm} {k : Nat} (h : k < l.length) : encs l = encs (l.take k) ++ (enc l[k] ++ encs (l.drop (k + 1))) := by
  unfold encs
  conv => lhs; rw [← List.take_append_drop k l, List.drop_eq_getElem_cons h]
  rw [List.flatMap_append, List.flatMap_cons]
theorem encs_drop {l : List Itm} {k : Nat} (h : k < l.length) : (encs l).drop (encs (l.take k)).length = enc l[k] ++ encs (l.drop (k + 1)) := by
  rw [encs_split h, List.drop_left]

/-- one item stands at this place -/
def ItmAt (w : World) (b o : Nat) (x : Itm) : Prop :=
  w.cell? ⟨b, o, none⟩ = some (.int .i64 x.kind) ∧ w.cell? ⟨b, o + 1, none⟩ = some (.int .u64 (x.n : Int)) ∧
    ∃ A m c, w.cell? ⟨b, o + 2, none⟩ = some (.slice A m c) ∧ Bts w w.heap.size A m x.bs ∧ (A = none → c = 0) ∧ m ≤ c
/-- the items of a slice -/
def Items (w : World) (A : Option Addr) (len : Nat) (its : List Itm) : Prop :=
  its.length = len ∧ len ≤ 1048576 ∧ (∀ x ∈ its, x.ok) ∧ load its ≤ 1048576 ∧
    (0 < len → ∃ b off, A = some ⟨b, off, none⟩ ∧ b < w.heap.size ∧ ∀ (i : Nat) (h : i < its.length), ItmAt w b (off + i * 3) its[i])
theorem list_of {α : Type} {P : Nat → α → Prop} : ∀ (n : Nat), (∀ i, i < n → ∃ x, P i x) → ∃ l : List α, l.length = n ∧ ∀ (i : Nat) (h : i < l.length), P i l[i]
  | 0, _ => ⟨[], rfl, fun i h => absurd h (by simp)⟩
  | n + 1, h => by
    obtain ⟨l, hl, hp⟩ := list_of n (fun i hi => h i (by omega))
    obtain ⟨x, hx⟩ := h n (by omega)
    refine ⟨l ++ [x], by simp [hl], fun i hi => ?_⟩
    by_cases hin : i < l.length
    · rw [List.getElem_append_left hin]; exact hp i hin
    · have : i = n := by simp at hi; omega
      subst this
      rw [List.getElem_append_right (by omega)]
      simpa [hl] using hx
theorem load_le : ∀ {l : List Itm} {ms : List Nat}, l.length = ms.length → (∀ (i : Nat) (h : i < l.length), l[i].bs.length ≤ ms.getD i 0) → load l ≤ ms.sum
  | [], ms, _, _ => by simp [load]
  | x :: l, [], h, _ => by simp at h
  | x :: l, m :: ms, h, hp => by
    have h0 := hp 0 (by simp)
    have := load_le (l := l) (ms := ms) (by simpa using h) (fun i hi => by have := hp (i + 1) (by simpa using hi); simpa using this)
    simp only [load, List.map_cons, List.sum_cons] at *
    simp at h0
    omega
theorem eq_of_cells {w : World} {b o size : Nat} {cs cs' : List Value} (h1 : cs.length = size) (h2 : cs'.length = size) (h3 : ∀ j, j < size → w.cell? ⟨b, o + j, none⟩ = cs[j]?) (h4 : ∀ j, j < size → w.cell? ⟨b, o + j, none⟩ = cs'[j]?) : cs = cs' := by
  apply List.ext_getElem?
  intro j
  by_cases hj : j < size
  · rw [← h3 j hj, h4 j hj]
  · rw [List.getElem?_eq_none (by omega), List.getElem?_eq_none (by omega)]
theorem mem_le_sum : ∀ {ms : List Nat} {i : Nat}, i < ms.length → ms.getD i 0 ≤ ms.sum
  | m :: ms, 0, _ => by simp
  | m :: ms, i + 1, h => by
    have := mem_le_sum (ms := ms) (i := i) (by simpa using h)
    simp only [List.getD_cons_succ, List.sum_cons]
    omega
/-- what the argument's reading and its bulk give -/
theorem items_of {w : World} {a0 : Option Addr} {len0 cap0 b0 : Nat}
    (w0 : SliceAt 3 40 (fun w cs => cs.length = 3 ∧ IsStruct [(0, 1, (IsInt .i64)), (1, 1, (IsInt .u64)), (2, 1, (IsSlice 1 1 (IsInt .u8)))] w cs) w a0 len0 cap0)
    (u0 : SSlice 3 (SStruct [(0, 1, SOne), (1, 1, SOne), (2, 1, (SSlice 1 SOne))]) w [.slice a0 len0 cap0] b0) (hk : b0 ≤ 1048576) : ∃ its, Items w a0 len0 its := by
  obtain ⟨ms, hml, hms, hu⟩ := u0 a0 len0 cap0 rfl
  obtain ⟨_, _, _, _, hr⟩ := w0
  have hlen : len0 ≤ 1048576 := by
    have key : ∀ (l : List Nat), (∀ i, i < l.length → 1 ≤ l.getD i 0) → l.length ≤ l.sum := by
      intro l
      induction l with
      | nil => intro _; simp
      | cons x l ih =>
        intro h
        have h0 := h 0 (by simp)
        have := ih (fun i hi => by have := h (i + 1) (by simpa using hi); simpa using this)
        simp at h0 ⊢
        omega
    have := key ms (fun i hi => by
      obtain ⟨b, off, ha, _, _⟩ := hr (by omega)
      obtain ⟨cs', _, _, m, r, h1, h2, m2, r2, h3, _⟩ := hu i (by omega) b off ha
      have : 1 ≤ m := h2
      omega)
    omega
  have each : ∀ i, i < len0 → ∃ x : Itm, x.ok ∧ x.bs.length ≤ ms.getD i 0 ∧ ∀ b off, a0 = some ⟨b, off, none⟩ → ItmAt w b (off + i * 3) x := by
    intro i hi
    obtain ⟨b, off, ha, hb, hcs⟩ := hr (by omega)
    obtain ⟨cs, hc3, ⟨_, hK, hN, hB, _⟩, hcell⟩ := hcs i hi
    obtain ⟨cs', hc3', hcell', m, r, hm, _, m2, r2, hm2, _, m3, r3, hm3, hS, _⟩ := hu i hi b off ha
    have hcc : cs = cs' := eq_of_cells (o := off + i * 3) hc3 hc3' (fun j hj => by rw [Nat.add_assoc]; exact hcell j hj) (fun j hj => by rw [Nat.add_assoc]; exact hcell' j hj)
    subst hcc
    match cs, hc3 with
    | [v0, v1, v2], _ =>
      obtain ⟨kd, e0, hkw⟩ := hK
      obtain ⟨nn, e1, hnw⟩ := hN
      obtain ⟨A, mm, c, e2, hsl⟩ := hB
      simp only [List.drop_zero, List.take_succ_cons, List.take_zero, List.cons.injEq, and_true, List.drop_succ_cons] at e0 e1 e2
      subst e0 e1 e2
      obtain ⟨bs, hbts⟩ := bts_of hsl
      have hnb := bounds_u64 hnw
      obtain ⟨ms2, hml2, hms2, hone⟩ := hS A mm c rfl
      have hmm : mm ≤ ms2.sum := by
        have key : ∀ (l : List Nat), (∀ i, i < l.length → 1 ≤ l.getD i 0) → l.length ≤ l.sum := by
          intro l
          induction l with
          | nil => intro _; simp
          | cons x l ih =>
            intro h
            have h0 := h 0 (by simp)
            have := ih (fun i hi => by have := h (i + 1) (by simpa using hi); simpa using this)
            simp at h0 ⊢
            omega
        have := key ms2 (fun i hi => by
          obtain ⟨b', off', e', _⟩ := hbts.2.2.2 (by omega)
          obtain ⟨_, _, _, h1⟩ := hone i (by omega) b' off' e'
          exact h1)
        omega
      have hmi := mem_le_sum (ms := ms) (i := i) (by omega)
      have hl := hbts.1
      refine ⟨⟨kd, nn.toNat, bs⟩, ⟨by simp only; omega, by simp only; omega, hbts.2.2.1, hkw⟩, by simp only; omega, fun b' off' e' => ?_⟩
      rw [ha] at e'
      simp only [Option.some.injEq, Addr.mk.injEq, and_true] at e'
      obtain ⟨rfl, rfl⟩ := e'
      refine ⟨?_, ?_, A, mm, c, ?_, hbts, hsl.2.2.2.1, hsl.1⟩
      · have := hcell 0 (by omega); simpa using this
      · have := hcell 1 (by omega)
        have e : ((nn.toNat : Nat) : Int) = nn := by omega
        simp only [e]
        simpa [Nat.add_assoc] using this
      · have := hcell 2 (by omega); simpa [Nat.add_assoc] using this
  obtain ⟨its, hl, hp⟩ := list_of len0 each
  refine ⟨its, hl, hlen, fun x hx => ?_, ?_, fun hpos => ?_⟩
  · obtain ⟨i, hi, rfl⟩ := List.mem_iff_getElem.1 hx
    exact (hp i hi).1
  · have := load_le (l := its) (ms := ms) (by omega) (fun i hi => (hp i hi).2.1)
    omega
  · obtain ⟨b, off, ha, hb, _⟩ := hr hpos
    exact ⟨b, off, ha, hb, fun i hi => (hp i hi).2.2 b off ha⟩
end Go.Proofs.YtmmmajlfndibnaaDoor
