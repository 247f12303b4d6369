/- What is known of slots that hold bytes. -/
import Derived.Test.YtifenlopgpbpbaaTypedS
import Derived.Test.YtifenlopgpbpbaaRow
import Derived.Test.YtifenlopgpbpbaaTell
namespace Go.Proofs.Ytifenlopgpbpbaa
open Go.RowKit

theorem Kept.rowB {w w' : World} {A : Option Addr} {n cap : Nat} {bs : List Nat} (k : Kept w w') (h : Row w A n cap bs) : Row w' A n cap bs := h.below k.1
/-- a slice that reads as these bytes -/
def RowT (n : Nat) (bs : List Nat) (u : Value) (w : World) : Prop := ∃ A c, u = .slice A n c ∧ Row w A n c bs
theorem RowT.mono (n : Nat) (bs : List Nat) : (Slot.has (RowT n bs)).Mono := fun _ _ _ hk ⟨A, c, e, h⟩ => ⟨A, c, e, h.below hk.1⟩
/-- a slice without room, of a block of its own -/
def EmptyT (B : Nat) (u : Value) (w : World) : Prop := ∃ g, B ≤ g ∧ u = .slice (some ⟨g, 0, none⟩) 0 0 ∧ w.heap[g]? = some (.cells #[] 5 (0, 0))
theorem EmptyT.mono (B : Nat) : (Slot.has (EmptyT B)).Mono := fun _ _ _ hk ⟨g, hB, e, h⟩ => ⟨g, hB, e, (hk.1.block g (heap_lt h)).trans h⟩
/-- a row of bytes that the region made -/
def OwnT (B : Nat) (bs : List Nat) (u : Value) (w : World) : Prop := Own w B u bs
theorem OwnT.mono (B : Nat) (bs : List Nat) : (Slot.has (OwnT B bs)).Mono := fun u _ _ hk h => World.ownsRow.kept h (row := Option.none) ⟨hk.1.os, hk.1.tape, hk.1.output, hk.2, fun k h _ => hk.1.block k h⟩ (by cases u.ownBlock <;> simp)
theorem kept_setRow {w : World} {g : Nat} {cs : Array Value} {t : TypeId} {m : Nat × Nat} (h : w.heap[g]? = some (.cells cs t m)) : Kept w (w.setRow g cs) := by
  refine ⟨⟨rfl, rfl, rfl, by simp, fun k _ => ?_⟩, by simp⟩
  by_cases hk : k = g
  · subst hk; rw [setRow_heap w k cs cs t m h, h]
  · exact setRow_other w g k cs hk
theorem exec_append {ρ : Operand → Value} {o : Oper} {w w' : World} {t1 t2 : TypeId} {s x : Operand} {v u v' : Value} (ho : o.op = .call { callee := .builtin .append, args := #[s, x], argTypes := #[t1, t2] })
    (hs : ρ s = v) (hx : ρ x = u) (hrun : (Builtin.append_ #[t1, t2] o.type #[v, u]).run Try.prog w = .ok v' w') : (execOp ρ o).run Try.prog w = .ok (.value v') w' := by
  simp [execOp, ho, resolve, invoke, builtin, hs, hx, hrun, Result.andThen]
/-- append onto a slice without room: new memory -/
theorem run_append_empty {w : World} {B g : Nat} {bs : List Nat} {B' n c : Nat} {A : Option Addr} (ty : TypeId) (hg : w.heap[g]? = some (.cells #[] 5 (0, 0))) (hB : B ≤ g) (hb : Bts w B' A n bs) (hc : A = none → c = 0) :
    ∃ v' w', (Builtin.append_ #[24, 24] ty #[.slice (some ⟨g, 0, none⟩) 0 0, .slice A n c]).run Try.prog w = .ok v' w' ∧ Own w' B v' bs ∧ Kept w w' := by
  have hbase : B ≤ w.heap.size := Nat.le_trans hB (Nat.le_of_lt (heap_lt hg))
  have own0 : Own w B (.slice (some ⟨g, 0, none⟩) 0 0) [] := ⟨rfl, .inr ⟨g, 0, #[], rfl, hB, hg, Nat.le_refl _, by decide, rfl, rfl⟩⟩
  obtain ⟨v', w', h1, h2, h3, h4⟩ := run_append_bts ty own0 hb hc (by have := hb.2.1; simp; omega) hbase
  refine ⟨v', w', h1, by simpa using h2, ?_⟩
  obtain ⟨i0, hi, hz0, hz1, hz2⟩ := info_parts u8_info
  obtain ⟨hl, hmax, hby, hcell⟩ := hb
  subst hl
  by_cases h0 : bs.length = 0
  · obtain rfl := List.eq_nil_of_length_eq_zero h0
    cases A with
    | none =>
      obtain rfl := hc rfl
      have hr := run_append_owned_none (P := Try.prog) (w := w) B 24 ty 5 i0 1 Try.underlying24 hi _ 0 _ own0
      rw [show ([] : List Nat).length = 0 from rfl] at h1
      rw [hr] at h1
      injection h1 with _ h1
      rw [← h1]
      exact Kept.refl _
    | some ad =>
      have hr := run_append_room (P := Try.prog) w 24 ty 5 i0 Try.underlying24 hi g 0 0 #[] hg ad 0 c [] (by simp) (by simp) (by simp) (by simp) (by simp)
      rw [show ([] : List Nat).length = 0 from rfl] at h1
      rw [hr] at h1
      injection h1 with _ h1
      rw [← h1]
      simpa using kept_setRow hg
  · obtain ⟨b, off, rfl, _, hcs⟩ := hcell (by omega)
    have hnews : ∀ j u, (bs.map fun c : Nat => Value.int .u8 (c : Int))[j]? = some u → w.cell? ((⟨b, off, none⟩ : Addr).add j) = some u := fun j u hu => by
      have hj : j < bs.length := by
        rcases Nat.lt_or_ge j bs.length with h | h
        · exact h
        · rw [List.getElem?_eq_none (by simpa using h)] at hu; cases hu
      have h6 := hcs j hj
      have h7 : (⟨b, off, none⟩ : Addr).add j = ⟨b, off + j, none⟩ := by
        unfold Addr.add; by_cases hj0 : j = 0 <;> simp [hj0]
      rw [h7, h6, ← hu]
      simp [hj]
    have hr := run_append_grow (P := Try.prog) w 24 ty 5 i0 (.int .u8 0) Try.underlying24 hi hz0 ⟨g, 0, none⟩ 0 0 [] (by simp) (by simp) ⟨b, off, none⟩ bs.length c _ (by rw [hz1]; simp) hnews (by omega) (by omega)
      (by rw [hz2]; exact growslice_fits_wide (by omega) (by omega))
    rw [hr] at h1
    injection h1 with _ h1
    rw [← h1]
    exact ((Kept.refl w).drew).alloc _
theorem Own.rowT {w : World} {B : Nat} {v : Value} {bs : List Nat} {n : Nat} (h : Own w B v bs) (hn : bs.length = n) (hl : n ≤ 140737505132544) (hby : ∀ c ∈ bs, c < 256) : RowT n bs v w := by
  subst hn
  obtain ⟨A, c, e, hr⟩ := h.row hl hby
  exact ⟨A, c, e, hr⟩
section
variable {ops : Array Oper} {w0 : World} {fin : List Slot → Prop} {o : Oper} {rest : List (Oper × Bool)} {Γ : List Slot}
/-- 'string(b)', 'len(b)' of such bytes -/
theorem wpT_text {t : Tmp} {n : Nat} {bs : List Nat} (ho : o.op = .convert 24 9 (.tmp t)) (h : Γ.getD t (.is undef) = .has (RowT n bs)) (hg : guardG ops Γ o = some true) (hn : wpT Try.prog ops w0 fin rest (putS Γ o.dst (.is (.string (txt bs))))) : wpT Try.prog ops w0 fin ((o, false) :: rest) Γ := by
  refine ⟨.is _, Slot.mono_is _, fun a w hk hl => ?_, hn⟩
  rw [guard_ok hg hl, if_pos rfl]
  have hm : t ∈ o.looksAt ops := by unfold Oper.looksAt; simp [ho, Op.operands]
  have hh := looks_mem hl hm
  rw [h] at hh
  obtain ⟨A, c, e, hr⟩ := hh
  refine upT_value ?_
  have e' : a.eval (.tmp t) = .slice A n c := e
  have ht : (convert 24 9 (.slice A n c)).run Try.prog w = .ok (.string (txt bs)) w := run_text hr.bts fun e => by have := hr.nil e; have := hr.room; omega
  simp [execOp, ho, e', ht, Result.andThen]
theorem wpT_len {t : Tmp} {n : Nat} {bs : List Nat} (ho : o.op = .call { callee := .builtin .len, args := #[.tmp t], argTypes := #[24] }) (h : Γ.getD t (.is undef) = .has (RowT n bs)) (hg : guardG ops Γ o = some true) (hn : wpT Try.prog ops w0 fin rest (putS Γ o.dst (.is (.int .i64 (n : Int))))) : wpT Try.prog ops w0 fin ((o, false) :: rest) Γ := by
  refine ⟨.is _, Slot.mono_is _, fun a w hk hl => ?_, hn⟩
  rw [guard_ok hg hl, if_pos rfl]
  have hm : t ∈ o.looksAt ops := by unfold Oper.looksAt; simp [ho, Op.operands, Call.operands]
  have hh := looks_mem hl hm
  rw [h] at hh
  obtain ⟨A, c, e, hr⟩ := hh
  refine upT_value ?_
  have e' : a.eval (.tmp t) = .slice A n c := e
  have hlen : (Builtin.len_ #[24] o.type #[.slice A n c]).run Try.prog w = .ok (.int .i64 (n : Int)) w := by go_simp
  simp [execOp, ho, resolve, invoke, builtin, e', hlen, Result.andThen]
end
end Go.Proofs.Ytifenlopgpbpbaa
