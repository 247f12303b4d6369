/- An argument that is a row of records. -/
import Derived.Test.YtmjgpgnecohbcaaMgF
import Derived.Test.YtmjgpgnecohbcaaMgA
namespace Go.Proofs.Ytmjgpgnecohbcaa
open Go.RowKit

theorem rec_of {w : World} {cs : List Value} (h : cs.length = 5 ∧ IsStruct [(0, 1, (IsInt .i64)), (1, 1, (IsInt .i64)), (2, 2, (fun w cs => cs.length = 2 ∧ IsStruct [(0, 1, (IsInt .i64)), (1, 1, (IsInt .i64))] w cs)), (4, 1, (IsSlice 1 1 (IsInt .u8)))] w cs) :
    ∃ (r : Rc) (A : Option Addr) (c : Nat), cs = [.int .i64 r.kind, .int .i64 r.slot, .int .i64 r.round, .int .i64 r.site, .slice A r.val.length c] ∧ r.wf ∧ Row w A r.val.length c r.val := by
  obtain ⟨hl, h0, h1, ⟨h2l, h2, h3, -⟩, h4, -⟩ := h
  match cs, hl with
  | [v0, v1, v2, v3, v4], _ =>
    obtain ⟨n0, e0, f0⟩ := h0
    obtain ⟨n1, e1, f1⟩ := h1
    obtain ⟨n2, e2, f2⟩ := h2
    obtain ⟨n3, e3, f3⟩ := h3
    obtain ⟨A, n, c, e4, hs⟩ := h4
    simp only [List.drop_zero, List.take_succ_cons, List.take_zero, List.drop_succ_cons, List.cons.injEq, and_true] at e0 e1 e2 e3 e4
    subst e0 e1 e2 e3 e4
    obtain ⟨bs, hb⟩ := bts_of hs
    have hlen := hb.1
    subst hlen
    have bnd : ∀ n : Int, (Lit.int .i64 n).wf = true → -9223372036854775808 ≤ n ∧ n < 9223372036854775808 := fun n h => by have := bounds_i64 h; omega
    exact ⟨⟨n0, n1, n2, n3, bs⟩, A, c, rfl, ⟨bnd _ f0, bnd _ f1, bnd _ f2, bnd _ f3⟩, hb, hs.2.2.2.1, hs.1, hs.2.1⟩
theorem rcs_of {w : World} {A : Option Addr} {n cap : Nat} (h : SliceAt 5 56 (fun w cs => cs.length = 5 ∧ IsStruct [(0, 1, (IsInt .i64)), (1, 1, (IsInt .i64)), (2, 2, (fun w cs => cs.length = 2 ∧ IsStruct [(0, 1, (IsInt .i64)), (1, 1, (IsInt .i64))] w cs)), (4, 1, (IsSlice 1 1 (IsInt .u8)))] w cs) w A n cap) : ∃ l : List Rc, l.length = n ∧ Rcs w A l := by
  obtain ⟨x1, x2, x3, x4, hc⟩ := h
  have key : ∀ i, i < n → ∃ r : Rc, r.wf ∧ ∃ b off, A = some ⟨b, off, none⟩ ∧ b < w.heap.size ∧ RcAt w b (off + i * 5) r := by
    intro i hi
    obtain ⟨b, off, rfl, hb, hel⟩ := hc (by omega)
    obtain ⟨cs, hl, hr, hcell⟩ := hel i hi
    obtain ⟨r, A', c', rfl, hw, hrow⟩ := rec_of hr
    refine ⟨r, hw, b, off, rfl, hb, ?_⟩
    have c0 := hcell 0 (by omega)
    have c1 := hcell 1 (by omega)
    have c2 := hcell 2 (by omega)
    have c3 := hcell 3 (by omega)
    have c4 := hcell 4 (by omega)
    simp only [← Nat.add_assoc, Nat.add_zero] at c0 c1 c2 c3 c4
    exact ⟨c0, c1, c2, c3, A', c', c4, hrow⟩
  have : ∃ l : List Rc, l.length = n ∧ ∀ (i : Nat) (h : i < l.length), l[i].wf ∧ ∃ b off, A = some ⟨b, off, none⟩ ∧ b < w.heap.size ∧ RcAt w b (off + i * 5) l[i] := by
    clear hc x1 x2 x3 x4
    induction n with
    | zero => exact ⟨[], rfl, fun i h => absurd h (by simp)⟩
    | succ n ih =>
      obtain ⟨l, hl, hp⟩ := ih (fun i hi => key i (by omega))
      obtain ⟨x, hx⟩ := key n (by omega)
      refine ⟨l ++ [x], by simp [hl], fun i hi => ?_⟩
      by_cases hin : i < l.length
      · rw [List.getElem_append_left hin]; exact hp i hin
      · have : i = n := by simp at hi; omega
        subst this
        rw [List.getElem_append_right (by omega)]
        simpa [hl] using hx
  obtain ⟨l, hl, hp⟩ := this
  refine ⟨l, hl, fun r hr => ?_, fun i hi => (hp i hi).2⟩
  obtain ⟨i, hi, rfl⟩ := List.mem_iff_getElem.1 hr
  exact (hp i hi).1
end Go.Proofs.Ytmjgpgnecohbcaa
