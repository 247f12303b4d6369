/- Arguments that are lists of promises, and of votes. -/
import Derived.Test.YtifenlopgpbpbaaPrqA
import Derived.Test.YtifenlopgpbpbaaStr
import Derived.Test.YtifenlopgpbpbaaBalB
namespace Go.Proofs.Ytifenlopgpbpbaa
open Go.RowKit

instance : Inhabited It := ⟨⟨⟨0, false, 0, 0, []⟩, none, 0⟩⟩
instance : Inhabited Vt := ⟨⟨0, 0, 0⟩⟩
theorem promise_of {w : World} {cs : List Value} (h : cs.length = 5 ∧ IsStruct [(0, 1, (IsInt .i64)), (1, 1, IsBool), (2, 2, (fun w cs => cs.length = 2 ∧ IsStruct [(0, 1, (IsInt .i64)), (1, 1, (IsInt .i64))] w cs)), (4, 1, (IsSlice 1 1 (IsInt .u8)))] w cs) :
    ∃ x : It, cs = x.cells ∧ Row w x.A x.r.val.length x.c x.r.val ∧ -9223372036854775808 ≤ x.r.who ∧ x.r.who ≤ 9223372036854775807 := by
  obtain ⟨hl, h0, h1, h2, h3, -⟩ := h
  match cs, hl with
  | [v0, v1, v2, v3, v4], _ =>
    obtain ⟨n0, e0, f0⟩ := h0
    obtain ⟨so, e1⟩ := h1
    obtain ⟨r1, s1, e2, f2, g2⟩ := ballot_of h2
    obtain ⟨A, n, c, e3, hs⟩ := h3
    simp only [List.drop_zero, List.take_succ_cons, List.take_zero, List.drop_succ_cons, List.cons.injEq, and_true] at e0 e1 e2 e3
    obtain ⟨rfl, rfl⟩ := e2
    subst e0 e1 e3
    obtain ⟨bs, hb⟩ := Row.of hs
    have hlen := hb.len
    subst hlen
    exact ⟨⟨⟨n0, so, r1, s1, bs⟩, A, c⟩, rfl, hb, in64 f0⟩
theorem pms_of {w : World} {A : Option Addr} {n cap : Nat} (h : SliceAt 5 56 (fun w cs => cs.length = 5 ∧ IsStruct [(0, 1, (IsInt .i64)), (1, 1, IsBool), (2, 2, (fun w cs => cs.length = 2 ∧ IsStruct [(0, 1, (IsInt .i64)), (1, 1, (IsInt .i64))] w cs)), (4, 1, (IsSlice 1 1 (IsInt .u8)))] w cs) w A n cap) :
    ∃ l : List It, l.length = n ∧ EP.Reads w A l ∧ (∀ x ∈ l, Row w x.A x.r.val.length x.c x.r.val) ∧ ∀ x ∈ l, -9223372036854775808 ≤ x.r.who ∧ x.r.who ≤ 9223372036854775807 := by
  obtain ⟨x1, x2, x3, x4, hc⟩ := h
  have key : ∀ i, i < n → ∃ x : It, (Row w x.A x.r.val.length x.c x.r.val ∧ -9223372036854775808 ≤ x.r.who ∧ x.r.who ≤ 9223372036854775807) ∧ ∃ b off, A = some ⟨b, off, none⟩ ∧ b < w.heap.size ∧ ∀ j u, x.cells[j]? = some u → w.cell? ⟨b, off + i * 5 + j, none⟩ = some u := by
    intro i hi
    obtain ⟨b, off, rfl, hb, hel⟩ := hc (by omega)
    obtain ⟨cs, hl, hr, hcell⟩ := hel i hi
    obtain ⟨x, rfl, hrow⟩ := promise_of hr
    refine ⟨x, hrow, b, off, rfl, hb, fun j u hu => ?_⟩
    have hj : j < 5 := by
      have := (List.getElem?_eq_some_iff.1 hu).1
      simpa [It.cells] using this
    have := hcell j (by first | exact hj | (simp [It.cells]; omega))
    rw [← Nat.add_assoc] at this
    rw [this]
    simpa using hu
  obtain ⟨f, hf⟩ := Go.Deep.choose_lt key
  refine ⟨(List.range n).map f, by simp, fun i hi => ?_, fun x hx => ?_, fun x hx => ?_⟩
  · have hin : i < n := by simpa using hi
    obtain ⟨_, b, off, e, hb, hcs⟩ := hf i hin
    refine ⟨b, off, e, hb, fun j u hu => hcs j u ?_⟩
    rw [List.getElem_map, List.getElem_range] at hu
    exact hu
  all_goals
    obtain ⟨i, hi, rfl⟩ := List.mem_map.1 hx
    have hin := List.mem_range.1 hi
  · exact (hf i hin).1.1
  · exact (hf i hin).1.2
theorem vote_of {w : World} {cs : List Value} (h : cs.length = 3 ∧ IsStruct [(0, 1, (IsInt .i64)), (1, 2, (fun w cs => cs.length = 2 ∧ IsStruct [(0, 1, (IsInt .i64)), (1, 1, (IsInt .i64))] w cs))] w cs) :
    ∃ x : Vt, cs = x.cells ∧ -9223372036854775808 ≤ x.who ∧ x.who ≤ 9223372036854775807 := by
  obtain ⟨hl, h0, h2, -⟩ := h
  match cs, hl with
  | [v0, v1, v2], _ =>
    obtain ⟨n0, e0, f0⟩ := h0
    obtain ⟨r1, s1, e2, f2, g2⟩ := ballot_of h2
    simp only [List.drop_zero, List.take_succ_cons, List.take_zero, List.drop_succ_cons, List.cons.injEq, and_true] at e0 e2
    obtain ⟨rfl, rfl⟩ := e2
    subst e0
    exact ⟨⟨n0, r1, s1⟩, rfl, in64 f0⟩
theorem vts_of {w : World} {A : Option Addr} {n cap : Nat} (h : SliceAt 3 24 (fun w cs => cs.length = 3 ∧ IsStruct [(0, 1, (IsInt .i64)), (1, 2, (fun w cs => cs.length = 2 ∧ IsStruct [(0, 1, (IsInt .i64)), (1, 1, (IsInt .i64))] w cs))] w cs) w A n cap) :
    ∃ l : List Vt, l.length = n ∧ EV.Reads w A l ∧ ∀ x ∈ l, -9223372036854775808 ≤ x.who ∧ x.who ≤ 9223372036854775807 := by
  obtain ⟨x1, x2, x3, x4, hc⟩ := h
  have key : ∀ i, i < n → ∃ x : Vt, (-9223372036854775808 ≤ x.who ∧ x.who ≤ 9223372036854775807) ∧ ∃ b off, A = some ⟨b, off, none⟩ ∧ b < w.heap.size ∧ ∀ j u, x.cells[j]? = some u → w.cell? ⟨b, off + i * 3 + j, none⟩ = some u := by
    intro i hi
    obtain ⟨b, off, rfl, hb, hel⟩ := hc (by omega)
    obtain ⟨cs, hl, hr, hcell⟩ := hel i hi
    obtain ⟨x, rfl, hrow⟩ := vote_of hr
    refine ⟨x, hrow, b, off, rfl, hb, fun j u hu => ?_⟩
    have hj : j < 3 := by
      have := (List.getElem?_eq_some_iff.1 hu).1
      simpa [Vt.cells] using this
    have := hcell j (by first | exact hj | (simp [Vt.cells]; omega))
    rw [← Nat.add_assoc] at this
    rw [this]
    simpa using hu
  obtain ⟨f, hf⟩ := Go.Deep.choose_lt key
  refine ⟨(List.range n).map f, by simp, fun i hi => ?_, fun x hx => ?_⟩
  · have hin : i < n := by simpa using hi
    obtain ⟨_, b, off, e, hb, hcs⟩ := hf i hin
    refine ⟨b, off, e, hb, fun j u hu => hcs j u ?_⟩
    rw [List.getElem_map, List.getElem_range] at hu
    exact hu
  · obtain ⟨i, hi, rfl⟩ := List.mem_map.1 hx
    have hin := List.mem_range.1 hi
    exact (hf i hin).1
end Go.Proofs.Ytifenlopgpbpbaa
