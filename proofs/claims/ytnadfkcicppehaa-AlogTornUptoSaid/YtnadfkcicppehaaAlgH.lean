/- Pieces of a row of records. -/
import Derived.Test.YtnadfkcicppehaaAlgO
namespace Go.Proofs.Ytnadfkcicppehaa
open Go.RowKit

/-- 'l[:k]' and 'l[k:m]' of records -/
theorem run_headC (ki : IntKind) (A : Option Addr) (n cap k : Nat) (hk : (k : Int) ≤ (cap : Int)) (w : World) :
    (Instr.sliceAt 22 (.slice A n cap) Option.none (some (.int ki (k : Int))) Option.none).run Try.prog w = .ok (.slice A k cap) w := by
  rw [run_sliceAt_slice w 22 _ _ _ _ (by kernel_rfl), run_slice_h w 22 A n cap (by kernel_rfl) ki (k : Int) (by omega) hk]
  have hz : (sizeOf (Try.prog.elem 22)).run Try.prog w = .ok 5 w := by kernel_rfl
  rw [hz]
  have e : ((k : Int)).toNat = k := by omega
  simp only [Result.andThen, sliced, e]
  cases A with
  | none => simp
  | some a => simp [Addr.add]
theorem run_midC (ki kj : IntKind) (A : Option Addr) (n cap k m : Nat) (i j : Int) (hi : i = (k : Int)) (hj : j = (m : Int)) (hk : k ≤ m) (hm : m ≤ cap) (w : World) :
    (Instr.sliceAt 22 (.slice A n cap) (some (.int ki i)) (some (.int kj j)) Option.none).run Try.prog w = .ok (.slice (if cap = k then A else A.map fun x => x.add (k * 5)) (m - k) (cap - k)) w := by
  subst hi hj
  rw [run_sliceAt_slice w 22 _ _ _ _ (by kernel_rfl), run_slice_lh w 22 A n cap (by kernel_rfl) ki kj (k : Int) (m : Int) (by omega) (by omega) (by omega)]
  have hz : (sizeOf (Try.prog.elem 22)).run Try.prog w = .ok 5 w := by kernel_rfl
  rw [hz]
  have e : ((k : Int)).toNat = k := by omega
  have e' : ((m : Int)).toNat = m := by omega
  simp only [Result.andThen, sliced, e, e']
/-- one of the row's records, as a row of its own -/
theorem Rcs.one {w : World} {A : Option Addr} {l : List Rc} (h : Rcs w A l) {k : Nat} (hk : k < l.length) : Rcs w (A.map fun x => x.add (k * 5)) [l[k]] := by
  refine ⟨fun r hr => ?_, fun i hi => ?_⟩
  · simp only [List.mem_singleton] at hr
    subst hr
    exact h.1 _ (List.getElem_mem hk)
  · obtain ⟨b, off, rfl, hb, hr⟩ := h.2 k hk
    simp only [List.length_cons, List.length_nil] at hi
    obtain rfl : i = 0 := by omega
    refine ⟨b, off + k * 5, ?_, hb, by simpa using hr⟩
    simp only [Option.map_some, Addr.add]
    by_cases h0 : k * 5 = 0
    · rw [if_pos h0, h0]; rfl
    · rw [if_neg h0]
/-- a slice that reads as these records -/
def RecT (n : Nat) (l : List Rc) (u : Value) (w : World) : Prop := ∃ A c, u = .slice A n c ∧ Rcs w A l
theorem RecT.mono (n : Nat) (l : List Rc) : (Slot.has (RecT n l)).Mono := fun _ _ _ hk ⟨A, c, e, h⟩ => ⟨A, c, e, h.kept hk⟩
/-- rows that were made -/
theorem OwnR.told {e : TypeId} {w : World} {base : Nat} {v : Value} {its : List It} {l : List Rc} (h : OwnR e w base v its) (hl : its.map It.r = l) (hw : ∀ r ∈ l, r.wf) : ∃ A c, v = .slice A l.length c ∧ Rcs w A l ∧ l.length ≤ c ∧ c ≤ maxLen ∧ (A = none → c = 0) := by
  obtain ⟨A, c, rfl, h1, h2, h3⟩ := h.slice
  have e1 : its.length = l.length := by rw [← hl]; simp
  have hr := h.rcs (fun x hx => hw _ (by rw [← hl]; exact List.mem_map_of_mem hx))
  rw [hl] at hr
  exact ⟨A, c, by rw [e1], hr, by rw [← e1]; exact h2, h3, h1⟩
end Go.Proofs.Ytnadfkcicppehaa
