/- What the second form's bound says of an argument of any plain type: 'OpensU', once for each kind of type. -/
import Derived.Test.YtmjgpgnecohbcaaRows
import Derived.Test.YtmjgpgnecohbcaaMgA
import Derived.ProofKit
import Derived.LaidMore
import Derived.LaidHandle
import Derived.Stop.Joined
import Derived.Deep.DeepHandedRow

namespace Go.Proofs.Ytmjgpgnecohbcaa
open Go.ChangeShapes Go.WideShapes

/-- whatever reads as a value of type t, of that bulk, meets S -/
def OpensU (P : Program) (t : TypeId) (S : World → List Value → Nat → Prop) : Prop :=
  ∀ (H : Type) (enc : TypeId × Value → H) (w : World) (base : Nat) (spare : Nat → Bool) (held : Bool) (fuel : Nat) (cs : List Value) (x : DataW H × List MemPlace),
    DataW.trod enc P w base spare held fuel t cs = some x → S w cs (Rows.uptoBulk x.1)
def SOne (_ : World) (_ : List Value) (n : Nat) : Prop := 1 ≤ n
def SStr (_ : World) (cs : List Value) (n : Nat) : Prop := ∀ s : ByteArray, cs = [.string s] → s.size + 1 ≤ n
def SSlice (size : Nat) (S : World → List Value → Nat → Prop) (w : World) (cs : List Value) (n : Nat) : Prop :=
  ∀ A len cap, cs = [.slice A len cap] → ∃ ms : List Nat, ms.length = len ∧ ms.sum + 1 ≤ n ∧
    ∀ i, i < len → ∀ b off, A = some ⟨b, off, none⟩ → ∃ cs', cs'.length = size ∧ (∀ j, j < size → w.cell? ⟨b, off + (i * size + j), none⟩ = cs'[j]?) ∧ S w cs' (ms.getD i 0)
def SStruct : List (Nat × Nat × (World → List Value → Nat → Prop)) → World → List Value → Nat → Prop
  | [], _, _, n => 1 ≤ n
  | (off, size, S) :: l, w, cs, n => ∃ m r, m + r ≤ n ∧ S w ((cs.drop off).take size) m ∧ SStruct l w cs r

theorem bulk_pos {H : Type} (d : DataW H) : 1 ≤ Rows.uptoBulk d := by
  cases d with
  | lit l => cases l <;> simp [Rows.uptoBulk]
  | nil => simp [Rows.uptoBulk]
  | ptr d => simp [Rows.uptoBulk]
  | slice elems spare => simp [Rows.uptoBulk]
  | agg parts => simp [Rows.uptoBulk]
  | iface t d => simp [Rows.uptoBulk]
  | map entries => simp [Rows.uptoBulk]
  | held h => simp [Rows.uptoBulk]
theorem bulkAll_sum {H : Type} (l : List (DataW H × List MemPlace)) : Rows.uptoBulkAll (l.map (·.1)) = (l.map fun e => Rows.uptoBulk e.1).sum := by
  induction l with
  | nil => simp [Rows.uptoBulkAll]
  | cons a l ih => simp [Rows.uptoBulkAll, ih]
theorem opensU_one {P : Program} {t : TypeId} : OpensU P t SOne := fun _ _ _ _ _ _ _ _ x _ => bulk_pos x.1
theorem opensU_str {P : Program} {t : TypeId} (ht : P.underlying t = some .string) : OpensU P t SStr := by
  intro H enc w base spare held fuel cs x h s hs
  obtain ⟨s', h1, rfl, _⟩ := DataW.trod_string ht h
  rw [h1] at hs
  simp only [List.cons.injEq, Value.string.injEq, and_true] at hs
  subst hs
  simp only [Rows.uptoBulk]
  have e : s'.data.toList.length = s'.size := by rw [Array.length_toList]; rfl
  omega
theorem opensU_slice {P : Program} {t e : TypeId} {size : Nat} {S : World → List Value → Nat → Prop} (ht : P.underlying t = some (.slice e)) (hs : P.cellsOf e = size) (he : OpensU P e S) : OpensU P t (SSlice size S) := by
  intro H enc w base spare held fuel cs x h A len cap hcs
  rcases DataW.trod_slice ht h with ⟨h1, h2⟩ | ⟨a, len', cap', elems, rest, n, _, h1, h2, _, hl, hm, hlen, hel, _, _⟩
  · rw [h1] at hcs
    simp only [List.cons.injEq, Value.slice.injEq, and_true] at hcs
    obtain ⟨_, rfl, _⟩ := hcs
    exact ⟨[], rfl, bulk_pos _, fun i hi => absurd hi (by omega)⟩
  · rw [h1] at hcs
    simp only [List.cons.injEq, Value.slice.injEq, and_true] at hcs
    obtain ⟨rfl, rfl, rfl⟩ := hcs
    refine ⟨elems.map fun e => Rows.uptoBulk e.1, by simpa using hlen, ?_, fun i hi b off ha => ?_⟩
    · rw [h2]
      simp only [Rows.uptoBulk]
      rw [bulkAll_sum]
      omega
    · have h3 := hel i hi
      have hi' : i < elems.length := by omega
      rw [List.getElem?_eq_getElem hi'] at h3
      obtain ⟨cs', h4, h5⟩ := Option.bind_eq_some_iff.1 h3
      obtain ⟨_, h6, h7⟩ := World.cells?_some h4
      rw [hs] at h6 h7
      refine ⟨cs', h6, fun j hj => ?_, ?_⟩
      · rw [← h7 j hj, Go.Deep.add_add]
        injection ha with ha
        subst ha
        unfold Addr.add
        by_cases h8 : i * size + j = 0
        · rw [if_pos h8, h8]; rfl
        · rw [if_neg h8]
      · have := he H enc w base spare held n cs' _ h5
        simpa [List.getD_eq_getElem?_getD, hi'] using this
/-- the fields from place i on -/
def FieldsU (P : Program) (fs : List Field) : List (Nat × Nat × (World → List Value → Nat → Prop)) → Prop
  | [] => fs = []
  | (off, size, S) :: l => ∃ f r, fs = f :: r ∧ f.offset = off ∧ P.cellsOf f.type = size ∧ OpensU P f.type S ∧ FieldsU P r l
theorem sStruct_of {P : Program} {w : World} {cs : List Value} {H : Type} {enc : TypeId × Value → H} {base : Nat} {spare : Nat → Bool} {held : Bool} {n : Nat} :
    ∀ (l : List (Nat × Nat × (World → List Value → Nat → Prop))) (fs : List Field) (xs : List (DataW H × List MemPlace)), FieldsU P fs l → xs.length = fs.length →
      (∀ (i : Nat) (f : Field), fs[i]? = some f → DataW.trod enc P w base spare held n f.type ((cs.drop f.offset).take (P.cellsOf f.type)) = xs[i]?) →
      SStruct l w cs ((xs.map fun e => Rows.uptoBulk e.1).sum + 1)
  | [], _, _, _, _, _ => by simp [SStruct]
  | (off, size, S) :: l, fs, xs, hF, hl, hel => by
    obtain ⟨f, r, rfl, rfl, rfl, hO, hr⟩ := hF
    match xs, hl with
    | y :: ys, hl =>
      have h0 := hel 0 f rfl
      rw [List.getElem?_cons_zero] at h0
      refine ⟨Rows.uptoBulk y.1, (ys.map fun e => Rows.uptoBulk e.1).sum + 1, by simp; omega, hO H enc w base spare held n _ _ h0, ?_⟩
      exact sStruct_of (n := n) (enc := enc) (base := base) (spare := spare) (held := held) l r ys hr (by simpa using hl) (fun i g hg => by
        have := hel (i + 1) g (by simpa using hg)
        simpa using this)
theorem opensU_struct {P : Program} {t : TypeId} {fs : Array Field} {l : List (Nat × Nat × (World → List Value → Nat → Prop))} (ht : P.underlying t = some (.struct fs)) (hF : FieldsU P fs.toList l) : OpensU P t (SStruct l) := by
  intro H enc w base spare held fuel cs x h
  obtain ⟨xs, n, _, h1, hlen, hxl, hel⟩ := DataW.trod_struct ht h
  have := sStruct_of (n := n) (enc := enc) (base := base) (spare := spare) (held := held) l fs.toList xs hF (by simpa using hxl) (fun i f hf => hel i f (by simpa using hf))
  rw [h1]
  simp only [Rows.uptoBulk]
  rw [bulkAll_sum]
  exact this
/-- an argument of the call, by its type -/
theorem opensU_arg {P : Program} {S : World → List Value → Nat → Prop} {t : TypeId} (ho : OpensU P t S) {H : Type} {enc : TypeId × Value → H} {w : World} {base : Nat} {spare : Nat → Bool} {held : Bool} {v : Value} {d : DataW H} {p : List MemPlace}
    (h : DataW.Trod enc P w base spare held t v d p) : S w v.cells.toList (Rows.uptoBulk d) := by
  obtain ⟨fuel, hf⟩ := h
  exact ho H enc w base spare held fuel _ _ hf
theorem sum_ones : ∀ l : List Nat, (∀ i, i < l.length → 1 ≤ l.getD i 0) → l.length ≤ l.sum
  | [], _ => by simp
  | a :: l, h => by
    have h0 := h 0 (by simp)
    have := sum_ones l (fun i hi => by simpa using h (i + 1) (by simpa using hi))
    simp at h0 ⊢
    omega
/-- the bulk of a slice of plain elements bounds its length -/
theorem bulk_len {size bytes : Nat} {R : World → List Value → Prop} {w : World} {A : Option Addr} {len cap n k : Nat} (h : SliceAt k bytes R w A len cap) (u : SSlice size SOne w [.slice A len cap] n) : len + 1 ≤ n := by
  obtain ⟨ms, hl, hs, hel⟩ := u A len cap rfl
  have := sum_ones ms (fun i hi => by
    obtain ⟨b, off, hA, _⟩ := h.2.2.2.2 (by omega)
    obtain ⟨_, _, _, h1⟩ := hel i (by omega) b off hA
    exact h1)
  omega
end Go.Proofs.Ytmjgpgnecohbcaa

/- For rows that list no laid variable, in the second form: a world that meets them; the witness out of it. -/
namespace Go.Proofs.Ytmjgpgnecohbcaa
open Go.ChangeShapes Go.WideShapes Go.RowKit

theorem own : ownKnob Try.prog.godebug = none := by kernel_rfl
theorem laidOut : laidOutB Try.prog = true := by kernel_rfl
/-- there is nothing laid -/
def Laid (_ : World) : Prop := True
theorem laid_of {W : World} (_ : laidMetH Try.prog [] W) : Laid W := trivial
noncomputable def laidWorld (os : Os) : World := World.holding Try.prog os ⟨#[], #[], []⟩
theorem laidWorld_met (os : Os) (args : Array Value) : laidMetH Try.prog [] ((laidWorld os).forCall (fun _ _ => 0) ⟨#[], args, []⟩).memory := laidMetH_nil _ _
theorem laidWorld_shaped (os : Os) (args : Array Value) : ((laidWorld os).forCall (fun _ _ => 0) ⟨#[], args, []⟩).Shaped Try.prog :=
  World.shaped_of_RefB (by kernel_rfl) (by kernel_rfl)

/-- a witness out of a world of one's own making -/
theorem witness_row_shaped {H : Type} {enc : TypeId × Value → H} {C : Checked} {os : Os} {f : FuncId} {fn : Func} {s : OpenSpec} {conds : List PathCond} {apart : Bool} {laid : List (String × DataW Unit)} (w0 : World) (args : Array Value) (hos : w0.os = os)
    (hsh : (w0.forCall (fun _ _ => 0) ⟨#[], args, []⟩).Shaped C.prog)
    (hok : Input.okWideB C.prog (w0.forCall (fun _ _ => 0) ⟨#[], args, []⟩) f ⟨#[], args, []⟩ = true)
    (hrow : s.preRow enc C.prog fn conds apart laid (w0.forCall (fun _ _ => 0) ⟨#[], args, []⟩).memory args) :
    ∃ (w : World) (tape : Tape) (i : Input), w.os = os ∧ (w.forCall tape i).Shaped C.prog ∧ i.vars = [] ∧ Input.okWide C.prog (w.forCall tape i) .any w.heap.size f i ∧
      s.preRow enc C.prog fn conds apart laid (w.forCall tape i).memory i.args ∧ ({ modest := false } : Assume).holds C.prog (lone (Frame.enter C.prog f i.args .normal) [] (w.forCall tape i)) :=
  ⟨w0, fun _ _ => 0, ⟨#[], args, []⟩, hos, hsh, (Input.okWide_of_okWideB (base := 0) hok).1, (Input.okWide_of_okWideB hok).2, hrow, by
    simp only [Assume.holds]
    exact ⟨by simp, by simp, by simp, by simp, by simp⟩⟩
end Go.Proofs.Ytmjgpgnecohbcaa
