/- How an argument of any plain type (numbers, bools, strings, structs, arrays and slices of these) reads, said once for each kind of type and put together. Nothing here speaks of one program. -/
import Derived.ChangeArms
import Derived.OpenShut
import Derived.SizedLaws
import Derived.WideShapes
import Derived.Deep.Slices
namespace Go.Proofs.Ytifenlopgpbpbaa
open Go.ChangeShapes Go.WideShapes

/-- Whatever reads as a value of type t, its cells and the world meet R; all that it holds is within the reach. -/
def Opens (P : Program) (t : TypeId) (R : World → List Value → Prop) : Prop :=
  ∀ (H : Type) (enc : TypeId × Value → H) (w : World) (base : Nat) (spare : Nat → Bool) (held : Bool) (fuel : Nat) (cs : List Value) (x : DataW H × List MemPlace),
    DataW.trod enc P w base spare held fuel t cs = some x → (∀ n ∈ x.1.weights P t, n ≤ reachBytes) → R w cs

def IsInt (k : IntKind) (_ : World) (cs : List Value) : Prop := ∃ n : Int, cs = [.int k n] ∧ (Lit.int k n).wf = true
def IsBool (_ : World) (cs : List Value) : Prop := ∃ b : Bool, cs = [.bool b]
def IsStr (_ : World) (cs : List Value) : Prop := ∃ s : ByteArray, cs = [.string s] ∧ s.size ≤ 140737488351232
/-- a slice: its address, its length, its room; each of its elements lies there and meets R -/
def SliceAt (size bytes : Nat) (R : World → List Value → Prop) (w : World) (A : Option Addr) (len cap : Nat) : Prop :=
  len ≤ cap ∧ cap ≤ maxLen ∧ len * bytes ≤ 140737488351232 ∧ (A = none → cap = 0) ∧
    (0 < len → ∃ b off, A = some ⟨b, off, none⟩ ∧ b < w.heap.size ∧ ∀ i, i < len → ∃ cs, cs.length = size ∧ R w cs ∧ ∀ j, j < size → w.cell? ⟨b, off + (i * size + j), none⟩ = cs[j]?)
def IsSlice (size bytes : Nat) (R : World → List Value → Prop) (w : World) (cs : List Value) : Prop :=
  ∃ A len cap, cs = [.slice A len cap] ∧ SliceAt size bytes R w A len cap
/-- an array of n elements -/
def IsArr (n size : Nat) (R : World → List Value → Prop) (w : World) (cs : List Value) : Prop :=
  cs.length = n * size ∧ ∀ i, i < n → R w ((cs.drop (i * size)).take size)
/-- a struct: each field where it stands -/
def IsStruct : List (Nat × Nat × (World → List Value → Prop)) → World → List Value → Prop
  | [], _, _ => True
  | (off, size, R) :: l, w, cs => R w ((cs.drop off).take size) ∧ IsStruct l w cs

theorem opens_int {P : Program} {t : TypeId} {k : IntKind} (ht : P.underlying t = some (.int k)) : Opens P t (IsInt k) := by
  intro H enc w base spare held fuel cs x h _
  obtain ⟨n, h1, _, h3⟩ := DataW.trod_int ht h
  exact ⟨n, h1, h3⟩
theorem opens_bool {P : Program} {t : TypeId} (ht : P.underlying t = some .bool) : Opens P t IsBool := by
  intro H enc w base spare held fuel cs x h _
  obtain ⟨n, h1, _⟩ := DataW.trod_bool ht h
  exact ⟨n, h1⟩
theorem opens_str {P : Program} {t : TypeId} (ht : P.underlying t = some .string) : Opens P t IsStr := by
  intro H enc w base spare held fuel cs x h hw
  obtain ⟨s, h1, rfl, _⟩ := DataW.trod_string ht h
  refine ⟨s, h1, ?_⟩
  have := hw _ (by simp [DataW.weights]; rfl)
  simpa [reachBytes] using this
theorem weightsAll_mem {H : Type} {P : Program} {e : TypeId} : ∀ {l : List (DataW H)} {d : DataW H}, d ∈ l → ∀ n ∈ d.weights P e, n ∈ DataW.weightsAll P e l
  | d0 :: l, d, h, n, hn => by
    simp only [DataW.weightsAll, List.mem_append]
    rcases List.mem_cons.1 h with rfl | h
    · exact .inl hn
    · exact .inr (weightsAll_mem h n hn)
theorem cell_lt {w : World} {p : Addr} {v : Value} (h : w.cell? p = some v) : p.block < w.heap.size := by
  rcases Nat.lt_or_ge p.block w.heap.size with h' | h'
  · exact h'
  · unfold World.cell? at h
    rw [Array.getElem?_eq_none h'] at h
    simp at h
theorem opens_slice {P : Program} {t e : TypeId} {size bytes : Nat} {R : World → List Value → Prop} (ht : P.underlying t = some (.slice e)) (hs : P.cellsOf e = size) (hb : P.bytesOf e = bytes) (hpos : 0 < size)
    (he : Opens P e R) : Opens P t (IsSlice size bytes R) := by
  intro H enc w base spare held fuel cs x h hw
  rcases DataW.trod_slice ht h with ⟨rfl, rfl⟩ | ⟨a, len, cap, elems, rest, n, _, rfl, rfl, _, hl, hm, hlen, hel, _, _⟩
  · exact ⟨none, 0, 0, rfl, Nat.le_refl _, Nat.zero_le _, by omega, fun _ => rfl, fun h => absurd h (by omega)⟩
  · have hw1 : (elems.length + rest.length) * P.bytesOf e ≤ reachBytes := by
      have := hw ((elems.length + rest.length) * P.bytesOf e) (by simp [DataW.weights, ht])
      exact this
    rw [hb] at hw1
    have hlb : len * bytes ≤ 140737488351232 := by
      have h1 : len * bytes ≤ (elems.length + rest.length) * bytes := Nat.mul_le_mul_right _ (by omega)
      exact Nat.le_trans h1 hw1
    refine ⟨some a, len, cap, rfl, hl, hm, hlb, (fun h => by cases h), fun hpl => ?_⟩
    have each : ∀ i, i < len → ∃ cs, cs.length = size ∧ R w cs ∧ ∀ j, j < size → w.cell? (a.add (i * size + j)) = cs[j]? := by
      intro i hi
      have h1 := hel i hi
      have hi' : i < elems.length := by omega
      rw [List.getElem?_eq_getElem hi'] at h1
      obtain ⟨cs', h2, h3⟩ := Option.bind_eq_some_iff.1 h1
      obtain ⟨_, h4, h5⟩ := World.cells?_some h2
      rw [hs] at h4 h5
      refine ⟨cs', h4, he H enc w base spare held n cs' _ h3 (fun m hm => hw m ?_), fun j hj => ?_⟩
      · simp only [DataW.weights, ht, List.mem_cons, List.mem_append]
        exact .inr (.inl (weightsAll_mem (d := elems[i].1) (List.mem_map.2 ⟨_, List.getElem_mem hi', rfl⟩) m hm))
      · rw [← h5 j hj, Go.Deep.add_add]
    obtain ⟨cs0, hc0, _, hc⟩ := each 0 hpl
    have hh := hc 0 hpos
    rw [List.getElem?_eq_getElem (by omega)] at hh
    have hsp := World.cell?_spot hh
    have hlt := cell_lt hh
    obtain ⟨b, off, spot⟩ := a
    have hspot : spot = none := by simpa [Addr.add] using hsp
    subst hspot
    refine ⟨b, off, rfl, by simpa [Addr.add] using hlt, fun i hi => ?_⟩
    obtain ⟨cs', h1, h2, h3⟩ := each i hi
    refine ⟨cs', h1, h2, fun j hj => ?_⟩
    rw [← h3 j hj]
    unfold Addr.add
    by_cases h7 : i * size + j = 0
    · rw [if_pos h7, h7]; rfl
    · rw [if_neg h7]
theorem opens_array {P : Program} {t e : TypeId} {n size : Nat} {R : World → List Value → Prop} (ht : P.underlying t = some (.array n e)) (hs : P.cellsOf e = size) (ha : P.cellsOf t = n * size) (he : Opens P e R) : Opens P t (IsArr n size R) := by
  intro H enc w base spare held fuel cs x h hw
  obtain ⟨xs, m, _, rfl, hlen, hxl, hel⟩ := DataW.trod_array ht h
  refine ⟨by rw [hlen, ha], fun i hi => ?_⟩
  have h1 := hel i hi
  have hi' : i < xs.length := by omega
  rw [List.getElem?_eq_getElem hi', hs] at h1
  exact he H enc w base spare held m _ _ h1 (fun k hk => hw k (by
    simp only [DataW.weights, ht]
    exact weightsAll_mem (d := xs[i].1) (List.mem_map.2 ⟨_, List.getElem_mem hi', rfl⟩) k hk))
/-- the fields from place i on -/
def FieldsFrom (P : Program) (fs : List Field) : List (Nat × Nat × (World → List Value → Prop)) → Prop
  | [] => fs = []
  | (off, size, R) :: l => ∃ f r, fs = f :: r ∧ f.offset = off ∧ P.cellsOf f.type = size ∧ Opens P f.type R ∧ FieldsFrom P r l
theorem isStruct_of {P : Program} {w : World} {cs : List Value} {H : Type} {enc : TypeId × Value → H} {base : Nat} {spare : Nat → Bool} {held : Bool} {n : Nat} :
    ∀ (l : List (Nat × Nat × (World → List Value → Prop))) (fs : List Field) (xs : List (DataW H × List MemPlace)), FieldsFrom P fs l → xs.length = fs.length →
      (∀ (i : Nat) (f : Field), fs[i]? = some f → DataW.trod enc P w base spare held n f.type ((cs.drop f.offset).take (P.cellsOf f.type)) = xs[i]?) →
      (∀ k ∈ DataW.weightsEach P (fs.map (·.type)) (xs.map (·.1)), k ≤ reachBytes) → IsStruct l w cs
  | [], _, _, _, _, _, _ => trivial
  | (off, size, R) :: l, fs, xs, hF, hl, hel, hw => by
    obtain ⟨f, r, rfl, rfl, rfl, hO, hr⟩ := hF
    match xs, hl with
    | y :: ys, hl =>
      have h0 := hel 0 f rfl
      rw [List.getElem?_cons_zero] at h0
      refine ⟨hO H enc w base spare held n _ _ h0 (fun k hk => hw k ?_), isStruct_of (n := n) (enc := enc) (base := base) (spare := spare) (held := held) l r ys hr (by simpa using hl) (fun i g hg => ?_) (fun k hk => hw k ?_)⟩
      · simp only [List.map_cons, DataW.weightsEach, List.mem_append]; exact .inl hk
      · have := hel (i + 1) g (by simpa using hg)
        simpa using this
      · simp only [List.map_cons, DataW.weightsEach, List.mem_append]; exact .inr hk
theorem opens_struct {P : Program} {t : TypeId} {fs : Array Field} {N : Nat} {l : List (Nat × Nat × (World → List Value → Prop))} (ht : P.underlying t = some (.struct fs)) (hN : P.cellsOf t = N) (hF : FieldsFrom P fs.toList l) :
    Opens P t (fun w cs => cs.length = N ∧ IsStruct l w cs) := by
  intro H enc w base spare held fuel cs x h hw
  obtain ⟨xs, n, _, rfl, hlen, hxl, hel⟩ := DataW.trod_struct ht h
  refine ⟨by rw [hlen, hN], isStruct_of (n := n) (enc := enc) (base := base) (spare := spare) (held := held) l fs.toList xs hF (by simpa using hxl) (fun i f hf => hel i f (by simpa using hf)) (fun k hk => hw k ?_)⟩
  simp only [DataW.weights, ht]
  exact hk
theorem opens_mono {P : Program} {t : TypeId} {R R' : World → List Value → Prop} (h : Opens P t R) (hr : ∀ w cs, R w cs → R' w cs) : Opens P t R' :=
  fun H enc w base spare held fuel cs x h1 h2 => hr w cs (h H enc w base spare held fuel cs x h1 h2)

/-- an argument of the call, by its type -/
theorem opens_arg {P : Program} {R : World → List Value → Prop} {t : TypeId} (ho : Opens P t R) {H : Type} {enc : TypeId × Value → H} {w : World} {base : Nat} {spare : Nat → Bool} {held : Bool} {v : Value} {d : DataW H} {p : List MemPlace}
    (h : DataW.Trod enc P w base spare held t v d p) (hw : ∀ n ∈ d.weights P t, n ≤ reachBytes) : R w v.cells.toList := by
  obtain ⟨fuel, hf⟩ := h
  exact ho H enc w base spare held fuel _ _ hf hw
theorem opens_place {H : Type} {P : Program} {ts : List TypeId} {ds : List (DataW H)} (h : (DataW.weightsEach P ts ds).all (· ≤ reachBytes) = true) {j : Nat} {t : TypeId} {d : DataW H} (ht : ts[j]? = some t) (hd : ds[j]? = some d) :
    ∀ n ∈ d.weights P t, n ≤ reachBytes := fun n hn => by
  simpa using List.all_eq_true.1 h n (DataW.weights_mem_each ht hd n hn)
/-- blocks -/
theorem heap_lt {w : World} {b : Nat} {o : Obj} (h : w.heap[b]? = some o) : b < w.heap.size := by
  rcases Nat.lt_or_ge b w.heap.size with h' | h'
  · exact h'
  · simp [Array.getElem?_eq_none h'] at h
theorem cell_of_heap {w : World} {b : Nat} {cs : Array Value} {t : TypeId} {m : Nat × Nat} (h : w.heap[b]? = some (.cells cs t m)) (j : Nat) : w.cell? ⟨b, j, none⟩ = cs[j]? := by
  simp [World.cell?, h]
theorem frozen_of_heap {w : World} {b : Nat} {cs : Array Value} {t : TypeId} (h : w.heap[b]? = some (.cells cs t (0, 0))) (j : Nat) : w.frozen? ⟨b, j, none⟩ = false := by
  simp [World.frozen?, h]
theorem heap_setCell_same {w : World} {b j : Nat} {cs : Array Value} {t : TypeId} {m : Nat × Nat} (h : w.heap[b]? = some (.cells cs t m)) (v : Value) : (w.setCell ⟨b, j, none⟩ v).heap[b]? = some (.cells (cs.setIfInBounds j v) t m) := by
  have hb := heap_lt h
  simp [World.setCell, Array.getElem?_modify, h]
theorem push_new (w : World) (o : Obj) : (w.alloc o).heap[w.heap.size]? = some o := by
  show (w.heap.push o)[w.heap.size]? = some o
  simp
theorem push_old (w : World) (o : Obj) {k : Nat} (h : k < w.heap.size) : (w.alloc o).heap[k]? = w.heap[k]? := by
  show (w.heap.push o)[k]? = w.heap[k]?
  rw [Array.getElem?_push, if_neg (Nat.ne_of_lt h)]
theorem push_two_new (w : World) (o u : Obj) : ((w.alloc o).alloc u).heap[w.heap.size + 1]? = some u := by
  have := push_new (w.alloc o) u
  rwa [World.size_alloc] at this
theorem push_two_old (w : World) (o u : Obj) : ((w.alloc o).alloc u).heap[w.heap.size]? = some o := (push_old (w.alloc o) u (by simp)).trans (push_new w o)
end Go.Proofs.Ytifenlopgpbpbaa
