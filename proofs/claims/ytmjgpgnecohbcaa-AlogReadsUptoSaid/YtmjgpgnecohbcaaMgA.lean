/- How an argument of any plain type (numbers, bools, strings, structs, arrays and slices of these) reads, said once for each kind of type and put together. Nothing here speaks of one program. -/
import Derived.ChangeArms
import Derived.OpenShut
import Derived.SizedLaws
import Derived.WideShapes
import Derived.Deep.Slices
import Derived.BigQuiet
import Derived.Below
import Derived.Test.YtmjgpgnecohbcaaRows
import Derived.WalkKit
import Derived.Maps.AppendAt
import Derived.Deep.DeepAppendWide
import Derived.Laws.AppendOwnNone
import Derived.Lib.SlBytesConst
import Derived.Lib.Hide
import Derived.WalkLawsBesides

namespace Go.Proofs.Ytmjgpgnecohbcaa
open Go.ChangeShapes Go.WideShapes

/-- Whatever reads as a value of type t, its cells and the world meet R; all that it holds is within the reach. -/
def Opens (P : Program) (t : TypeId) (R : World → List Value → Prop) : Prop :=
  ∀ (H : Type) (enc : TypeId × Value → H) (w : World) (base : Nat) (spare : Nat → Bool) (held : Bool) (fuel : Nat) (cs : List Value) (x : DataW H × List MemPlace),
    DataW.trod enc P w base spare held fuel t cs = some x → (∀ n ∈ x.1.weights P t, n ≤ reachBytes) → R w cs

def IsInt (k : IntKind) (_ : World) (cs : List Value) : Prop := ∃ n : Int, cs = [.int k n] ∧ (Lit.int k n).wf = true
def IsBool (_ : World) (cs : List Value) : Prop := ∃ b : Bool, cs = [.bool b]
def IsStr (_ : World) (cs : List Value) : Prop := ∃ s : ByteArray, cs = [.string s] ∧ s.size ≤ 140737488351232
/-- a slice: its address, its length, its room; each of its elements lies there and meets R -/
def SliceAt (size bytes : Nat) (R : World → List Value → Prop) (w : World) (A : Option Addr) (len cap : Nat) : Prop :=
  len ≤ cap ∧ cap ≤ maxLen ∧ len * bytes ≤ 140737488351232 ∧ (A = none → cap = 0) ∧
    (0 < len → ∃ b off, A = some ⟨b, off, none⟩ ∧ b < w.heap.size ∧ ∀ i, i < len → ∃ cs, cs.length = size ∧ R w cs ∧ ∀ j, j < size → w.cell? ⟨b, off + (i * size + j), none⟩ = cs[j]?)
def IsSlice (size bytes : Nat) (R : World → List Value → Prop) (w : World) (cs : List Value) : Prop :=
  ∃ A len cap, cs = [.slice A len cap] ∧ SliceAt size bytes R w A len cap
/-- an array of n elements -/
def IsArr (n size : Nat) (R : World → List Value → Prop) (w : World) (cs : List Value) : Prop :=
  cs.length = n * size ∧ ∀ i, i < n → R w ((cs.drop (i * size)).take size)
/-- a struct: each field where it stands -/
def IsStruct : List (Nat × Nat × (World → List Value → Prop)) → World → List Value → Prop
  | [], _, _ => True
  | (off, size, R) :: l, w, cs => R w ((cs.drop off).take size) ∧ IsStruct l w cs

theorem opens_int {P : Program} {t : TypeId} {k : IntKind} (ht : P.underlying t = some (.int k)) : Opens P t (IsInt k) := by
  intro H enc w base spare held fuel cs x h _
  obtain ⟨n, h1, _, h3⟩ := DataW.trod_int ht h
  exact ⟨n, h1, h3⟩
theorem opens_bool {P : Program} {t : TypeId} (ht : P.underlying t = some .bool) : Opens P t IsBool := by
  intro H enc w base spare held fuel cs x h _
  obtain ⟨n, h1, _⟩ := DataW.trod_bool ht h
  exact ⟨n, h1⟩
theorem opens_str {P : Program} {t : TypeId} (ht : P.underlying t = some .string) : Opens P t IsStr := by
  intro H enc w base spare held fuel cs x h hw
  obtain ⟨s, h1, rfl, _⟩ := DataW.trod_string ht h
  refine ⟨s, h1, ?_⟩
  have := hw _ (by simp [DataW.weights]; rfl)
  simpa [reachBytes] using this
theorem weightsAll_mem {H : Type} {P : Program} {e : TypeId} : ∀ {l : List (DataW H)} {d : DataW H}, d ∈ l → ∀ n ∈ d.weights P e, n ∈ DataW.weightsAll P e l
  | d0 :: l, d, h, n, hn => by
    simp only [DataW.weightsAll, List.mem_append]
    rcases List.mem_cons.1 h with rfl | h
    · exact .inl hn
    · exact .inr (weightsAll_mem h n hn)
theorem cell_lt {w : World} {p : Addr} {v : Value} (h : w.cell? p = some v) : p.block < w.heap.size := by
  rcases Nat.lt_or_ge p.block w.heap.size with h' | h'
  · exact h'
  · unfold World.cell? at h
    rw [Array.getElem?_eq_none h'] at h
    simp at h
theorem opens_slice {P : Program} {t e : TypeId} {size bytes : Nat} {R : World → List Value → Prop} (ht : P.underlying t = some (.slice e)) (hs : P.cellsOf e = size) (hb : P.bytesOf e = bytes) (hpos : 0 < size)
    (he : Opens P e R) : Opens P t (IsSlice size bytes R) := by
  intro H enc w base spare held fuel cs x h hw
  rcases DataW.trod_slice ht h with ⟨rfl, rfl⟩ | ⟨a, len, cap, elems, rest, n, _, rfl, rfl, _, hl, hm, hlen, hel, _, _⟩
  · exact ⟨none, 0, 0, rfl, Nat.le_refl _, Nat.zero_le _, by omega, fun _ => rfl, fun h => absurd h (by omega)⟩
  · have hw1 : (elems.length + rest.length) * P.bytesOf e ≤ reachBytes := by
      have := hw ((elems.length + rest.length) * P.bytesOf e) (by simp [DataW.weights, ht])
      exact this
    rw [hb] at hw1
    have hlb : len * bytes ≤ 140737488351232 := by
      have h1 : len * bytes ≤ (elems.length + rest.length) * bytes := Nat.mul_le_mul_right _ (by omega)
      exact Nat.le_trans h1 hw1
    refine ⟨some a, len, cap, rfl, hl, hm, hlb, (fun h => by cases h), fun hpl => ?_⟩
    have each : ∀ i, i < len → ∃ cs, cs.length = size ∧ R w cs ∧ ∀ j, j < size → w.cell? (a.add (i * size + j)) = cs[j]? := by
      intro i hi
      have h1 := hel i hi
      have hi' : i < elems.length := by omega
      rw [List.getElem?_eq_getElem hi'] at h1
      obtain ⟨cs', h2, h3⟩ := Option.bind_eq_some_iff.1 h1
      obtain ⟨_, h4, h5⟩ := World.cells?_some h2
      rw [hs] at h4 h5
      refine ⟨cs', h4, he H enc w base spare held n cs' _ h3 (fun m hm => hw m ?_), fun j hj => ?_⟩
      · simp only [DataW.weights, ht, List.mem_cons, List.mem_append]
        exact .inr (.inl (weightsAll_mem (d := elems[i].1) (List.mem_map.2 ⟨_, List.getElem_mem hi', rfl⟩) m hm))
      · rw [← h5 j hj, Go.Deep.add_add]
    obtain ⟨cs0, hc0, _, hc⟩ := each 0 hpl
    have hh := hc 0 hpos
    rw [List.getElem?_eq_getElem (by omega)] at hh
    have hsp := World.cell?_spot hh
    have hlt := cell_lt hh
    obtain ⟨b, off, spot⟩ := a
    have hspot : spot = none := by simpa [Addr.add] using hsp
    subst hspot
    refine ⟨b, off, rfl, by simpa [Addr.add] using hlt, fun i hi => ?_⟩
    obtain ⟨cs', h1, h2, h3⟩ := each i hi
    refine ⟨cs', h1, h2, fun j hj => ?_⟩
    rw [← h3 j hj]
    unfold Addr.add
    by_cases h7 : i * size + j = 0
    · rw [if_pos h7, h7]; rfl
    · rw [if_neg h7]
theorem opens_array {P : Program} {t e : TypeId} {n size : Nat} {R : World → List Value → Prop} (ht : P.underlying t = some (.array n e)) (hs : P.cellsOf e = size) (ha : P.cellsOf t = n * size) (he : Opens P e R) : Opens P t (IsArr n size R) := by
  intro H enc w base spare held fuel cs x h hw
  obtain ⟨xs, m, _, rfl, hlen, hxl, hel⟩ := DataW.trod_array ht h
  refine ⟨by rw [hlen, ha], fun i hi => ?_⟩
  have h1 := hel i hi
  have hi' : i < xs.length := by omega
  rw [List.getElem?_eq_getElem hi', hs] at h1
  exact he H enc w base spare held m _ _ h1 (fun k hk => hw k (by
    simp only [DataW.weights, ht]
    exact weightsAll_mem (d := xs[i].1) (List.mem_map.2 ⟨_, List.getElem_mem hi', rfl⟩) k hk))
/-- the fields from place i on -/
def FieldsFrom (P : Program) (fs : List Field) : List (Nat × Nat × (World → List Value → Prop)) → Prop
  | [] => fs = []
  | (off, size, R) :: l => ∃ f r, fs = f :: r ∧ f.offset = off ∧ P.cellsOf f.type = size ∧ Opens P f.type R ∧ FieldsFrom P r l
theorem isStruct_of {P : Program} {w : World} {cs : List Value} {H : Type} {enc : TypeId × Value → H} {base : Nat} {spare : Nat → Bool} {held : Bool} {n : Nat} :
    ∀ (l : List (Nat × Nat × (World → List Value → Prop))) (fs : List Field) (xs : List (DataW H × List MemPlace)), FieldsFrom P fs l → xs.length = fs.length →
      (∀ (i : Nat) (f : Field), fs[i]? = some f → DataW.trod enc P w base spare held n f.type ((cs.drop f.offset).take (P.cellsOf f.type)) = xs[i]?) →
      (∀ k ∈ DataW.weightsEach P (fs.map (·.type)) (xs.map (·.1)), k ≤ reachBytes) → IsStruct l w cs
  | [], _, _, _, _, _, _ => trivial
  | (off, size, R) :: l, fs, xs, hF, hl, hel, hw => by
    obtain ⟨f, r, rfl, rfl, rfl, hO, hr⟩ := hF
    match xs, hl with
    | y :: ys, hl =>
      have h0 := hel 0 f rfl
      rw [List.getElem?_cons_zero] at h0
      refine ⟨hO H enc w base spare held n _ _ h0 (fun k hk => hw k ?_), isStruct_of (n := n) (enc := enc) (base := base) (spare := spare) (held := held) l r ys hr (by simpa using hl) (fun i g hg => ?_) (fun k hk => hw k ?_)⟩
      · simp only [List.map_cons, DataW.weightsEach, List.mem_append]; exact .inl hk
      · have := hel (i + 1) g (by simpa using hg)
        simpa using this
      · simp only [List.map_cons, DataW.weightsEach, List.mem_append]; exact .inr hk
theorem opens_struct {P : Program} {t : TypeId} {fs : Array Field} {N : Nat} {l : List (Nat × Nat × (World → List Value → Prop))} (ht : P.underlying t = some (.struct fs)) (hN : P.cellsOf t = N) (hF : FieldsFrom P fs.toList l) :
    Opens P t (fun w cs => cs.length = N ∧ IsStruct l w cs) := by
  intro H enc w base spare held fuel cs x h hw
  obtain ⟨xs, n, _, rfl, hlen, hxl, hel⟩ := DataW.trod_struct ht h
  refine ⟨by rw [hlen, hN], isStruct_of (n := n) (enc := enc) (base := base) (spare := spare) (held := held) l fs.toList xs hF (by simpa using hxl) (fun i f hf => hel i f (by simpa using hf)) (fun k hk => hw k ?_)⟩
  simp only [DataW.weights, ht]
  exact hk
theorem opens_mono {P : Program} {t : TypeId} {R R' : World → List Value → Prop} (h : Opens P t R) (hr : ∀ w cs, R w cs → R' w cs) : Opens P t R' :=
  fun H enc w base spare held fuel cs x h1 h2 => hr w cs (h H enc w base spare held fuel cs x h1 h2)

/-- an argument of the call, by its type -/
theorem opens_arg {P : Program} {R : World → List Value → Prop} {t : TypeId} (ho : Opens P t R) {H : Type} {enc : TypeId × Value → H} {w : World} {base : Nat} {spare : Nat → Bool} {held : Bool} {v : Value} {d : DataW H} {p : List MemPlace}
    (h : DataW.Trod enc P w base spare held t v d p) (hw : ∀ n ∈ d.weights P t, n ≤ reachBytes) : R w v.cells.toList := by
  obtain ⟨fuel, hf⟩ := h
  exact ho H enc w base spare held fuel _ _ hf hw
theorem opens_place {H : Type} {P : Program} {ts : List TypeId} {ds : List (DataW H)} (h : (DataW.weightsEach P ts ds).all (· ≤ reachBytes) = true) {j : Nat} {t : TypeId} {d : DataW H} (ht : ts[j]? = some t) (hd : ds[j]? = some d) :
    ∀ n ∈ d.weights P t, n ≤ reachBytes := fun n hn => by
  simpa using List.all_eq_true.1 h n (DataW.weights_mem_each ht hd n hn)
/-- blocks -/
theorem heap_lt {w : World} {b : Nat} {o : Obj} (h : w.heap[b]? = some o) : b < w.heap.size := by
  rcases Nat.lt_or_ge b w.heap.size with h' | h'
  · exact h'
  · simp [Array.getElem?_eq_none h'] at h
theorem cell_of_heap {w : World} {b : Nat} {cs : Array Value} {t : TypeId} {m : Nat × Nat} (h : w.heap[b]? = some (.cells cs t m)) (j : Nat) : w.cell? ⟨b, j, none⟩ = cs[j]? := by
  simp [World.cell?, h]
theorem frozen_of_heap {w : World} {b : Nat} {cs : Array Value} {t : TypeId} (h : w.heap[b]? = some (.cells cs t (0, 0))) (j : Nat) : w.frozen? ⟨b, j, none⟩ = false := by
  simp [World.frozen?, h]
theorem heap_setCell_same {w : World} {b j : Nat} {cs : Array Value} {t : TypeId} {m : Nat × Nat} (h : w.heap[b]? = some (.cells cs t m)) (v : Value) : (w.setCell ⟨b, j, none⟩ v).heap[b]? = some (.cells (cs.setIfInBounds j v) t m) := by
  have hb := heap_lt h
  simp [World.setCell, Array.getElem?_modify, h]
theorem push_new (w : World) (o : Obj) : (w.alloc o).heap[w.heap.size]? = some o := by
  show (w.heap.push o)[w.heap.size]? = some o
  simp
theorem push_old (w : World) (o : Obj) {k : Nat} (h : k < w.heap.size) : (w.alloc o).heap[k]? = w.heap[k]? := by
  show (w.heap.push o)[k]? = w.heap[k]?
  rw [Array.getElem?_push, if_neg (Nat.ne_of_lt h)]
theorem push_two_new (w : World) (o u : Obj) : ((w.alloc o).alloc u).heap[w.heap.size + 1]? = some u := by
  have := push_new (w.alloc o) u
  rwa [World.size_alloc] at this
theorem push_two_old (w : World) (o u : Obj) : ((w.alloc o).alloc u).heap[w.heap.size]? = some o := (push_old (w.alloc o) u (by simp)).trans (push_new w o)
end Go.Proofs.Ytmjgpgnecohbcaa

/- A region that draws its order, walked once in the order of the text, in whatever class of worlds the calls keep. -/
namespace Go.Proofs.Ytmjgpgnecohbcaa
open Go.RowKit
theorem wp_region_in {P : Program} (D : World → Prop) {id : Nat} {Q : Exit → Act → World → Prop} {a : Act} {w : World} {l : List Oper} (hm : P.follows .mixedOrders = true) (hB : Region.lexB .any l.toArray = true)
    (hD : D w.drew) (h : wpQuiet P l.toArray D (fun a' => ∀ w', D w' → Q .normal a' w') l a) : (Code.region id l.toArray true).wp P Q a w :=
  wp_region_quiet (C := D) hm hB hD (by simpa using h)
/-- what was there when the law began is as it was -/
def Kept (w W : World) : Prop := Below w.heap.size w W ∧ w.heap.size ≤ W.heap.size
theorem Kept.refl (w : World) : Kept w w := ⟨Below.refl _ _, Nat.le_refl _⟩
theorem Kept.drew {w W : World} (h : Kept w W) : Kept w W.drew := ⟨h.1.drew, h.2⟩
theorem Kept.alloc {w W : World} (h : Kept w W) (o : Obj) : Kept w (W.alloc o) := ⟨h.1.alloc h.2 o, by simp; have := h.2; omega⟩
/-- a call that changes nothing of what it found -/
theorem Kept.call {w W W' : World} (h : Kept w W) (hb : Below W.heap.size W W') : Kept w W' := ⟨h.1.trans (hb.mono h.2), Nat.le_trans h.2 hb.size⟩
theorem Kept.trans {a b c : World} (h : Kept a b) (k : Kept b c) : Kept a c := h.call k.1
theorem Kept.cell {w W : World} (h : Kept w W) {p : Addr} (hp : p.block < w.heap.size) : W.cell? p = w.cell? p := h.1.cell hp
end Go.Proofs.Ytmjgpgnecohbcaa

/- Slices of bytes: what it means that one reads as a list of bytes; cuts of it; new rows; rows that the call owns; append. Nothing here speaks of one program but for the numbers of the types []uint8 and uint8. -/
namespace Go.Proofs.Ytmjgpgnecohbcaa
open Go.RowKit

def u8 (c : Nat) : Value := .int .u8 (c : Int)
/-- The slice value of address A and length n reads as the bytes bs, all below block B. -/
def Bts (w : World) (B : Nat) (A : Option Addr) (n : Nat) (bs : List Nat) : Prop :=
  bs.length = n ∧ n ≤ 140737505132544 ∧ (∀ c ∈ bs, c < 256) ∧
    (0 < n → ∃ b off, A = some ⟨b, off, none⟩ ∧ b < B ∧ ∀ j, j < n → w.cell? ⟨b, off + j, none⟩ = some (.int .u8 (bs.getD j 0 : Nat)))
theorem Bts.below {w w' : World} {B : Nat} {A : Option Addr} {n : Nat} {bs : List Nat} (h : Bts w B A n bs) (hb : Below B w w') : Bts w' B A n bs := by
  refine ⟨h.1, h.2.1, h.2.2.1, fun hn => ?_⟩
  obtain ⟨b, off, e, hlt, hc⟩ := h.2.2.2 hn
  exact ⟨b, off, e, hlt, fun j hj => (hb.cell (p := ⟨b, off + j, none⟩) hlt).trans (hc j hj)⟩
theorem Bts.more {w : World} {B B' : Nat} {A : Option Addr} {n : Nat} {bs : List Nat} (h : Bts w B A n bs) (hB : B ≤ B') : Bts w B' A n bs := by
  refine ⟨h.1, h.2.1, h.2.2.1, fun hn => ?_⟩
  obtain ⟨b, off, e, hlt, hc⟩ := h.2.2.2 hn
  exact ⟨b, off, e, by omega, hc⟩

theorem Bts.nil {w : World} {B : Nat} {A : Option Addr} : Bts w B A 0 [] := ⟨rfl, by omega, by simp, fun h => absurd h (by omega)⟩
theorem Bts.cut {w : World} {B : Nat} {A : Option Addr} {n : Nat} {bs : List Nat} (h : Bts w B A n bs) {k m : Nat} (hkm : k ≤ m) (hm : m ≤ n) : Bts w B (A.map fun x => x.add k) (m - k) ((bs.take m).drop k) := by
  obtain ⟨h1, h2, h3, h4⟩ := h
  refine ⟨by simp; omega, by omega, fun c hc => h3 c (List.mem_of_mem_take (List.mem_of_mem_drop hc)), fun hn => ?_⟩
  obtain ⟨b, off, rfl, hlt, hc⟩ := h4 (by omega)
  refine ⟨b, off + k, ?_, hlt, fun j hj => ?_⟩
  · unfold Addr.add
    by_cases hk : k = 0 <;> simp [hk]
  · rw [Nat.add_assoc, hc (k + j) (by omega)]
    simp [List.getD_eq_getElem?_getD, List.getElem?_drop, show k + j < m by omega]
theorem Bts.head {w : World} {B : Nat} {A : Option Addr} {n : Nat} {bs : List Nat} (h : Bts w B A n bs) {m : Nat} (hm : m ≤ n) : Bts w B A m (bs.take m) := by
  obtain ⟨h1, h2, h3, h4⟩ := h
  refine ⟨by simp; omega, by omega, fun c hc => h3 c (List.mem_of_mem_take hc), fun hn => ?_⟩
  obtain ⟨b, off, rfl, hlt, hc⟩ := h4 (by omega)
  refine ⟨b, off, rfl, hlt, fun j hj => ?_⟩
  rw [hc j (by omega)]
  simp [List.getD_eq_getElem?_getD, hj]
theorem Bts.cutIf {w : World} {B : Nat} {A : Option Addr} {n cap : Nat} {bs : List Nat} (h : Bts w B A n bs) {k m : Nat} (hkm : k ≤ m) (hm : m ≤ n) (hc : n ≤ cap) : Bts w B (if cap = k then A else A.map fun x => x.add k) (m - k) ((bs.take m).drop k) := by
  by_cases hk : cap = k
  · rw [if_pos hk, show m - k = 0 by omega, List.drop_eq_nil_of_le (by simp; omega)]
    exact Bts.nil
  · rw [if_neg hk]; exact h.cut hkm hm
theorem Bts.rest {w : World} {B : Nat} {A : Option Addr} {n cap : Nat} {bs : List Nat} (h : Bts w B A n bs) {k : Nat} (hkm : k ≤ n) (hc : n ≤ cap) : Bts w B (if cap = k then A else A.map fun x => x.add k) (n - k) (bs.drop k) := by
  have := h.cutIf hkm (Nat.le_refl n) hc
  rwa [List.take_of_length_le (by rw [h.1]; omega)] at this

/-- a new row of bytes, whatever its mark -/
theorem bts_new (w : World) (t : TypeId) (fr : Nat × Nat) (bs : List Nat) (hlen : bs.length ≤ 140737505132544) (hby : ∀ c ∈ bs, c < 256) :
    Bts (w.alloc (.cells (bs.map fun c : Nat => Value.int .u8 (c : Int)).toArray t fr)) (w.alloc (.cells (bs.map fun c : Nat => Value.int .u8 (c : Int)).toArray t fr)).heap.size (some ⟨w.heap.size, 0, none⟩) bs.length bs := by
  refine ⟨rfl, hlen, hby, fun _ => ⟨_, _, rfl, by simp, fun j hj => ?_⟩⟩
  rw [World.cell?_alloc_mark]
  simp [hj]

theorem byte_of_wf {n : Int} (h : (Lit.int .u8 n).wf = true) : ∃ c : Nat, c < 256 ∧ n = (c : Int) := by
  have hb := bounds_u8 h
  exact ⟨n.toNat, by omega, by omega⟩
theorem bts_of {w : World} {A : Option Addr} {n cap : Nat} (h : SliceAt 1 1 (IsInt .u8) w A n cap) : ∃ bs, Bts w w.heap.size A n bs := by
  obtain ⟨_, _, hr, _, hc⟩ := h
  have key : ∀ i, i < n → ∃ c : Nat, c < 256 ∧ ∀ b off, A = some ⟨b, off, none⟩ → w.cell? ⟨b, off + i, none⟩ = some (.int .u8 (c : Int)) := by
    intro i hi
    obtain ⟨b, off, rfl, _, hel⟩ := hc (by omega)
    obtain ⟨cs, hl, ⟨m, rfl, hwf⟩, hcell⟩ := hel i hi
    obtain ⟨c, hc256, rfl⟩ := byte_of_wf hwf
    refine ⟨c, hc256, fun b' off' e => ?_⟩
    simp only [Option.some.injEq, Addr.mk.injEq, and_true] at e
    obtain ⟨rfl, rfl⟩ := e
    simpa using hcell 0 (by omega)
  obtain ⟨f, hf⟩ := Go.Deep.choose_lt key
  refine ⟨(List.range n).map f, by simp, by omega, fun c hcm => ?_, fun hn => ?_⟩
  · obtain ⟨i, hi, rfl⟩ := List.mem_map.1 hcm
    exact (hf i (by simpa using hi)).1
  · obtain ⟨b, off, rfl, hlt, _⟩ := hc hn
    refine ⟨b, off, rfl, hlt, fun j hj => ?_⟩
    rw [(hf j hj).2 b off rfl]
    simp [hj]


/-- a row of bytes that the call owns, from block base on -/
def Own (w : World) (base : Nat) (v : Value) (bs : List Nat) : Prop := w.ownsRow base 5 1 v bs.length (bs.map fun c : Nat => Value.int .u8 (c : Int))
theorem Own.nil (w : World) (base : Nat) : Own w base (.slice none 0 0) [] := World.ownsRow_nil w base _ 1
theorem Own.lit {w : World} {base : Nat} (bs : List Nat) (hb : base ≤ w.heap.size) (hm : bs.length ≤ maxLen) :
    Own (w.alloc (.cells (bs.map fun c : Nat => Value.int .u8 (c : Int)).toArray 5)) base (.slice (some ⟨w.heap.size, 0, none⟩) bs.length bs.length) bs := by
  have := World.ownsRow_lit (base := base) (e := 5) (size := 1) w (bs.map fun c : Nat => Value.int .u8 (c : Int)).toArray bs.length hb hm (by simp)
  simpa [Own] using this
theorem Own.bts {w : World} {base : Nat} {v : Value} {bs : List Nat} (h : Own w base v bs) (hl : bs.length ≤ 140737505132544) (hby : ∀ c ∈ bs, c < 256) : ∃ A cap, v = .slice A bs.length cap ∧ Bts w w.heap.size A bs.length bs := by
  have h' := h
  obtain ⟨_, ⟨rfl, h0⟩ | ⟨g, cap, cur, rfl, _, _, _⟩⟩ := h
  · exact ⟨none, 0, by rw [h0], by rw [h0]; obtain rfl := List.eq_nil_of_length_eq_zero h0; exact Bts.nil⟩
  · have hlt := (World.ownsRow.lt h' g rfl).2
    refine ⟨_, cap, rfl, rfl, hl, hby, fun _ => ⟨g, 0, rfl, hlt, fun j hj => ?_⟩⟩
    have := World.ownsRow.cellAt h' j (by omega)
    rw [Nat.zero_add, this]
    simp [hj]

/-- append onto a row of the call's own, of elements of one cell and one byte: as many as a little more than 2^47; and whose block the new value has -/
theorem run_append_far {P : Program} (w : World) (base : Nat) (t ty e : TypeId) (i : TypeInfo) (z : Value) (ht : P.underlying t = some (.slice e)) (hi : P.info? e = some i) (hz : i.zero = some z) (hsize : i.size = 1) (hby : i.bytes = 1) (hzs : z.cells.size = 1)
    (v : Value) (n : Nat) (xs : List Value) (hown : w.ownsRow base e 1 v n xs) (a : Addr) (m c : Nat) (news : List Value) (hl : news.length = m) (hnews : ∀ j u, news[j]? = some u → w.cell? (a.add j) = some u) (h1 : ∀ u ∈ news, u.oneCell' = true)
    (hsum : n + m ≤ 140737505132544) (hbase : base ≤ w.heap.size) :
    ∃ v' w', (Builtin.append_ #[t, t] ty #[v, .slice (some a) m c]).run P w = .ok v' w' ∧ w'.ownsRow base e 1 v' (n + m) (xs ++ news) ∧ w.grownBy w' v.ownBlock ∧ (v'.ownBlock = v.ownBlock ∨ v'.ownBlock = some w.heap.size) := by
  obtain ⟨v', w', hr, h2, h3, h4⟩ := run_append_own_wide (P := P) w base t ty e i z 1 1 ht hi hz hsize hby hzs (by omega) v n xs hown a m c news (by omega) hnews h1 (by simp only [maxLen]; omega) (by omega) hbase
  refine ⟨v', w', hr, h2, h3, ?_⟩
  rcases hown.2 with ⟨rfl, rfl⟩ | ⟨g, cap, cur, rfl, _, hg, _, _, hcs, _⟩
  · by_cases hm : m = 0
    · rw [h4.2 ⟨rfl, hm⟩]
      exact .inl rfl
    · have hq := run_append_nil (P := P) w t ty e i z ht hi hz a m c news (by rw [hsize]; omega) hnews (by omega) (by omega) (by rw [hby]; omega)
      rw [hr] at hq
      injection hq with hq _
      rw [hq]
      exact .inr rfl
  · by_cases hroom : n + m ≤ cap
    · have hq := run_append_room (P := P) w t ty e i ht hi g n cap cur hg a m c news (by rw [hsize]; omega) hnews h1 hroom (by rw [hsize, hcs]; omega)
      rw [hr] at hq
      injection hq with hq _
      rw [hq]
      exact .inl rfl
    · have hq := run_append_grow (P := P) w t ty e i z ht hi hz ⟨g, 0, none⟩ n cap xs (by rw [hsize]; exact hown.1) (hown.cells (g := g) rfl) a m c news (by rw [hsize]; omega) hnews (by omega) (by omega) (by rw [hby]; exact growslice_fits_wide (by omega) (by omega))
      rw [hr] at hq
      injection hq with hq _
      rw [hq]
      exact .inr rfl
theorem u8_info : (Try.prog.info? 5).map (fun i => (i.zero, i.size, i.bytes)) = some (some (.int .u8 0), 1, 1) := by kernel_rfl
/-- append of bytes that lie somewhere (nowhere, if there are none) onto a row that the call owns -/
theorem run_append_bts {w : World} {base : Nat} {v : Value} {ds bs : List Nat} {B n c : Nat} {A : Option Addr} (ty : TypeId) (hown : Own w base v ds) (hb : Bts w B A n bs) (hc : A = none → c = 0)
    (hsum : ds.length + n ≤ 140737505132544) (hbase : base ≤ w.heap.size) :
    ∃ v' w', (Builtin.append_ #[37, 37] ty #[v, .slice A n c]).run Try.prog w = .ok v' w' ∧ Own w' base v' (ds ++ bs) ∧ w.grownBy w' v.ownBlock ∧ (v'.ownBlock = v.ownBlock ∨ v'.ownBlock = some w.heap.size) := by
  obtain ⟨i0, hi, hz0, hz1, hz2⟩ := info_parts u8_info
  obtain ⟨hl, _, _, hcell⟩ := hb
  subst hl
  unfold Own at *
  by_cases h0 : bs.length = 0
  · have hbs := List.eq_nil_of_length_eq_zero h0
    subst hbs
    cases A with
    | none =>
      have hrun := run_append_owned_none (P := Try.prog) (w := w) base 37 ty 5 i0 1 Try.underlying37 hi v ds.length _ hown
      rw [hc rfl]
      exact ⟨v, w, by simpa using hrun, by simpa using hown, World.grownBy.refl w _, .inl rfl⟩
    | some ad =>
      obtain ⟨v', w', h1, h2, h3, h5⟩ := run_append_far (P := Try.prog) w base 37 ty 5 i0 _ Try.underlying37 hi hz0 hz1 hz2 rfl v ds.length _ hown ad 0 c [] rfl (by simp) (by simp)
        (by omega) hbase
      exact ⟨v', w', by simpa using h1, by simpa using h2, h3, h5⟩
  · obtain ⟨b, off, rfl, _, hcs⟩ := hcell (by omega)
    obtain ⟨v', w', h1, h2, h3, h5⟩ := run_append_far (P := Try.prog) w base 37 ty 5 i0 _ Try.underlying37 hi hz0 hz1 hz2 rfl v ds.length _ hown ⟨b, off, none⟩ bs.length c
        (bs.map fun c : Nat => Value.int .u8 (c : Int)) (by simp) (fun j u hu => by
          have hj : j < bs.length := by
            rcases Nat.lt_or_ge j bs.length with h | h
            · exact h
            · rw [List.getElem?_eq_none (by simpa using h)] at hu; cases hu
          have h6 := hcs j hj
          have h7 : (⟨b, off, none⟩ : Addr).add j = ⟨b, off + j, none⟩ := by
            unfold Addr.add; by_cases hj0 : j = 0 <;> simp [hj0]
          rw [h7, h6, ← hu]
          simp [hj])
        (fun u hu => by obtain ⟨c, _, rfl⟩ := List.mem_map.1 hu; rfl) (by omega) hbase
    exact ⟨v', w', h1, by simpa using h2, h3, h5⟩

theorem wpList_append_bts {w : World} {ops : Array Oper} {rest : List Oper} {o : Oper} {a : Act} {Q : Exit → Act → World → Prop} (hgd : o.guard = none) (s x : Operand)
    (ho : o.op = .call { callee := .builtin .append, args := #[s, x], argTypes := #[37, 37] })
    {base : Nat} {v : Value} {ds bs : List Nat} {B n c : Nat} {A : Option Addr} (hs : a.eval s = v) (hx : a.eval x = .slice A n c) (hown : Own w base v ds) (hb : Bts w B A n bs) (hc : A = none → c = 0)
    (hsum : ds.length + n ≤ 140737505132544) (hbase : base ≤ w.heap.size)
    (h : ∀ v' w', Own w' base v' (ds ++ bs) → w.grownBy w' v.ownBlock → (v'.ownBlock = v.ownBlock ∨ v'.ownBlock = some w.heap.size) → wpList Try.prog ops Q rest (a.put o.dst v') w') : wpList Try.prog ops Q (o :: rest) a w := by
  refine wpList_plain hgd fun K hK => ?_
  obtain ⟨v', w', hrun, h2, h3, h4⟩ := run_append_bts (w := w) o.type hown hb hc hsum hbase
  unfold Oper.wp
  simp [execOp, ho, resolve, invoke, builtin, hs, hx, hrun, Result.andThen]
  exact hK _ _ (h v' w' h2 h3 h4)
/-- what was there stays behind an append onto a row of the call's own -/
theorem Kept.append {w W W' : World} {v : Value} {ds : List Nat} (hk : Kept w W) (hown : Own W w.heap.size v ds) (hg : W.grownBy W' v.ownBlock) : Kept w W' :=
  ⟨hk.1.grown hg hk.2 (fun k h => (World.ownsRow.lt hown k h).1), Nat.le_trans hk.2 hg.size⟩
theorem Own.form {w : World} {base : Nat} {v : Value} {bs : List Nat} (h : Own w base v bs) (hn : 0 < bs.length) : ∃ g cap, v = .slice (some ⟨g, 0, none⟩) bs.length cap ∧ base ≤ g := by
  obtain ⟨_, ⟨_, h0⟩ | ⟨g, cap, cur, rfl, hg, _⟩⟩ := h
  · omega
  · exact ⟨g, cap, rfl, hg⟩
theorem Own.cell {w : World} {base g cap n : Nat} {bs : List Nat} (h : Own w base (.slice (some ⟨g, 0, none⟩) n cap) bs) {j : Nat} (hj : j < bs.length) : w.cell? ⟨g, j, none⟩ = some (.int .u8 (bs.getD j 0 : Nat)) := by
  obtain ⟨_, ⟨e, h0⟩ | ⟨g', cap', cur, e, _⟩⟩ := id h
  · cases e
  · cases e
    rw [World.ownsRow.cellAt h j (by omega)]
    simp [hj]
theorem Own.free {w : World} {base g cap n : Nat} {bs : List Nat} (h : Own w base (.slice (some ⟨g, 0, none⟩) n cap) bs) (j : Nat) : w.frozen? ⟨g, j, none⟩ = false := by
  obtain ⟨_, ⟨e, h0⟩ | ⟨g', cap', cur, e, _⟩⟩ := id h
  · cases e
  · cases e
    exact World.ownsRow.frozenAt h j
/-- one byte written -/
theorem Own.store {w : World} {base g cap n : Nat} {bs : List Nat} (h : Own w base (.slice (some ⟨g, 0, none⟩) n cap) bs) (j c : Nat) :
    Own (w.setCell ⟨g, j, none⟩ (.int .u8 (c : Int))) base (.slice (some ⟨g, 0, none⟩) n cap) (bs.set j c) := by
  obtain ⟨_, ⟨e, h0⟩ | ⟨g', cap', cur, e, _⟩⟩ := id h
  · cases e
  · cases e
    have := World.ownsRow.stored h j (.int .u8 (c : Int))
    unfold Own
    rw [List.length_set, List.map_set]
    exact this.1
theorem Kept.setCell {w W : World} (h : Kept w W) {p : Addr} (hp : w.heap.size ≤ p.block) (u : Value) : Kept w (W.setCell p u) := ⟨h.1.setCell hp u, by simpa [World.setCell] using h.2⟩
/-- two values own no block together -/
def Apart (u v : Value) : Prop := ∀ g, u.ownBlock = some g → v.ownBlock ≠ some g
theorem Apart.symm {u v : Value} (h : Apart u v) : Apart v u := fun g hv hu => h g hu hv
theorem Apart.nil (v : Value) : Apart (.slice none 0 0) v := fun g h => by cases h
theorem Own.other {w w' : World} {base : Nat} {u v : Value} {bs : List Nat} (hu : Own w base u bs) (hne : Apart u v) (hg : w.grownBy w' v.ownBlock) : Own w' base u bs := by
  refine World.ownsRow.kept hu hg ?_
  cases h : u.ownBlock with
  | none => exact .inl rfl
  | some g => exact .inr (fun e => hne g h e.symm)
theorem Own.apart_new {w : World} {base : Nat} {u v v' : Value} {bs : List Nat} (hu : Own w base u bs) (hne : Apart u v) (h : v'.ownBlock = v.ownBlock ∨ v'.ownBlock = some w.heap.size) : Apart u v' := by
  intro g hg he
  rcases h with h | h
  · exact hne g hg (h ▸ he)
  · have := (World.ownsRow.lt hu g hg).2
    rw [h] at he
    injection he with he
    omega
theorem Own.far {w : World} {base : Nat} {u : Value} {bs : List Nat} (hu : Own w base u bs) {p : Addr} (hp : u.ownBlock ≠ some p.block) (x : Value) : Own (w.setCell p x) base u bs := ownsRow_setCell_other hu hp x
theorem Own.alloc' {w : World} {base : Nat} {u : Value} {bs : List Nat} (hu : Own w base u bs) (o : Obj) : Own (w.alloc o) base u bs := World.ownsRow.alloc hu o
/-- a new row of one byte -/
theorem bts_one (W : World) (t : TypeId) (fr : Nat × Nat) {c g : Nat} (hg : g = W.heap.size) (hc : c < 256) : Bts (W.alloc (.cells #[.int .u8 (c : Int)] t fr)) (W.heap.size + 1) (some ⟨g, 0, none⟩) 1 [c] := by
  subst hg
  have := bts_new W t fr [c] (by simp) (by simpa using hc)
  simpa using this
theorem Own.at_ {w : World} {base n cap : Nat} {A : Option Addr} {bs : List Nat} (h : Own w base (.slice A n cap) bs) (hl : bs.length ≤ 140737505132544) (hby : ∀ c ∈ bs, c < 256) : Bts w w.heap.size A n bs := by
  obtain ⟨A', c', e, hb⟩ := h.bts hl hby
  cases e
  exact hb
/-- 'b[:k]' of bytes -/
theorem run_head (A : Option Addr) (n cap k : Nat) (hk : (k : Int) ≤ (cap : Int)) (w : World) :
    (Instr.slice 37 (.slice A n cap) Option.none (some (.int .i64 (k : Int))) Option.none).run Try.prog w = .ok (.slice A k cap) w := by
  rw [run_slice_h w 37 A n cap (by kernel_rfl) .i64 (k : Int) (by omega) hk]
  have hz : (sizeOf (Try.prog.elem 37)).run Try.prog w = .ok 1 w := by kernel_rfl
  rw [hz]
  have e : ((k : Int)).toNat = k := by omega
  simp only [Result.andThen, sliced, e]
  cases A with
  | none => simp
  | some a => simp [Addr.add]
theorem run_headK (ki : IntKind) (A : Option Addr) (n cap k : Nat) (hk : (k : Int) ≤ (cap : Int)) (w : World) :
    (Instr.sliceAt 37 (.slice A n cap) Option.none (some (.int ki (k : Int))) Option.none).run Try.prog w = .ok (.slice A k cap) w := by
  rw [run_sliceAt_slice w 37 _ _ _ _ (by kernel_rfl), run_slice_h w 37 A n cap (by kernel_rfl) ki (k : Int) (by omega) hk]
  have hz : (sizeOf (Try.prog.elem 37)).run Try.prog w = .ok 1 w := by kernel_rfl
  rw [hz]
  have e : ((k : Int)).toNat = k := by omega
  simp only [Result.andThen, sliced, e]
  cases A with
  | none => simp
  | some a => simp [Addr.add]
theorem run_headAt (A : Option Addr) (n cap k : Nat) (hk : (k : Int) ≤ (cap : Int)) (w : World) :
    (Instr.sliceAt 37 (.slice A n cap) Option.none (some (.int .i64 (k : Int))) Option.none).run Try.prog w = .ok (.slice A k cap) w := by
  rw [run_sliceAt_slice w 37 _ _ _ _ (by kernel_rfl), run_head A n cap k hk w]
/-- 'b[k:]' and 'b[k:m]' of bytes, whatever number they are written as -/
theorem run_tailK (ki : IntKind) (A : Option Addr) (n cap k : Nat) (i : Int) (hi : i = (k : Int)) (hk : k ≤ n) (w : World) :
    (Instr.sliceAt 37 (.slice A n cap) (some (.int ki i)) Option.none Option.none).run Try.prog w = .ok (.slice (if cap = k then A else A.map fun x => x.add k) (n - k) (cap - k)) w := by
  subst hi
  rw [run_sliceAt_slice w 37 _ _ _ _ (by kernel_rfl), run_slice_l w 37 A n cap (by kernel_rfl) ki (k : Int) (by omega) (by omega)]
  have hz : (sizeOf (Try.prog.elem 37)).run Try.prog w = .ok 1 w := by kernel_rfl
  rw [hz]
  have e : ((k : Int)).toNat = k := by omega
  simp only [Result.andThen, sliced, e, Nat.mul_one]
theorem run_tailS (ki : IntKind) (A : Option Addr) (n cap k : Nat) (i : Int) (hi : i = (k : Int)) (hk : k ≤ n) (w : World) :
    (Instr.slice 37 (.slice A n cap) (some (.int ki i)) Option.none Option.none).run Try.prog w = .ok (.slice (if cap = k then A else A.map fun x => x.add k) (n - k) (cap - k)) w := by
  rw [← run_tailK ki A n cap k i hi hk w, run_sliceAt_slice w 37 _ _ _ _ (by kernel_rfl)]
theorem run_midK (ki kj : IntKind) (A : Option Addr) (n cap k m : Nat) (i j : Int) (hi : i = (k : Int)) (hj : j = (m : Int)) (hk : k ≤ m) (hm : m ≤ cap) (w : World) :
    (Instr.sliceAt 37 (.slice A n cap) (some (.int ki i)) (some (.int kj j)) Option.none).run Try.prog w = .ok (.slice (if cap = k then A else A.map fun x => x.add k) (m - k) (cap - k)) w := by
  subst hi hj
  rw [run_sliceAt_slice w 37 _ _ _ _ (by kernel_rfl), run_slice_lh w 37 A n cap (by kernel_rfl) ki kj (k : Int) (m : Int) (by omega) (by omega) (by omega)]
  have hz : (sizeOf (Try.prog.elem 37)).run Try.prog w = .ok 1 w := by kernel_rfl
  rw [hz]
  have e : ((k : Int)).toNat = k := by omega
  have e' : ((m : Int)).toNat = m := by omega
  simp only [Result.andThen, sliced, e, e', Nat.mul_one]
end Go.Proofs.Ytmjgpgnecohbcaa

/- Slices of bytes that may be read and cut; rows of bytes that the call owns, as such. -/
namespace Go.Proofs.Ytmjgpgnecohbcaa
open Go.RowKit

/-- a slice of bytes that may be read and cut -/
structure Row (w : World) (A : Option Addr) (n cap : Nat) (bs : List Nat) : Prop where
  bts : Bts w w.heap.size A n bs
  nil : A = none → cap = 0
  room : n ≤ cap
  most : cap ≤ maxLen
theorem Row.below {w w' : World} {A : Option Addr} {n cap : Nat} {bs : List Nat} (h : Row w A n cap bs) (hb : Below w.heap.size w w') : Row w' A n cap bs := ⟨(h.bts.below hb).more hb.size, h.nil, h.room, h.most⟩
theorem Row.len {w : World} {A : Option Addr} {n cap : Nat} {bs : List Nat} (h : Row w A n cap bs) : bs.length = n := h.bts.1
theorem Row.none {w : World} : Row w none 0 0 [] := ⟨Bts.nil, fun _ => rfl, Nat.le_refl _, by decide⟩
theorem Own.row {w : World} {base : Nat} {v : Value} {bs : List Nat} (h : Own w base v bs) (hl : bs.length ≤ 140737505132544) (hby : ∀ c ∈ bs, c < 256) : ∃ A cap, v = .slice A bs.length cap ∧ Row w A bs.length cap bs := by
  obtain ⟨A, cap, e, hb⟩ := h.bts hl hby
  refine ⟨A, cap, e, hb, ?_, ?_, ?_⟩
  all_goals
    obtain ⟨_, ⟨e', h0⟩ | ⟨g', cap', cur, e', _, _, h1, h2, _⟩⟩ := h
    · rw [e, Value.slice.injEq] at e'; obtain ⟨rfl, e2, rfl⟩ := e'; first | (intro _; rfl) | omega | decide
    · rw [e, Value.slice.injEq] at e'; obtain ⟨rfl, e2, rfl⟩ := e'; first | (intro h; cases h) | exact h1 | exact h2
theorem Own.slice {w : World} {base : Nat} {v : Value} {bs : List Nat} (h : Own w base v bs) : ∃ A n cap, v = .slice A n cap := by
  obtain ⟨_, ⟨e, _⟩ | ⟨g', cap', cur, e, _⟩⟩ := h
  · exact ⟨_, _, _, e⟩
  · exact ⟨_, _, _, e⟩
theorem Own.below {w w' : World} {base : Nat} {v : Value} {bs : List Nat} (h : Own w base v bs) (hb : Below w.heap.size w w') : Own w' base v bs :=
  World.ownsRow.kept h (row := Option.none) ⟨hb.os, hb.tape, hb.output, hb.size, fun k hk _ => hb.block k hk⟩ (by cases v.ownBlock <;> simp)

theorem Row.block_lt {W : World} {A : Option Addr} {n cap : Nat} {cs : List Nat} (h : Row W A n cap cs) {a : Addr} (ha : A = some a) (hn : 0 < n) : a.block < W.heap.size := by
  obtain ⟨b, off, e, hlt, _⟩ := h.bts.2.2.2 hn
  rw [ha] at e
  injection e with e
  rw [e]; exact hlt
theorem Row.off {W W' : World} {A : Option Addr} {n c : Nat} {bs : List Nat} (h : Row W A n c bs) (hs : W.heap.size ≤ W'.heap.size) (hk : ∀ a, A = some a → 0 < n → W'.heap[a.block]? = W.heap[a.block]?) : Row W' A n c bs := by
  refine ⟨⟨h.bts.1, h.bts.2.1, h.bts.2.2.1, fun hn => ?_⟩, h.nil, h.room, h.most⟩
  obtain ⟨b, off, e, hlt, hcs⟩ := h.bts.2.2.2 hn
  have h9 : W'.heap[b]? = W.heap[b]? := hk _ e hn
  exact ⟨b, off, e, Nat.lt_of_lt_of_le hlt hs, fun j hj => by rw [← hcs j hj]; exact World.cell?_of_block h9⟩
end Go.Proofs.Ytmjgpgnecohbcaa

/- slices.Clone of bytes. -/
namespace Go.Proofs.Ytmjgpgnecohbcaa
open Go.RowKit

set_option maxRecDepth 100000 in
/-- slices.Clone of bytes: as many bytes, the same, in new memory -/
theorem clone_any {w : World} {A : Option Addr} {n cap : Nat} {bs : List Nat} (h : Row w A n cap bs) :
    Calls Try.prog 46 #[.slice A n cap] w fun e w' => ∃ v, e = .returned v ∧ Own w' w.heap.size v bs ∧ Below w.heap.size w w' := by
  have hb := Lib.hid h.bts
  have hl := h.len
  have hmax := h.bts.2.1
  have hnil := h.nil
  cases A with
  | none =>
    obtain rfl := hnil rfl
    have h0 : n = 0 := by have := h.room; omega
    subst h0
    obtain rfl := List.eq_nil_of_length_eq_zero hl
    go_enter Try.func46, Try.ntmps46
    have hsn := Lib.run_eql_slice_nil (P := Try.prog) w 37 5 Option.none 0 0 0 0 Try.underlying37
    go_wp2
    go_ret
    exact ⟨_, rfl, Own.nil _ _, Below.refl _ _⟩
  | some a =>
    have hsn := Lib.run_eql_slice_nil (P := Try.prog) w 37 5 (some a) n cap 0 0 Try.underlying37
    have own0 : Own (w.alloc (.cells #[] 5)) w.heap.size (.slice (some ⟨w.heap.size, 0, Option.none⟩) 0 0) [] := Own.lit [] (Nat.le_refl _) (by simp)
    have k0 := (Kept.refl w).alloc (.cells #[] 5)
    go_enter Try.func46, Try.ntmps46
    go_wp2_with (first
      | (at_builtin
         refine wpList_append_bts rfl (.tmp 5) (.tmp 6) rfl (v := .slice (some ⟨w.heap.size, 0, Option.none⟩) 0 0) (base := w.heap.size) (ds := []) rfl rfl own0 (hb.out.below k0.1) hnil (by simp; omega) k0.2 ?_
         intro v1 w1 own1 gr1 at1
         have k1 := k0.append own0 gr1
         clear gr1 at1))
    go_ret
    exact ⟨_, rfl, own1, k1.1⟩

end Go.Proofs.Ytmjgpgnecohbcaa

/- What an object that has bytes of its own (a Writer, a Disk) leaves as it was. -/
namespace Go.Proofs.Ytmjgpgnecohbcaa
open Go.RowKit

/-- the block of the bytes of the object at g, which are its first field -/
def rowOf (W : World) (g : Nat) : Option Nat := match W.heap[g]? with
  | some (.cells cs _ _) => (cs.getD 0 undef).ownBlock
  | _ => none
theorem rowOf_is {W : World} {g : Nat} {v : Value} {t : TypeId} {m : Nat × Nat} (h : W.heap[g]? = some (.cells #[v] t m)) : rowOf W g = v.ownBlock := by
  unfold rowOf; rw [h]; rfl
/-- of what was there only the object at g, and its bytes, have changed -/
structure OffW (g : Nat) (W W' : World) : Prop where
  size : W.heap.size ≤ W'.heap.size
  rest : ∀ k, k < W.heap.size → k ≠ g → rowOf W g ≠ some k → W'.heap[k]? = W.heap[k]?
  row : rowOf W' g = rowOf W g ∨ ∃ j, W.heap.size ≤ j ∧ rowOf W' g = some j
theorem OffW.refl (g : Nat) (W : World) : OffW g W W := ⟨Nat.le_refl _, fun _ _ _ _ => rfl, .inl rfl⟩
theorem OffW.trans {g : Nat} {a b c : World} (h : OffW g a b) (k : OffW g b c) : OffW g a c := by
  refine ⟨Nat.le_trans h.size k.size, fun i hi hn hr => ?_, ?_⟩
  · refine (k.rest i (Nat.lt_of_lt_of_le hi h.size) hn ?_).trans (h.rest i hi hn hr)
    rcases h.row with e | ⟨j, hj, e⟩
    · rw [e]; exact hr
    · rw [e]; intro e2; injection e2 with e2; omega
  · rcases k.row with e | ⟨j, hj, e⟩
    · rw [e]; exact h.row
    · exact .inr ⟨j, Nat.le_trans h.size hj, e⟩
/-- bytes that are neither the object's nor new read as they did -/
theorem OffW.bts {g : Nat} {W W' : World} (h : OffW g W W') {B n : Nat} {A : Option Addr} {cs : List Nat} (hc : Bts W B A n cs) (ha : ∀ a, A = some a → 0 < n → a.block ≠ g ∧ rowOf W g ≠ some a.block) : Bts W' B A n cs := by
  refine ⟨hc.1, hc.2.1, hc.2.2.1, fun hn => ?_⟩
  obtain ⟨b, off, e, hlt, hcs⟩ := hc.2.2.2 hn
  obtain ⟨h1, h2⟩ := ha _ e hn
  refine ⟨b, off, e, hlt, fun j hj => ?_⟩
  have hcj := hcs j hj
  rw [← hcj]
  exact World.cell?_of_block (h.rest b (cell_lt hcj) h1 h2)

theorem OffW.of_below {g : Nat} {W W' : World} (h : Below W.heap.size W W') (hg : g < W.heap.size) : OffW g W W' :=
  ⟨h.size, fun k hk _ _ => h.block k hk, .inl (by unfold rowOf; rw [h.block g hg])⟩

/-- the same, where the object may also come to have no bytes of its own -/
structure OffO (g : Nat) (W W' : World) : Prop where
  size : W.heap.size ≤ W'.heap.size
  rest : ∀ k, k < W.heap.size → k ≠ g → rowOf W g ≠ some k → W'.heap[k]? = W.heap[k]?
  row : ∀ j, rowOf W' g = some j → j < W.heap.size → rowOf W g = some j
theorem OffO.refl (g : Nat) (W : World) : OffO g W W := ⟨Nat.le_refl _, fun _ _ _ _ => rfl, fun _ h _ => h⟩
theorem OffO.trans {g : Nat} {a b c : World} (h : OffO g a b) (k : OffO g b c) : OffO g a c :=
  ⟨Nat.le_trans h.size k.size, fun i hi hn hr => (k.rest i (Nat.lt_of_lt_of_le hi h.size) hn (fun e => hr (h.row i e hi))).trans (h.rest i hi hn hr), fun j hj hlt => h.row j (k.row j hj (Nat.lt_of_lt_of_le hlt h.size)) hlt⟩
theorem OffO.of_below {g : Nat} {W W' : World} (h : Below W.heap.size W W') (hg : g < W.heap.size) : OffO g W W' :=
  ⟨h.size, fun k hk _ _ => h.block k hk, fun j hj _ => by unfold rowOf at *; rwa [h.block g hg] at hj⟩
theorem OffO.bts {g : Nat} {W W' : World} (h : OffO g W W') {B n : Nat} {A : Option Addr} {cs : List Nat} (hc : Bts W B A n cs) (ha : ∀ a, A = some a → 0 < n → a.block ≠ g ∧ rowOf W g ≠ some a.block) : Bts W' B A n cs := by
  refine ⟨hc.1, hc.2.1, hc.2.2.1, fun hn => ?_⟩
  obtain ⟨b, off, e, hlt, hcs⟩ := hc.2.2.2 hn
  obtain ⟨h1, h2⟩ := ha _ e hn
  refine ⟨b, off, e, hlt, fun j hj => ?_⟩
  have hcj := hcs j hj
  rw [← hcj]
  exact World.cell?_of_block (h.rest b (cell_lt hcj) h1 h2)
end Go.Proofs.Ytmjgpgnecohbcaa
