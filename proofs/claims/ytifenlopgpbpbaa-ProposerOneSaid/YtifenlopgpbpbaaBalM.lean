/- Unlike sites of a list: plain facts; the map that counts them. -/
import Derived.Test.YtifenlopgpbpbaaBalP
import Derived.Maps.OwnSet
namespace Go.Proofs.Ytifenlopgpbpbaa
open Go.RowKit Go.Maps

def uqStep (n : Int) (a : List Int) (s : Int) : List Int := if isSiteB s n = true ∧ s ∉ a then a ++ [s] else a
/-- the unlike sites of a list, as they came -/
def uq (n : Int) (L : List Int) : List Int := L.foldl (uqStep n) []
theorem uq_snoc (n : Int) (L : List Int) (s : Int) : uq n (L ++ [s]) = uqStep n (uq n L) s := by unfold uq; rw [List.foldl_append]; rfl
theorem uq_from_mem (n : Int) (x : Int) : ∀ (L a : List Int), x ∈ L.foldl (uqStep n) a ↔ x ∈ a ∨ (isSiteB x n = true ∧ x ∈ L)
  | [], a => by simp
  | s :: L, a => by
    rw [List.foldl_cons, uq_from_mem n x L]
    unfold uqStep
    by_cases h : isSiteB s n = true ∧ s ∉ a
    · rw [if_pos h, List.mem_append, List.mem_singleton, List.mem_cons]
      constructor
      · rintro ((h1 | rfl) | ⟨h1, h2⟩)
        · exact .inl h1
        · exact .inr ⟨h.1, .inl rfl⟩
        · exact .inr ⟨h1, .inr h2⟩
      · rintro (h1 | ⟨h1, rfl | h2⟩)
        · exact .inl (.inl h1)
        · exact .inl (.inr rfl)
        · exact .inr ⟨h1, h2⟩
    · rw [if_neg h, List.mem_cons]
      constructor
      · rintro (h1 | ⟨h1, h2⟩)
        · exact .inl h1
        · exact .inr ⟨h1, .inr h2⟩
      · rintro (h1 | ⟨h1, rfl | h2⟩)
        · exact .inl h1
        · exact .inl (Classical.byContradiction fun hx => h ⟨h1, hx⟩)
        · exact .inr ⟨h1, h2⟩
theorem uq_mem {n : Int} {L : List Int} {x : Int} : x ∈ uq n L ↔ isSiteB x n = true ∧ x ∈ L := by unfold uq; rw [uq_from_mem]; simp
theorem uq_from_nodup (n : Int) : ∀ (L a : List Int), a.Nodup → (L.foldl (uqStep n) a).Nodup
  | [], _, h => h
  | s :: L, a, h => by
    rw [List.foldl_cons]
    refine uq_from_nodup n L _ ?_
    unfold uqStep
    split
    · rename_i hs
      rw [List.nodup_append]
      refine ⟨h, by simp, fun x hx y hy => ?_⟩
      obtain rfl := List.mem_singleton.1 hy
      exact fun e => hs.2 (e ▸ hx)
    · exact h
theorem uq_nodup (n : Int) (L : List Int) : (uq n L).Nodup := uq_from_nodup n L [] List.nodup_nil
theorem uq_from_len (n : Int) : ∀ (L a : List Int), a.length ≤ (L.foldl (uqStep n) a).length ∧ (L.foldl (uqStep n) a).length ≤ a.length + L.length
  | [], a => by simp
  | s :: L, a => by
    have := uq_from_len n L (uqStep n a s)
    rw [List.foldl_cons, List.length_cons]
    have h2 : a.length ≤ (uqStep n a s).length ∧ (uqStep n a s).length ≤ a.length + 1 := by unfold uqStep; split <;> simp
    omega
theorem uq_len (n : Int) (L : List Int) : (uq n L).length ≤ L.length := by have := (uq_from_len n L []).2; unfold uq; simpa using this
theorem uq_more (n : Int) (L M : List Int) : (uq n L).length ≤ (uq n (L ++ M)).length := by unfold uq; rw [List.foldl_append]; exact (uq_from_len n M _).1
theorem uq_from_self (n : Int) : ∀ (L a : List Int), (a ++ L).Nodup → (∀ s ∈ L, isSiteB s n = true) → L.foldl (uqStep n) a = a ++ L
  | [], a, _, _ => by simp
  | s :: L, a, h, hs => by
    have hn : s ∉ a := fun hx => (List.nodup_append.1 h).2.2 s hx s (by simp) rfl
    have e : uqStep n a s = a ++ [s] := if_pos ⟨hs s (by simp), hn⟩
    rw [List.foldl_cons, e, uq_from_self n L (a ++ [s]) (by simpa using h) (fun x hx => hs x (by simp [hx]))]
    simp
theorem uq_self {n : Int} {L : List Int} (h : L.Nodup) (hs : ∀ s ∈ L, isSiteB s n = true) : uq n L = L := by
  have := uq_from_self n L [] (by simpa using h) hs
  unfold uq
  simpa using this
/-- whether a list has most of so many sites -/
def mostB (n : Int) (L : List Int) : Bool := decide (1 ≤ n ∧ majorI n ≤ ((uq n L).length : Int))

theorem nodup_length : ∀ (n : Nat) (l : List Int), l.Nodup → (∀ x ∈ l, 0 ≤ x ∧ x < (n : Int)) → l.length ≤ n
  | 0, l, _, h => by
    cases l with
    | nil => simp
    | cons x l => have := h x (by simp); omega
  | n + 1, l, hd, h => by
    have h1 := nodup_length n (l.erase n) (hd.erase _) (fun x hx => by
      obtain ⟨h2, h3⟩ := (hd.mem_erase_iff).1 hx
      have := h x h3
      omega)
    have h2 := List.length_erase (a := (n : Int)) (l := l)
    split at h2 <;> omega
/-- two lists that have most of the sites have one in common -/
theorem most_meet {n : Int} {L M : List Int} (h1 : mostB n L = true) (h2 : mostB n M = true) : ∃ x, x ∈ L ∧ x ∈ M ∧ 0 ≤ x ∧ x < n := by
  obtain ⟨hn, h1⟩ := of_decide_eq_true h1
  obtain ⟨_, h2⟩ := of_decide_eq_true h2
  refine Classical.byContradiction fun hno => ?_
  have hin : ∀ {K : List Int} {x : Int}, x ∈ uq n K → 0 ≤ x ∧ x < n := fun h => of_decide_eq_true (uq_mem.1 h).1
  have hd : (uq n L ++ uq n M).Nodup := List.nodup_append.2 ⟨uq_nodup n L, uq_nodup n M, fun x hx y hy e => hno ⟨x, (uq_mem.1 hx).2, by rw [e]; exact (uq_mem.1 hy).2, hin hx⟩⟩
  have hl := nodup_length n.toNat _ hd (fun x hx => by
    rcases List.mem_append.1 hx with hx | hx
    · have := hin hx; omega
    · have := hin hx; omega)
  rw [List.length_append] at hl
  have e : majorI n = n / 2 + 1 := if_neg (by omega)
  rw [e] at h1 h2
  omega

/-- the map of the sites of a list -/
def SI (n : Int) (L : List Int) : DataW Unit := L.foldl (fun D s => if isSiteB s n = true then D.put (.int .i64 s) (.agg []) else D) (.map [])
theorem SI_snoc (n : Int) (L : List Int) (s : Int) : SI n (L ++ [s]) = if isSiteB s n = true then (SI n L).put (.int .i64 s) (.agg []) else SI n L := by unfold SI; rw [List.foldl_append]; rfl
theorem list_snoc {p : List Int → Prop} (h0 : p []) (h1 : ∀ L s, p L → p (L ++ [s])) (L : List Int) : p L := by
  have : ∀ k, k ≤ L.length → p (L.take k) := by
    intro k
    induction k with
    | zero => intro _; exact h0
    | succ k ih => intro hk; rw [List.take_succ_eq_append_getElem (by omega)]; exact h1 _ _ (ih (by omega))
  have h := this L.length (Nat.le_refl _)
  rwa [List.take_length] at h
theorem SI_tidy (n : Int) (L : List Int) : Maps.Tidy (SI n L) := by
  refine list_snoc (p := fun L => Maps.Tidy (SI n L)) Maps.tidy_empty (fun L s ih => ?_) L
  rw [SI_snoc]
  split
  · exact ih.put (by first | trivial | decide | rfl | simp [WideAt.IsKeyLit]) _
  · exact ih
theorem SI_has (n : Int) (L : List Int) : (∀ x : Int, Maps.has (SI n L) (.int .i64 x) = decide (x ∈ uq n L)) ∧ Maps.size (SI n L) = (uq n L).length := by
  refine list_snoc (p := fun L => (∀ x : Int, Maps.has (SI n L) (.int .i64 x) = decide (x ∈ uq n L)) ∧ Maps.size (SI n L) = (uq n L).length) ⟨fun x => by simp [uq]; rfl, rfl⟩ (fun L s ih => ?_) L
  obtain ⟨h1, h2⟩ := ih
  rw [SI_snoc, uq_snoc]
  unfold uqStep
  have ht := SI_tidy n L
  have hm : Maps.IsMap (SI n L) := by obtain ⟨es, h, _⟩ := ht; exact ⟨es, h⟩
  by_cases hs : isSiteB s n = true
  · rw [if_pos hs]
    constructor
    · intro x
      by_cases hx : x = s
      · subst hx
        rw [Maps.has_put_same hm (by first | trivial | decide | rfl | simp [WideAt.IsKeyLit])]
        symm
        by_cases hin : x ∈ uq n L
        · rw [if_neg (by simp [hin])]; exact decide_eq_true hin
        · rw [if_pos ⟨hs, hin⟩]; simp
      · rw [Maps.has_put_other (by simpa using hx), h1]
        by_cases hin : s ∈ uq n L
        · rw [if_neg (by simp [hin])]
        · rw [if_pos ⟨hs, hin⟩]; simp [hx]
    · rw [Maps.size_put ht, h1]
      by_cases hin : s ∈ uq n L
      · rw [if_neg (by simp [hin] : ¬ (isSiteB s n = true ∧ s ∉ uq n L)), decide_eq_true hin, if_pos rfl]; exact h2
      · rw [if_pos (⟨hs, hin⟩ : isSiteB s n = true ∧ s ∉ uq n L), decide_eq_false hin]; simp [h2]
  · rw [if_neg hs, if_neg (fun h => hs h.1)]
    exact ⟨h1, h2⟩
theorem SI_size (n : Int) (L : List Int) : Maps.size (SI n L) = (uq n L).length := (SI_has n L).2

/-- a row of ints reads as L -/
def IntsAt (w : World) (A : Option Addr) (L : List Int) : Prop :=
  (∀ s ∈ L, -9223372036854775808 ≤ s ∧ s ≤ 9223372036854775807) ∧ ∀ i (h : i < L.length), ∃ b off, A = some ⟨b, off, none⟩ ∧ b < w.heap.size ∧ w.cell? ⟨b, off + i, none⟩ = some (.int .i64 L[i])
theorem IntsAt.kept {w W : World} {A : Option Addr} {L : List Int} (h : IntsAt w A L) (k : Kept w W) : IntsAt W A L :=
  ⟨h.1, fun i hi => by obtain ⟨b, off, e, hb, hc⟩ := h.2 i hi; exact ⟨b, off, e, Nat.lt_of_lt_of_le hb k.2, (k.cell hb).trans hc⟩⟩
theorem ints_of {w : World} {A : Option Addr} {n cap : Nat} (h : SliceAt 1 8 (IsInt .i64) w A n cap) : ∃ L : List Int, L.length = n ∧ IntsAt w A L := by
  obtain ⟨x1, x2, x3, x4, hc⟩ := h
  have key : ∀ i, i < n → ∃ s : Int, (-9223372036854775808 ≤ s ∧ s ≤ 9223372036854775807) ∧ ∃ b off, A = some ⟨b, off, none⟩ ∧ b < w.heap.size ∧ w.cell? ⟨b, off + i, none⟩ = some (.int .i64 s) := by
    intro i hi
    obtain ⟨b, off, rfl, hb, hel⟩ := hc (by omega)
    obtain ⟨cs, hl, ⟨s, rfl, hs⟩, hcell⟩ := hel i hi
    have c0 := hcell 0 (by omega)
    simp only [Nat.mul_one, Nat.add_zero] at c0
    exact ⟨s, in64 hs, b, off, rfl, hb, by simpa using c0⟩
  have : ∃ L : List Int, L.length = n ∧ ∀ (i : Nat) (h : i < L.length), (-9223372036854775808 ≤ L[i] ∧ L[i] ≤ 9223372036854775807) ∧ ∃ b off, A = some ⟨b, off, none⟩ ∧ b < w.heap.size ∧ w.cell? ⟨b, off + i, none⟩ = some (.int .i64 L[i]) := by
    clear hc x1 x2 x3 x4
    induction n with
    | zero => exact ⟨[], rfl, fun i h => absurd h (by simp)⟩
    | succ n ih =>
      obtain ⟨l, hl, hp⟩ := ih (fun i hi => key i (by omega))
      obtain ⟨x, hx⟩ := key n (by omega)
      refine ⟨l ++ [x], by simp [hl], fun i hi => ?_⟩
      by_cases hin : i < l.length
      · rw [List.getElem_append_left hin]; exact hp i hin
      · have : i = n := by simp at hi; omega
        subst this
        rw [List.getElem_append_right (by omega)]
        simpa [hl] using hx
  obtain ⟨l, hl, hp⟩ := this
  refine ⟨l, hl, fun r hr => ?_, fun i hi => (hp i hi).2⟩
  obtain ⟨i, hi, rfl⟩ := List.mem_iff_getElem.1 hr
  exact (hp i hi).1
theorem int_wf {s : Int} (h : -9223372036854775808 ≤ s ∧ s ≤ 9223372036854775807) : (Lit.int .i64 s).wf = true := by
  simp [Lit.wf, IntKind.min, IntKind.max, IntKind.signed, IntKind.bits]
  omega
end Go.Proofs.Ytifenlopgpbpbaa
