/- Last: what it says of a list with one more; a row made of another. -/
import Derived.Test.YtmjgpgnecohbcaaAlgN
import Derived.Test.YtmjgpgnecohbcaaAlgK
import Derived.Test.YtmjgpgnecohbcaaAlgG
import Derived.Laws.AppendOwnNone
namespace Go.Proofs.Ytmjgpgnecohbcaa
open Go.RowKit Go.Maps Go.Sort

theorem lastOf_snoc (kind slot : Int) (l : List Rc) (r : Rc) : lastOf kind slot (l ++ [r]) = if r.is kind slot then some r else lastOf kind slot l := by
  unfold lastOf
  by_cases h : r.is kind slot <;> simp [h]

/-- an empty row that is not nil -/
def Empty (B : Nat) (v : Value) (w : World) : Prop := ∃ g, v = .slice (some ⟨g, 0, none⟩) 0 0 ∧ B ≤ g ∧ w.heap[g]? = some (.cells #[] 52 (0, 0))
theorem Empty.mono (B : Nat) : (Slot.has (Empty B)).Mono := by
  rintro v w w' k ⟨g, e, hb, hg⟩
  exact ⟨g, e, hb, (k.1.block g (heap_lt hg)).trans hg⟩
def RowI (B : Nat) (its : List It) (v : Value) (w : World) : Prop := OwnR 52 w B v its
theorem RowI.mono (B : Nat) (its : List It) : (Slot.has (RowI B its)).Mono := by
  intro v w w' k h
  exact OwnR.kept h k
def OneI (B : Nat) (r : Rc) (A : Option Addr) (c : Nat) (v : Value) (w : World) : Prop := ∃ g, v = .slice (some ⟨g, 0, none⟩) 1 1 ∧ B ≤ g ∧ w.heap[g]? = some (.cells #[.int .i64 r.kind, .int .i64 r.slot, .int .i64 r.round, .int .i64 r.site, .slice A r.val.length c] 52 (0, 0))
theorem OneI.mono (B : Nat) (r : Rc) (A : Option Addr) (c : Nat) : (Slot.has (OneI B r A c)).Mono := by
  rintro v w w' k ⟨g, e, hb, hg⟩
  exact ⟨g, e, hb, (k.1.block g (heap_lt hg)).trans hg⟩

set_option maxRecDepth 100000 in
theorem run_copy_recs {w : World} {B g : Nat} (ty : TypeId) (hg : w.heap[g]? = some (.cells #[] 52 (0, 0))) (hB : B ≤ g) {A : Option Addr} {n c : Nat} {its : List It} (hl : its.length = n) (hok : ∀ x ∈ its, x.ok w ∧ x.off (some g))
    (hat : ∀ i (hi : i < its.length), ∃ b off, A = some ⟨b, off, none⟩ ∧ b < w.heap.size ∧ ∀ j, j < 5 → w.cell? ⟨b, off + i * 5 + j, none⟩ = its[i].cells[j]?) (hn : n ≤ 100) (hA : A = none → n = 0 ∧ c = 0) :
    ∃ v w', (Builtin.append_ #[36, 36] ty #[.slice (some ⟨g, 0, none⟩) 0 0, .slice A n c]).run Try.prog w = .ok v w' ∧ Kept w w' ∧ RowI B its v w' := by
  obtain ⟨i0, hi, hz0, hz1, hz2⟩ := info_parts rec_info
  have hgl := heap_lt hg
  have hown : OwnR 52 w B (.slice (some ⟨g, 0, none⟩) 0 0) [] := ⟨⟨rfl, .inr ⟨g, 0, #[], rfl, hB, hg, Nat.le_refl _, by decide, rfl, rfl⟩⟩, by simp⟩
  cases A with
  | none =>
    obtain ⟨rfl, rfl⟩ := hA rfl
    obtain rfl := List.eq_nil_of_length_eq_zero hl
    exact ⟨_, w, run_append_owned_none (P := Try.prog) (w := w) B 36 ty 52 i0 5 Try.underlying36 hi _ 0 [] hown.row, Kept.refl _, hown⟩
  | some a =>
    have hcells : ∀ j u, (flatI its)[j]? = some u → w.cell? (a.add j) = some u := by
      intro j u hu
      have hj : j < its.length * 5 := by rw [← flatI_len]; exact (List.getElem?_eq_some_iff.1 hu).1
      have hi : j / 5 < its.length := by omega
      obtain ⟨b, off, e, hb, hc⟩ := hat (j / 5) hi
      have hf := flatI_at its (j / 5) hi (j % 5) (by omega)
      rw [show j / 5 * 5 + j % 5 = j by omega, hu] at hf
      injection e with e
      subst e
      have e2 : (⟨b, off, none⟩ : Addr).add j = ⟨b, off + j / 5 * 5 + j % 5, none⟩ := by
        unfold Addr.add
        by_cases h : j = 0
        · simp [h]
        · simp [h]; omega
      rw [e2, hc (j % 5) (by omega), ← hf]
    obtain ⟨v', w', hr, h2, h3, h4, h5⟩ := run_append_own_at (P := Try.prog) w B 36 ty 52 i0 _ 5 56 Try.underlying36 hi hz0 hz1 hz2 rfl (by omega) _ 0 [] hown.row a n c (flatI its) (by rw [flatI_len, hl]) hcells (flatI_one its) (by simp only [maxLen]; omega) (by omega) (by omega)
    have hfin : RowI B its v' w' := by
      have := hown.grown (m := its) hok (by simpa [hl, flatI] using h2) h3 h5
      exact this
    refine ⟨v', w', hr, ?_, hfin⟩
    by_cases h0 : n = 0
    · subst h0
      obtain rfl := List.eq_nil_of_length_eq_zero hl
      have hq := run_append_room (P := Try.prog) (w := w) 36 ty 52 i0 Try.underlying36 hi g 0 0 #[] hg a 0 c [] (by simp) (by simp) (by simp) (by omega) (by simp)
      rw [hr] at hq
      injection hq with _ hq
      subst hq
      refine ⟨⟨rfl, rfl, rfl, h3.size, fun b hb => ?_⟩, h3.size⟩
      by_cases hbg : b = g
      · subst hbg
        rw [hg]
        have := setRow_heap w b #[] #[] 52 (0, 0) hg
        simpa using this
      · exact h3.block b hb (by simpa [Value.ownBlock] using hbg)
    · have hq := run_append_grow (P := Try.prog) (w := w) 36 ty 52 i0 _ Try.underlying36 hi hz0 ⟨g, 0, none⟩ 0 0 [] (by simp) (by simp) a n c (flatI its) (by rw [flatI_len, hl, hz1]) hcells (by omega) (by omega) (by rw [hz2]; exact growslice_fits_wide (by omega) (by omega))
      rw [hr] at hq
      injection hq with _ hq
      subst hq
      exact (Kept.refl w).drew.alloc _
/-- Last's answer -/
def Said (kind slot : Int) (l : List Rc) (o : Bool) (r : Rc) : Prop := (o = true ∧ lastOf kind slot l = some r) ∨ (o = false ∧ r = Rc.zero ∧ lastOf kind slot l = none)
theorem Said.eq {kind slot : Int} {l m : List Rc} {o o' : Bool} {r r' : Rc} (h : Said kind slot l o r) (h' : Said kind slot m o' r') (e : lastOf kind slot l = lastOf kind slot m) : o = o' ∧ r = r' := by
  rcases h with ⟨rfl, h⟩ | ⟨rfl, rfl, h⟩ <;> rcases h' with ⟨rfl, h'⟩ | ⟨rfl, rfl, h'⟩ <;> rw [h, h'] at e
  · exact ⟨rfl, by injection e⟩
  · cases e
  · cases e
  · exact ⟨rfl, rfl⟩
theorem Said.hit {kind slot : Int} {l : List Rc} {o : Bool} {r x : Rc} (h : Said kind slot l o r) (e : lastOf kind slot l = some x) : o = true ∧ r = x := by
  rcases h with ⟨rfl, h⟩ | ⟨rfl, rfl, h⟩ <;> rw [h] at e
  · exact ⟨rfl, by injection e⟩
  · cases e
theorem last_said {w : World} {A : Option Addr} {n cap : Nat} {l : List Rc} (kind slot : Int) (hl : l.length = n) (hR : Rcs w A l) (hn : n ≤ 1099511627776) :
    Calls Try.prog 27 #[.slice A n cap, .int .i64 kind, .int .i64 slot] w fun e w' => Below w.heap.size w w' ∧
      ∃ (o : Bool) (r : Rc) (A' : Option Addr) (c' : Nat), Said kind slot l o r ∧ e = .returned (.tuple #[rcv r A' r.val.length c', .bool o]) ∧ Row w' A' r.val.length c' r.val := by
  refine (last_any kind slot hl hR hn).mono ?_
  rintro e w' ⟨hb, ⟨r, A', c', h1, h2, h3⟩ | ⟨h1, h2⟩⟩
  · exact ⟨hb, true, r, A', c', .inl ⟨rfl, h1⟩, h2, h3⟩
  · exact ⟨hb, false, Rc.zero, none, 0, .inr ⟨rfl, rfl, h1⟩, h2, Row.none⟩
theorem five {W : World} {p : Nat} {a b c d e : Value} {T : TypeId} (h : W.heap[p]? = some (.cells #[a, b, c, d, e] T (0, 0))) : W.cell? ⟨p, 0, none⟩ = some a ∧ W.cell? ⟨p, 1, none⟩ = some b ∧ W.cell? ⟨p, 2, none⟩ = some c ∧ W.cell? ⟨p, 3, none⟩ = some d ∧ W.cell? ⟨p, 4, none⟩ = some e :=
  ⟨cell_of_heap h 0, cell_of_heap h 1, cell_of_heap h 2, cell_of_heap h 3, cell_of_heap h 4⟩
/-- block p holds this record -/
def HoldsR (W : World) (p : Nat) (r : Rc) (A : Option Addr) (c : Nat) : Prop := W.heap[p]? = some (.cells #[.int .i64 r.kind, .int .i64 r.slot, .int .i64 r.round, .int .i64 r.site, .slice A r.val.length c] 52 (0, 0)) ∧ Row W A r.val.length c r.val
theorem HoldsR.kept {W W' : World} {p : Nat} {r : Rc} {A : Option Addr} {c : Nat} (h : HoldsR W p r A c) (k : Kept W W') : HoldsR W' p r A c := ⟨(k.1.block p (heap_lt h.1)).trans h.1, h.2.below k.1⟩
theorem HoldsR.new {W : World} {r : Rc} {A : Option Addr} {c : Nat} (h : Row W A r.val.length c r.val) : HoldsR (W.alloc (.cells #[.int .i64 r.kind, .int .i64 r.slot, .int .i64 r.round, .int .i64 r.site, .slice A r.val.length c] 52)) W.heap.size r A c :=
  ⟨push_new W _, h.below ((Below.refl _ _).alloc (Nat.le_refl _) _)⟩
theorem slots_said {w : World} {A : Option Addr} {n cap : Nat} {l : List Rc} (hl : l.length = n) (hR : Rcs w A l) (hn : n ≤ 1099511627776) :
    Calls Try.prog 31 #[.slice A n cap] w fun e w' => Below w.heap.size w w' ∧ ∃ A' c', e = .returned (.slice A' (Maps.size (SD l n)) c') := by
  refine (slots_any hl hR hn).mono ?_
  rintro e w' ⟨hb, v, ss, rfl, hp, hrow, -⟩
  have hsz : ss.length = Maps.size (SD l n) := by
    rw [hp.length_eq]
    obtain ⟨es, e, -⟩ := SD_tidy l n (by omega)
    rw [e]
    simp [intKeys, Maps.size]
  rw [← hsz]
  refine ⟨hb, ?_⟩
  obtain ⟨_, ⟨rfl, h0⟩ | ⟨g, cap, cur, rfl, _⟩⟩ := hrow
  · exact ⟨none, 0, by rw [h0]⟩
  · exact ⟨_, cap, rfl⟩
theorem slice_none {s b : Nat} {R : World → List Value → Prop} {w : World} {A : Option Addr} {n c : Nat} (h : SliceAt s b R w A n c) (e : A = none) : n = 0 ∧ c = 0 := by
  have := h.1
  have := h.2.2.2.1 e
  omega
end Go.Proofs.Ytmjgpgnecohbcaa
