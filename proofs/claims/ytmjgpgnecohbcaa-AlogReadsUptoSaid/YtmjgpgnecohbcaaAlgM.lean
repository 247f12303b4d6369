/- Records as bytes, in frames, and back: plain arithmetic on lists, no program. -/
import Derived.Test.YtmjgpgnecohbcaaMgC
import Derived.Test.YtmjgpgnecohbcaaWireR
import Derived.Test.YtmjgpgnecohbcaaFrmM
namespace Go.Proofs.Ytmjgpgnecohbcaa

/-- a record -/
structure Rc where
  kind : Int
  slot : Int
  round : Int
  site : Int
  val : List Nat
/-- it may be -/
def Rc.may (r : Rc) : Prop :=
  (r.kind = 1 ∨ r.kind = 2) ∧ 0 ≤ r.slot ∧ r.slot ≤ 4095 ∧ 0 ≤ r.round ∧ r.round ≤ 1099511627776 ∧ 0 ≤ r.site ∧ r.site ≤ 6 ∧ r.val.length ≤ 2048 ∧ (r.kind = 2 ∨ r.val.length = 0)
instance (r : Rc) : Decidable r.may := by unfold Rc.may; exact inferInstance
/-- its bytes are bytes -/
def Rc.byte (r : Rc) : Prop := ∀ c ∈ r.val, c < 256
/-- numbers, one behind the other -/
def puts (l : List Nat) : List Nat := l.flatMap put
def Rc.nums (r : Rc) : List Nat := [r.kind.toNat, r.slot.toNat, r.round.toNat, r.site.toNat]
/-- how it is laid down -/
def Rc.enc (r : Rc) : List Nat := puts r.nums ++ (put r.val.length ++ r.val)
theorem puts_cons (x : Nat) (l : List Nat) : puts (x :: l) = put x ++ puts l := by simp [puts]
theorem puts_append (a b : List Nat) : puts (a ++ b) = puts a ++ puts b := by simp [puts]
theorem puts_byte {l : List Nat} : ∀ c ∈ puts l, c < 256 := by
  intro c hc
  obtain ⟨x, _, h⟩ := List.mem_flatMap.1 hc
  exact put_byte x c h

/-- so many numbers, from a place on: the numbers, and the place behind them; none: one isn't one -/
def rdN (bs : List Nat) : Nat → Nat → Option (List Nat × Nat)
  | 0, p => some ([], p)
  | k + 1, p => if (sml (bs.drop p) 1099511627776).2.2 ≠ 0 then none else (rdN bs k (p + (sml (bs.drop p) 1099511627776).2.1)).map fun x => ((sml (bs.drop p) 1099511627776).1 :: x.1, x.2)
def rcOf (l : List Nat) (v : List Nat) : Rc := ⟨(l.getD 0 0 : Nat), (l.getD 1 0 : Nat), (l.getD 2 0 : Nat), (l.getD 3 0 : Nat), v⟩
/-- what stands in bytes behind four numbers -/
def rdV (bs : List Nat) (l : List Nat) (p : Nat) : Option Rc :=
  if (tak (bs.drop p) 2048).2.2 ≠ 0 then none else if p + (tak (bs.drop p) 2048).2.1 ≠ bs.length then none else
    if (rcOf l (tak (bs.drop p) 2048).1).may then some (rcOf l (tak (bs.drop p) 2048).1) else none
/-- the record of bytes -/
def dec (bs : List Nat) : Option Rc := match rdN bs 4 0 with | none => none | some (l, p) => rdV bs l p

theorem sml_put {m : Nat} {M : Int} (hm : (m : Int) ≤ M) (h0 : 0 ≤ M) (h : m < 18446744073709551616) (rest : List Nat) : sml (put m ++ rest) M = (m, (put m).length, 0) := by
  unfold sml
  rw [get_put h]
  simp only [ne_eq, not_true_eq_false, if_false]
  rw [if_neg (by omega)]
theorem rdN_puts (bs : List Nat) : ∀ (l : List Nat) (p : Nat) (rest : List Nat), (∀ x ∈ l, x ≤ 1099511627776) → bs.drop p = puts l ++ rest → rdN bs l.length p = some (l, p + (puts l).length)
  | [], p, _, _, _ => by simp [rdN, puts]
  | x :: l, p, rest, hl, h => by
    rw [puts_cons, List.append_assoc] at h
    have hx := hl x (by simp)
    have e := sml_put (M := 1099511627776) (by omega) (by decide) (show x < 18446744073709551616 by omega) (puts l ++ rest)
    rw [List.length_cons, rdN, h, e]
    simp only [ne_eq, not_true_eq_false, if_false]
    have hd : bs.drop (p + (put x).length) = puts l ++ rest := by rw [← List.drop_drop, h, List.drop_left]
    rw [rdN_puts bs l _ rest (fun y hy => hl y (by simp [hy])) hd]
    simp [puts_cons]
    omega
theorem nums_may {r : Rc} (h : r.may) : ∀ x ∈ r.nums, x ≤ 1099511627776 := by
  obtain ⟨h1, h2, h3, h4, h5, h6, h7, _⟩ := h
  intro x hx
  simp only [Rc.nums, List.mem_cons, List.not_mem_nil, or_false] at hx
  omega
theorem tak_put {v : List Nat} (h : v.length ≤ 2048) : tak (put v.length ++ v) 2048 = (v, (put v.length).length + v.length, 0) := by
  unfold tak
  rw [sml_put (by omega) (by decide) (by omega)]
  simp only [ne_eq, not_true_eq_false, if_false]
  rw [if_neg (by simp), List.drop_left]
  simp
theorem rcOf_nums {r : Rc} (h : r.may) : rcOf r.nums r.val = r := by
  obtain ⟨h1, h2, h3, h4, h5, h6, h7, _⟩ := h
  cases r
  simp only [rcOf, Rc.nums, List.getD_cons_zero, List.getD_cons_succ] at *
  congr 1 <;> omega
/-- what is laid down is read as it was -/
theorem dec_enc {r : Rc} (h : r.may) : dec r.enc = some r := by
  have h8 := h.2.2.2.2.2.2.2.1
  have e : rdN r.enc 4 0 = some (r.nums, 0 + (puts r.nums).length) := rdN_puts r.enc r.nums 0 (put r.val.length ++ r.val) (nums_may h) (by rw [List.drop_zero]; rfl)
  have d : r.enc.drop (puts r.nums).length = put r.val.length ++ r.val := by unfold Rc.enc; rw [List.drop_left]
  unfold dec
  rw [e]
  simp only [Nat.zero_add]
  unfold rdV
  rw [d, tak_put h8]
  simp only [ne_eq, not_true_eq_false, if_false, rcOf_nums h]
  rw [if_neg (by rw [Rc.enc]; simp), if_pos h]
theorem sml_back {bs : List Nat} {M : Int} {x k : Nat} (hb : ∀ c ∈ bs, c < 256) (h : sml bs M = (x, k, 0)) : k = (put x).length ∧ bs.take k = put x ∧ (x : Int) ≤ M ∧ k ≤ bs.length := by
  have hm := sml_most (bs := bs) (most := M) (by rw [h])
  rw [h] at hm
  unfold sml at h
  split at h
  · rename_i h1
    simp only [Prod.mk.injEq] at h
    exact absurd h.2.2 h1
  · split at h
    · simp at h
    · obtain ⟨h1, h2, h3, h4⟩ := get_back hb h
      exact ⟨h1, h2, hm, h4⟩
theorem rdN_back (bs : List Nat) (hb : ∀ c ∈ bs, c < 256) : ∀ (k p : Nat) (l : List Nat) (q : Nat), p ≤ bs.length → rdN bs k p = some (l, q) → l.length = k ∧ p ≤ q ∧ q ≤ bs.length ∧ bs.drop p = puts l ++ bs.drop q ∧ ∀ x ∈ l, x ≤ 1099511627776
  | 0, p, l, q, hp, h => by
    simp only [rdN, Option.some.injEq, Prod.mk.injEq] at h
    obtain ⟨rfl, rfl⟩ := h
    exact ⟨rfl, Nat.le_refl _, hp, by simp [puts], by simp⟩
  | k + 1, p, l, q, hp, h => by
    rw [rdN] at h
    split at h
    · cases h
    · rename_i hc
      generalize hs : sml (bs.drop p) 1099511627776 = S at *
      obtain ⟨x, z, c⟩ := S
      simp only [ne_eq, Decidable.not_not] at hc
      subst hc
      have hbd : ∀ c ∈ bs.drop p, c < 256 := fun c hc => hb c (List.mem_of_mem_drop hc)
      obtain ⟨e1, e2, e3, e4⟩ := sml_back hbd hs
      rw [List.length_drop] at e4
      obtain ⟨⟨m, y⟩, hm, hy⟩ := Option.map_eq_some_iff.1 h
      simp only [Prod.mk.injEq] at hy
      obtain ⟨rfl, rfl⟩ := hy
      obtain ⟨f1, f2, f3, f4, f5⟩ := rdN_back bs hb k (p + z) m y (by omega) hm
      refine ⟨by simp [f1], by omega, f3, ?_, ?_⟩
      · rw [puts_cons, List.append_assoc, ← f4, ← e2, ← List.drop_drop, List.take_append_drop]
      · intro u hu
        rcases List.mem_cons.1 hu with rfl | hu
        · omega
        · exact f5 u hu
theorem tak_back {bs v : List Nat} {k : Nat} (hb : ∀ c ∈ bs, c < 256) (h : tak bs 2048 = (v, k, 0)) : bs.take k = put v.length ++ v ∧ v.length ≤ 2048 ∧ k ≤ bs.length ∧ ∀ c ∈ v, c < 256 := by
  unfold tak at h
  split at h
  · rename_i h1
    simp only [Prod.mk.injEq] at h
    exact absurd h.2.2 h1
  · rename_i hc
    split at h
    · simp at h
    · rename_i hlt
      generalize hs : sml bs 2048 = S at *
      obtain ⟨x, z, c⟩ := S
      simp only [ne_eq, Decidable.not_not] at hc hlt h
      subst hc
      obtain ⟨e1, e2, e3, e4⟩ := sml_back hb hs
      simp only [Prod.mk.injEq, and_true] at h
      obtain ⟨rfl, rfl⟩ := h
      have hl : ((bs.drop z).take x).length = x := by rw [List.length_take, List.length_drop]; omega
      refine ⟨?_, by omega, by omega, fun c hc => hb c (List.mem_of_mem_drop (List.mem_of_mem_take hc))⟩
      rw [hl, ← e2, List.take_add]
/-- what is read of bytes may be, and is laid down as they stood -/
theorem enc_dec {bs : List Nat} {r : Rc} (hb : ∀ c ∈ bs, c < 256) (h : dec bs = some r) : r.may ∧ r.enc = bs ∧ r.byte := by
  unfold dec at h
  split at h
  · cases h
  · rename_i l p hl
    obtain ⟨f1, f2, f3, f4, f5⟩ := rdN_back bs hb 4 0 l p (Nat.zero_le _) hl
    unfold rdV at h
    split at h
    · cases h
    · rename_i hc
      split at h
      · cases h
      · rename_i hp
        split at h
        · rename_i hm
          injection h with h
          subst h
          generalize ht : tak (bs.drop p) 2048 = T at *
          obtain ⟨v, k, c⟩ := T
          simp only [ne_eq, Decidable.not_not] at hc hp hm ⊢
          subst hc
          have hbd : ∀ c ∈ bs.drop p, c < 256 := fun c hc => hb c (List.mem_of_mem_drop hc)
          obtain ⟨g1, g2, g3, g4⟩ := tak_back hbd ht
          refine ⟨hm, ?_, g4⟩
          have hn : (rcOf l v).nums = l := by
            match l, f1 with
            | [a, b, c, d], _ => simp [rcOf, Rc.nums]
          have hk : (bs.drop p).take k = bs.drop p := List.take_of_length_le (by rw [List.length_drop]; omega)
          unfold Rc.enc
          rw [hn, show (rcOf l v).val = v from rfl, ← g1, hk, ← f4, List.drop_zero]
        · cases h
theorem enc_byte {r : Rc} (hb : r.byte) : ∀ c ∈ r.enc, c < 256 := by
  intro c hc
  rcases List.mem_append.1 hc with h | h
  · exact puts_byte c h
  · rcases List.mem_append.1 h with h | h
    · exact put_byte _ c h
    · exact hb c h
theorem enc_len {r : Rc} (h : r.may) : r.enc.length ≤ 2100 := by
  have h8 := h.2.2.2.2.2.2.2.1
  have hn := nums_may h
  have e : ∀ x, x ≤ 1099511627776 → (put x).length ≤ 10 := fun x hx => put_ten (by omega)
  have h1 := e _ (hn r.kind.toNat (by simp [Rc.nums]))
  have h2 := e _ (hn r.slot.toNat (by simp [Rc.nums]))
  have h3 := e _ (hn r.round.toNat (by simp [Rc.nums]))
  have h4 := e _ (hn r.site.toNat (by simp [Rc.nums]))
  have h5 := e r.val.length (by omega)
  simp only [Rc.enc, Rc.nums, puts, List.flatMap_cons, List.flatMap_nil, List.length_append, List.length_nil]
  omega

/-! ### records in frames -/
def laidAll (l : List Rc) : List Nat := flat (l.map Rc.enc)
/-- of frames, from the first one on, each that is a record's, up to the first one that isn't; and how many bytes these have -/
def rdAll : List (List Nat) → List Rc × Nat
  | [] => ([], 0)
  | x :: xs => match dec x with | none => ([], 0) | some r => (r :: (rdAll xs).1, 8 + x.length + (rdAll xs).2)
theorem rdAll_enc : ∀ {l : List Rc}, (∀ r ∈ l, r.may) → ∀ ys, rdAll (l.map Rc.enc ++ ys) = (l ++ (rdAll ys).1, (laidAll l).length + (rdAll ys).2)
  | [], _, ys => by simp [laidAll, flat]
  | r :: l, h, ys => by
    rw [List.map_cons, List.cons_append, rdAll, dec_enc (h r (by simp))]
    simp only
    rw [rdAll_enc (fun x hx => h x (by simp [hx])) ys]
    simp only [laidAll, List.map_cons, flat_cons, List.length_append, frm_len, List.cons_append, Prod.mk.injEq, true_and]
    omega
theorem rdAll_back : ∀ {xs : List (List Nat)}, (∀ x ∈ xs, ∀ c ∈ x, c < 256) → (∀ r ∈ (rdAll xs).1, r.may ∧ r.byte) ∧ (rdAll xs).1.map Rc.enc = xs.take (rdAll xs).1.length ∧ (rdAll xs).2 = (laidAll (rdAll xs).1).length ∧ (rdAll xs).1.length ≤ xs.length
  | [], _ => by simp [rdAll, laidAll, flat]
  | x :: xs, h => by
    rw [rdAll]
    cases hd : dec x with
    | none => simp [laidAll, flat]
    | some r =>
      obtain ⟨h1, h2, h3⟩ := enc_dec (h x (by simp)) hd
      obtain ⟨i1, i2, i3, i4⟩ := rdAll_back (xs := xs) (fun y hy => h y (by simp [hy]))
      simp only
      refine ⟨?_, ?_, ?_, by simp; exact i4⟩
      · intro y hy
        rcases List.mem_cons.1 hy with rfl | hy
        · exact ⟨h1, h3⟩
        · exact i1 y hy
      · rw [List.map_cons, h2, i2, List.length_cons, List.take_succ_cons]
      · rw [i3, laidAll, laidAll, List.map_cons, flat_cons, List.length_append, frm_len, h2]
/-- l is what is read of bytes, n how many bytes that has -/
def Reads (bs : List Nat) (l : List Rc) (n : Nat) : Prop := ∃ xs k, Scanned bs xs k ∧ rdAll xs = (l, n)
theorem reads_one {bs : List Nat} {l l' : List Rc} {n n' : Nat} (hb : ∀ c ∈ bs, c < 256) (h : Reads bs l n) (h' : Reads bs l' n') : l = l' ∧ n = n' := by
  obtain ⟨xs, k, h1, h2⟩ := h
  obtain ⟨xs', k', h1', h2'⟩ := h'
  obtain ⟨rfl, rfl⟩ := scanned_one hb h1 h1'
  rw [h2] at h2'
  simpa using h2'
theorem scanned_byte {bs : List Nat} {xs : List (List Nat)} {k : Nat} (hb : ∀ c ∈ bs, c < 256) (h : Scanned bs xs k) : ∀ x ∈ xs, ∀ c ∈ x, c < 256 := by
  obtain ⟨r, e, _⟩ := h
  intro x hx c hc
  refine hb c ?_
  rw [e]
  refine List.mem_append_left _ (List.mem_flatMap.2 ⟨x, hx, ?_⟩)
  simp [frm, hc]
/-- what is read of any bytes, laid down again, is what was read -/
theorem reads_again {bs : List Nat} {l : List Rc} {n : Nat} (hb : ∀ c ∈ bs, c < 256) (h : Reads bs l n) : (∀ r ∈ l, r.may ∧ r.byte) ∧ bs.take n = laidAll l ∧ n = (laidAll l).length ∧ n ≤ bs.length := by
  obtain ⟨xs, k, hs, hr⟩ := h
  obtain ⟨h1, h2, h3, h4⟩ := rdAll_back (scanned_byte hb hs)
  rw [hr] at h1 h2 h3 h4
  simp only at h1 h2 h3 h4
  obtain ⟨r, e, _, _, _⟩ := hs
  have e2 : bs = laidAll l ++ (flat (xs.drop l.length) ++ r) := by
    rw [laidAll, h2, ← List.append_assoc, ← flat_append, List.take_append_drop]
    exact e
  refine ⟨h1, ?_, h3, ?_⟩
  · rw [h3, e2, List.take_left]
  · rw [h3, e2, List.length_append]; omega
theorem scanned_app : ∀ {a : List (List Nat)} {m : List (List Nat)} {n : Nat} {D : List Nat}, (∀ x ∈ a, x.length ≤ 4096) → (∀ c ∈ flat a ++ D, c < 256) → Scanned (flat a ++ D) m n → ∃ m' n', m = a ++ m' ∧ Scanned D m' n' := by
  intro a
  induction a with
  | nil => intro m n D _ _ h; exact ⟨m, n, rfl, by simpa [flat] using h⟩
  | cons x a ih =>
    intro m n D ha hb h
    obtain ⟨r, e, hn, hml, ht⟩ := h
    rw [flat_cons, List.append_assoc] at e
    have hbx : ∀ c ∈ x, c < 256 := fun c hc => hb c (by rw [flat_cons]; simp [frm, hc])
    have h1 := tke_frm (ha x (by simp)) hbx (flat a ++ D)
    cases m with
    | nil =>
      simp only [flat, List.flatMap_nil, List.nil_append] at e
      simp only [flat] at h1
      rw [e] at h1
      rw [h1] at ht
      exact absurd rfl ht
    | cons y m =>
      have hby : ∀ c ∈ y, c < 256 := fun c hc => hb c (by rw [flat_cons, List.append_assoc, e, flat_cons]; simp [frm, hc])
      have h2 := tke_frm (hml y (by simp)) hby (flat m ++ r)
      rw [flat_cons, List.append_assoc] at e
      rw [← e, h1] at h2
      simp only [Prod.mk.injEq, true_and] at h2
      obtain ⟨rfl, h2⟩ := h2
      obtain ⟨m', n', e3, h3⟩ := ih (fun z hz => ha z (by simp [hz])) (fun c hc => hb c (by rw [flat_cons, List.append_assoc]; exact List.mem_append_right _ hc)) ⟨r, h2, rfl, fun z hz => hml z (by simp [hz]), ht⟩
      exact ⟨m', n', by rw [e3]; rfl, h3⟩
theorem encs_small {l : List Rc} (h : ∀ r ∈ l, r.may) : ∀ x ∈ l.map Rc.enc, x.length ≤ 4096 := by
  intro x hx
  obtain ⟨r, hr, rfl⟩ := List.mem_map.1 hx
  have := enc_len (h r hr)
  omega
theorem laidAll_byte {l : List Rc} (h : ∀ r ∈ l, r.byte) : ∀ c ∈ laidAll l, c < 256 := by
  intro c hc
  obtain ⟨x, hx, hc⟩ := List.mem_flatMap.1 hc
  obtain ⟨r, hr, rfl⟩ := List.mem_map.1 hx
  exact frm_byte (enc_byte (h r hr)) c hc
theorem laidAll_snoc (l : List Rc) (r : Rc) : laidAll (l ++ [r]) = laidAll l ++ frm r.enc := by
  simp [laidAll, flat]
theorem laidAll_append (a b : List Rc) : laidAll (a ++ b) = laidAll a ++ laidAll b := by
  simp [laidAll, flat]
theorem laidAll_len {l : List Rc} (h : ∀ r ∈ l, r.may) : (laidAll l).length ≤ 2108 * l.length := by
  induction l with
  | nil => simp [laidAll, flat]
  | cons r l ih =>
    have h1 := enc_len (h r (by simp))
    have h2 := ih (fun x hx => h x (by simp [hx]))
    rw [laidAll] at h2 ⊢
    rw [List.map_cons, flat_cons, List.length_append, frm_len, List.length_cons]
    omega
/-- whatever stands behind -/
theorem reads_more {m : List Rc} {D : List Nat} {l : List Rc} {n : Nat} (hm : ∀ r ∈ m, r.may) (hb : ∀ c ∈ laidAll m ++ D, c < 256) (h : Reads (laidAll m ++ D) l n) : ∃ l' n', l = m ++ l' ∧ n = (laidAll m).length + n' ∧ Reads D l' n' := by
  obtain ⟨xs, k, hs, hr⟩ := h
  obtain ⟨ys, z, rfl, hs'⟩ := scanned_app (encs_small hm) hb hs
  rw [rdAll_enc hm ys] at hr
  simp only [Prod.mk.injEq] at hr
  exact ⟨(rdAll ys).1, (rdAll ys).2, hr.1.symm, hr.2.symm, ys, z, hs', rfl⟩
theorem reads_nil : Reads [] [] 0 := ⟨[], 0, ⟨[], rfl, rfl, by simp, by decide⟩, rfl⟩
/-- records that may be are read as they were laid down -/
theorem reads_laid {m : List Rc} (hm : ∀ r ∈ m, r.may) : Reads (laidAll m) m (laidAll m).length := by
  refine ⟨m.map Rc.enc, _, ⟨[], by simp [laidAll], rfl, encs_small hm, by decide⟩, ?_⟩
  have := rdAll_enc hm []
  simpa [rdAll] using this
/-- of a beginning those that are whole in it -/
theorem reads_torn {m : List Rc} (hm : ∀ r ∈ m, r.may) (j : Nat) :
    ∃ w, w ≤ m.length ∧ (laidAll (m.take w)).length ≤ j ∧ Reads ((laidAll m).take j) (m.take w) (laidAll (m.take w)).length ∧ ∀ (h : w < m.length), j < (laidAll (m.take w)).length + (frm m[w].enc).length := by
  have key : ∀ (n : Nat), n ≤ m.length → (laidAll (m.take n)).length ≤ j → ∃ w, w ≤ m.length ∧ (laidAll (m.take w)).length ≤ j ∧ ∀ (h : w < m.length), j < (laidAll (m.take (w + 1))).length := by
    intro n hn
    induction hd : m.length - n generalizing n with
    | zero =>
      intro h
      exact ⟨n, hn, h, fun hlt => absurd hlt (by omega)⟩
    | succ d ih =>
      intro h
      by_cases h1 : (laidAll (m.take (n + 1))).length ≤ j
      · exact ih (n + 1) (by omega) (by omega) h1
      · exact ⟨n, hn, h, fun _ => by omega⟩
  obtain ⟨w, h1, h2, h3⟩ := key 0 (Nat.zero_le _) (by simp [laidAll, flat])
  have h4 : ∀ (h : w < m.length), j < (laidAll (m.take w)).length + (frm m[w].enc).length := fun h => by
    have := h3 h
    rw [List.take_succ_eq_append_getElem h, laidAll_snoc, List.length_append] at this
    exact this
  refine ⟨w, h1, h2, ?_, h4⟩
  have ht : (m.map Rc.enc).take w = (m.take w).map Rc.enc := by rw [List.map_take]
  have hs := scanned_torn (encs_small hm) w j (by simpa using h1) (by rw [ht]; exact h2) (fun h => by
    have := h4 (by simpa using h)
    rw [frm_len] at this
    rw [ht, List.getElem_map]
    simpa [laidAll, Nat.add_assoc] using this)
  rw [ht] at hs
  refine ⟨_, _, hs, ?_⟩
  have := rdAll_enc (l := m.take w) (fun r hr => hm r (List.mem_of_mem_take hr)) []
  simpa [rdAll] using this
end Go.Proofs.Ytmjgpgnecohbcaa
